/- Proved: a byte that is turned within what is put together is told: another byte makes other chunks of it, or none. Condition: the form's own (bulk at most 1048576). -/
import Derived.Test.YtaloieeemibblaaFv
set_option linter.unusedVariables false
set_option linter.unusedSimpArgs false
namespace Go.Proofs.Ytaloieeemibblaa
open Go.ChangeShapes Go.WideShapes Go.ChangeAt Go.RowKit
namespace ChunkTold
theorem ret_tt {a : Bool} (h : a = true) : Ending.returned (.bool a) = .returned (.bool true) := by rw [h]

set_option maxHeartbeats 2000000 in
set_option maxRecDepth 100000 in
theorem walk (A : Option Addr) (c : Nat) (l : List Ck) (at_ by_ : Int) (w : World) (hck : Cks w w.heap.size A l) (hbk : bulkC l ≤ 1048576) (hat : -9223372036854775808 ≤ at_ ∧ at_ ≤ 9223372036854775807) (hby : 0 ≤ by_ ∧ by_ ≤ 255) :
    Calls Try.prog 5 #[.slice A l.length c, .int .i64 at_, .int .u8 by_] w fun e w' => e = .returned (.bool true) ∧ Below w.heap.size w w' := by
  have hlen := bulkC_len l
  have hjb := joinF_bulk l
  have hts : ∀ k ∈ l, k.t.size ≤ 140737488355328 := fun k hk => by have := bulkC_mem hk; omega
  have hds : ∀ k ∈ l, k.d.length < 4294967296 := fun k hk => by have := bulkC_mem hk; omega
  have hdm : Hid (∀ k ∈ l, k.d.length ≤ maxLen) := Lib.hid (fun k hk => by have := bulkC_mem hk; unfold maxLen; omega)
  have hjc := joinM_cases l
  obtain ⟨n, hn⟩ : ∃ n, l.length = n := ⟨_, rfl⟩
  rw [hn] at hlen hjb ⊢
  have htot : (joinF l n).length ≤ 140737488355328 := by omega
  have HN := Lib.hid hn
  have HCK := Lib.hid hck
  go_enter Try.func5, Try.ntmps5
  go_upto_region 3 with (go_at_call 10; refine (wakes_any w).mono ?_; rintro e w1 ⟨rfl, hb1⟩)
  have hs1 := hb1.size
  have HB1 := Lib.hid hb1
  have HC := Lib.hid (lawChunks_any A n c l hn (by omega) (fun k hk => by have := bulkC_mem hk; omega) w.heap.size w1 (hck.below hb1) hs1)
  have HJ := Lib.hid (fun (A2 : Option Addr) (c2 : Nat) (w2 : World) (h : Cks w2 w2.heap.size A2 l) => join_any A2 n c2 l hn (by omega) hts hds htot w2.heap.size w2 h (Nat.le_refl _))
  have HJB := Lib.hid hjb
  have HBK := Lib.hid (And.intro hbk hlen)
  clear hb1 hck hts hds htot hjb hbk hlen hn
  rcases hjc with hje | ⟨hjo, hje⟩
  · rw [hje] at HJ
    clear hje
    go_upto_region 4 with (first
      | (go_at_call 16; refine HC.out.mono ?_; rintro e w2 ⟨A2, c2, rfl, r2, hb2⟩; have HR2 := Lib.hid r2.cks; have HB2 := Lib.hid (HB1.out.trans (hb2.mono hs1)); clear r2 hb2 HC)
      | (go_at_call 15; refine (HJ.out A2 c2 w2 HR2.out).mono ?_; rintro e w3 ⟨hb3, rfl⟩))
    have HB3 := Lib.hid (HB2.out.trans (hb3.mono HB2.out.size))
    clear hb3 HR2 HB2 HJ HB1
    go_wp2_with fail
    go_ret
    exact ⟨rfl, HB3.out⟩
  · rw [hje, HN.out] at HJ
    have hn1 : 0 < n := by
      have h := hjo
      unfold jokB at h
      rw [HN.out] at h
      simp only [Bool.and_eq_true, decide_eq_true_eq] at h
      exact h.2
    have HJF : Hid (∀ c2 k, splitYes c2 k → cksOf (c2.drop 8) (k + 1) = l → c2.length = (joinF l n).length → c2 = joinF l n) := Lib.hid (fun c2 k h1 h2 h3 => by
      have := told h1 h2 (by rw [HN.out]; exact h3)
      rw [HN.out] at this
      exact this)
    have h8 : 8 ≤ (joinF l n).length := joinF_mono l 0 n (Nat.zero_le _)
    clear hje hjo
    generalize joinF l n = b at *
    obtain ⟨bl, hbl⟩ : ∃ bl, b.length = bl := ⟨_, rfl⟩
    have HBL := Lib.hid hbl
    have hblb : bl ≤ 3145736 := by have := HJB.out; have := HBK.out.1; omega
    rw [hbl] at h8
    go_upto_region 4 with (first
      | (go_at_call 16; refine HC.out.mono ?_; rintro e w2 ⟨A2, c2, rfl, r2, hb2⟩; have HR2 := Lib.hid r2.cks; have HB2 := Lib.hid (HB1.out.trans (hb2.mono hs1)); clear r2 hb2 HC)
      | (go_at_call 15; refine (HJ.out A2 c2 w2 HR2.out).mono ?_; rintro e w3 ⟨hb3, A3, c3, rfl, o3⟩))
    rw [hbl] at o3
    try rw [hbl]
    have HB3 := Lib.hid (HB2.out.trans (hb3.mono HB2.out.size))
    have HO3 := Lib.hid (bs_own o3).1
    clear hb3 HR2 HB2 HJ HB1 o3 hbl
    by_cases hb0 : by_ = 0
    · subst hb0
      go_wp2_with fail
      go_ret
      exact ⟨rfl, HB3.out⟩
    · have hs3 := HB3.out.size
      have HC5 := Lib.hid (own_any A3 c3 bl b HBL.out w3.heap.size w3 HO3.out (Nat.le_refl _) (by omega))
      go_upto_region 7 with (fail)
      obtain ⟨kk, hkk, hke⟩ : ∃ kk : Nat, kk < bl ∧ wrap64 ((IntKind.u64.wrap at_).tmod (bl : Int)) = (kk : Int) := by
        have h0 : 0 ≤ IntKind.u64.wrap at_ := by rw [IntKind.wrap_u64]; omega
        have h1 : (IntKind.u64.wrap at_).tmod (bl : Int) = IntKind.u64.wrap at_ % (bl : Int) := Int.tmod_eq_emod_of_nonneg h0
        have h2 := Int.emod_nonneg (IntKind.u64.wrap at_) (show (bl : Int) ≠ 0 by omega)
        have h3 := Int.emod_lt_of_pos (IntKind.u64.wrap at_) (show (0 : Int) < (bl : Int) by omega)
        refine ⟨(IntKind.u64.wrap at_ % (bl : Int)).toNat, by omega, ?_⟩
        rw [h1, IntWalk.wrap64_in _ (by omega)]
        omega
      rw [hke]
      clear hke
      go_upto_region 8 with (go_at_call 12; refine HC5.out.mono ?_; rintro e w5 ⟨A5, c5, rfl, o5, hb5⟩)
      have hs5 := hb5.size
      have HB5 := Lib.hid (HB3.out.trans (hb5.mono hs3))
      obtain ⟨g, cap, hv, _, hgl⟩ := o5.form (by omega)
      obtain ⟨rfl, rfl⟩ : A5 = some ⟨g, 0, none⟩ ∧ c5 = cap := by injection hv with h1 _ h2; exact ⟨h1, h2⟩
      clear hv
      have hkb : kk < b.length := by have := HBL.out; omega
      have hcell := o5.cellAt kk (by omega)
      rw [bytesV_get b kk hkb] at hcell
      have hfz := o5.frozenAt kk
      obtain ⟨y, rfl⟩ : ∃ y : Nat, by_ = (y : Int) := ⟨by_.toNat, by omega⟩
      have hy0 : y ≠ 0 := by omega
      have hy256 : y < 256 := by omega
      have hxl : b[kk].toNat < 256 := b[kk].toNat_lt
      have hxy : (b[kk].toNat ^^^ y) < 256 := Nat.xor_lt_two_pow (n := 8) hxl hy256
      have HX := Lib.hid (xor_u8 b[kk].toNat y hxl hy256)
      obtain ⟨z, hz⟩ : ∃ z : UInt8, z.toNat = b[kk].toNat ^^^ y := ⟨UInt8.ofNat (b[kk].toNat ^^^ y), by rw [UInt8.toNat_ofNat']; exact Nat.mod_eq_of_lt hxy⟩
      have HNE : Hid (b.set kk z ≠ b) := Lib.hid (fun h => by
        have h1 : (b.set kk z)[kk]'(by rw [List.length_set]; exact hkb) = z := List.getElem_set_self _
        have h2 : z = b[kk] := by rw [← h1]; congr 1
        rw [h2] at hz
        have h3 : b[kk].toNat ^^^ (b[kk].toNat ^^^ y) = y := by rw [← Nat.xor_assoc, Nat.xor_self, Nat.zero_xor]
        rw [← hz, Nat.xor_self] at h3
        exact hy0 h3.symm)
      rw [← hz] at HX
      have HO6 : Hid ((w5.setCell ⟨g, kk, none⟩ (.int .u8 (z.toNat : Int))).ownsRow w3.heap.size 5 1 (.slice (some ⟨g, 0, none⟩) bl c5) bl (bytesV (b.set kk z))) := Lib.hid (own_set o5 kk z)
      have hgw : w3.heap.size ≤ g := (row_lt o5 g rfl).1
      have us := (Upd.refl (· = g) w5).setCell (p := ⟨g, kk, none⟩) (fun _ => rfl) (.int .u8 (z.toNat : Int))
      have HB6 := Lib.hid (HB5.out.trans (us.below (B := w.heap.size) (by omega) (fun j hj e => by omega)))
      have HL6 : Hid ((b.set kk z).length = bl) := Lib.hid (by rw [List.length_set]; exact HBL.out)
      clear hb5 HC5 o5 hz hxy hxl us hs5
      generalize b[kk].toNat = x at *
      go_upto_region 9 with (fail)
      rw [HX.out]
      generalize w5.setCell ⟨g, kk, none⟩ (.int .u8 (z.toNat : Int)) = w6 at *
      have HJ6 : Hid (∀ k, splitYes (b.set kk z) k → sameC (cksOf ((b.set kk z).drop 8) (k + 1)) l = false) := Lib.hid (fun k h => by
        cases hs : sameC (cksOf ((b.set kk z).drop 8) (k + 1)) l with
        | false => rfl
        | true => exact absurd (HJF.out _ k h (sameC_eq hs) (by rw [List.length_set])) HNE.out)
      generalize b.set kk z = b2 at *
      have HSPL := Lib.hid (split_any (some ⟨g, 0, none⟩) bl c5 b2 HL6.out (own_room HO6.out).1 (own_room HO6.out).2 (by omega) w6.heap.size w6 (bs_own HO6.out).1 (Nat.le_refl _))
      have hs6 := HB6.out.size
      clear HO6 HO3 hcell hfz HX HNE HB5
      by_cases hy2 : ∃ k, splitYes b2 k
      · obtain ⟨k, hy2⟩ := hy2
        have HK : Hid (k + 1 ≤ 17592186043904) := Lib.hid (by have := yes_short hy2; have := HL6.out; omega)
        have HJ7 := Lib.hid (HJ6.out k hy2)
        have HY := Lib.hid hy2
        clear hy2 HJ6
        go_upto_region 10 with (go_at_call 11; refine HSPL.out.mono ?_; rintro e w7 hsp; obtain ⟨A8, c8, rfl, r8, hb8⟩ := hsp.yes HY.out; clear hsp)
        have HB8 := Lib.hid (HB6.out.trans (hb8.mono hs6))
        have HS8 := Lib.hid (sameChunks_any A8 A (k + 1) n c8 c _ l (cksOf_len _ _) HN.out HK.out (by have := HBK.out; omega) (dat_le (b2.drop 8) (k + 1)) w7.heap.size w7 (row_cks r8) ((HCK.out.below HB8.out).more HB8.out.size))
        rw [HJ7.out] at HS8
        clear hb8 r8 HSPL
        go_wp2_with (go_at_call 14; refine HS8.out.mono ?_; rintro e w9 ⟨rfl, q, rfl⟩)
        go_ret
        exact ⟨rfl, HB8.out.trans ((Upd.drewN (Upd.refl (fun _ => False) w7) q).below HB8.out.size (fun _ _ h => h))⟩
      · have HY := Lib.hid hy2
        clear hy2 HJ6
        go_upto_region 10 with (go_at_call 11; refine HSPL.out.mono ?_; rintro e w7 hsp; obtain ⟨rfl, hb8⟩ := hsp.no HY.out; clear hsp)
        have HB8 := Lib.hid (HB6.out.trans (hb8.mono hs6))
        clear hb8 HSPL
        go_wp2_with fail
        go_ret
        exact ⟨rfl, HB8.out⟩
set_option maxRecDepth 100000 in
theorem contract (H : Type) (enc : TypeId × Value → H) (W : World) (base : Nat) (args : Array Value) (ds gs : List (DataW H)) (before : List MemPlace)
    (hval : ∀ (j : Nat) t v, Try.f5.params[j]? = some t → args[j]? = some v → Value.okWide Try.prog W .any base t v)
    (hW : DataW.Whole enc Try.prog Try.f5.params.toList Rows.chunkToldSpec.vars false W args.toList ds gs before) (hk : Rows.uptoSmall H (ds ++ gs) = true) :
    Calls Try.prog 5 args W fun e W' => ∃ v, e = .returned v ∧ Rows.chunkToldSpec.post enc Try.prog Try.f5 false true false false W args v W' := by
  have hW' := hW
  obtain ⟨p, q, hA0, hV, rfl, hfz, hnd⟩ := hW
  have hA : DataW.TrodAll enc Try.prog W 0 (fun _ => true) true Try.f5.params.toList args.toList ds p := hA0
  rw [Try.params5] at hA hval
  obtain ⟨v0, vs0, d0, ds0, p0, q0, hargs, rfl, rfl, h0, r0⟩ := trodAll_cons hA
  obtain ⟨v1, vs1, d1, ds1, p1, q1, rfl, rfl, rfl, h1, r1⟩ := trodAll_cons r0
  obtain ⟨v2, vs2, d2, ds2, p2, q2, rfl, rfl, rfl, h2, r2⟩ := trodAll_cons r1
  obtain ⟨rfl, rfl, rfl⟩ := trodAll_nil r2
  obtain rfl : args = #[v0, v1, v2] := by cases args; simp_all
  obtain ⟨rfl, rfl⟩ := trodVars_none hV
  obtain ⟨A0, l0, c0, rfl, hb0, hd0⟩ := open_chunks (hval 0 24 v0 rfl rfl) h0
  obtain ⟨a1, rfl, rfl, rfl, w1⟩ := open_int Try.underlying3 (hval 1 3 v1 rfl rfl) h1
  obtain ⟨a2, rfl, rfl, rfl, w2⟩ := open_int Try.underlying5 (hval 2 5 v2 rfl rfl) h2
  have hl0 : bulkC l0 ≤ 1048576 := by
    rcases hd0 with ⟨_, rfl⟩ | ⟨e, s, rfl, hle⟩
    · exact Nat.zero_le _
    · have h1 := bulk_le hk
      simp only [List.cons_append, List.nil_append] at h1
      have h2 := Nat.le_trans (bulk_elems e s _) h1
      omega
  have lt0 : ∀ x ∈ p0, x.block < W.heap.size := by obtain ⟨m, hm⟩ := h0; exact DataW.trod_lt m _ _ _ hm
  clear hA0
  refine (walk A0 c0 l0 a1 a2 W hb0 hl0 (bounds_i64 w1) (bounds_u8 w2)).mono fun e W' ⟨he, bel⟩ => ?_
  subst he
  exact ⟨_, rfl, _, _, _, [], _, [], hW', trodAll_mk1 (shut_bool Try.underlying4 _), (trodAll_cons_mk (Below.trod prog_laid (by kernel_rfl) (of_decide_eq_true (by kernel_rfl)) h0 bel lt0) (trodAll_cons_mk (shut_int Try.underlying3 w1) (trodAll_cons_mk (shut_int Try.underlying5 w2) trodAll_mk0))), rfl, bel.frame _, fun h => by cases h⟩

set_option maxRecDepth 100000 in
theorem lifted (os : Os) (started : os.Started) (H : Type) (enc : TypeId × Value → H) (F : Stop.Interp) :
    ReturnsInHanded {} Try.checked os 5 .any ((Rows.OpenSpec.upto Rows.chunkToldSpec).pre6 enc Try.prog Try.f5 Rows.chunkToldUptoRow.domain false) (((Rows.OpenSpec.upto Rows.chunkToldSpec).at F).post enc Try.prog Try.f5 false true false false) := by
  refine returnsInHanded_of_cond (C := Try.checked) (s := Rows.OpenSpec.upto Rows.chunkToldSpec) (k := Rows.uptoSmall) rfl prog_own started (by kernel_rfl) Try.func5
    (OpenSpec.witness (enc := enc) (C := Try.checked) (s := Rows.OpenSpec.upto Rows.chunkToldSpec) (k := Rows.uptoSmall) rfl false ⟨#[], #[.slice none 0 0, .int .i64 0, .int .u8 0], []⟩ 8 (by kernel_rfl) (by kernel_rfl) (by kernel_rfl)
      (x := ([.nil, .lit (.int .i64 0), .lit (.int .u8 0)], [], [])) (by kernel_rfl) rfl (by kernel_rfl)) ?_
  intro W base args ds gs before hval hW _ hk _
  exact contract H enc W base args ds gs before hval hW hk

theorem over : Rows.chunkToldUptoRow.holds Try.pinned (Rows.OpenSpec.upto Rows.chunkToldSpec) :=
  OpenClaim.holds_of_cond 5 Try.f5 rfl rfl rfl rfl rfl rfl rfl ⟨rfl, rfl, rfl, rfl, rfl⟩ rfl rfl rfl rfl rfl (by kernel_rfl) Try.func5 (by kernel_rfl)
    (of_decide_eq_true (by kernel_rfl)) (by unfold Func.isWrapper; first | (rw [if_pos (by decide +kernel)]; kernel_rfl) | (rw [if_neg (by decide +kernel)]; exact ⟨rfl, rfl⟩))
    (fun os started H enc _ F => lifted os started H enc F)
end ChunkTold

theorem chunkTold_holds : Rows.ChunkToldUptoSaid := ChunkTold.over
#print axioms chunkTold_holds
end Go.Proofs.Ytaloieeemibblaa
