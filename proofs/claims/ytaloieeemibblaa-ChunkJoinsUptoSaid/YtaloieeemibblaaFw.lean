/- Proved: any chunks are put together as the document says, or refused; what is put together is taken apart as it was, whatever stands behind it. Condition: the form's own (bulk at most 1048576). -/
import Derived.Test.YtaloieeemibblaaFv
set_option linter.unusedVariables false
set_option linter.unusedSimpArgs false
namespace Go.Proofs.Ytaloieeemibblaa
open Go.ChangeShapes Go.WideShapes Go.ChangeAt Go.RowKit
namespace ChunkJoins
theorem ret_tt {a : Bool} (h : a = true) : Ending.returned (.bool a) = .returned (.bool true) := by rw [h]

set_option maxHeartbeats 2000000 in
set_option maxRecDepth 100000 in
theorem walk (A : Option Addr) (c : Nat) (l : List Ck) (A1 : Option Addr) (c1 : Nat) (l1 : List UInt8) (w : World) (hck : Cks w w.heap.size A l) (hbk : bulkC l ≤ 1048576) (hbs : Bs w w.heap.size A1 l1) (_ : l1.length ≤ c1) (hl1 : l1.length ≤ 1048576) :
    Calls Try.prog 4 #[.slice A l.length c, .slice A1 l1.length c1] w fun e w' => e = .returned (.bool true) ∧ Below w.heap.size w w' := by
  have hlen := bulkC_len l
  have hjb := joinF_bulk l
  have hts : ∀ k ∈ l, k.t.size ≤ 140737488355328 := fun k hk => by have := bulkC_mem hk; omega
  have hds : ∀ k ∈ l, k.d.length < 4294967296 := fun k hk => by have := bulkC_mem hk; omega
  have hd31 : Hid (∀ k ∈ l, k.d.length ≤ 2147483647) := Lib.hid (fun k hk => by have := bulkC_mem hk; omega)
  have hdm : Hid (∀ k ∈ l, k.d.length ≤ maxLen) := Lib.hid (fun k hk => by have := bulkC_mem hk; unfold maxLen; omega)
  have hjc := joinM_cases l
  obtain ⟨n, hn⟩ : ∃ n, l.length = n := ⟨_, rfl⟩
  obtain ⟨m, hm⟩ : ∃ m, l1.length = m := ⟨_, rfl⟩
  rw [hn] at hlen hjb ⊢
  rw [hm] at hl1 ⊢
  have htot : (joinF l n).length ≤ 140737488355328 := by omega
  have HN := Lib.hid hn
  have HM := Lib.hid hm
  have HCK := Lib.hid hck
  have HBS := Lib.hid hbs
  go_enter Try.func4, Try.ntmps4
  go_upto_region 3 with (go_at_call 10; refine (wakes_any w).mono ?_; rintro e w1 ⟨rfl, hb1⟩)
  have hs1 := hb1.size
  have HB1 := Lib.hid hb1
  have HC := Lib.hid (lawChunks_any A n c l hn (by omega) (fun k hk => by have := bulkC_mem hk; omega) w.heap.size w1 (hck.below hb1) hs1)
  have HJ := Lib.hid (fun (A2 : Option Addr) (c2 : Nat) (w2 : World) (h : Cks w2 w2.heap.size A2 l) => join_any A2 n c2 l hn (by omega) hts hds htot w2.heap.size w2 h (Nat.le_refl _))
  have HR := Lib.hid (fun (w3 : World) (hb : Below w.heap.size w w3) => refJoin_any A n c l hn (by omega) hts hds htot w.heap.size w3 (HCK.out.below hb) hb.size)
  have HJB := Lib.hid hjb
  have HBK := Lib.hid (And.intro hbk hlen)
  clear hb1 hck hbs hts hds htot hjb hbk hlen hn hm
  rcases hjc with hje | ⟨hjo, hje⟩
  · rw [hje] at HJ HR
    clear hje
    go_upto_region 4 with (first
      | (go_at_call 16; refine HC.out.mono ?_; rintro e w2 ⟨A2, c2, rfl, r2, hb2⟩; have HR2 := Lib.hid r2.cks; have HB2 := Lib.hid (HB1.out.trans (hb2.mono hs1)); clear r2 hb2 HC)
      | (go_at_call 15; refine (HJ.out A2 c2 w2 HR2.out).mono ?_; rintro e w3 ⟨hb3, rfl⟩))
    have HB3 := Lib.hid (HB2.out.trans (hb3.mono HB2.out.size))
    clear hb3 HR2 HB2 HJ HB1
    go_upto_region 5 with (go_at_call 17; refine (HR.out w3 HB3.out).mono ?_; rintro e w4 ⟨hb4, rfl⟩)
    have HB4 := Lib.hid (HB3.out.trans (hb4.mono HB3.out.size))
    clear hb4 HB3 HR
    have HS := Lib.hid (same_n none none 0 0 0 0 [] [] rfl rfl 0 w4 (fun h => absurd h (by simp)) (fun h => absurd h (by simp)) (Nat.zero_le _))
    go_wp2_with (go_at_call 18; refine HS.out.mono ?_; rintro e w5 ⟨rfl, q, rfl⟩)
    go_ret
    exact ⟨rfl, HB4.out.trans ((Upd.drewN (Upd.refl (fun _ => False) w4) q).below HB4.out.size (fun _ _ h => h))⟩
  · rw [hje, HN.out] at HJ HR
    have HSP := Lib.hid (join_splits hjo hd31.out l1)
    rw [HN.out] at HSP
    have hn1 : 0 < n := by
      unfold jokB at hjo
      rw [HN.out] at hjo
      simp only [Bool.and_eq_true, decide_eq_true_eq] at hjo
      exact hjo.2
    clear hje hjo
    generalize joinF l n = b at *
    obtain ⟨bl, hbl⟩ : ∃ bl, b.length = bl := ⟨_, rfl⟩
    have HBL := Lib.hid hbl
    have hblb : bl ≤ 3145736 := by have := HJB.out; have := HBK.out.1; omega
    go_upto_region 4 with (first
      | (go_at_call 16; refine HC.out.mono ?_; rintro e w2 ⟨A2, c2, rfl, r2, hb2⟩; have HR2 := Lib.hid r2.cks; have HB2 := Lib.hid (HB1.out.trans (hb2.mono hs1)); clear r2 hb2 HC)
      | (go_at_call 15; refine (HJ.out A2 c2 w2 HR2.out).mono ?_; rintro e w3 ⟨hb3, A3, c3, rfl, o3⟩))
    rw [hbl] at o3
    try rw [hbl]
    have HB3 := Lib.hid (HB2.out.trans (hb3.mono HB2.out.size))
    have HO3 := Lib.hid (bs_own o3).1
    clear hb3 HR2 HB2 HJ HB1 o3
    go_upto_region 5 with (go_at_call 17; refine (HR.out w3 HB3.out).mono ?_; rintro e w4 ⟨hb4, A4, c4, rfl, o4⟩)
    rw [hbl] at o4
    try rw [hbl]
    have HB4 := Lib.hid (HB3.out.trans (hb4.mono HB3.out.size))
    have HO4 := Lib.hid (HO3.out.below hb4)
    have hs34 := hb4.size
    have HS := Lib.hid (same_n A3 A4 bl bl c3 c4 b b hbl hbl w4.heap.size w4 (HO4.out.more hs34) (bs_own o4).1 (by unfold maxLen; omega))
    clear hb4 HB3 HR o4 hbl
    rw [beq_self_eq_true] at HS
    go_upto_region 9 with (go_at_call 18; refine HS.out.mono ?_; rintro e w5 ⟨rfl, q, rfl⟩)
    have HB5 : Hid (Below w.heap.size w (w4.drewN q)) := Lib.hid (HB4.out.trans ((Upd.drewN (Upd.refl (fun _ => False) w4) q).below HB4.out.size (fun _ _ h => h)))
    have HO5 : Hid (Bs (w4.drewN q) w3.heap.size A3 b) := Lib.hid HO4.out
    have hs35 : w3.heap.size ≤ (w4.drewN q).heap.size := hs34
    clear HS HB4 HO4 HO3
    generalize w4.drewN q = w5 at *
    have HC5 := Lib.hid (own_any A3 c3 bl b HBL.out w3.heap.size w5 HO5.out hs35 (by omega))
    have hs5 := HB5.out.size
    have HM5 := Lib.hid (HBS.out.below HB5.out)
    have hbm : (b ++ l1).length = bl + m := by rw [List.length_append, HBL.out, HM.out]
    have HSPL := Lib.hid (fun (A6 : Option Addr) (c6 : Nat) (w6 : World) (ho : w6.ownsRow w5.heap.size 5 1 (.slice A6 (bl + m) c6) (bl + m) (bytesV (b ++ l1))) => split_any A6 (bl + m) c6 (b ++ l1) hbm (own_room ho).1 (own_room ho).2 (by omega) w6.heap.size w6 (bs_own ho).1 (Nat.le_refl _))
    clear hbm
    go_upto_region 10 with (first
      | (go_at_call 12; refine HC5.out.mono ?_; rintro e w6 ⟨A6, c6, rfl, o6, hb6⟩; obtain ⟨A7, c7, w7, hrun, o7, g7, _⟩ := append8 w5.heap.size w6 (.slice A6 bl c6) bl b o6 hb6.size w.heap.size A1 m c1 l1 HM.out (HM5.out.below (hb6.mono hs5)) (by omega) 22; have HRN := Lib.hid hrun; have HO7 := Lib.hid o7; have HB7 : Hid (Below w5.heap.size w5 w7) := Lib.hid (hb6.trans ((Upd.of_grown g7).below hb6.size (fun j hj e => by have := (o6.lt j e.symm).1; omega))); clear hrun o7 g7 o6 hb6 HC5)
      | (at_builtin; refine wpList_append_run rfl (.tmp 37) (.tmp 38) _ rfl rfl rfl HRN.out ?_)
      | (go_at_call 11; refine (HSPL.out A7 c7 w7 HO7.out).mono ?_; rintro e w8 hsp; obtain ⟨A8, c8, rfl, r8, hb8⟩ := hsp.yes HSP.out.1; clear hsp))
    have hs57 := HB7.out.size
    have HB8 := Lib.hid ((HB5.out.trans (HB7.out.mono hs5)).trans (hb8.mono (by omega)))
    have HR8 := Lib.hid (row_cks r8)
    rw [show n - 1 + 1 = n by omega] at HR8
    try rw [show n - 1 + 1 = n by omega]
    rw [HSP.out.2] at HR8
    have HS8 := Lib.hid (sameChunks_any A8 A n n c8 c l l HN.out HN.out (by have := HBK.out; omega) (by have := HBK.out; omega) hdm.out w8.heap.size w8 HR8.out ((HCK.out.below HB8.out).more HB8.out.size))
    rw [sameC_self] at HS8
    clear hb8 r8 HSPL HO7 HRN
    go_wp2_with (go_at_call 14; refine HS8.out.mono ?_; rintro e w9 ⟨rfl, q, rfl⟩)
    go_ret
    exact ⟨rfl, HB8.out.trans ((Upd.drewN (Upd.refl (fun _ => False) w8) q).below HB8.out.size (fun _ _ h => h))⟩
set_option maxRecDepth 100000 in
theorem contract (H : Type) (enc : TypeId × Value → H) (W : World) (base : Nat) (args : Array Value) (ds gs : List (DataW H)) (before : List MemPlace)
    (hval : ∀ (j : Nat) t v, Try.f4.params[j]? = some t → args[j]? = some v → Value.okWide Try.prog W .any base t v)
    (hW : DataW.Whole enc Try.prog Try.f4.params.toList Rows.chunkJoinsSpec.vars false W args.toList ds gs before) (hk : Rows.uptoSmall H (ds ++ gs) = true) :
    Calls Try.prog 4 args W fun e W' => ∃ v, e = .returned v ∧ Rows.chunkJoinsSpec.post enc Try.prog Try.f4 false true false false W args v W' := by
  have hW' := hW
  obtain ⟨p, q, hA0, hV, rfl, hfz, hnd⟩ := hW
  have hA : DataW.TrodAll enc Try.prog W 0 (fun _ => true) true Try.f4.params.toList args.toList ds p := hA0
  rw [Try.params4] at hA hval
  obtain ⟨v0, vs0, d0, ds0, p0, q0, hargs, rfl, rfl, h0, r0⟩ := trodAll_cons hA
  obtain ⟨v1, vs1, d1, ds1, p1, q1, rfl, rfl, rfl, h1, r1⟩ := trodAll_cons r0
  obtain ⟨rfl, rfl, rfl⟩ := trodAll_nil r1
  obtain rfl : args = #[v0, v1] := by cases args; simp_all
  obtain ⟨rfl, rfl⟩ := trodVars_none hV
  obtain ⟨A0, l0, c0, rfl, hb0, hd0⟩ := open_chunks (hval 0 24 v0 rfl rfl) h0
  obtain ⟨A1, l1, c1, rfl, hb1, hcp1, hd1⟩ := open_bytes (hval 1 22 v1 rfl rfl) h1
  have hl0 : bulkC l0 ≤ 1048576 := by
    rcases hd0 with ⟨_, rfl⟩ | ⟨e, s, rfl, hle⟩
    · exact Nat.zero_le _
    · have h1 := bulk_le hk
      simp only [List.cons_append, List.nil_append] at h1
      have h2 := Nat.le_trans (bulk_elems e s _) h1
      omega
  have hl1 : l1.length ≤ 1048576 := by
    rcases hd1 with ⟨_, rfl⟩ | ⟨e, s, rfl, hle⟩
    · simp
    · have h1 := bulk_le hk
      simp only [List.cons_append, List.nil_append] at h1
      replace h1 := Nat.le_trans (bulk_tail _ _) h1
      have h2 := Nat.le_trans (bulk_slice e s _) h1
      omega
  have lt0 : ∀ x ∈ p0, x.block < W.heap.size := by obtain ⟨m, hm⟩ := h0; exact DataW.trod_lt m _ _ _ hm
  have lt1 : ∀ x ∈ p1, x.block < W.heap.size := by obtain ⟨m, hm⟩ := h1; exact DataW.trod_lt m _ _ _ hm
  clear hA0
  refine (walk A0 c0 l0 A1 c1 l1 W hb0 hl0 hb1 hcp1 hl1).mono fun e W' ⟨he, bel⟩ => ?_
  subst he
  exact ⟨_, rfl, _, _, _, [], _, [], hW', trodAll_mk1 (shut_bool Try.underlying4 _), (trodAll_cons_mk (Below.trod prog_laid (by kernel_rfl) (of_decide_eq_true (by kernel_rfl)) h0 bel lt0) (trodAll_cons_mk (Below.trod prog_laid (by kernel_rfl) (of_decide_eq_true (by kernel_rfl)) h1 bel lt1) trodAll_mk0)), rfl, bel.frame _, fun h => by cases h⟩

set_option maxRecDepth 100000 in
theorem lifted (os : Os) (started : os.Started) (H : Type) (enc : TypeId × Value → H) (F : Stop.Interp) :
    ReturnsInHanded {} Try.checked os 4 .any ((Rows.OpenSpec.upto Rows.chunkJoinsSpec).pre6 enc Try.prog Try.f4 Rows.chunkJoinsUptoRow.domain false) (((Rows.OpenSpec.upto Rows.chunkJoinsSpec).at F).post enc Try.prog Try.f4 false true false false) := by
  refine returnsInHanded_of_cond (C := Try.checked) (s := Rows.OpenSpec.upto Rows.chunkJoinsSpec) (k := Rows.uptoSmall) rfl prog_own started (by kernel_rfl) Try.func4
    (OpenSpec.witness (enc := enc) (C := Try.checked) (s := Rows.OpenSpec.upto Rows.chunkJoinsSpec) (k := Rows.uptoSmall) rfl false ⟨#[], #[.slice none 0 0, .slice none 0 0], []⟩ 8 (by kernel_rfl) (by kernel_rfl) (by kernel_rfl)
      (x := ([.nil, .nil], [], [])) (by kernel_rfl) rfl (by kernel_rfl)) ?_
  intro W base args ds gs before hval hW _ hk _
  exact contract H enc W base args ds gs before hval hW hk

theorem over : Rows.chunkJoinsUptoRow.holds Try.pinned (Rows.OpenSpec.upto Rows.chunkJoinsSpec) :=
  OpenClaim.holds_of_cond 4 Try.f4 rfl rfl rfl rfl rfl rfl rfl ⟨rfl, rfl, rfl, rfl, rfl⟩ rfl rfl rfl rfl rfl (by kernel_rfl) Try.func4 (by kernel_rfl)
    (of_decide_eq_true (by kernel_rfl)) (by unfold Func.isWrapper; first | (rw [if_pos (by decide +kernel)]; kernel_rfl) | (rw [if_neg (by decide +kernel)]; exact ⟨rfl, rfl⟩))
    (fun os started H enc _ F => lifted os started H enc F)
end ChunkJoins

theorem chunkJoins_holds : Rows.ChunkJoinsUptoSaid := ChunkJoins.over
#print axioms chunkJoins_holds
end Go.Proofs.Ytaloieeemibblaa
