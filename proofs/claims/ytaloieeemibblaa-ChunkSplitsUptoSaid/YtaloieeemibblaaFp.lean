/- Proved: any bytes are taken apart into chunks as the document says, or refused. Condition: the form's own (at most 1048576 bytes). -/
import Derived.Test.YtaloieeemibblaaFa
import Derived.Test.YtaloieeemibblaaFo
import Derived.Test.YtaloieeemibblaaOp
set_option linter.unusedVariables false
set_option linter.unusedSimpArgs false
namespace Go.Proofs.Ytaloieeemibblaa
open Go.ChangeShapes Go.WideShapes Go.ChangeAt Go.RowKit
theorem ckVs_at : ∀ (L : List It) (j : Nat) (hj : j < L.length), (ckVs L)[j * 2]? = some (.string L[j].t) ∧ (ckVs L)[j * 2 + 1]? = some L[j].v
  | x :: L, 0, _ => ⟨rfl, rfl⟩
  | x :: L, j + 1, h => by
    have h1 := ckVs_at L j (by simpa using h)
    have e : ckVs (x :: L) = .string x.t :: x.v :: ckVs L := rfl
    rw [e, show (j + 1) * 2 = j * 2 + 2 by omega]
    exact h1
/-- A row of chunks, read. -/
theorem row_cks {w w' : World} {lb : List UInt8} {A : Option Addr} {n c : Nat} (h : Row w lb A n c w') : Cks w' w'.heap.size A (cksOf lb n) := by
  obtain ⟨L, h1, h2, h3⟩ := h
  subst h2
  intro hpos
  rw [cksOf_len] at hpos
  have hl := h1.1
  obtain ⟨g, cap, hv, _, hlt⟩ := h1.form hpos
  have hA : A = some ⟨g, 0, none⟩ := by injection hv
  subst hA
  refine ⟨g, 0, rfl, hlt, fun j hj => ?_⟩
  rw [cksOf_len] at hj
  obtain ⟨a1, a2⟩ := ckVs_at L j hj
  obtain ⟨i1, i2, i3⟩ := h3 j hj
  have e : (cksOf lb L.length)[j]'(by rw [cksOf_len]; exact hj) = ckAt lb j := by simp only [cksOf, List.getElem_map, List.getElem_range]
  rw [e]
  have hln : (datC lb j).length = L[j].n := by
    have := i3.1
    rw [bytesV_length] at this
    omega
  simp only [Nat.zero_add]
  have e0 : ∀ i, (⟨g, 0, none⟩ : Addr).add i = ⟨g, i, none⟩ := fun i => by unfold Addr.add; split <;> simp_all
  refine ⟨?_, L[j].A, L[j].c, ?_, (bs_own i3).1⟩
  · have q := h1.cells (g := g) rfl (j * 2) _ a1
    rw [e0] at q
    rw [q]
    show some (Value.string L[j].t) = some (.string (typC lb j))
    rw [i1]
  · have q := h1.cells (g := g) rfl (j * 2 + 1) _ a2
    rw [e0] at q
    rw [q]
    show some L[j].v = some (.slice L[j].A (datC lb j).length L[j].c)
    rw [hln]
theorem dat_le (lb : List UInt8) (n : Nat) : ∀ k ∈ cksOf lb n, k.d.length ≤ maxLen := by
  intro k hk
  obtain ⟨j, _, rfl⟩ := List.mem_map.1 hk
  show (datC lb j).length ≤ maxLen
  unfold datC sumOf maxLen
  rw [List.length_drop, List.length_take]
  have := be4_lt (restC lb j) 0
  omega
theorem yes_short {b : List UInt8} {k : Nat} (h : splitYes b k) : 12 * k ≤ b.length := by
  have := (rest_short (b.drop 8) k (fun j hj => (h.2.1 j hj).1)).1
  rw [List.length_drop] at this
  omega
theorem SplitP.yes {w w' : World} {b : List UInt8} {e : Ending} {k : Nat} (hy : splitYes b k) (h : SplitP w b e w') : ∃ A c, e = .returned (.tuple #[.slice A (k + 1) c, .int .i64 0]) ∧ Row w (b.drop 8) A (k + 1) c w' ∧ Below w.heap.size w w' := by
  obtain ⟨hb, ⟨_, hn⟩ | ⟨k2, A, c, he, hy2, hr⟩⟩ := h
  · exact (yes_no hy hn).elim
  · obtain rfl := yes_one hy hy2
    exact ⟨A, c, he, hr, hb⟩
theorem SplitP.no {w w' : World} {b : List UInt8} {e : Ending} (hy : ¬ ∃ k, splitYes b k) (h : SplitP w b e w') : e = .returned (.tuple #[.slice none 0 0, .int .i64 9]) ∧ Below w.heap.size w w' := by
  obtain ⟨hb, ⟨he, _⟩ | ⟨k2, A, c, he, hy2, hr⟩⟩ := h
  · exact ⟨he, hb⟩
  · exact absurd ⟨k2, hy2⟩ hy
theorem cks_nil (w : World) (B : Nat) : Cks w B none [] := fun h => absurd h (by simp)
section
variable {H : Type} {enc : TypeId × Value → H} {W : World} {base : Nat} {v : Value} {d : DataW H} {p : List MemPlace}
theorem bytes_cap (hj : DataW.Trod enc Try.prog W 0 (fun _ => true) true 22 v d p) {A : Option Addr} {n c : Nat} (e : v = .slice A n c) : c ≤ maxLen := by
  subst e
  obtain ⟨fuel, hf⟩ := hj
  rcases open_ints Try.underlying22 Try.underlying5 cells_u8 hf with ⟨hcs, hx⟩ | ⟨x, l, c, zs, hcs, _, hl, hm, hz, hx, hcell, hwz⟩
  · simp [Value.cells] at hcs
    obtain ⟨rfl, rfl, rfl⟩ := hcs
    exact Nat.zero_le _
  · simp [Value.cells] at hcs
    obtain ⟨rfl, rfl, rfl⟩ := hcs
    exact hm
end
namespace ChunkSplits

set_option maxHeartbeats 1000000 in
set_option maxRecDepth 100000 in
theorem walk (A : Option Addr) (c : Nat) (l : List UInt8) (w : World) (hbs : Bs w w.heap.size A l) (hlc : l.length ≤ c) (hcx : c ≤ maxLen) (hl : l.length ≤ 1048576) :
    Calls Try.prog 3 #[.slice A l.length c] w fun e w' => e = .returned (.bool true) ∧ Below w.heap.size w w' := by
  obtain ⟨n, hn⟩ : ∃ n, l.length = n := ⟨_, rfl⟩
  rw [hn] at hl hlc ⊢
  have HN := Lib.hid hn
  have HBS := Lib.hid hbs
  clear hn hbs
  go_enter Try.func3, Try.ntmps3
  go_upto_region 3 with (go_at_call 10; refine (wakes_any w).mono ?_; rintro e w1 ⟨rfl, hb1⟩)
  have hs1 := hb1.size
  have HB1 := Lib.hid hb1
  have HBS1 := Lib.hid (HBS.out.below hb1)
  have HC := Lib.hid (own_any A c n l HN.out w.heap.size w1 HBS1.out hs1 (by omega))
  clear hb1
  have HU := Lib.hid (fun (A2 : Option Addr) (c2 : Nat) (w2 : World) (ho : w2.ownsRow w1.heap.size 5 1 (.slice A2 n c2) n (bytesV l)) => split_any A2 n c2 l HN.out (own_room ho).1 (own_room ho).2 (by omega) w2.heap.size w2 (bs_own ho).1 (Nat.le_refl _))
  have HD := Lib.hid (fun (w3 : World) (hb : Below w1.heap.size w1 w3) => refSplit_any A n c l HN.out hlc hcx (by omega) w.heap.size w3 (HBS1.out.below (hb.mono hs1)) (Nat.le_trans hs1 hb.size))
  by_cases hy : ∃ k, splitYes l k
  · obtain ⟨k, hy⟩ := hy
    have HK : Hid (k + 1 ≤ 17592186043904) := Lib.hid (by have := yes_short hy; have := HN.out; omega)
    have HY := Lib.hid hy
    clear hy
    go_upto_region 4 with (first
      | (go_at_call 12; refine HC.out.mono ?_; rintro e w2 ⟨A2, c2, rfl, o2, hb2⟩; have HO2 := Lib.hid o2; have HB2 := Lib.hid hb2; have hs2 := hb2.size; clear o2 hb2 HC)
      | (go_at_call 11; refine (HU.out A2 c2 w2 HO2.out).mono ?_; rintro e w3 hsp; obtain ⟨A3, c3, rfl, hr3, hb3⟩ := hsp.yes HY.out; clear hsp))
    have hs3 := hb3.size
    have HB3 := Lib.hid (HB2.out.trans (hb3.mono hs2))
    have HR3 := Lib.hid (row_cks hr3)
    clear hb3 hr3 HO2 HB2 HU
    go_upto_region 5 with (go_at_call 13; refine (HD.out w3 HB3.out).mono ?_; rintro e w4 hsp; obtain ⟨A4, c4, rfl, hr4, hb4⟩ := hsp.yes HY.out; clear hsp)
    have hs4 := hb4.size
    have HB4 := Lib.hid (HB3.out.trans (hb4.mono (Nat.le_trans hs2 hs3)))
    have HS := Lib.hid (sameChunks_any A3 A4 (k + 1) (k + 1) c3 c4 _ _ (cksOf_len _ _) (cksOf_len _ _) HK.out HK.out (dat_le (l.drop 8) (k + 1)) w4.heap.size w4 (fun h => by
      obtain ⟨b, off, e, hlt, hc⟩ := (HR3.out.below hb4) h
      refine ⟨b, off, e, by omega, fun j hj => ?_⟩
      obtain ⟨x1, D, cd, x2, x3⟩ := hc j hj
      exact ⟨x1, D, cd, x2, x3.more hs4⟩) (row_cks hr4))
    rw [sameC_self] at HS
    clear hb4 hr4 HB3 HD
    go_wp2_with (go_at_call 14; refine HS.out.mono ?_; rintro e w5 ⟨rfl, q, rfl⟩)
    go_ret
    exact ⟨rfl, (HB1.out.trans (HB4.out.mono hs1)).trans ((Upd.drewN (Upd.refl (fun _ => False) w4) q).below (B := w.heap.size) (by omega) (fun _ _ h => h))⟩
  · have HY := Lib.hid hy
    clear hy
    go_upto_region 4 with (first
      | (go_at_call 12; refine HC.out.mono ?_; rintro e w2 ⟨A2, c2, rfl, o2, hb2⟩; have HO2 := Lib.hid o2; have HB2 := Lib.hid hb2; have hs2 := hb2.size; clear o2 hb2 HC)
      | (go_at_call 11; refine (HU.out A2 c2 w2 HO2.out).mono ?_; rintro e w3 hsp; obtain ⟨rfl, hb3⟩ := hsp.no HY.out; clear hsp))
    have hs3 := hb3.size
    have HB3 := Lib.hid (HB2.out.trans (hb3.mono hs2))
    clear hb3 HO2 HB2 HU
    go_upto_region 5 with (go_at_call 13; refine (HD.out w3 HB3.out).mono ?_; rintro e w4 hsp; obtain ⟨rfl, hb4⟩ := hsp.no HY.out; clear hsp)
    have hs4 := hb4.size
    have HB4 := Lib.hid (HB3.out.trans (hb4.mono (Nat.le_trans hs2 hs3)))
    have HS := Lib.hid (sameChunks_any none none 0 0 0 0 [] [] rfl rfl (by omega) (by omega) (fun k h => by cases h) 0 w4 (cks_nil _ _) (cks_nil _ _))
    rw [sameC_self] at HS
    clear hb4 HB3 HD
    go_wp2_with (go_at_call 14; refine HS.out.mono ?_; rintro e w5 ⟨rfl, q, rfl⟩)
    go_ret
    exact ⟨rfl, (HB1.out.trans (HB4.out.mono hs1)).trans ((Upd.drewN (Upd.refl (fun _ => False) w4) q).below (B := w.heap.size) (by omega) (fun _ _ h => h))⟩
set_option maxRecDepth 100000 in
theorem contract (H : Type) (enc : TypeId × Value → H) (W : World) (base : Nat) (args : Array Value) (ds gs : List (DataW H)) (before : List MemPlace)
    (hval : ∀ (j : Nat) t v, Try.f3.params[j]? = some t → args[j]? = some v → Value.okWide Try.prog W .any base t v)
    (hW : DataW.Whole enc Try.prog Try.f3.params.toList Rows.chunkSplitsSpec.vars false W args.toList ds gs before) (hk : Rows.uptoSmall H (ds ++ gs) = true) :
    Calls Try.prog 3 args W fun e W' => ∃ v, e = .returned v ∧ Rows.chunkSplitsSpec.post enc Try.prog Try.f3 false true false false W args v W' := by
  have hW' := hW
  obtain ⟨p, q, hA0, hV, rfl, hfz, hnd⟩ := hW
  have hA : DataW.TrodAll enc Try.prog W 0 (fun _ => true) true Try.f3.params.toList args.toList ds p := hA0
  rw [Try.params3] at hA hval
  obtain ⟨v0, vs0, d0, ds0, p0, q0, hargs, rfl, rfl, h0, r0⟩ := trodAll_cons hA
  obtain ⟨rfl, rfl, rfl⟩ := trodAll_nil r0
  obtain rfl : args = #[v0] := by cases args; simp_all
  obtain ⟨rfl, rfl⟩ := trodVars_none hV
  obtain ⟨A0, l0, c0, rfl, hb0, hcp0, hd0⟩ := open_bytes (hval 0 22 v0 rfl rfl) h0
  have hl0 : l0.length ≤ 1048576 := by
    rcases hd0 with ⟨_, rfl⟩ | ⟨e, s, rfl, hle⟩
    · simp
    · have h1 := bulk_le hk
      simp only [List.cons_append, List.nil_append] at h1
      have h2 := Nat.le_trans (bulk_slice e s _) h1
      omega
  have lt0 : ∀ x ∈ p0, x.block < W.heap.size := by obtain ⟨m, hm⟩ := h0; exact DataW.trod_lt m _ _ _ hm
  clear hA0
  refine (walk A0 c0 l0 W hb0 hcp0 (bytes_cap h0 rfl) hl0).mono fun e W' ⟨he, bel⟩ => ?_
  subst he
  exact ⟨_, rfl, _, _, _, [], _, [], hW', trodAll_mk1 (shut_bool Try.underlying4 _), (trodAll_cons_mk (Below.trod prog_laid (by kernel_rfl) (of_decide_eq_true (by kernel_rfl)) h0 bel lt0) trodAll_mk0), rfl, bel.frame _, fun h => by cases h⟩

set_option maxRecDepth 100000 in
theorem lifted (os : Os) (started : os.Started) (H : Type) (enc : TypeId × Value → H) (F : Stop.Interp) :
    ReturnsInHanded {} Try.checked os 3 .any ((Rows.OpenSpec.upto Rows.chunkSplitsSpec).pre6 enc Try.prog Try.f3 Rows.chunkSplitsUptoRow.domain false) (((Rows.OpenSpec.upto Rows.chunkSplitsSpec).at F).post enc Try.prog Try.f3 false true false false) := by
  refine returnsInHanded_of_cond (C := Try.checked) (s := Rows.OpenSpec.upto Rows.chunkSplitsSpec) (k := Rows.uptoSmall) rfl prog_own started (by kernel_rfl) Try.func3
    (OpenSpec.witness (enc := enc) (C := Try.checked) (s := Rows.OpenSpec.upto Rows.chunkSplitsSpec) (k := Rows.uptoSmall) rfl false ⟨#[], #[.slice none 0 0], []⟩ 8 (by kernel_rfl) (by kernel_rfl) (by kernel_rfl)
      (x := ([.nil], [], [])) (by kernel_rfl) rfl (by kernel_rfl)) ?_
  intro W base args ds gs before hval hW _ hk _
  exact contract H enc W base args ds gs before hval hW hk

theorem over : Rows.chunkSplitsUptoRow.holds Try.pinned (Rows.OpenSpec.upto Rows.chunkSplitsSpec) :=
  OpenClaim.holds_of_cond 3 Try.f3 rfl rfl rfl rfl rfl rfl rfl ⟨rfl, rfl, rfl, rfl, rfl⟩ rfl rfl rfl rfl rfl (by kernel_rfl) Try.func3 (by kernel_rfl)
    (of_decide_eq_true (by kernel_rfl)) (by unfold Func.isWrapper; first | (rw [if_pos (by decide +kernel)]; kernel_rfl) | (rw [if_neg (by decide +kernel)]; exact ⟨rfl, rfl⟩))
    (fun os started H enc _ F => lifted os started H enc F)
end ChunkSplits

theorem chunkSplits_holds : Rows.ChunkSplitsUptoSaid := ChunkSplits.over
#print axioms chunkSplits_holds
end Go.Proofs.Ytaloieeemibblaa
