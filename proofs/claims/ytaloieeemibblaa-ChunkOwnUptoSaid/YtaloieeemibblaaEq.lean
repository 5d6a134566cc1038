/- Joined texts (a claim has at most 60 files). -/
import Derived.Test.YtaloieeemibblaaEo
import Derived.Laws.IdiomCopy
/- A number's four bytes. -/
set_option linter.unusedVariables false
set_option linter.unusedSimpArgs false
namespace Go.Proofs.Ytaloieeemibblaa
open Go.ChangeShapes Go.WideShapes Go.ChangeAt Go.RowKit

/-- A number as four bytes, the highest first. -/
def beB (v : Nat) : List UInt8 := [UInt8.ofNat (v >>> 24), UInt8.ofNat (v >>> 16), UInt8.ofNat (v >>> 8), UInt8.ofNat v]
theorem beB_length (v : Nat) : (beB v).length = 4 := rfl
theorem setB_be (v : Nat) : setB (List.replicate 4 0) 0 4 true v 4 = beB v := by
  simp [setB, shB, beB, List.replicate]
set_option maxRecDepth 100000 in
set_option maxHeartbeats 1000000 in
theorem number_any (v : Nat) (w : World) : Calls Try.prog 35 #[.int .u32 (v : Nat), .int .i64 4] w fun e w' => ∃ A' c', e = .returned (.slice A' 4 c') ∧ w'.ownsRow w.heap.size 5 1 (.slice A' 4 c') 4 (bytesV (beB v)) ∧ Below w.heap.size w w' := by
  obtain ⟨i0, hi, hz0, hz1, hz2⟩ := info_parts info_u8
  go_enter Try.func35, Try.ntmps35
  go_wp2_with (at_make; refine wpList_make_full _ rfl (.tmp 8) (.tmp 8) 22 rfl w.heap.size 5 i0 (.int .u8 0) 1 Try.underlying22 hi hz0 hz1 .i64 .i64 4 4 4 rfl rfl rfl rfl (by rw [hz2]; omega) (by unfold maxLen; omega) (Nat.le_refl _) ?_; intro w1 hown1 hg1)
  rw [make_u8] at hown1
  have hb1 := (Below.refl w.heap.size w).grown hg1 (Nat.le_refl _) (by simp)
  have hbs := Bs.of_own (l := List.replicate 4 0) hown1
  refine (set_ok (some ⟨w.heap.size, 0, none⟩) 4 (List.replicate 4 0) 0 4 v true w1.heap.size w1 hbs (Nat.le_refl _) (by simp) (by omega) (by omega) (by simp)).mono ?_
  rintro e w2 ⟨A', c', rfl, ho, hb2⟩
  rw [setB_be] at ho
  have HF := Lib.hid (And.intro (own_low ho hb1.size) (hb1.trans (hb2.mono hb1.size)))
  clear ho hb1 hb2 hbs hown1 hg1
  go_wp2_with fail
  go_ret
  exact ⟨A', c', rfl, HF.out⟩
end Go.Proofs.Ytaloieeemibblaa

/- append to a string's bytes: the row bears a mark behind its end; what comes of it is read alone. -/
set_option linter.unusedVariables false
set_option linter.unusedSimpArgs false
namespace Go.Proofs.Ytaloieeemibblaa
open Go.ChangeShapes Go.WideShapes Go.ChangeAt Go.RowKit

theorem upd_setCells (b : Nat) : ∀ (vs : List Value) (o : Nat) (w : World), Upd (· = b) w (w.setCells b o vs)
  | [], _, w => Upd.refl _ _
  | v :: r, o, w => ((Upd.refl (· = b) w).setCell (p := ⟨b, o, none⟩) (fun _ => rfl) v).trans (upd_setCells b r (o + 1) _)
theorem append_marked (w : World) (g n cap : Nat) (xs : List UInt8) (hx : xs.length = n) (hc : ∀ (j : Nat) (hj : j < xs.length), w.cell? ⟨g, j, none⟩ = some (.int .u8 (xs[j].toNat : Int))) (hroom : ∀ j, j < cap → (w.cell? ⟨g, j, none⟩).isSome = true ∧ w.frozen? ⟨g, j, none⟩ = false) (hn : n ≤ cap) (hg : g < w.heap.size)
    (B : Nat) (A : Option Addr) (m c : Nat) (ys : List UInt8) (hm : ys.length = m) (hr : Bs w B A ys) (hB : B ≤ w.heap.size) (h47 : n + m ≤ 140737488355328) (ty : TypeId) :
    ∃ A' c' w', (Builtin.append_ #[22, 22] ty #[.slice (some ⟨g, 0, none⟩) n cap, .slice A m c]).run Try.prog w = .ok (.slice A' (n + m) c') w' ∧ Bs w' w'.heap.size A' (xs ++ ys) ∧ Upd (· = g) w w' ∧ ∃ ad, A' = some ad ∧ g ≤ ad.block ∧ ad.block < w'.heap.size := by
  subst hx
  subst hm
  obtain ⟨i0, hi, hz0, hz1, hz2⟩ := info_parts info_u8
  have hbx : Bs w w.heap.size (some ⟨g, 0, none⟩) xs := fun _ => ⟨_, rfl, hg, fun j hj => by
    have e0 : (⟨g, 0, none⟩ : Addr).add j = ⟨g, j, none⟩ := by unfold Addr.add; split <;> simp_all
    rw [e0]; exact hc j hj⟩
  rcases A with _ | ad
  · have h0 : ys = [] := by
      rcases Nat.eq_zero_or_pos ys.length with h0 | h0
      · exact List.eq_nil_of_length_eq_zero h0
      · obtain ⟨ad, h, _⟩ := hr h0
        cases h
    subst h0
    refine ⟨some ⟨g, 0, none⟩, cap, w, ?_, by rw [List.append_nil]; exact hbx, Upd.refl _ _, _, rfl, Nat.le_refl _, hg⟩
    simp [Builtin.append_, run_underlying Try.underlying22, sizeOf, typeInfo, hi, Builtin.lenOf, Builtin.firstCells, hn, storeCells]
  · have hcells : ∀ j u, (bytesV ys)[j]? = some u → w.cell? (ad.add j) = some u := by
      intro j u hu
      have hj : j < ys.length := by
        have := (List.getElem?_eq_some_iff.mp hu).1
        rwa [bytesV_length] at this
      obtain ⟨ad', he, _, hc⟩ := hr (by omega)
      injection he with he
      subst he
      rw [bytesV_get ys j hj] at hu
      rw [hc j hj, hu]
    by_cases hfit : xs.length + ys.length ≤ cap
    · have hf := run_firstCells_some (P := Try.prog) w 1 ys.length ad ys.length c (bytesV ys) (by rw [bytesV_length]; omega) hcells
      have hst := run_storeCells_cells (P := Try.prog) g xs.length (bytesV ys) 0 w (fun j hj => (hroom (xs.length + 0 + j) (by rw [bytesV_length] at hj; omega)).1) (fun j hj => (hroom (xs.length + 0 + j) (by rw [bytesV_length] at hj; omega)).2) (bytesV_oneCell ys)
      simp only [Nat.add_zero] at hst
      refine ⟨some ⟨g, 0, none⟩, cap, w.setCells g xs.length (bytesV ys), ?_, ?_, upd_setCells g _ _ _, _, rfl, Nat.le_refl _, Nat.lt_of_lt_of_le hg (upd_setCells g _ _ _).size⟩
      · have hadd : (⟨g, 0, none⟩ : Addr).add xs.length = ⟨g, xs.length, none⟩ := by unfold Addr.add; split <;> simp_all
        simp [Builtin.append_, run_underlying Try.underlying22, sizeOf, typeInfo, hi, hz1, Builtin.lenOf, hfit, hf, hadd, hst]
      · intro hpos
        refine ⟨_, rfl, Nat.lt_of_lt_of_le hg (upd_setCells g _ _ _).size, fun j hj => ?_⟩
        have e0 : (⟨g, 0, none⟩ : Addr).add j = ⟨g, j, none⟩ := by unfold Addr.add; split <;> simp_all
        rw [e0]
        rw [List.length_append] at hj
        by_cases h1 : j < xs.length
        · rw [World.cell?_setCells_out g _ _ _ _ (fun _ _ => Or.inl h1), hc j h1, List.getElem_append_left h1]
        · have h2 := World.cell?_setCells_in g (bytesV ys) xs.length w (fun i hi => (hroom (xs.length + i) (by rw [bytesV_length] at hi; omega)).1) (j - xs.length) (by rw [bytesV_length]; omega)
          rw [show xs.length + (j - xs.length) = j by omega] at h2
          rw [h2, List.getElem_append_right (by omega)]
          simp [bytesV, bv]
    · have hgr := run_append_grow (P := Try.prog) w 22 ty 5 i0 (.int .u8 0) Try.underlying22 hi hz0 ⟨g, 0, none⟩ xs.length cap (bytesV xs) (by rw [bytesV_length, hz1]; omega) (fun j v hv => by
          have hj : j < xs.length := by
            have := (List.getElem?_eq_some_iff.mp hv).1
            rwa [bytesV_length] at this
          have e0 : (⟨g, 0, none⟩ : Addr).add j = ⟨g, j, none⟩ := by unfold Addr.add; split <;> simp_all
          rw [e0, hc j hj, ← bytesV_get xs j hj, hv]) ad ys.length c (bytesV ys) (by rw [bytesV_length, hz1]; omega) hcells (by omega) (by omega) (growslice_fits (by omega) (by rw [hz2]; omega))
      refine ⟨_, _, _, hgr, ?_, ((Upd.refl _ w).drew).alloc _, _, rfl, Nat.le_of_lt hg, by simp⟩
      intro hpos
      refine ⟨_, rfl, by simp, fun j hj => ?_⟩
      have e0 : (⟨w.heap.size, 0, none⟩ : Addr).add j = ⟨w.heap.size, j, none⟩ := by unfold Addr.add; split <;> simp_all
      rw [e0, cell_of_row _ w.heap.size j _ 5 (0, 0) (heap_alloc_new w.drew _)]
      rw [List.length_append] at hj
      have hbl : j < (bytesV xs ++ bytesV ys).length := by rw [List.length_append, bytesV_length, bytesV_length]; exact hj
      rw [Array.getElem?_append_left (by simpa using hbl)]
      have : (bytesV xs).toArray ++ (bytesV ys).toArray = (bytesV (xs ++ ys)).toArray := by rw [bytesV_append]; simp
      rw [this]
      simpa using bytesV_get (xs ++ ys) j (by rw [List.length_append]; exact hj)
end Go.Proofs.Ytaloieeemibblaa
