/- Contract of the program's Codes. -/
import Derived.Test.YthbdhpciibjnmaaPb
namespace Go.Proofs.Ythbdhpciibjnmaa
open Go.ChangeShapes Go.WideShapes Go.ChangeAt Go.RowKit

/-- The next place of each length, over the first k lengths. -/
def nxtN (f : Nat → Nat) (l : List Int) (k : Nat) : List Int := (List.range 17).map fun i => ((f i + cntZ (l.take k) i : Nat) : Int)
theorem nxtN_length (f : Nat → Nat) (l : List Int) (k : Nat) : (nxtN f l k).length = 17 := by simp [nxtN]
theorem nxtN_step (f : Nat → Nat) (l : List Int) (k n : Nat) (hk : k < l.length) (hn : 0 < n) (hn16 : n ≤ 16) (hx : l[k] = (n : Int)) : (nxtN f l k).set n (((f n + cntZ (l.take k) n : Nat) : Int) + 1) = nxtN f l (k + 1) := by
  unfold nxtN
  refine rangeMap_set 17 n _ _ _ (by omega) ?_ fun j _ hj => ?_
  · rw [cntZ_step l k n n hk hn hx, if_pos rfl]; omega
  · rw [cntZ_step l k n j hk hn hx, if_neg hj, Nat.add_zero]
theorem nxtN_skip (f : Nat → Nat) (l : List Int) (k : Nat) (hk : k < l.length) (hx : ¬ 0 < l[k]) : nxtN f l (k + 1) = nxtN f l k := by
  unfold nxtN
  apply List.map_congr_left
  intro j _
  rw [cntZ_skip l k j hk hx]
def NxtAt (f : Nat → Nat) (l : List Int) (k : Nat) (wr : World) (g : Nat) : Prop := Blk wr g 125 (intsV (nxtN f l k)).toArray
section
variable {f : Nat → Nat} {l : List Int} {k : Nat} {wr : World} {g : Nat}
theorem NxtAt.cell (h : NxtAt f l k wr g) (i : Nat) (hi : i < 17) : wr.cell? ⟨g, i, none⟩ = some (.int .i64 ((f i + cntZ (l.take k) i : Nat) : Int)) := by
  unfold NxtAt at h
  rw [h.cell]
  simp [intsV, nxtN, hi]
theorem NxtAt.free (h : NxtAt f l k wr g) (i : Nat) : wr.frozen? ⟨g, i, none⟩ = false := Blk.frozen h i
theorem NxtAt.step (h : NxtAt f l k wr g) (n : Nat) (hk : k < l.length) (hn : 0 < n) (hn16 : n ≤ 16) (hx : l[k] = (n : Int)) : NxtAt f l (k + 1) (wr.setCell ⟨g, n, none⟩ (.int .i64 (((f n + cntZ (l.take k) n : Nat) : Int) + 1))) g := by
  have h1 := Blk.set_ h n (.int .i64 (((f n + cntZ (l.take k) n : Nat) : Int) + 1))
  unfold NxtAt
  rw [← nxtN_step f l k n hk hn hn16 hx, ← intsV_set]
  simpa using h1
end
theorem firsts_eq (l : List Int) : (intsV (layL l)).toArray.extract 17 34 = (intsV (nxtN (fstN l) l 0)).toArray := by
  apply Array.ext
  · simp [intsV, layL, layN, nxtN]
  · intro i h1 h2
    have hi : i < 17 := by simpa [intsV, nxtN] using h2
    have e : cntZ ([] : List Int) i = 0 := by simp [cntZ, cntN]
    simp only [Array.getElem_extract, List.getElem_toArray, intsV_get]
    simp [layL, layN, nxtN, layF, e, show ¬ 17 + i < 17 from by omega, show 17 + i < 34 from by omega, show i ≤ 16 from by omega]
theorem aheads_eq (l : List Int) : (intsV (layL l)).toArray.extract 34 51 = (intsV (nxtN (ahdN l) l 0)).toArray := by
  apply Array.ext
  · simp [intsV, layL, layN, nxtN]
  · intro i h1 h2
    have hi : i < 17 := by simpa [intsV, nxtN] using h2
    have e : cntZ ([] : List Int) i = 0 := by simp [cntZ, cntN]
    simp only [Array.getElem_extract, List.getElem_toArray, intsV_get]
    simp [layL, layN, nxtN, layF, e, show ¬ 34 + i < 17 from by omega, show ¬ 34 + i < 34 from by omega, show i ≤ 16 from by omega]
theorem field_first (cs : Array Value) (w : World) : (Instr.field 127 (.agg cs) 1).run Try.prog w = .ok (.agg (cs.extract 17 34)) w := by kernel_rfl
theorem per_info : (Try.prog.info? 125).map (·.size) = some 17 := by kernel_rfl
def per0 : List Value := List.replicate 17 (.int .i64 0)

/-- The codes of the first k symbols; nought behind. -/
def codesTo (l : List Int) (k : Nat) : List Nat := (List.range l.length).map fun j => if j < k ∧ 0 < lenAt l j then codeAt l j else 0
theorem codesTo_length (l : List Int) (k : Nat) : (codesTo l k).length = l.length := by simp [codesTo]
theorem codesTo_zero (l : List Int) : codesTo l 0 = List.replicate l.length 0 := by
  apply List.ext_getElem?
  intro j
  by_cases h : j < l.length
  · simp [codesTo, h]
  · simp [codesTo, h]
theorem codesTo_all (l : List Int) : codesTo l l.length = codesL l := by
  unfold codesTo codesL
  apply List.map_congr_left
  intro j hj
  have hj2 : j < l.length := by simpa using hj
  simp only [hj2, true_and]
theorem codesTo_set (l : List Int) (k n : Nat) (h : k < l.length) (hn : 0 < n) (hx : l[k] = (n : Int)) : (codesTo l k).set k (fstN l n + cntZ (l.take k) n) = codesTo l (k + 1) := by
  unfold codesTo
  refine rangeMap_set _ k _ _ _ h ?_ fun j _ hj => ?_
  · obtain ⟨m, rfl⟩ : ∃ m, n = m + 1 := ⟨n - 1, by omega⟩
    rw [lenAt_get l k h, if_pos (by omega), codeAt_eq l m k h hx]
    unfold fstN cntZ rank
    rw [if_neg (by omega), Nat.add_sub_cancel]
  · have e : (j < k + 1 ∧ 0 < lenAt l j) ↔ (j < k ∧ 0 < lenAt l j) := by omega
    simp only [e]
theorem codesTo_skip (l : List Int) (k : Nat) (h : k < l.length) (hx : ¬ 0 < l[k]) : codesTo l (k + 1) = codesTo l k := by
  unfold codesTo
  apply List.map_congr_left
  intro j _
  by_cases e : j = k
  · subst e
    rw [lenAt_get l j h, if_neg (by omega), if_neg (by omega)]
  · have e2 : (j < k + 1 ∧ 0 < lenAt l j) ↔ (j < k ∧ 0 < lenAt l j) := by omega
    simp only [e2]
/-- The codes so far, the next number of each length. -/
def CdAt (w : World) (l : List Int) (g k : Nat) (wr : World) : Prop :=
  wr.ownsRow w.heap.size 40 1 (.slice (some ⟨w.heap.size, 0, none⟩) l.length l.length) l.length (u32V (codesTo l k)) ∧ NxtAt (fstN l) l k wr g ∧ Below w.heap.size w wr ∧ w.heap.size < g

theorem codesErr_zero {l : List Int} (h : codesErr l = 0) : roomErr l = 0 ∧ 0 ≤ roomOf l := by
  unfold codesErr at h
  split at h
  · split at h
    · omega
    · exact ⟨by assumption, by omega⟩
  · omega
end Go.Proofs.Ythbdhpciibjnmaa
