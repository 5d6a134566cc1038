/- Which parts lie within, which images are good: the program's and the document's. -/
import Derived.Test.YtkfomjdmdgddlaaQa
namespace Go.Proofs.Ytkfomjdmdgddlaa
open Go.ChangeShapes Go.WideShapes Go.ChangeAt Go.RowKit

set_option maxRecDepth 100000 in
set_option maxHeartbeats 1000000 in
theorem sizesHolds_any (W H x y p q : Int) (hW : 0 ≤ W ∧ W ≤ 4096) (hH : 0 ≤ H ∧ H ≤ 4096) (hp : p ≤ 9223372036854775807) (hq : q ≤ 9223372036854775807) (w : World) :
    Calls Try.prog 35 #[.int .i64 W, .int .i64 H, .agg #[.int .i64 x, .int .i64 y, .int .i64 p, .int .i64 q]] w fun e w' => e = .returned (.bool (inB x y p q W H)) ∧ Below w.heap.size w w' := by
  go_enter Try.func35, Try.ntmps35
  have HB := Lib.hid ((Below.refl w.heap.size w).alloc (Nat.le_refl _) (.cells #[.int .i64 x, .int .i64 y, .int .i64 p, .int .i64 q] 44))
  by_cases h1 : (1 : Int) ≤ p
  case neg =>
    have HE : Hid (inB x y p q W H = false) := Lib.hid (by simp [inB, h1])
    go_wp2_with fail
    go_ret
    exact ⟨ret_bl HE.out.symm, HB.out⟩
  by_cases h2 : (1 : Int) ≤ q
  case neg =>
    have HE : Hid (inB x y p q W H = false) := Lib.hid (by simp [inB, h2])
    go_wp2_with fail
    go_ret
    exact ⟨ret_bl HE.out.symm, HB.out⟩
  by_cases h3 : (0 : Int) ≤ x
  case neg =>
    have HE : Hid (inB x y p q W H = false) := Lib.hid (by simp [inB, h3])
    go_wp2_with fail
    go_ret
    exact ⟨ret_bl HE.out.symm, HB.out⟩
  by_cases h4 : (0 : Int) ≤ y
  case neg =>
    have HE : Hid (inB x y p q W H = false) := Lib.hid (by simp [inB, h4])
    go_wp2_with fail
    go_ret
    exact ⟨ret_bl HE.out.symm, HB.out⟩
  have s1 : wrap64 (W - p) = W - p := IntWalk.wrap64_in _ (by omega)
  have s2 : wrap64 (H - q) = H - q := IntWalk.wrap64_in _ (by omega)
  by_cases h5 : x ≤ W - p
  case neg =>
    have HE : Hid (inB x y p q W H = false) := Lib.hid (by simp [inB, h5])
    go_wp2_with fail
    go_ret
    exact ⟨ret_bl HE.out.symm, HB.out⟩
  have HE : Hid (inB x y p q W H = decide (y ≤ H - q)) := Lib.hid (by simp [inB, h1, h2, h3, h4, h5])
  go_wp2_with fail
  go_ret
  exact ⟨ret_bl HE.out.symm, HB.out⟩
set_option maxRecDepth 100000 in
theorem fits_any (x y : Int) (w : World) : Calls Try.prog 40 #[.int .i64 x, .int .i64 y] w fun e w' => e = .returned (.bool (mayB x y)) ∧ w' = w := by
  go_enter Try.func40, Try.ntmps40
  by_cases h1 : (1 : Int) ≤ x
  case neg =>
    have HE : Hid (mayB x y = false) := Lib.hid (by simp [mayB, sideB, h1])
    go_wp2_with fail
    go_ret
    exact ⟨ret_bl HE.out.symm, rfl⟩
  by_cases h2 : (1 : Int) ≤ y
  case neg =>
    have HE : Hid (mayB x y = false) := Lib.hid (by simp [mayB, sideB, h2])
    go_wp2_with fail
    go_ret
    exact ⟨ret_bl HE.out.symm, rfl⟩
  by_cases h3 : x ≤ 4096
  case neg =>
    have HE : Hid (mayB x y = false) := Lib.hid (by simp [mayB, sideB, h3])
    go_wp2_with fail
    go_ret
    exact ⟨ret_bl HE.out.symm, rfl⟩
  by_cases h4 : y ≤ 4096
  case neg =>
    have HE : Hid (mayB x y = false) := Lib.hid (by simp [mayB, sideB, h4])
    go_wp2_with fail
    go_ret
    exact ⟨ret_bl HE.out.symm, rfl⟩
  have HE : Hid (mayB x y = decide (x * y ≤ 65536)) := Lib.hid (by simp [mayB, sideB, h1, h2, h3, h4])
  have b1 : 0 ≤ x * y ∧ x * y ≤ 16777216 := by
    have := Int.mul_le_mul h3 h4 (by omega) (by omega)
    have := Int.mul_nonneg (show 0 ≤ x by omega) (show 0 ≤ y by omega)
    omega
  have hwr : wrap64 (x * y) = x * y := IntWalk.wrap64_in _ (by omega)
  go_wp2_with fail
  go_ret
  exact ⟨ret_bl HE.out.symm, rfl⟩
/-- Is an image good, that has so many samples? -/
def goodB (W H : Int) (n : Nat) : Bool := mayB W H && decide ((n : Int) = 4 * W * H)
theorem four_mul (W H : Int) : 4 * W * H = 4 * (W * H) := Int.mul_assoc 4 W H
theorem four_wrap {W H : Int} (h : mayB W H = true) : wrap64 (4 * W) = 4 * W ∧ wrap64 (4 * W * H) = 4 * W * H := by
  obtain ⟨h1, h2, h3, h4, h5⟩ := mayB_bd h
  have := Int.mul_nonneg (show 0 ≤ W by omega) (show 0 ≤ H by omega)
  rw [four_mul]
  exact ⟨IntWalk.wrap64_in _ (by omega), IntWalk.wrap64_in _ (by omega)⟩
set_option maxRecDepth 100000 in
set_option maxHeartbeats 1000000 in
theorem good_any (W H : Int) (A : Option Addr) (n c : Nat) (w : World) : Calls Try.prog 14 #[imgV W H A n c] w fun e w' => e = .returned (.bool (goodB W H n)) ∧ Below w.heap.size w w' := by
  go_enter Try.func14, Try.ntmps14
  go_wp2_with fail
  have hx := Blk.new w 24 (imgC W H A n c)
  have HB := Lib.hid ((Below.refl w.heap.size w).alloc (Nat.le_refl _) (.cells (imgC W H A n c) 24))
  generalize w.alloc (.cells (imgC W H A n c) 24) = W1 at *
  have x0 := hx.cell 0; have x1 := hx.cell 1; have x2 := hx.cell 2
  simp only [List.getElem?_toArray, List.getElem?_cons_zero, List.getElem?_cons_succ] at x0 x1 x2
  clear hx
  go_wp2_with fail
  refine (mayBe_any W H W1).mono ?_
  rintro e w1 ⟨rfl, rfl⟩
  cases hm : mayB W H with
  | false =>
    have HE : Hid (goodB W H n = false) := Lib.hid (by simp [goodB, hm])
    go_wp2_with fail
    go_ret
    exact ⟨ret_bl HE.out.symm, HB.out⟩
  | true =>
    obtain ⟨e1, e2⟩ := four_wrap hm
    have HE : Hid (goodB W H n = decide ((n : Int) = 4 * W * H)) := Lib.hid (by simp [goodB, hm])
    clear hm
    by_cases hn : (n : Int) = 4 * W * H
    · have d1 : ((n : Int) == 4 * W * H) = true := by simp [hn]
      have HN := Lib.hid hn
      clear hn
      go_wp2_with fail
      go_ret
      exact ⟨ret_bl (by rw [HE.out]; simp [HN.out]), HB.out⟩
    · have d1 : ((n : Int) == 4 * W * H) = false := by simp [hn]
      have HN := Lib.hid hn
      clear hn
      go_wp2_with fail
      go_ret
      exact ⟨ret_bl (by rw [HE.out]; simp [HN.out]), HB.out⟩
set_option maxRecDepth 100000 in
set_option maxHeartbeats 1000000 in
theorem refGood_any (W H : Int) (A : Option Addr) (n c : Nat) (w : World) : Calls Try.prog 15 #[imgV W H A n c] w fun e w' => e = .returned (.bool (goodB W H n)) ∧ Below w.heap.size w w' := by
  go_enter Try.func15, Try.ntmps15
  go_wp2_with fail
  have hx := Blk.new w 24 (imgC W H A n c)
  have HB := Lib.hid ((Below.refl w.heap.size w).alloc (Nat.le_refl _) (.cells (imgC W H A n c) 24))
  generalize w.alloc (.cells (imgC W H A n c) 24) = W1 at *
  have x0 := hx.cell 0; have x1 := hx.cell 1; have x2 := hx.cell 2
  simp only [List.getElem?_toArray, List.getElem?_cons_zero, List.getElem?_cons_succ] at x0 x1 x2
  clear hx
  go_wp2_with fail
  refine (fits_any W H W1).mono ?_
  rintro e w1 ⟨rfl, rfl⟩
  cases hm : mayB W H with
  | false =>
    have HE : Hid (goodB W H n = false) := Lib.hid (by simp [goodB, hm])
    go_wp2_with fail
    go_ret
    exact ⟨ret_bl HE.out.symm, HB.out⟩
  | true =>
    obtain ⟨e1, e2⟩ := four_wrap hm
    have HE : Hid (goodB W H n = decide ((n : Int) = 4 * W * H)) := Lib.hid (by simp [goodB, hm])
    clear hm
    by_cases hn : (n : Int) = 4 * W * H
    · have d1 : ((n : Int) == 4 * W * H) = true := by simp [hn]
      have HN := Lib.hid hn
      clear hn
      go_wp2_with fail
      go_ret
      exact ⟨ret_bl (by rw [HE.out]; simp [HN.out]), HB.out⟩
    · have d1 : ((n : Int) == 4 * W * H) = false := by simp [hn]
      have HN := Lib.hid hn
      clear hn
      go_wp2_with fail
      go_ret
      exact ⟨ret_bl (by rw [HE.out]; simp [HN.out]), HB.out⟩
end Go.Proofs.Ytkfomjdmdgddlaa
