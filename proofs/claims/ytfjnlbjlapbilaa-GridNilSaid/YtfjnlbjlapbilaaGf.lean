/- The small trial of layer 7's statements. -/
import Derived.Test.YtfjnlbjlapbilaaGe
namespace Go.Proofs.Ytfjnlbjlapbilaa
open Go.ChangeShapes Go.WideShapes Go.ChangeAt Go.RowKit

theorem below_drewN {B : Nat} {w w' : World} (h : Below B w w') (n : Nat) : Below B w (w'.drewN n) := ⟨h.os, h.tape, h.output, h.size, h.block⟩
theorem ones (l : List Value) (h : l.all Value.oneCell' = true) : ∀ u ∈ l, u.oneCell' = true := fun u hu => by
  rw [List.all_eq_true] at h
  exact h u hu
theorem of_wk (w : World) (A : Option Addr) (c : Nat) (h : Vs w w.heap.size A (intsV [1, 2, 3, 4])) :
    Calls Try.prog 37 #[.int .i64 2, .int .i64 2, .slice A 4 c] w fun e w' => ∃ g r c', e = .returned (.tuple #[.pointer (some ⟨g, 0, none⟩), .int .i64 0]) ∧ GridAt w' w.heap.size 87 3 g r c' 2 2 (intsV [1, 2, 3, 4]) ∧ Below w.heap.size w w' := by
  refine (of_any 2 2 A c 4 _ rfl (intsV_one _) w.heap.size w h (Nat.le_refl _)).mono ?_
  intro e w' hq
  unfold OfR at hq
  rw [if_neg (by decide), if_neg (by decide)] at hq
  obtain ⟨g, r, c', h1, h2, _, h3⟩ := hq
  exact ⟨g, r, c', h1, h2, h3⟩
theorem at_wk {w : World} {base g r c : Nat} (h : GridAt w base 87 3 g r c 2 2 (intsV [1, 2, 3, 4])) :
    Calls Try.prog 13 #[.pointer (some ⟨g, 0, none⟩), .int .i64 1, .int .i64 0] w fun e w' => e = .returned (.tuple #[.int .i64 2, .bool true]) ∧ Below w.heap.size w w' := at_any h 1 0
theorem crop_wk {w : World} {base g r c : Nat} (h : GridAt w base 87 3 g r c 2 2 (intsV [1, 2, 3, 4])) :
    Calls Try.prog 17 #[.pointer (some ⟨g, 0, none⟩), .int .i64 1, .int .i64 0, .int .i64 1, .int .i64 2] w fun e w' => ∃ g r c', e = .returned (.tuple #[.pointer (some ⟨g, 0, none⟩), .int .i64 0]) ∧ GridAt w' w.heap.size 87 3 g r c' 1 2 (intsV [2, 4]) ∧ Below w.heap.size w w' := by
  refine (crop_any h 1 0 1 2 (by omega) (by omega)).mono ?_
  intro e w' hq
  unfold CropR at hq
  rw [if_neg (by decide)] at hq
  exact hq

set_option maxHeartbeats 4000000 in
set_option maxRecDepth 100000 in
theorem wakes_any (w : World) : Calls Try.prog 11 #[] w fun e w' => e = .returned (.bool true) ∧ Below w.heap.size w w' := by
  go_enter Try.func11, Try.ntmps11
  go_wp2_with fail
  have hb1 := (Below.refl w.heap.size w).alloc (Nat.le_refl _) (.cells (intsV [1, 2, 3, 4]).toArray 3)
  have hz1 : (w.alloc (.cells (intsV [1, 2, 3, 4]).toArray 3)).heap.size = w.heap.size + 1 := by simp
  refine (of_wk (w.alloc (.cells (intsV [1, 2, 3, 4]).toArray 3)) (some ⟨w.heap.size, 0, none⟩) 4 (by rw [hz1]; exact vs_lit w 3 (intsV [1, 2, 3, 4]) _ (by omega))).mono ?_
  rintro e w2 ⟨g, r, c, rfl, hg, hb2⟩
  have HB2 := Lib.hid (hb1.trans (hb2.mono hb1.size))
  have HG := Lib.hid hg
  clear hb1 hz1 hb2 hg
  go_wp2_with fail
  refine (at_wk HG.out).mono ?_
  rintro e w3 ⟨rfl, hb3⟩
  have hs2 := HB2.out.size
  have HB3 := Lib.hid (HB2.out.trans (hb3.mono hs2))
  have HG3 := Lib.hid (HG.out.below hb3)
  clear hb3 hs2 HB2 HG
  go_wp2_with fail
  refine (crop_wk HG3.out).mono ?_
  rintro e w4 ⟨g2, r2, c2, rfl, hg2, hb4⟩
  have hs3 := HB3.out.size
  have HB4 := Lib.hid (HB3.out.trans (hb4.mono hs3))
  have HG2 := Lib.hid hg2
  clear hb4 hg2 HG3 HB3 hs3
  go_wp2_with fail
  refine (newS_any w4).mono ?_
  rintro e w5 ⟨g3, r3, c3, rfl, hg3, hb5⟩
  have hs4 := HB4.out.size
  have HB5 := Lib.hid (HB4.out.trans (hb5.mono hs4))
  have HG2' := Lib.hid (HG2.out.below hb5)
  have HG3 := Lib.hid hg3
  clear hb5 hg3 HG2 HB4 hs4
  go_wp2_with fail
  refine (cells_any HG2'.out (intsV_one _)).mono ?_
  rintro e w6 ⟨r6, c6, rfl, o6, hb6⟩
  have hs5 := HB5.out.size
  have HB6 := Lib.hid (HB5.out.trans (hb6.mono hs5))
  have HG3' := Lib.hid (HG3.out.below hb6)
  have V6 := Lib.hid (Vs.of_own o6)
  clear hb6 o6 HG3 HB5 hs5 HG2'
  go_wp2_with fail
  have hs6 := HB6.out.size
  have hb7 := (Below.refl w6.heap.size w6).alloc (Nat.le_refl _) (.cells (intsV [2, 4]).toArray 3)
  have hz7 : (w6.alloc (.cells (intsV [2, 4]).toArray 3)).heap.size = w6.heap.size + 1 := by simp
  refine (sameInts_n (some ⟨r6, 0, none⟩) (some ⟨w6.heap.size, 0, none⟩) 2 2 c6 2 [2, 4] [2, 4] rfl rfl (w6.heap.size + 1) (w6.alloc (.cells (intsV [2, 4]).toArray 3)) ((V6.out.below hb7).more (by omega)) (vs_lit w6 3 (intsV [2, 4]) _ (by omega)) (by unfold maxLen; omega)).mono ?_
  rintro e w7 ⟨rfl, n7, rfl⟩
  rw [show (([2, 4] : List Int) == [2, 4]) = true from rfl]
  obtain ⟨w7, hw7⟩ : ∃ w7 : World, (w6.alloc (.cells (intsV [2, 4]).toArray 3)).drewN n7 = w7 := ⟨_, rfl⟩
  have hb8 := below_drewN hb7 n7
  rw [hw7] at hb8 ⊢
  have HB7 := Lib.hid (HB6.out.trans (hb8.mono hs6))
  have HG7 := Lib.hid (HG3'.out.below hb8)
  clear hb7 hz7 hb8 HG3' HB6 V6 hs6 hw7
  go_wp2_with fail
  refine (wS_any HG7.out).mono ?_
  rintro e w8 ⟨rfl, rfl⟩
  go_wp2_with fail
  refine (cellsS_any HG7.out (ones _ (by decide))).mono ?_
  rintro e w9 ⟨r9, c9, rfl, _, hb9⟩
  have hs7 := HB7.out.size
  have HB9 := Lib.hid (HB7.out.trans (hb9.mono hs7))
  clear hb9 HG7 HB7 hs7
  go_wp2_with fail
  go_ret
  exact ⟨rfl, HB9.out⟩
end Go.Proofs.Ytfjnlbjlapbilaa
