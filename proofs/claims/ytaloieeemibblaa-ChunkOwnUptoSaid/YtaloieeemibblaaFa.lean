/- The small trial of layer 12's statements holds. -/
import Derived.Test.YtaloieeemibblaaEz
set_option linter.unusedVariables false
set_option linter.unusedSimpArgs false
namespace Go.Proofs.Ytaloieeemibblaa
open Go.ChangeShapes Go.WideShapes Go.ChangeAt Go.RowKit

set_option maxRecDepth 100000 in
set_option maxHeartbeats 1000000 in
theorem wakes_any (w : World) : Calls Try.prog 10 #[] w fun e w' => e = .returned (.bool true) ∧ Below w.heap.size w w' := by
  have HJ := Lib.hid (join_wk w)
  go_enter Try.func10, Try.ntmps10
  go_upto_region 2 with fail
  refine HJ.out.mono ?_
  rintro e w1 ⟨A1, c1, rfl, o1, hb1⟩
  have HO1 := Lib.hid o1; have HB1 := Lib.hid hb1
  clear o1 hb1 HJ
  have hs1 := HB1.out.size
  have HW1 := Lib.hid (fun (W : World) (h : Below w1.heap.size w1 W) => h)
  have HC2 := Lib.hid (own_any A1 c1 20 wkJ wkJ_len w1.heap.size w1 (bs_own HO1.out).1 (Nat.le_refl _) (by omega))
  clear HO1
  go_upto_region 3 with (first | (go_at_call 12; refine HC2.out.mono ?_; rintro e w2 ⟨A2, c2, rfl, o2, hb2⟩; have HO2 := Lib.hid o2; have HB2 := Lib.hid hb2; have hs2 := hb2.size; clear o2 hb2 HC2) | (go_at_call 11; refine (split_wk A2 c2 (own_room HO2.out).1 (own_room HO2.out).2 w2.heap.size w2 (bs_own HO2.out).1 (Nat.le_refl _)).mono ?_; rintro e w3 ⟨A3, c3, rfl, hb3⟩))
  have hs3 := hb3.size
  have HB3 := Lib.hid ((HB1.out.trans (HB2.out.mono hs1)).trans (hb3.mono (Nat.le_trans hs1 hs2)))
  clear hb3 HO2 HB2 HB1 HW1
  have HC4 := Lib.hid (filt_wk w3)
  go_upto_region 4 with (go_at_call 19; refine HC4.out.mono ?_; rintro e w4 ⟨A4, c4, rfl, o4, hb4⟩)
  have hs4 := hb4.size
  have HO4 := Lib.hid o4
  have HB4 := Lib.hid (HB3.out.trans (hb4.mono HB3.out.size))
  have hsw3 := HB3.out.size
  have HC5 := Lib.hid (own_any A4 c4 4 [1, 10, 10, 10] rfl w4.heap.size w4 (bs_own HO4.out).1 (Nat.le_refl _) (by omega))
  clear o4 hb4 HB3 HC4
  go_upto_region 5 with (first | (go_at_call 12; refine HC5.out.mono ?_; rintro e w5 ⟨A5, c5, rfl, o5, hb5⟩; have HO5 := Lib.hid o5; have HB5 := Lib.hid hb5; have hs5 := hb5.size; clear o5 hb5 HC5) | (go_at_call 21; refine (unf_wk A5 c5 (own_room HO5.out).1 (own_room HO5.out).2 w5.heap.size w5 (bs_own HO5.out).1 (Nat.le_refl _)).mono ?_; rintro e w6 ⟨A6, c6, rfl, o6, hb6⟩))
  have hs6 := hb6.size
  have hs04 := HB4.out.size
  have HB6 := Lib.hid ((HB4.out.trans (HB5.out.mono hs04)).trans (hb6.mono (Nat.le_trans hs04 hs5)))
  have HX := Lib.hid (((bs_own HO4.out).1.below HB5.out).below (hb6.mono hs5))
  have HY := Lib.hid (bs_own o6).1
  have HC7 := Lib.hid (same_lit A4 4 c4 [1, 10, 10, 10] rfl (by unfold maxLen; omega) w4.heap.size w6 HX.out (Nat.le_trans hs5 hs6))
  clear o6 hb6 HB5 HO5 HO4 HB4
  go_wp2_with (first
    | (go_at_call 18; refine HC7.out.mono ?_; rintro e w7 ⟨rfl, hb7⟩; have HB7 := Lib.hid hb7; have hs7 := hb7.size; clear hb7 HC7)
    | (go_at_call 18; refine (same_lit A6 3 c6 [10, 20, 30] rfl (by unfold maxLen; omega) w6.heap.size w7 (HY.out.below HB7.out) hs7).mono ?_; rintro e w8 ⟨rfl, hb8⟩; have HB8 := Lib.hid hb8; have hs8 := hb8.size; clear hb8)
    | (go_at_call 23; refine (passes_wk w8).mono ?_; rintro e w9 ⟨A9, c9, rfl, hb9⟩; have HB9 := Lib.hid hb9; have hs9 := hb9.size; clear hb9)
    | (go_at_call 25; refine (critical_wk w9).mono ?_; rintro e w10 ⟨rfl, rfl⟩))
  go_ret
  exact ⟨rfl, ((HB6.out.trans (HB7.out.mono HB6.out.size)).trans (HB8.out.mono (Nat.le_trans HB6.out.size hs7))).trans (HB9.out.mono (Nat.le_trans HB6.out.size (Nat.le_trans hs7 hs8)))⟩
end Go.Proofs.Ytaloieeemibblaa
