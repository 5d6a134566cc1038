/- The small trial of layer 8's statements. -/
import Derived.Test.YtibgjklfbfahfaaTmd
import Derived.Test.YtibgjklfbfahfaaTmf
namespace Go.Proofs.Ytibgjklfbfahfaa
open Go.ChangeShapes Go.WideShapes Go.ChangeAt Go.RowKit

theorem up_wk (w : World) : Calls Try.prog 10 #[.int .i64 1, .int .i64 31] w fun e w' => e = .returned (.tuple #[.int .u16 2114, .int .i64 0]) ∧ w' = w := by
  refine (up_any 1 31 (by omega) (by omega) w).mono ?_
  rintro e w' ⟨rfl, ⟨_, rfl⟩ | ⟨h, _⟩⟩
  · exact ⟨by rw [show upN 1 31 = 2114 by decide], rfl⟩
  · exact absurd (show UpOk 1 31 from ⟨by omega, by omega, by omega, by omega⟩) h
theorem down_wk (w : World) : Calls Try.prog 12 #[.int .u16 129, .int .i64 255] w fun e w' => e = .returned (.tuple #[.int .i64 1, .int .i64 0]) ∧ w' = w := by
  refine (down_any 129 255 (by omega) w).mono ?_
  rintro e w' ⟨rfl, ⟨_, rfl⟩ | ⟨h, _⟩⟩
  · exact ⟨by rw [show downN 129 255 = 1 by decide], rfl⟩
  · exact absurd (show (1 : Int) ≤ 255 ∧ (255 : Int) ≤ 65535 by omega) h
theorem ycc_wk (w : World) : Calls Try.prog 16 #[.int .i64 255, .int .i64 0, .int .i64 0] w fun e w' => e = .returned (.tuple #[.int .i64 76, .int .i64 85, .int .i64 255]) ∧ Below w.heap.size w w' := by
  refine (ycc_any 255 0 0 w).mono ?_
  rintro e w' ⟨rfl, h⟩
  exact ⟨by unfold tri; rw [show yccI 255 0 0 = (76, 85, 255) by decide], h⟩
theorem rgb_wk (w : World) : Calls Try.prog 18 #[.int .i64 76, .int .i64 85, .int .i64 255] w fun e w' => e = .returned (.tuple #[.int .i64 254, .int .i64 0, .int .i64 0]) ∧ Below w.heap.size w w' := by
  refine (rgb_any 76 85 255 w).mono ?_
  rintro e w' ⟨rfl, h⟩
  exact ⟨by unfold tri; rw [show rgbI 76 85 255 = (254, 0, 0) by decide], h⟩
theorem luma_wk (w : World) : Calls Try.prog 14 #[.agg #[.int .u16 65535, .int .u16 0, .int .u16 0, .int .u16 0]] w fun e w' => e = .returned (.int .u16 19595) ∧ Below w.heap.size w w' := by
  refine (luma_any 65535 0 0 0 (by omega) (by omega) (by omega) w).mono ?_
  rintro e w' ⟨rfl, h⟩
  exact ⟨by rw [show lumS 65535 0 0 = 19595 by decide], h⟩
theorem near_wk (w : World) : Calls Try.prog 21 #[.slice none 0 0, .agg #[.int .u16 0, .int .u16 0, .int .u16 0, .int .u16 0]] w fun e w' => e = .returned (.int .i64 (-1)) ∧ Below w.heap.size w w' := by
  refine (nearest_any none 0 0 [] ⟨0, 0, 0, 0, by omega, by omega, by omega, by omega⟩ rfl (by omega) w Cs.nil_).mono ?_
  rintro e w' ⟨z, b, rfl, hn, h⟩
  have hz : z = -1 := hn.one (NearTo.zero _ _)
  exact ⟨by rw [hz], h⟩
set_option maxRecDepth 100000 in
set_option maxHeartbeats 1000000 in
theorem wakes_any (w : World) : Calls Try.prog 9 #[] w fun e w' => e = .returned (.bool true) ∧ Below w.heap.size w w' := by
  go_enter Try.func9, Try.ntmps9
  go_wp2_with fail
  refine (up_wk w).mono ?_
  rintro e w1 ⟨rfl, rfl⟩
  go_wp2_with fail
  refine (down_wk w1).mono ?_
  rintro e w2 ⟨rfl, rfl⟩
  go_wp2_with fail
  refine (ycc_wk w2).mono ?_
  rintro e w3 ⟨rfl, hb⟩
  have HB3 := Lib.hid hb
  clear hb
  go_wp2_with fail
  refine (rgb_wk w3).mono ?_
  rintro e w4 ⟨rfl, hb⟩
  have HB4 := Lib.hid (HB3.out.trans (hb.mono HB3.out.size))
  clear hb HB3
  go_wp2_with fail
  refine (luma_wk w4).mono ?_
  rintro e w5 ⟨rfl, hb⟩
  have HB5 := Lib.hid (HB4.out.trans (hb.mono HB4.out.size))
  clear hb HB4
  go_wp2_with fail
  refine (near_wk w5).mono ?_
  rintro e w6 ⟨rfl, hb⟩
  have HB6 := Lib.hid (HB5.out.trans (hb.mono HB5.out.size))
  clear hb HB5
  go_wp2_with fail
  go_ret
  exact ⟨rfl, HB6.out⟩
end Go.Proofs.Ytibgjklfbfahfaa
