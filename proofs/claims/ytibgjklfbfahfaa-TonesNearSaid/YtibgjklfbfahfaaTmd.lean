/- Red, green and blue of luma and chroma: the program's and the document's, walked. -/
import Derived.Test.YtibgjklfbfahfaaTmc
namespace Go.Proofs.Ytibgjklfbfahfaa
open Go.ChangeShapes Go.WideShapes Go.ChangeAt Go.RowKit

set_option maxRecDepth 100000 in
set_option maxHeartbeats 1000000 in
theorem rgb_any (y cb cr : Int) (w : World) :
    Calls Try.prog 18 #[.int .i64 y, .int .i64 cb, .int .i64 cr] w fun e w' => e = tri (rgbI y cb cr) ∧ Below w.heap.size w w' := by
  go_enter Try.func18, Try.ntmps18
  go_wp2_with fail
  refine (clamp_any y w).mono ?_
  rintro e w1 ⟨rfl, rfl⟩
  go_wp2_with fail
  refine (clamp_any cb w1).mono ?_
  rintro e w2 ⟨rfl, rfl⟩
  go_wp2_with fail
  refine (clamp_any cr w2).mono ?_
  rintro e w3 ⟨rfl, rfl⟩
  have hr := clI_bd y
  have hg := clI_bd cb
  have hb := clI_bd cr
  have HY : Hid (rgbI y cb cr = (clI (redS (clI y) (clI cr - 128)), clI (greenS (clI y) (clI cb - 128) (clI cr - 128)), clI (blueS (clI y) (clI cb - 128)))) := Lib.hid rfl
  generalize clI y = a at *
  generalize clI cb = b at *
  generalize clI cr = c at *
  go_wp2_with fail
  refine (mix3_any (b - 128) (c - 128) 0 (by omega) (by omega) (by omega) w3).mono ?_
  rintro e w4 ⟨z, rfl, hz, hb4⟩
  have HZ : Hid (redS a (c - 128) = a + z) := Lib.hid (by unfold redS; rw [hz])
  have hz2 : -65536 ≤ z ∧ z ≤ 65536 := by omega
  clear hz
  go_wp2_with fail
  refine (mix4_any (b - 128) (c - 128) 0 (by omega) (by omega) (by omega) w4).mono ?_
  rintro e w5 ⟨z5, rfl, hz, hb5⟩
  have HZ5 : Hid (greenS a (b - 128) (c - 128) = a - z5) := Lib.hid (by unfold greenS; rw [hz])
  have hz5 : -65536 ≤ z5 ∧ z5 ≤ 65536 := by omega
  have hb5' := hb4.trans (hb5.mono hb4.size)
  clear hz hb4 hb5
  go_wp2_with fail
  refine (mix5_any (b - 128) (c - 128) 0 (by omega) (by omega) (by omega) w5).mono ?_
  rintro e w6 ⟨z6, rfl, hz, hb6⟩
  have HZ6 : Hid (blueS a (b - 128) = a + z6) := Lib.hid (by unfold blueS; rw [hz])
  have hz6 : -65536 * 4 ≤ z6 ∧ z6 ≤ 65536 * 4 := by omega
  have HB := Lib.hid (hb5'.trans (hb6.mono hb5'.size))
  clear hz hb5' hb6
  go_wp2_with fail
  refine (clamp_any (a + z) w6).mono ?_
  rintro e w7 ⟨rfl, rfl⟩
  go_wp2_with fail
  refine (clamp_any (a - z5) w7).mono ?_
  rintro e w8 ⟨rfl, rfl⟩
  go_wp2_with fail
  refine (clamp_any (a + z6) w8).mono ?_
  rintro e w9 ⟨rfl, rfl⟩
  go_wp2_with fail
  go_ret3
  exact ⟨by unfold tri; rw [HY.out, HZ.out, HZ5.out, HZ6.out]; rfl, HB.out⟩
set_option maxRecDepth 100000 in
set_option maxHeartbeats 1000000 in
theorem refRgb_any (y cb cr : Int) (w : World) :
    Calls Try.prog 19 #[.int .i64 y, .int .i64 cb, .int .i64 cr] w fun e w' => e = tri (rgbI y cb cr) ∧ w' = w := by
  go_enter Try.func19, Try.ntmps19
  go_wp2_with fail
  refine (refClamp_any y w).mono ?_
  rintro e w1 ⟨rfl, rfl⟩
  go_wp2_with fail
  refine (refClamp_any cb w1).mono ?_
  rintro e w2 ⟨rfl, rfl⟩
  go_wp2_with fail
  refine (refClamp_any cr w2).mono ?_
  rintro e w3 ⟨rfl, rfl⟩
  have hr := clI_bd y
  have hg := clI_bd cb
  have hb := clI_bd cr
  have HY : Hid (rgbI y cb cr = (clI (redS (clI y) (clI cr - 128)), clI (greenS (clI y) (clI cb - 128) (clI cr - 128)), clI (blueS (clI y) (clI cb - 128)))) := Lib.hid rfl
  generalize clI y = a at *
  generalize clI cb = b at *
  generalize clI cr = c at *
  go_wp2_with fail
  refine (refOver_any (91881 * (c - 128) + 32768) (by omega) w3).mono ?_
  rintro e w4 ⟨rfl, rfl⟩
  have HZ : Hid (redS a (c - 128) = a + (91881 * (c - 128) + 32768) / 65536) := Lib.hid rfl
  have hz2 : -65536 ≤ (91881 * (c - 128) + 32768) / 65536 ∧ (91881 * (c - 128) + 32768) / 65536 ≤ 65536 := by omega
  generalize (91881 * (c - 128) + 32768) / 65536 = z at *
  go_wp2_with fail
  refine (refOver_any (22554 * (b - 128) + 46802 * (c - 128) + 32768) (by omega) w4).mono ?_
  rintro e w5 ⟨rfl, rfl⟩
  have HZ5 : Hid (greenS a (b - 128) (c - 128) = a - (22554 * (b - 128) + 46802 * (c - 128) + 32768) / 65536) := Lib.hid rfl
  have hz5 : -65536 ≤ (22554 * (b - 128) + 46802 * (c - 128) + 32768) / 65536 ∧ (22554 * (b - 128) + 46802 * (c - 128) + 32768) / 65536 ≤ 65536 := by omega
  generalize (22554 * (b - 128) + 46802 * (c - 128) + 32768) / 65536 = z5 at *
  go_wp2_with fail
  refine (refOver_any (116130 * (b - 128) + 32768) (by omega) w5).mono ?_
  rintro e w6 ⟨rfl, rfl⟩
  have HZ6 : Hid (blueS a (b - 128) = a + (116130 * (b - 128) + 32768) / 65536) := Lib.hid rfl
  have hz6 : -65536 * 4 ≤ (116130 * (b - 128) + 32768) / 65536 ∧ (116130 * (b - 128) + 32768) / 65536 ≤ 65536 * 4 := by omega
  generalize (116130 * (b - 128) + 32768) / 65536 = z6 at *
  go_wp2_with fail
  refine (refClamp_any (a + z) w6).mono ?_
  rintro e w7 ⟨rfl, rfl⟩
  go_wp2_with fail
  refine (refClamp_any (a - z5) w7).mono ?_
  rintro e w8 ⟨rfl, rfl⟩
  go_wp2_with fail
  refine (refClamp_any (a + z6) w8).mono ?_
  rintro e w9 ⟨rfl, rfl⟩
  go_wp2_with fail
  go_ret3
  exact ⟨by unfold tri; rw [HY.out, HZ.out, HZ5.out, HZ6.out]; rfl, rfl⟩
end Go.Proofs.Ytibgjklfbfahfaa
