/- Greys, luma and chroma: the program's and the document's, walked. -/
import Derived.Test.YtibgjklfbfahfaaTmb
import Derived.Test.YtibgjklfbfahfaaTmx
import Derived.Test.YtibgjklfbfahfaaTmy
import Derived.Test.YtibgjklfbfahfaaTmz
import Derived.Test.YtibgjklfbfahfaaTmw
namespace Go.Proofs.Ytibgjklfbfahfaa
open Go.ChangeShapes Go.WideShapes Go.ChangeAt Go.RowKit

def u16B (n : Int) : Prop := 0 ≤ n ∧ n ≤ 65535
def colV (r g b a : Int) : Value := .agg #[.int .u16 r, .int .u16 g, .int .u16 b, .int .u16 a]
set_option maxRecDepth 100000 in
theorem luma_any (r g b a : Int) (hr : 0 ≤ r ∧ r ≤ 65535) (hg : 0 ≤ g ∧ g ≤ 65535) (hb : 0 ≤ b ∧ b ≤ 65535) (w : World) :
    Calls Try.prog 14 #[.agg #[.int .u16 r, .int .u16 g, .int .u16 b, .int .u16 a]] w fun e w' => e = .returned (.int .u16 (lumS r g b)) ∧ Below w.heap.size w w' := by
  go_enter Try.func14, Try.ntmps14
  go_wp2_with fail
  have hb0 := (Below.refl w.heap.size w).alloc (Nat.le_refl _) (.cells #[.int .u16 r, .int .u16 g, .int .u16 b, .int .u16 a] 36)
  generalize w.alloc (.cells #[.int .u16 r, .int .u16 g, .int .u16 b, .int .u16 a] 36) = W0 at *
  refine (mix0_any r g b (by omega) (by omega) (by omega) W0).mono ?_
  rintro e w1 ⟨z, rfl, hz, hb1⟩
  have hz2 : 0 ≤ z ∧ z ≤ 65535 := by omega
  have HZ : Hid (lumS r g b = z) := Lib.hid (by unfold lumS; exact hz.symm)
  have HB := Lib.hid (hb0.trans (hb1.mono hb0.size))
  clear hz hb0 hb1
  go_wp2_with fail
  go_ret
  exact ⟨by rw [HZ.out]; rfl, HB.out⟩
set_option maxRecDepth 100000 in
theorem refLuma_any (r g b a : Int) (hr : 0 ≤ r ∧ r ≤ 65535) (hg : 0 ≤ g ∧ g ≤ 65535) (hb : 0 ≤ b ∧ b ≤ 65535) (w : World) :
    Calls Try.prog 15 #[.agg #[.int .u16 r, .int .u16 g, .int .u16 b, .int .u16 a]] w fun e w' => e = .returned (.int .u16 (lumS r g b)) ∧ Below w.heap.size w w' := by
  go_enter Try.func15, Try.ntmps15
  have e1 : (19595 * r + 38470 * g + 7471 * b + 32768).tdiv 65536 = (19595 * r + 38470 * g + 7471 * b + 32768) / 65536 := Int.tdiv_eq_ediv_of_nonneg (by omega)
  go_wp2_with fail
  go_ret
  exact ⟨rfl, (Below.refl _ _).alloc (Nat.le_refl _) _⟩
def tri (p : Int × Int × Int) : Ending := .returned (.tuple #[.int .i64 p.1, .int .i64 p.2.1, .int .i64 p.2.2])
set_option maxRecDepth 100000 in
set_option maxHeartbeats 1000000 in
theorem ycc_any (r g b : Int) (w : World) :
    Calls Try.prog 16 #[.int .i64 r, .int .i64 g, .int .i64 b] w fun e w' => e = tri (yccI r g b) ∧ Below w.heap.size w w' := by
  go_enter Try.func16, Try.ntmps16
  go_wp2_with fail
  refine (clamp_any r w).mono ?_
  rintro e w1 ⟨rfl, rfl⟩
  go_wp2_with fail
  refine (clamp_any g w1).mono ?_
  rintro e w2 ⟨rfl, rfl⟩
  go_wp2_with fail
  refine (clamp_any b w2).mono ?_
  rintro e w3 ⟨rfl, rfl⟩
  have hr := clI_bd r
  have hg := clI_bd g
  have hb := clI_bd b
  have HY : Hid (yccI r g b = (clI (lumS (clI r) (clI g) (clI b)), clI (cbS (clI r) (clI g) (clI b)), clI (crS (clI r) (clI g) (clI b)))) := Lib.hid rfl
  generalize clI r = x at *
  generalize clI g = y at *
  generalize clI b = u at *
  go_wp2_with fail
  refine (mix0_any x y u (by omega) (by omega) (by omega) w3).mono ?_
  rintro e w4 ⟨z, rfl, hz, hb4⟩
  have HZ : Hid (lumS x y u = z) := Lib.hid (by unfold lumS; exact hz.symm)
  have hz2 : -65536 ≤ z ∧ z ≤ 65536 := by omega
  clear hz
  go_wp2_with fail
  refine (mix1_any x y u (by omega) (by omega) (by omega) w4).mono ?_
  rintro e w5 ⟨z5, rfl, hz, hb5⟩
  have HZ5 : Hid (cbS x y u = 128 + z5) := Lib.hid (by unfold cbS; rw [hz, show 32768 * u - 11058 * x - 21710 * y + 32768 = -11058 * x + -21710 * y + 32768 * u + 32768 by omega])
  have hz5 : -65536 ≤ z5 ∧ z5 ≤ 65536 := by omega
  have hb5' := hb4.trans (hb5.mono hb4.size)
  clear hz hb4 hb5
  go_wp2_with fail
  refine (mix2_any x y u (by omega) (by omega) (by omega) w5).mono ?_
  rintro e w6 ⟨z6, rfl, hz, hb6⟩
  have HZ6 : Hid (crS x y u = 128 + z6) := Lib.hid (by unfold crS; rw [hz, show 32768 * x - 27439 * y - 5329 * u + 32768 = 32768 * x + -27439 * y + -5329 * u + 32768 by omega])
  have hz6 : -65536 ≤ z6 ∧ z6 ≤ 65536 := by omega
  have HB := Lib.hid (hb5'.trans (hb6.mono hb5'.size))
  clear hz hb5' hb6
  go_wp2_with fail
  refine (clamp_any z w6).mono ?_
  rintro e w7 ⟨rfl, rfl⟩
  go_wp2_with fail
  refine (clamp_any (128 + z5) w7).mono ?_
  rintro e w8 ⟨rfl, rfl⟩
  go_wp2_with fail
  refine (clamp_any (128 + z6) w8).mono ?_
  rintro e w9 ⟨rfl, rfl⟩
  go_wp2_with fail
  go_ret3
  exact ⟨by unfold tri; rw [HY.out, HZ.out, HZ5.out, HZ6.out]; rfl, HB.out⟩
set_option maxRecDepth 100000 in
set_option maxHeartbeats 1000000 in
theorem refYcc_any (r g b : Int) (w : World) :
    Calls Try.prog 17 #[.int .i64 r, .int .i64 g, .int .i64 b] w fun e w' => e = tri (yccI r g b) ∧ w' = w := by
  go_enter Try.func17, Try.ntmps17
  go_wp2_with fail
  refine (refClamp_any r w).mono ?_
  rintro e w1 ⟨rfl, rfl⟩
  go_wp2_with fail
  refine (refClamp_any g w1).mono ?_
  rintro e w2 ⟨rfl, rfl⟩
  go_wp2_with fail
  refine (refClamp_any b w2).mono ?_
  rintro e w3 ⟨rfl, rfl⟩
  have hr := clI_bd r
  have hg := clI_bd g
  have hb := clI_bd b
  have HY : Hid (yccI r g b = (clI (lumS (clI r) (clI g) (clI b)), clI (cbS (clI r) (clI g) (clI b)), clI (crS (clI r) (clI g) (clI b)))) := Lib.hid rfl
  generalize clI r = x at *
  generalize clI g = y at *
  generalize clI b = u at *
  go_wp2_with fail
  refine (refOver_any (19595 * x + 38470 * y + 7471 * u + 32768) (by omega) w3).mono ?_
  rintro e w4 ⟨rfl, rfl⟩
  have HZ : Hid (lumS x y u = (19595 * x + 38470 * y + 7471 * u + 32768) / 65536) := Lib.hid rfl
  generalize (19595 * x + 38470 * y + 7471 * u + 32768) / 65536 = z at *
  go_wp2_with fail
  refine (refOver_any (32768 * u - 11058 * x - 21710 * y + 8421376) (by omega) w4).mono ?_
  rintro e w5 ⟨rfl, rfl⟩
  have HZ5 : Hid (cbS x y u = (32768 * u - 11058 * x - 21710 * y + 8421376) / 65536) := Lib.hid (by unfold cbS; omega)
  generalize (32768 * u - 11058 * x - 21710 * y + 8421376) / 65536 = z5 at *
  go_wp2_with fail
  refine (refOver_any (32768 * x - 27439 * y - 5329 * u + 8421376) (by omega) w5).mono ?_
  rintro e w6 ⟨rfl, rfl⟩
  have HZ6 : Hid (crS x y u = (32768 * x - 27439 * y - 5329 * u + 8421376) / 65536) := Lib.hid (by unfold crS; omega)
  generalize (32768 * x - 27439 * y - 5329 * u + 8421376) / 65536 = z6 at *
  go_wp2_with fail
  refine (refClamp_any z w6).mono ?_
  rintro e w7 ⟨rfl, rfl⟩
  go_wp2_with fail
  refine (refClamp_any z5 w7).mono ?_
  rintro e w8 ⟨rfl, rfl⟩
  go_wp2_with fail
  refine (refClamp_any z6 w8).mono ?_
  rintro e w9 ⟨rfl, rfl⟩
  go_wp2_with fail
  go_ret3
  exact ⟨by unfold tri; rw [HY.out, HZ.out, HZ5.out, HZ6.out]; rfl, rfl⟩
end Go.Proofs.Ytibgjklfbfahfaa
