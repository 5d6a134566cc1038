/- Mathematics of tones: samples of a depth there and back, luma and chroma there and back. No program is named here. -/
import Derived.WalkKit
namespace Go.Proofs.Ytibgjklfbfahfaa

/-- into 0 to 255 -/
def clI (n : Int) : Int := if n < 0 then 0 else if 255 < n then 255 else n
theorem clI_bd (n : Int) : 0 ≤ clI n ∧ clI n ≤ 255 := by unfold clI; split <;> (try split) <;> omega
theorem clI_id {n : Int} (h0 : 0 ≤ n) (h1 : n ≤ 255) : clI n = n := by unfold clI; rw [if_neg (by omega), if_neg (by omega)]
theorem clI_lo {n : Int} (h : n < 0) : clI n = 0 := by unfold clI; rw [if_pos h]
theorem clI_hi {n : Int} (h : 255 < n) : clI n = 255 := by unfold clI; rw [if_neg (by omega), if_pos h]
/-- a sample of v of most -/
def upN (v m : Int) : Int := (65535 * v + m / 2) / m
def downN (s m : Int) : Int := (s * m + 32767) / 65535
theorem upN_bd {v m : Int} (h0 : 0 ≤ v) (h1 : v ≤ m) (hm : 1 ≤ m) : 0 ≤ upN v m ∧ upN v m ≤ 65535 := by
  unfold upN
  constructor
  · exact Int.ediv_nonneg (by omega) (by omega)
  · have : (65535 * v + m / 2) / m < 65536 := Int.ediv_lt_of_lt_mul (by omega) (by omega)
    omega
theorem upN_sp {v m : Int} (hm : 1 ≤ m) : upN v m * m ≤ 65535 * v + m / 2 ∧ 65535 * v + m / 2 < upN v m * m + m := by
  unfold upN
  generalize hx : 65535 * v + m / 2 = x
  have h1 := Int.emod_add_mul_ediv x m
  have h2 := Int.emod_nonneg x (show m ≠ 0 by omega)
  have h3 := Int.emod_lt_of_pos x (show 0 < m by omega)
  rw [Int.mul_comm] at h1
  omega
theorem down_up {v m : Int} (hm : 1 ≤ m) (hm2 : m ≤ 65535) : downN (upN v m) m = v := by
  obtain ⟨h1, h2⟩ := upN_sp (v := v) hm
  unfold downN
  generalize upN v m * m = X at h1 h2 ⊢
  omega
theorem up_lt {v w m : Int} (hm : 1 ≤ m) (hm2 : m ≤ 65535) : (v < w) ↔ (upN v m < upN w m) := by
  have hv := down_up (v := v) hm hm2
  have hw := down_up (v := w) hm hm2
  have mono : ∀ a b : Int, a ≤ b → upN a m ≤ upN b m := fun a b h => by
    unfold upN
    exact Int.ediv_le_ediv (by omega) (by omega)
  have monod : ∀ a b : Int, a ≤ b → downN a m ≤ downN b m := fun a b h => by
    unfold downN
    have := Int.mul_le_mul_of_nonneg_right h (show 0 ≤ m by omega)
    omega
  constructor
  · intro h
    refine Int.not_le.1 fun hle => ?_
    have := monod _ _ hle
    rw [hv, hw] at this
    omega
  · intro h
    refine Int.not_le.1 fun hle => ?_
    have := mono _ _ hle
    omega
/-- luma and chroma, by sums -/
def lumS (r g b : Int) : Int := (19595 * r + 38470 * g + 7471 * b + 32768) / 65536
def cbS (r g b : Int) : Int := 128 + (32768 * b - 11058 * r - 21710 * g + 32768) / 65536
def crS (r g b : Int) : Int := 128 + (32768 * r - 27439 * g - 5329 * b + 32768) / 65536
def redS (y v : Int) : Int := y + (91881 * v + 32768) / 65536
def greenS (y u v : Int) : Int := y - (22554 * u + 46802 * v + 32768) / 65536
def blueS (y u : Int) : Int := y + (116130 * u + 32768) / 65536
def yccI (r g b : Int) : Int × Int × Int := (clI (lumS (clI r) (clI g) (clI b)), clI (cbS (clI r) (clI g) (clI b)), clI (crS (clI r) (clI g) (clI b)))
def rgbI (y cb cr : Int) : Int × Int × Int := (clI (redS (clI y) (clI cr - 128)), clI (greenS (clI y) (clI cb - 128) (clI cr - 128)), clI (blueS (clI y) (clI cb - 128)))
def nearB (a b : Int) : Prop := a - b ≤ 2 ∧ b - a ≤ 2
theorem clI_near {a b : Int} (h : nearB a b) (h0 : 0 ≤ b) (h1 : b ≤ 255) : nearB (clI a) b := by
  unfold nearB at h ⊢
  rcases Int.lt_or_le a 0 with h2 | h2
  · rw [clI_lo h2]; omega
  · rcases Int.lt_or_le 255 a with h3 | h3
    · rw [clI_hi h3]; omega
    · rw [clI_id h2 h3]; exact h
theorem lum_bd {r g b : Int} (hr : 0 ≤ r ∧ r ≤ 255) (hg : 0 ≤ g ∧ g ≤ 255) (hb : 0 ≤ b ∧ b ≤ 255) : 0 ≤ lumS r g b ∧ lumS r g b ≤ 255 := by unfold lumS; omega
/-- what is clamped is off by no more than rounding -/
theorem cb_sp {r g b : Int} (hr : 0 ≤ r ∧ r ≤ 255) (hg : 0 ≤ g ∧ g ≤ 255) (hb : 0 ≤ b ∧ b ≤ 255) :
    65536 * (clI (cbS r g b) - 128) ≤ 32768 * b - 11058 * r - 21710 * g + 32768 ∧ 32768 * b - 11058 * r - 21710 * g - 32768 ≤ 65536 * (clI (cbS r g b) - 128) := by
  rcases Int.lt_or_le 255 (cbS r g b) with h | h
  · rw [clI_hi h]; unfold cbS at h; omega
  · rw [clI_id (by unfold cbS; omega) h]; unfold cbS; omega
theorem cr_sp {r g b : Int} (hr : 0 ≤ r ∧ r ≤ 255) (hg : 0 ≤ g ∧ g ≤ 255) (hb : 0 ≤ b ∧ b ≤ 255) :
    65536 * (clI (crS r g b) - 128) ≤ 32768 * r - 27439 * g - 5329 * b + 32768 ∧ 32768 * r - 27439 * g - 5329 * b - 32768 ≤ 65536 * (clI (crS r g b) - 128) := by
  rcases Int.lt_or_le 255 (crS r g b) with h | h
  · rw [clI_hi h]; unfold crS at h; omega
  · rw [clI_id (by unfold crS; omega) h]; unfold crS; omega
theorem near_all {r g b : Int} (hr : 0 ≤ r ∧ r ≤ 255) (hg : 0 ≤ g ∧ g ≤ 255) (hb : 0 ≤ b ∧ b ≤ 255) :
    nearB (rgbI (yccI r g b).1 (yccI r g b).2.1 (yccI r g b).2.2).1 r ∧ nearB (rgbI (yccI r g b).1 (yccI r g b).2.1 (yccI r g b).2.2).2.1 g ∧ nearB (rgbI (yccI r g b).1 (yccI r g b).2.1 (yccI r g b).2.2).2.2 b := by
  have h1 := cb_sp hr hg hb
  have h2 := cr_sp hr hg hb
  have h3 : 65536 * lumS r g b ≤ 19595 * r + 38470 * g + 7471 * b + 32768 ∧ 19595 * r + 38470 * g + 7471 * b - 32768 ≤ 65536 * lumS r g b := by unfold lumS; omega
  have h4 := lum_bd hr hg hb
  have e1 : clI (lumS r g b) = lumS r g b := clI_id h4.1 h4.2
  have i1 : ∀ n, clI (clI n) = clI n := fun n => clI_id (clI_bd n).1 (clI_bd n).2
  simp only [yccI, rgbI, clI_id hr.1 hr.2, clI_id hg.1 hg.2, clI_id hb.1 hb.2, i1, e1]
  generalize clI (cbS r g b) - 128 = u at h1
  generalize clI (crS r g b) - 128 = v at h2
  generalize lumS r g b = y at h3 h4
  refine ⟨clI_near ?_ hr.1 hr.2, clI_near ?_ hg.1 hg.2, clI_near ?_ hb.1 hb.2⟩
  · unfold nearB redS
    have q1 : 91881 * v + 32768 - 65535 ≤ 65536 * ((91881 * v + 32768) / 65536) ∧ 65536 * ((91881 * v + 32768) / 65536) ≤ 91881 * v + 32768 := by omega
    generalize (91881 * v + 32768) / 65536 = q at q1 ⊢
    omega
  · unfold nearB greenS
    have q1 : 22554 * u + 46802 * v + 32768 - 65535 ≤ 65536 * ((22554 * u + 46802 * v + 32768) / 65536) ∧ 65536 * ((22554 * u + 46802 * v + 32768) / 65536) ≤ 22554 * u + 46802 * v + 32768 := by omega
    generalize (22554 * u + 46802 * v + 32768) / 65536 = q at q1 ⊢
    omega
  · unfold nearB blueS
    have q1 : 116130 * u + 32768 - 65535 ≤ 65536 * ((116130 * u + 32768) / 65536) ∧ 65536 * ((116130 * u + 32768) / 65536) ≤ 116130 * u + 32768 := by omega
    generalize (116130 * u + 32768) / 65536 = q at q1 ⊢
    omega
end Go.Proofs.Ytibgjklfbfahfaa
