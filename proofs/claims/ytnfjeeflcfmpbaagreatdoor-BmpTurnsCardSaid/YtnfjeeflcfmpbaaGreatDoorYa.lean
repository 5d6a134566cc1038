/- Joined texts (a claim has at most 60 files): Tma Tmb Ya. -/
import Derived.WalkKit
import Derived.Test.YtnfjeeflcfmpbaaGreatDoorAs
import Derived.Lib.Hide
import Derived.Lib.Walk
import Derived.WalkLawsBesides
import Derived.Handy
import Derived.Outline
import Derived.Test.YtnfjeeflcfmpbaaGreatDoorTl
/- Mathematics of tones: samples of a depth there and back, luma and chroma there and back. No program is named here. -/
namespace Go.Proofs.YtnfjeeflcfmpbaaGreatDoor

/-- into 0 to 255 -/
def clI (n : Int) : Int := if n < 0 then 0 else if 255 < n then 255 else n
theorem clI_bd (n : Int) : 0 ≤ clI n ∧ clI n ≤ 255 := by unfold clI; split <;> (try split) <;> omega
theorem clI_id {n : Int} (h0 : 0 ≤ n) (h1 : n ≤ 255) : clI n = n := by unfold clI; rw [if_neg (by omega), if_neg (by omega)]
theorem clI_lo {n : Int} (h : n < 0) : clI n = 0 := by unfold clI; rw [if_pos h]
theorem clI_hi {n : Int} (h : 255 < n) : clI n = 255 := by unfold clI; rw [if_neg (by omega), if_pos h]
/-- a sample of v of most -/
def upN (v m : Int) : Int := (65535 * v + m / 2) / m
def downN (s m : Int) : Int := (s * m + 32767) / 65535
theorem upN_bd {v m : Int} (h0 : 0 ≤ v) (h1 : v ≤ m) (hm : 1 ≤ m) : 0 ≤ upN v m ∧ upN v m ≤ 65535 := by
  unfold upN
  constructor
  · exact Int.ediv_nonneg (by omega) (by omega)
  · have : (65535 * v + m / 2) / m < 65536 := Int.ediv_lt_of_lt_mul (by omega) (by omega)
    omega
theorem upN_sp {v m : Int} (hm : 1 ≤ m) : upN v m * m ≤ 65535 * v + m / 2 ∧ 65535 * v + m / 2 < upN v m * m + m := by
  unfold upN
  generalize hx : 65535 * v + m / 2 = x
  have h1 := Int.emod_add_mul_ediv x m
  have h2 := Int.emod_nonneg x (show m ≠ 0 by omega)
  have h3 := Int.emod_lt_of_pos x (show 0 < m by omega)
  rw [Int.mul_comm] at h1
  omega
theorem down_up {v m : Int} (hm : 1 ≤ m) (hm2 : m ≤ 65535) : downN (upN v m) m = v := by
  obtain ⟨h1, h2⟩ := upN_sp (v := v) hm
  unfold downN
  generalize upN v m * m = X at h1 h2 ⊢
  omega
theorem up_lt {v w m : Int} (hm : 1 ≤ m) (hm2 : m ≤ 65535) : (v < w) ↔ (upN v m < upN w m) := by
  have hv := down_up (v := v) hm hm2
  have hw := down_up (v := w) hm hm2
  have mono : ∀ a b : Int, a ≤ b → upN a m ≤ upN b m := fun a b h => by
    unfold upN
    exact Int.ediv_le_ediv (by omega) (by omega)
  have monod : ∀ a b : Int, a ≤ b → downN a m ≤ downN b m := fun a b h => by
    unfold downN
    have := Int.mul_le_mul_of_nonneg_right h (show 0 ≤ m by omega)
    omega
  constructor
  · intro h
    refine Int.not_le.1 fun hle => ?_
    have := monod _ _ hle
    rw [hv, hw] at this
    omega
  · intro h
    refine Int.not_le.1 fun hle => ?_
    have := mono _ _ hle
    omega
/-- luma and chroma, by sums -/
def lumS (r g b : Int) : Int := (19595 * r + 38470 * g + 7471 * b + 32768) / 65536
def cbS (r g b : Int) : Int := 128 + (32768 * b - 11058 * r - 21710 * g + 32768) / 65536
def crS (r g b : Int) : Int := 128 + (32768 * r - 27439 * g - 5329 * b + 32768) / 65536
def redS (y v : Int) : Int := y + (91881 * v + 32768) / 65536
def greenS (y u v : Int) : Int := y - (22554 * u + 46802 * v + 32768) / 65536
def blueS (y u : Int) : Int := y + (116130 * u + 32768) / 65536
def yccI (r g b : Int) : Int × Int × Int := (clI (lumS (clI r) (clI g) (clI b)), clI (cbS (clI r) (clI g) (clI b)), clI (crS (clI r) (clI g) (clI b)))
def rgbI (y cb cr : Int) : Int × Int × Int := (clI (redS (clI y) (clI cr - 128)), clI (greenS (clI y) (clI cb - 128) (clI cr - 128)), clI (blueS (clI y) (clI cb - 128)))
def nearB (a b : Int) : Prop := a - b ≤ 2 ∧ b - a ≤ 2
theorem clI_near {a b : Int} (h : nearB a b) (h0 : 0 ≤ b) (h1 : b ≤ 255) : nearB (clI a) b := by
  unfold nearB at h ⊢
  rcases Int.lt_or_le a 0 with h2 | h2
  · rw [clI_lo h2]; omega
  · rcases Int.lt_or_le 255 a with h3 | h3
    · rw [clI_hi h3]; omega
    · rw [clI_id h2 h3]; exact h
theorem lum_bd {r g b : Int} (hr : 0 ≤ r ∧ r ≤ 255) (hg : 0 ≤ g ∧ g ≤ 255) (hb : 0 ≤ b ∧ b ≤ 255) : 0 ≤ lumS r g b ∧ lumS r g b ≤ 255 := by unfold lumS; omega
/-- what is clamped is off by no more than rounding -/
theorem cb_sp {r g b : Int} (hr : 0 ≤ r ∧ r ≤ 255) (hg : 0 ≤ g ∧ g ≤ 255) (hb : 0 ≤ b ∧ b ≤ 255) :
    65536 * (clI (cbS r g b) - 128) ≤ 32768 * b - 11058 * r - 21710 * g + 32768 ∧ 32768 * b - 11058 * r - 21710 * g - 32768 ≤ 65536 * (clI (cbS r g b) - 128) := by
  rcases Int.lt_or_le 255 (cbS r g b) with h | h
  · rw [clI_hi h]; unfold cbS at h; omega
  · rw [clI_id (by unfold cbS; omega) h]; unfold cbS; omega
theorem cr_sp {r g b : Int} (hr : 0 ≤ r ∧ r ≤ 255) (hg : 0 ≤ g ∧ g ≤ 255) (hb : 0 ≤ b ∧ b ≤ 255) :
    65536 * (clI (crS r g b) - 128) ≤ 32768 * r - 27439 * g - 5329 * b + 32768 ∧ 32768 * r - 27439 * g - 5329 * b - 32768 ≤ 65536 * (clI (crS r g b) - 128) := by
  rcases Int.lt_or_le 255 (crS r g b) with h | h
  · rw [clI_hi h]; unfold crS at h; omega
  · rw [clI_id (by unfold crS; omega) h]; unfold crS; omega
theorem near_all {r g b : Int} (hr : 0 ≤ r ∧ r ≤ 255) (hg : 0 ≤ g ∧ g ≤ 255) (hb : 0 ≤ b ∧ b ≤ 255) :
    nearB (rgbI (yccI r g b).1 (yccI r g b).2.1 (yccI r g b).2.2).1 r ∧ nearB (rgbI (yccI r g b).1 (yccI r g b).2.1 (yccI r g b).2.2).2.1 g ∧ nearB (rgbI (yccI r g b).1 (yccI r g b).2.1 (yccI r g b).2.2).2.2 b := by
  have h1 := cb_sp hr hg hb
  have h2 := cr_sp hr hg hb
  have h3 : 65536 * lumS r g b ≤ 19595 * r + 38470 * g + 7471 * b + 32768 ∧ 19595 * r + 38470 * g + 7471 * b - 32768 ≤ 65536 * lumS r g b := by unfold lumS; omega
  have h4 := lum_bd hr hg hb
  have e1 : clI (lumS r g b) = lumS r g b := clI_id h4.1 h4.2
  have i1 : ∀ n, clI (clI n) = clI n := fun n => clI_id (clI_bd n).1 (clI_bd n).2
  simp only [yccI, rgbI, clI_id hr.1 hr.2, clI_id hg.1 hg.2, clI_id hb.1 hb.2, i1, e1]
  generalize clI (cbS r g b) - 128 = u at h1
  generalize clI (crS r g b) - 128 = v at h2
  generalize lumS r g b = y at h3 h4
  refine ⟨clI_near ?_ hr.1 hr.2, clI_near ?_ hg.1 hg.2, clI_near ?_ hb.1 hb.2⟩
  · unfold nearB redS
    have q1 : 91881 * v + 32768 - 65535 ≤ 65536 * ((91881 * v + 32768) / 65536) ∧ 65536 * ((91881 * v + 32768) / 65536) ≤ 91881 * v + 32768 := by omega
    generalize (91881 * v + 32768) / 65536 = q at q1 ⊢
    omega
  · unfold nearB greenS
    have q1 : 22554 * u + 46802 * v + 32768 - 65535 ≤ 65536 * ((22554 * u + 46802 * v + 32768) / 65536) ∧ 65536 * ((22554 * u + 46802 * v + 32768) / 65536) ≤ 22554 * u + 46802 * v + 32768 := by omega
    generalize (22554 * u + 46802 * v + 32768) / 65536 = q at q1 ⊢
    omega
  · unfold nearB blueS
    have q1 : 116130 * u + 32768 - 65535 ≤ 65536 * ((116130 * u + 32768) / 65536) ∧ 65536 * ((116130 * u + 32768) / 65536) ≤ 116130 * u + 32768 := by omega
    generalize (116130 * u + 32768) / 65536 = q at q1 ⊢
    omega
end Go.Proofs.YtnfjeeflcfmpbaaGreatDoor

/- Depths; numbers brought into a range; quotients rounded down: the program's and the document's, walked. -/
namespace Go.Proofs.YtnfjeeflcfmpbaaGreatDoor
open Go.ChangeShapes Go.WideShapes Go.ChangeAt Go.RowKit

theorem ret_bl {a b : Bool} (h : a = b) : Ending.returned (.bool a) = .returned (.bool b) := by rw [h]
theorem below_drewN {B : Nat} {w w' : World} (h : Below B w w') (n : Nat) : Below B w (w'.drewN n) := ⟨h.os, h.tape, h.output, h.size, h.block⟩

def mostB (m : Int) : Bool := decide (1 ≤ m) && decide (m ≤ 65535)
theorem mostB_true {m : Int} (h : mostB m = true) : 1 ≤ m ∧ m ≤ 65535 := by simpa [mostB] using h
theorem mostB_false {m : Int} (h : mostB m = false) : ¬ (1 ≤ m ∧ m ≤ 65535) := by simp [mostB] at h; omega
theorem most_any (m : Int) (w : World) : Calls Tryz.prog 126 #[.int .i64 m] w fun e w' => e = .returned (.bool (mostB m)) ∧ w' = w := by
  go_enter Tryz.func126, Tryz.ntmps126
  by_cases h1 : (1 : Int) ≤ m
  · go_wp2_with fail
    go_ret
    exact ⟨ret_bl (by simp [mostB, h1]), rfl⟩
  · go_wp2_with fail
    go_ret
    exact ⟨ret_bl (by simp [mostB]; omega), rfl⟩
/-- May v be brought from m to 65535? -/
def UpOk (v m : Int) : Prop := 1 ≤ m ∧ m ≤ 65535 ∧ 0 ≤ v ∧ v ≤ m
def UpR (v m : Int) (w : World) (e : Ending) (w' : World) : Prop :=
  w' = w ∧ ((UpOk v m ∧ e = .returned (.tuple #[.int .u16 (upN v m), .int .i64 0])) ∨ (¬ UpOk v m ∧ e = .returned (.tuple #[.int .u16 0, .int .i64 2])))
theorem up_any (v m : Int) (hv : -9223372036854775808 ≤ v ∧ v ≤ 9223372036854775807) (hm : -9223372036854775808 ≤ m ∧ m ≤ 9223372036854775807) (w : World) : Calls Tryz.prog 118 #[.int .i64 v, .int .i64 m] w (UpR v m w) := by
  go_enter Tryz.func118, Tryz.ntmps118
  go_wp2_with fail
  refine (most_any m w).mono ?_
  rintro e w1 ⟨rfl, rfl⟩
  cases hb : mostB m with
  | false =>
    have := mostB_false hb
    go_wp2_with fail
    go_ret2
    exact ⟨rfl, .inr ⟨fun h => this ⟨h.1, h.2.1⟩, rfl⟩⟩
  | true =>
    have hm2 := mostB_true hb
    rcases Int.lt_or_le v 0 with h | h
    · go_wp2_with fail
      go_ret2
      exact ⟨rfl, .inr ⟨fun hh => by have := hh.2.2.1; omega, rfl⟩⟩
    · rcases Int.lt_or_le m v with h2 | h2
      · go_wp2_with fail
        go_ret2
        exact ⟨rfl, .inr ⟨fun hh => by have := hh.2.2.2; omega, rfl⟩⟩
      · have hu := upN_bd h h2 hm2.1
        have e2 : m.tdiv 2 = m / 2 := Int.tdiv_eq_ediv_of_nonneg (by omega)
        have e3 : (65535 * v + m / 2).tdiv m = (65535 * v + m / 2) / m := Int.tdiv_eq_ediv_of_nonneg (by omega)
        have e4 : m ≠ 0 := by omega
        unfold upN at hu
        clear hb
        go_wp2_with fail
        go_ret2
        exact ⟨rfl, .inl ⟨⟨hm2.1, hm2.2, h, h2⟩, rfl⟩⟩
theorem refUp_any (v m : Int) (hv : -9223372036854775808 ≤ v ∧ v ≤ 9223372036854775807) (hm : -9223372036854775808 ≤ m ∧ m ≤ 9223372036854775807) (w : World) : Calls Tryz.prog 45 #[.int .i64 v, .int .i64 m] w (UpR v m w) := by
  go_enter Tryz.func45, Tryz.ntmps45
  by_cases hm2 : 1 ≤ m ∧ m ≤ 65535
  case neg =>
    rcases Int.lt_or_le m 1 with h1 | h1
    · go_wp2_with fail
      go_ret2
      exact ⟨rfl, .inr ⟨fun h => hm2 ⟨h.1, h.2.1⟩, rfl⟩⟩
    · have h1' : 65535 < m := by omega
      go_wp2_with fail
      go_ret2
      exact ⟨rfl, .inr ⟨fun h => hm2 ⟨h.1, h.2.1⟩, rfl⟩⟩
  case pos =>
    have a1 := hm2.1
    have a2 := hm2.2
    rcases Int.lt_or_le v 0 with h | h
    · go_wp2_with fail
      go_ret2
      exact ⟨rfl, .inr ⟨fun hh => by have := hh.2.2.1; omega, rfl⟩⟩
    · rcases Int.lt_or_le m v with h2 | h2
      · go_wp2_with fail
        go_ret2
        exact ⟨rfl, .inr ⟨fun hh => by have := hh.2.2.2; omega, rfl⟩⟩
      · have hu := upN_bd h h2 hm2.1
        have e2 : m.tdiv 2 = m / 2 := Int.tdiv_eq_ediv_of_nonneg (by omega)
        have e3 : (65535 * v + m / 2).tdiv m = (65535 * v + m / 2) / m := Int.tdiv_eq_ediv_of_nonneg (by omega)
        have e4 : m ≠ 0 := by omega
        unfold upN at hu
        go_wp2_with fail
        go_ret2
        exact ⟨rfl, .inl ⟨⟨hm2.1, hm2.2, h, h2⟩, rfl⟩⟩
def DownR (s m : Int) (w : World) (e : Ending) (w' : World) : Prop :=
  w' = w ∧ (((1 ≤ m ∧ m ≤ 65535) ∧ e = .returned (.tuple #[.int .i64 (downN s m), .int .i64 0])) ∨ (¬ (1 ≤ m ∧ m ≤ 65535) ∧ e = .returned (.tuple #[.int .i64 0, .int .i64 2])))
theorem down_mul {s m : Int} (hs : 0 ≤ s ∧ s ≤ 65535) (hm : 1 ≤ m ∧ m ≤ 65535) : 0 ≤ s * m ∧ s * m ≤ 4294836225 := by
  have h1 := Int.mul_nonneg hs.1 (show 0 ≤ m by omega)
  have h2 : s * m ≤ 65535 * 65535 := Int.mul_le_mul hs.2 hm.2 (by omega) (by omega)
  omega
theorem down_any (s m : Int) (hs : 0 ≤ s ∧ s ≤ 65535) (w : World) : Calls Tryz.prog 114 #[.int .u16 s, .int .i64 m] w (DownR s m w) := by
  go_enter Tryz.func114, Tryz.ntmps114
  go_wp2_with fail
  refine (most_any m w).mono ?_
  rintro e w1 ⟨rfl, rfl⟩
  cases hb : mostB m with
  | false =>
    have := mostB_false hb
    go_wp2_with fail
    go_ret2
    exact ⟨rfl, .inr ⟨this, rfl⟩⟩
  | true =>
    have hm2 := mostB_true hb
    have hp := down_mul hs hm2
    have e2 : (s * m + 32767).tdiv 65535 = (s * m + 32767) / 65535 := Int.tdiv_eq_ediv_of_nonneg (by omega)
    clear hb
    go_wp2_with fail
    go_ret2
    exact ⟨rfl, .inl ⟨hm2, rfl⟩⟩
theorem refDown_any (s m : Int) (hs : 0 ≤ s ∧ s ≤ 65535) (hm : -9223372036854775808 ≤ m ∧ m ≤ 9223372036854775807) (w : World) : Calls Tryz.prog 44 #[.int .u16 s, .int .i64 m] w (DownR s m w) := by
  go_enter Tryz.func44, Tryz.ntmps44
  by_cases hm2 : 1 ≤ m ∧ m ≤ 65535
  case neg =>
    rcases Int.lt_or_le m 1 with h1 | h1
    · go_wp2_with fail
      go_ret2
      exact ⟨rfl, .inr ⟨hm2, rfl⟩⟩
    · have h1' : 65535 < m := by omega
      go_wp2_with fail
      go_ret2
      exact ⟨rfl, .inr ⟨hm2, rfl⟩⟩
  case pos =>
    have a1 := hm2.1
    have a2 := hm2.2
    have hp := down_mul hs hm2
    have e2 : (s * m + 32767).tdiv 65535 = (s * m + 32767) / 65535 := Int.tdiv_eq_ediv_of_nonneg (by omega)
    go_wp2_with fail
    go_ret2
    exact ⟨rfl, .inl ⟨hm2, rfl⟩⟩
end Go.Proofs.YtnfjeeflcfmpbaaGreatDoor

/- Plain BMP, written: the bytes of a row. No program, no memory. -/
set_option linter.unusedVariables false
set_option linter.unusedSimpArgs false
namespace Go.Proofs.YtnfjeeflcfmpbaaGreatDoor

/-- A sample of eight bits. -/
def dn8 (s : Int) : UInt8 := UInt8.ofNat (downN s 255).toNat
theorem down_bd {s : Int} (h : 0 ≤ s ∧ s ≤ 65535) : 0 ≤ downN s 255 ∧ downN s 255 ≤ 255 := by
  unfold downN
  omega
theorem dn8_nat {s : Int} (h : 0 ≤ s ∧ s ≤ 65535) : ((dn8 s).toNat : Int) = downN s 255 := by
  have := down_bd h
  unfold dn8
  rw [UInt8.toNat_ofNat']
  omega
/-- What a pixel is in a file. -/
def pxB (al : Bool) (r g b a : Int) : List UInt8 := if al then [dn8 b, dn8 g, dn8 r, dn8 a] else [dn8 b, dn8 g, dn8 r]
def pxN (al : Bool) : Nat := if al then 4 else 3
def dep (al : Bool) : Nat := if al then 32 else 24
theorem dep_px (al : Bool) : dep al = 8 * pxN al := by cases al <;> rfl
theorem pxB_length (al : Bool) (r g b a : Int) : (pxB al r g b a).length = pxN al := by cases al <;> rfl
def rowN (al : Bool) (W : Nat) : Nat := (W * dep al + 31) / 32 * 4
/-- The bits of bytes, of each the lowest one first. -/
def bitsB : List UInt8 → List Bool
  | [] => []
  | x :: l => bitsOf false x.toNat 8 ++ bitsB l
theorem bitsB_length : ∀ l, (bitsB l).length = 8 * l.length
  | [] => rfl
  | x :: l => by simp only [bitsB, List.length_append, bitsOf_length, bitsB_length l, List.length_cons]; omega
theorem bitsB_append : ∀ a b, bitsB (a ++ b) = bitsB a ++ bitsB b
  | [], _ => rfl
  | x :: a, b => by simp only [List.cons_append, bitsB, bitsB_append a b, List.append_assoc]
theorem bitsB_get : ∀ (l : List UInt8) (i : Nat), ((bitsB l)[i]?).getD false = bitAt l false i
  | [], i => by simp [bitsB, bitAt]
  | x :: l, i => by
    rw [bitsB]
    by_cases h : i < 8
    · rw [List.getElem?_append_left (by rw [bitsOf_length]; exact h), bitsOf_get false _ _ _ h]
      unfold bitAt
      rw [show i / 8 = 0 from by omega, show i % 8 = i from by omega]
      simp
    · rw [List.getElem?_append_right (by rw [bitsOf_length]; omega), bitsOf_length, bitsB_get l (i - 8)]
      unfold bitAt
      rw [show i / 8 = (i - 8) / 8 + 1 from by omega, show i % 8 = (i - 8) % 8 from by omega]
      simp
theorem packed_bytes (l : List UInt8) : Packed false (bitsB l) l := ⟨by rw [bitsB_length]; omega, fun i => (bitsB_get l i).symm⟩
theorem bitsOf_split (v m n : Nat) : bitsOf false v (m + n) = bitsOf false v m ++ bitsOf false (v >>> m) n := by
  unfold bitsOf
  rw [List.range_add, List.map_append, List.map_map]
  congr 1
  apply List.map_congr_left
  intro i _
  simp [Nat.testBit_shiftRight]
theorem bitsOf_mod (v : Nat) : bitsOf false v 8 = bitsOf false (v % 256) 8 := by
  unfold bitsOf
  apply List.map_congr_left
  intro i hi
  have := List.mem_range.1 hi
  show v.testBit i = (v % 2 ^ 8).testBit i
  rw [Nat.testBit_mod_two_pow]
  simp [this]
theorem bitsOf_one (v : Nat) (x : UInt8) (h : v % 256 = x.toNat) : bitsOf false v 8 = bitsOf false x.toNat 8 := by rw [bitsOf_mod, h]
theorem app_eq {α : Type} {a b c d : List α} (h : a = c) (k : b = d) : a ++ b = c ++ d := by rw [h, k]
/-- A pixel's number. -/
def pxV (al : Bool) (r g b a : Int) : Nat := (dn8 b).toNat + 256 * (dn8 g).toNat + 65536 * (dn8 r).toNat + if al then 16777216 * (dn8 a).toNat else 0
theorem pxV_lt (al : Bool) (r g b a : Int) : pxV al r g b a < 4294967296 := by
  unfold pxV
  have h1 := (dn8 r).toNat_lt; have h2 := (dn8 g).toNat_lt; have h3 := (dn8 b).toNat_lt; have h4 := (dn8 a).toNat_lt
  cases al <;> simp <;> omega
theorem pxV_bits (al : Bool) (r g b a : Int) : bitsOf false (pxV al r g b a) (dep al) = bitsB (pxB al r g b a) := by
  have h1 := (dn8 r).toNat_lt; have h2 := (dn8 g).toNat_lt; have h3 := (dn8 b).toNat_lt; have h4 := (dn8 a).toNat_lt
  cases al
  · show bitsOf false _ (8 + (8 + 8)) = bitsOf false _ 8 ++ (bitsOf false _ 8 ++ (bitsOf false _ 8 ++ []))
    rw [bitsOf_split, bitsOf_split, List.append_nil]
    simp only [Nat.shiftRight_eq_div_pow, pxV]
    exact app_eq (bitsOf_one _ _ (by simp; omega)) (app_eq (bitsOf_one _ _ (by simp; omega)) (bitsOf_one _ _ (by simp; omega)))
  · show bitsOf false _ (8 + (8 + (8 + 8))) = bitsOf false _ 8 ++ (bitsOf false _ 8 ++ (bitsOf false _ 8 ++ (bitsOf false _ 8 ++ [])))
    rw [bitsOf_split, bitsOf_split, bitsOf_split, List.append_nil]
    simp only [Nat.shiftRight_eq_div_pow, pxV]
    exact app_eq (bitsOf_one _ _ (by simp; omega)) (app_eq (bitsOf_one _ _ (by simp; omega)) (app_eq (bitsOf_one _ _ (by simp; omega)) (bitsOf_one _ _ (by simp; omega))))
/-- Numbers that are laid side by side. -/
theorem or_side (a b s : Nat) (ha : a < 2 ^ s) : a ||| (b * 2 ^ s) = a + b * 2 ^ s := by
  rw [Nat.or_comm, ← Nat.shiftLeft_eq, ← Nat.shiftLeft_add_eq_or_of_lt ha, Nat.add_comm]
end Go.Proofs.YtnfjeeflcfmpbaaGreatDoor
