/- Depths; numbers brought into a range; quotients rounded down: the program's and the document's, walked. -/
import Derived.Test.YtibgjklfbfahfaaOp
import Derived.Test.YtibgjklfbfahfaaTma
import Derived.Lib.Hide
import Derived.Lib.Walk
import Derived.WalkKit
import Derived.WalkLawsBesides
import Derived.Handy
import Derived.Outline
namespace Go.Proofs.Ytibgjklfbfahfaa
open Go.ChangeShapes Go.WideShapes Go.ChangeAt Go.RowKit

theorem ret_bl {a b : Bool} (h : a = b) : Ending.returned (.bool a) = .returned (.bool b) := by rw [h]
theorem below_drewN {B : Nat} {w w' : World} (h : Below B w w') (n : Nat) : Below B w (w'.drewN n) := ⟨h.os, h.tape, h.output, h.size, h.block⟩

theorem clamp_any (n : Int) (w : World) : Calls Try.prog 26 #[.int .i64 n] w fun e w' => e = .returned (.int .i64 (clI n)) ∧ w' = w := by
  go_enter Try.func26, Try.ntmps26
  rcases Int.lt_or_le n 0 with h | h
  · have e1 : max n 0 = 0 := by omega
    rw [clI_lo h]
    go_wp2_with fail
    go_ret
    exact ⟨rfl, rfl⟩
  · rcases Int.lt_or_le 255 n with h2 | h2
    · have e1 : max n 0 = n := by omega
      have e2 : min n 255 = 255 := by omega
      rw [clI_hi h2]
      go_wp2_with fail
      go_ret
      exact ⟨rfl, rfl⟩
    · have e1 : max n 0 = n := by omega
      have e2 : min n 255 = n := by omega
      rw [clI_id h h2]
      go_wp2_with fail
      go_ret
      exact ⟨rfl, rfl⟩
theorem refClamp_any (n : Int) (w : World) : Calls Try.prog 27 #[.int .i64 n, .int .i64 255] w fun e w' => e = .returned (.int .i64 (clI n)) ∧ w' = w := by
  go_enter Try.func27, Try.ntmps27
  rcases Int.lt_or_le n 0 with h | h
  · rw [clI_lo h]
    go_wp2_with fail
    go_ret
    exact ⟨rfl, rfl⟩
  · rcases Int.lt_or_le 255 n with h2 | h2
    · rw [clI_hi h2]
      go_wp2_with fail
      go_ret
      exact ⟨rfl, rfl⟩
    · rw [clI_id h h2]
      go_wp2_with fail
      go_ret
      exact ⟨rfl, rfl⟩
theorem refOver_any (n : Int) (hn : -1000000000000 ≤ n ∧ n ≤ 1000000000000) (w : World) : Calls Try.prog 28 #[.int .i64 n, .int .i64 65536] w fun e w' => e = .returned (.int .i64 (n / 65536)) ∧ w' = w := by
  go_enter Try.func28, Try.ntmps28
  rcases Int.lt_or_le n 0 with h | h
  · have hq : n.tdiv 65536 = -((-n) / 65536) := by
      rw [← Int.tdiv_eq_ediv_of_nonneg (show 0 ≤ -n by omega), Int.neg_tdiv]; omega
    have hr : n.tmod 65536 = n - 65536 * n.tdiv 65536 := by have := Int.mul_tdiv_add_tmod n 65536; omega
    have hz : -1000000000000 ≤ n.tdiv 65536 ∧ n.tdiv 65536 ≤ 1000000000000 := by omega
    rcases Int.lt_or_le (n.tmod 65536) 0 with h2 | h2
    · have e1 : n.tdiv 65536 - 1 = n / 65536 := by omega
      clear hq hr
      go_wp2_with fail
      go_ret
      exact ⟨by rw [← e1]; rfl, rfl⟩
    · have e1 : n.tdiv 65536 = n / 65536 := by omega
      clear hq hr
      go_wp2_with fail
      go_ret
      exact ⟨by rw [← e1]; rfl, rfl⟩
  · have e1 : n.tdiv 65536 = n / 65536 := Int.tdiv_eq_ediv_of_nonneg h
    have h2 : 0 ≤ n.tmod 65536 := by rw [Int.tmod_eq_emod_of_nonneg h]; omega
    go_wp2_with fail
    go_ret
    exact ⟨by first | rfl | (rw [← e1]; rfl), rfl⟩
def mostB (m : Int) : Bool := decide (1 ≤ m) && decide (m ≤ 65535)
theorem mostB_true {m : Int} (h : mostB m = true) : 1 ≤ m ∧ m ≤ 65535 := by simpa [mostB] using h
theorem mostB_false {m : Int} (h : mostB m = false) : ¬ (1 ≤ m ∧ m ≤ 65535) := by simp [mostB] at h; omega
theorem most_any (m : Int) (w : World) : Calls Try.prog 24 #[.int .i64 m] w fun e w' => e = .returned (.bool (mostB m)) ∧ w' = w := by
  go_enter Try.func24, Try.ntmps24
  by_cases h1 : (1 : Int) ≤ m
  · go_wp2_with fail
    go_ret
    exact ⟨ret_bl (by simp [mostB, h1]), rfl⟩
  · go_wp2_with fail
    go_ret
    exact ⟨ret_bl (by simp [mostB]; omega), rfl⟩
/-- May v be brought from m to 65535? -/
def UpOk (v m : Int) : Prop := 1 ≤ m ∧ m ≤ 65535 ∧ 0 ≤ v ∧ v ≤ m
def UpR (v m : Int) (w : World) (e : Ending) (w' : World) : Prop :=
  w' = w ∧ ((UpOk v m ∧ e = .returned (.tuple #[.int .u16 (upN v m), .int .i64 0])) ∨ (¬ UpOk v m ∧ e = .returned (.tuple #[.int .u16 0, .int .i64 2])))
theorem up_any (v m : Int) (hv : -9223372036854775808 ≤ v ∧ v ≤ 9223372036854775807) (hm : -9223372036854775808 ≤ m ∧ m ≤ 9223372036854775807) (w : World) : Calls Try.prog 10 #[.int .i64 v, .int .i64 m] w (UpR v m w) := by
  go_enter Try.func10, Try.ntmps10
  go_wp2_with fail
  refine (most_any m w).mono ?_
  rintro e w1 ⟨rfl, rfl⟩
  cases hb : mostB m with
  | false =>
    have := mostB_false hb
    go_wp2_with fail
    go_ret2
    exact ⟨rfl, .inr ⟨fun h => this ⟨h.1, h.2.1⟩, rfl⟩⟩
  | true =>
    have hm2 := mostB_true hb
    rcases Int.lt_or_le v 0 with h | h
    · go_wp2_with fail
      go_ret2
      exact ⟨rfl, .inr ⟨fun hh => by have := hh.2.2.1; omega, rfl⟩⟩
    · rcases Int.lt_or_le m v with h2 | h2
      · go_wp2_with fail
        go_ret2
        exact ⟨rfl, .inr ⟨fun hh => by have := hh.2.2.2; omega, rfl⟩⟩
      · have hu := upN_bd h h2 hm2.1
        have e2 : m.tdiv 2 = m / 2 := Int.tdiv_eq_ediv_of_nonneg (by omega)
        have e3 : (65535 * v + m / 2).tdiv m = (65535 * v + m / 2) / m := Int.tdiv_eq_ediv_of_nonneg (by omega)
        have e4 : m ≠ 0 := by omega
        unfold upN at hu
        clear hb
        go_wp2_with fail
        go_ret2
        exact ⟨rfl, .inl ⟨⟨hm2.1, hm2.2, h, h2⟩, rfl⟩⟩
theorem refUp_any (v m : Int) (hv : -9223372036854775808 ≤ v ∧ v ≤ 9223372036854775807) (hm : -9223372036854775808 ≤ m ∧ m ≤ 9223372036854775807) (w : World) : Calls Try.prog 11 #[.int .i64 v, .int .i64 m] w (UpR v m w) := by
  go_enter Try.func11, Try.ntmps11
  by_cases hm2 : 1 ≤ m ∧ m ≤ 65535
  case neg =>
    rcases Int.lt_or_le m 1 with h1 | h1
    · go_wp2_with fail
      go_ret2
      exact ⟨rfl, .inr ⟨fun h => hm2 ⟨h.1, h.2.1⟩, rfl⟩⟩
    · have h1' : 65535 < m := by omega
      go_wp2_with fail
      go_ret2
      exact ⟨rfl, .inr ⟨fun h => hm2 ⟨h.1, h.2.1⟩, rfl⟩⟩
  case pos =>
    have a1 := hm2.1
    have a2 := hm2.2
    rcases Int.lt_or_le v 0 with h | h
    · go_wp2_with fail
      go_ret2
      exact ⟨rfl, .inr ⟨fun hh => by have := hh.2.2.1; omega, rfl⟩⟩
    · rcases Int.lt_or_le m v with h2 | h2
      · go_wp2_with fail
        go_ret2
        exact ⟨rfl, .inr ⟨fun hh => by have := hh.2.2.2; omega, rfl⟩⟩
      · have hu := upN_bd h h2 hm2.1
        have e2 : m.tdiv 2 = m / 2 := Int.tdiv_eq_ediv_of_nonneg (by omega)
        have e3 : (65535 * v + m / 2).tdiv m = (65535 * v + m / 2) / m := Int.tdiv_eq_ediv_of_nonneg (by omega)
        have e4 : m ≠ 0 := by omega
        unfold upN at hu
        go_wp2_with fail
        go_ret2
        exact ⟨rfl, .inl ⟨⟨hm2.1, hm2.2, h, h2⟩, rfl⟩⟩
def DownR (s m : Int) (w : World) (e : Ending) (w' : World) : Prop :=
  w' = w ∧ (((1 ≤ m ∧ m ≤ 65535) ∧ e = .returned (.tuple #[.int .i64 (downN s m), .int .i64 0])) ∨ (¬ (1 ≤ m ∧ m ≤ 65535) ∧ e = .returned (.tuple #[.int .i64 0, .int .i64 2])))
theorem down_mul {s m : Int} (hs : 0 ≤ s ∧ s ≤ 65535) (hm : 1 ≤ m ∧ m ≤ 65535) : 0 ≤ s * m ∧ s * m ≤ 4294836225 := by
  have h1 := Int.mul_nonneg hs.1 (show 0 ≤ m by omega)
  have h2 : s * m ≤ 65535 * 65535 := Int.mul_le_mul hs.2 hm.2 (by omega) (by omega)
  omega
theorem down_any (s m : Int) (hs : 0 ≤ s ∧ s ≤ 65535) (w : World) : Calls Try.prog 12 #[.int .u16 s, .int .i64 m] w (DownR s m w) := by
  go_enter Try.func12, Try.ntmps12
  go_wp2_with fail
  refine (most_any m w).mono ?_
  rintro e w1 ⟨rfl, rfl⟩
  cases hb : mostB m with
  | false =>
    have := mostB_false hb
    go_wp2_with fail
    go_ret2
    exact ⟨rfl, .inr ⟨this, rfl⟩⟩
  | true =>
    have hm2 := mostB_true hb
    have hp := down_mul hs hm2
    have e2 : (s * m + 32767).tdiv 65535 = (s * m + 32767) / 65535 := Int.tdiv_eq_ediv_of_nonneg (by omega)
    clear hb
    go_wp2_with fail
    go_ret2
    exact ⟨rfl, .inl ⟨hm2, rfl⟩⟩
theorem refDown_any (s m : Int) (hs : 0 ≤ s ∧ s ≤ 65535) (hm : -9223372036854775808 ≤ m ∧ m ≤ 9223372036854775807) (w : World) : Calls Try.prog 13 #[.int .u16 s, .int .i64 m] w (DownR s m w) := by
  go_enter Try.func13, Try.ntmps13
  by_cases hm2 : 1 ≤ m ∧ m ≤ 65535
  case neg =>
    rcases Int.lt_or_le m 1 with h1 | h1
    · go_wp2_with fail
      go_ret2
      exact ⟨rfl, .inr ⟨hm2, rfl⟩⟩
    · have h1' : 65535 < m := by omega
      go_wp2_with fail
      go_ret2
      exact ⟨rfl, .inr ⟨hm2, rfl⟩⟩
  case pos =>
    have a1 := hm2.1
    have a2 := hm2.2
    have hp := down_mul hs hm2
    have e2 : (s * m + 32767).tdiv 65535 = (s * m + 32767) / 65535 := Int.tdiv_eq_ediv_of_nonneg (by omega)
    go_wp2_with fail
    go_ret2
    exact ⟨rfl, .inl ⟨hm2, rfl⟩⟩
end Go.Proofs.Ytibgjklfbfahfaa
