/- What a byte is held against: mathematics; the small functions of package chunk. -/
import Derived.Test.YtaloieeemibblaaCo
import Derived.Test.YtaloieeemibblaaTl
set_option linter.unusedVariables false
set_option linter.unusedSimpArgs false
namespace Go.Proofs.Ytaloieeemibblaa
open Go.ChangeShapes Go.WideShapes Go.ChangeAt Go.RowKit

theorem ret_ik {k : IntKind} {a b : Int} (h : a = b) : Ending.returned (.int k a) = .returned (.int k b) := by rw [h]
def dst (a b c x : Nat) : Nat := ((x : Int) - ((a : Int) + b - c)).natAbs
def nr (a b c : Nat) : Nat → Nat
  | 0 => a
  | 1 => if dst a b c b < dst a b c a then b else a
  | _ => if dst a b c c < dst a b c (if dst a b c b < dst a b c a then b else a) then c else (if dst a b c b < dst a b c a then b else a)
def pae (a b c : Nat) : Nat := if dst a b c a ≤ dst a b c b ∧ dst a b c a ≤ dst a b c c then a else if dst a b c b ≤ dst a b c c then b else c
theorem nr_2 (a b c : Nat) : nr a b c 2 = if dst a b c c < dst a b c (if dst a b c b < dst a b c a then b else a) then c else (if dst a b c b < dst a b c a then b else a) := rfl
theorem nr_two (a b c : Nat) : nr a b c 2 = pae a b c := by
  rw [nr_2]
  unfold pae
  by_cases h1 : dst a b c b < dst a b c a
  · rw [if_pos h1]
    by_cases h2 : dst a b c c < dst a b c b
    · rw [if_pos h2, if_neg (by omega), if_neg (by omega)]
    · rw [if_neg h2, if_neg (by omega), if_pos (by omega)]
  · rw [if_neg h1]
    by_cases h2 : dst a b c c < dst a b c a
    · rw [if_pos h2, if_neg (by omega), if_neg (by omega)]
    · rw [if_neg h2, if_pos (by omega)]
theorem nr_lt {a b c : Nat} (ha : a < 256) (hb : b < 256) (hc : c < 256) (k : Nat) : nr a b c k < 256 := by
  rcases k with _ | _ | k <;> unfold nr <;> repeat' split
  all_goals omega
theorem pae_lt {a b c : Nat} (ha : a < 256) (hb : b < 256) (hc : c < 256) : pae a b c < 256 := by rw [← nr_two]; exact nr_lt ha hb hc 2
/-- What a filter takes from a byte. -/
def gsN (kind a b c : Nat) : Nat := if kind = 1 then a else if kind = 2 then b else if kind = 3 then (a + b) / 2 else if kind = 4 then pae a b c else 0
theorem gsN_lt {a b c : Nat} (kind : Nat) (ha : a < 256) (hb : b < 256) (hc : c < 256) : gsN kind a b c < 256 := by
  have := pae_lt ha hb hc
  unfold gsN
  repeat' split
  all_goals omega

set_option maxRecDepth 100000 in
theorem distance_any (x p : Int) (d : Nat) (hd : d = (x - p).natAbs) (h1 : -100000 ≤ x ∧ x ≤ 100000) (h2 : -100000 ≤ p ∧ p ≤ 100000) (w : World) :
    Calls Try.prog 66 #[.int .i64 x, .int .i64 p] w fun e w' => e = .returned (.int .i64 (d : Int)) ∧ w' = w := by
  obtain ⟨h3, h4⟩ := h1
  obtain ⟨h5, h6⟩ := h2
  go_enter Try.func66, Try.ntmps66
  go_wp2_with fail
  all_goals
    go_ret
    exact ⟨ret_ik (by omega), rfl⟩
set_option maxRecDepth 100000 in
theorem isCapital_any (x : Nat) (hx : x < 256) (w : World) : Calls Try.prog 47 #[.int .u8 (x : Int)] w fun e w' => e = .returned (.bool (decide (65 ≤ x ∧ x ≤ 90))) ∧ w' = w := by
  by_cases h1 : 65 ≤ x
  · by_cases h2 : x ≤ 90
    · have d : decide (65 ≤ x ∧ x ≤ 90) = true := decide_eq_true ⟨h1, h2⟩
      rw [d]
      go_enter Try.func47, Try.ntmps47
      go_wp2_with fail
      go_ret
      exact ⟨ret_bool (by simp; try omega), rfl⟩
    · have d : decide (65 ≤ x ∧ x ≤ 90) = false := decide_eq_false (by omega)
      rw [d]
      have i1 : 65 ≤ x := h1
      go_enter Try.func47, Try.ntmps47
      go_wp2_with fail
      go_ret
      exact ⟨ret_bool (by simp; try omega), rfl⟩
  · have d : decide (65 ≤ x ∧ x ≤ 90) = false := decide_eq_false (by omega)
    rw [d]
    go_enter Try.func47, Try.ntmps47
    go_wp2_with fail
    go_ret
    exact ⟨ret_bool (by simp; try omega), rfl⟩
set_option maxRecDepth 100000 in
theorem isSmall_any (x : Nat) (hx : x < 256) (w : World) : Calls Try.prog 61 #[.int .u8 (x : Int)] w fun e w' => e = .returned (.bool (decide (97 ≤ x ∧ x ≤ 122))) ∧ w' = w := by
  by_cases h1 : 97 ≤ x
  · by_cases h2 : x ≤ 122
    · have d : decide (97 ≤ x ∧ x ≤ 122) = true := decide_eq_true ⟨h1, h2⟩
      rw [d]
      go_enter Try.func61, Try.ntmps61
      go_wp2_with fail
      go_ret
      exact ⟨ret_bool (by simp; try omega), rfl⟩
    · have d : decide (97 ≤ x ∧ x ≤ 122) = false := decide_eq_false (by omega)
      rw [d]
      go_enter Try.func61, Try.ntmps61
      go_wp2_with fail
      go_ret
      exact ⟨ret_bool (by simp; try omega), rfl⟩
  · have d : decide (97 ≤ x ∧ x ≤ 122) = false := decide_eq_false (by omega)
    rw [d]
    go_enter Try.func61, Try.ntmps61
    go_wp2_with fail
    go_ret
    exact ⟨ret_bool (by simp; try omega), rfl⟩
/-- Which numbers may be. -/
def mayC (width bpp : Int) : Bool := decide (1 ≤ width) && (decide (width ≤ 1048576) && (decide (1 ≤ bpp) && decide (bpp ≤ 8)))
theorem mayC_yes {width bpp : Int} (h : mayC width bpp = true) : 1 ≤ width ∧ width ≤ 1048576 ∧ 1 ≤ bpp ∧ bpp ≤ 8 := by
  simp [mayC] at h; omega
set_option maxRecDepth 100000 in
theorem mayBe_any (width bpp : Int) (w : World) : Calls Try.prog 38 #[.int .i64 width, .int .i64 bpp] w fun e w' => e = .returned (.bool (mayC width bpp)) ∧ w' = w := by
  unfold mayC
  by_cases h1 : 1 ≤ width
  · by_cases h2 : width ≤ 1048576
    · by_cases h3 : 1 ≤ bpp
      · by_cases h4 : bpp ≤ 8
        all_goals
          go_enter Try.func38, Try.ntmps38
          go_wp2_with fail
          go_ret
          exact ⟨ret_bool (by simp [h1, h2, h3, h4]), rfl⟩
      · go_enter Try.func38, Try.ntmps38
        go_wp2_with fail
        go_ret
        exact ⟨ret_bool (by simp [h1, h2, h3]; try omega), rfl⟩
    · go_enter Try.func38, Try.ntmps38
      go_wp2_with fail
      go_ret
      exact ⟨ret_bool (by simp [h1, h2]; try omega), rfl⟩
  · go_enter Try.func38, Try.ntmps38
    go_wp2_with fail
    go_ret
    exact ⟨ret_bool (by simp [h1]; try omega), rfl⟩
end Go.Proofs.Ytaloieeemibblaa
