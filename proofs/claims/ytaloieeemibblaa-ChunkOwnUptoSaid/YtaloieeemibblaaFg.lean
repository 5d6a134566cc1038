/- Critical, both sides, of any type. -/
import Derived.Test.YtaloieeemibblaaEn
set_option linter.unusedVariables false
set_option linter.unusedSimpArgs false
namespace Go.Proofs.Ytaloieeemibblaa
open Go.ChangeShapes Go.WideShapes Go.ChangeAt Go.RowKit

theorem loop_len (s : ByteArray) : ∀ (n i : Nat) (r : List UInt8), s.size - i = n → (ByteArray.toList.loop s i r).length = r.length + n
  | 0, i, r, h => by
    rw [ByteArray.toList.loop, if_neg (by omega)]
    simp
  | n + 1, i, r, h => by
    rw [ByteArray.toList.loop, if_pos (by omega), loop_len s n (i + 1) _ (by omega)]
    simp
    omega
theorem toList_len (s : ByteArray) : s.toList.length = s.size := by
  unfold ByteArray.toList
  rw [loop_len s s.size 0 [] (by omega)]
  simp
/-- Is a type's first letter a capital? -/
def critS (s : ByteArray) : Bool := decide (0 < s.size) && capB (byteAt (sb s) 0)
set_option maxRecDepth 100000 in
set_option maxHeartbeats 400000 in
theorem critical_any (s : ByteArray) (w : World) : Calls Try.prog 25 #[.string s] w fun e w' => e = .returned (.bool (critS s)) ∧ w' = w := by
  have hl := toList_len s
  by_cases h : 0 < s.size
  · have he : s.toList.isEmpty = false := by
      cases hs : s.toList with
      | nil => rw [hs] at hl; simp at hl; omega
      | cons x r => rfl
    have he2 : ¬ s.toList = [] := fun hs => by rw [hs] at hl; simp at hl; omega
    have hx : s[0].toNat = byteAt (sb s) 0 := by
      rw [← byteAt_get (sb s) 0 (by rw [sb_len]; exact h)]
      rfl
    have hb := byteAt_lt (sb s) 0
    have HC := Lib.hid (isCapital_any (byteAt (sb s) 0) (by omega) w)
    have HX := Lib.hid hx
    have HR : Hid (critS s = decide (65 ≤ byteAt (sb s) 0 ∧ byteAt (sb s) 0 ≤ 90)) := Lib.hid (by unfold critS capB; rw [decide_eq_true h, Bool.true_and])
    clear hl hx hb
    go_enter Try.func25, Try.ntmps25
    go_wp2_with (go_at_call 47; rw [HX.out]; refine HC.out.mono ?_; rintro e w1 ⟨rfl, rfl⟩)
    go_ret
    exact ⟨ret_bool (by rw [HR.out, Bool.decide_and]), rfl⟩
  · have he2 : s.toList = [] := List.length_eq_zero_iff.1 (by omega)
    have HR : Hid (critS s = false) := Lib.hid (by unfold critS; rw [decide_eq_false h, Bool.false_and])
    clear hl
    go_enter Try.func25, Try.ntmps25
    go_wp2_with fail
    go_ret
    exact ⟨ret_bool HR.out.symm, rfl⟩
set_option maxRecDepth 100000 in
set_option maxHeartbeats 400000 in
theorem refCritical_any (s : ByteArray) (n : Nat) (hn : s.size = n) (hm : n ≤ 9223372036854775807) (w : World) : Calls Try.prog 26 #[.string s] w fun e w' => e = .returned (.bool (critS s)) ∧ w' = w := by
  by_cases h : 0 < n
  · have hs : 0 < s.size := by omega
    have hx : s[0].toNat = byteAt (sb s) 0 := by
      rw [← byteAt_get (sb s) 0 (by rw [sb_len]; exact hs)]
      rfl
    have hb := byteAt_lt (sb s) 0
    have HR : Hid (critS s = decide (65 ≤ byteAt (sb s) 0 ∧ byteAt (sb s) 0 ≤ 90)) := Lib.hid (by unfold critS capB; rw [decide_eq_true hs, Bool.true_and])
    generalize byteAt (sb s) 0 = x at *
    by_cases h1 : 65 ≤ x
    · by_cases h2 : x ≤ 90
      · have HRR : Hid (critS s = true) := Lib.hid (by rw [HR.out]; exact decide_eq_true ⟨h1, h2⟩)
        clear HR
        go_enter Try.func26, Try.ntmps26
        go_wp2_with fail
        go_ret
        exact ⟨ret_bool (by rw [HRR.out]; first | rfl | (simp; omega)), rfl⟩
      · have HRR : Hid (critS s = false) := Lib.hid (by rw [HR.out]; exact decide_eq_false (by omega))
        clear HR
        go_enter Try.func26, Try.ntmps26
        go_wp2_with fail
        go_ret
        exact ⟨ret_bool (by rw [HRR.out]; first | rfl | (simp; omega)), rfl⟩
    · have HRR : Hid (critS s = false) := Lib.hid (by rw [HR.out]; exact decide_eq_false (by omega))
      clear HR
      go_enter Try.func26, Try.ntmps26
      go_wp2_with fail
      go_ret
      exact ⟨ret_bool (by rw [HRR.out]; try (simp; omega)), rfl⟩
  · have HR : Hid (critS s = false) := Lib.hid (by unfold critS; rw [decide_eq_false (by omega), Bool.false_and])
    have hz : ¬ 0 < s.size := by omega
    go_enter Try.func26, Try.ntmps26
    go_wp2_with fail
    go_ret
    exact ⟨ret_bool HR.out.symm, rfl⟩
end Go.Proofs.Ytaloieeemibblaa
