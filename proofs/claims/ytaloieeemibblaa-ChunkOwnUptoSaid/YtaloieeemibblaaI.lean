/- Contracts of the document's Get and Set, and of the program's Set. -/
import Derived.Test.YtaloieeemibblaaH
namespace Go.Proofs.Ytaloieeemibblaa
open Go.ChangeShapes Go.WideShapes Go.ChangeAt Go.RowKit

theorem be_plain (f : Nat → Nat) (hf : ∀ i, f i < 256) (n : Nat) (hn : n < 4) : 256 * ((beNum f n : Nat) : Int) % 4294967296 + ((f n : Nat) : Int) = ((beNum f (n + 1) : Nat) : Int) := by
  have h1 := beNum_lt f hf n
  have h2 : 2 ^ (8 * n) ≤ 2 ^ 24 := Nat.pow_le_pow_right (by omega) (by omega)
  have h3 := hf n
  rw [beNum]
  omega
theorem le_plain (f : Nat → Nat) (hf : ∀ i, f i < 256) (n : Nat) (hn : n < 4) : (((leNum f n : Nat) : Int) + ((f n : Nat) : Int) * 2 ^ (8 * n) % 4294967296) % 4294967296 = ((leNum f (n + 1) : Nat) : Int) := by
  have h1 := leNum_lt f hf (n + 1)
  have h2 : 2 ^ (8 * (n + 1)) ≤ 2 ^ 32 := Nat.pow_le_pow_right (by omega) (by omega)
  have h5 : ((f n * 2 ^ (8 * n) : Nat) : Int) = ((f n : Nat) : Int) * 2 ^ (8 * n) := by simp
  rw [← h5]
  rw [leNum] at h1 ⊢
  generalize f n * 2 ^ (8 * n) = y at h1 ⊢
  omega
set_option maxHeartbeats 1000000 in
set_option maxRecDepth 100000 in
theorem refGet_ok (A : Option Addr) (c : Nat) (l : List UInt8) (at_ s : Nat) (big : Bool) (B : Nat) (w : World) (h : Bs w B A l) (hl : l.length ≤ 140737488355328) (hs : 1 ≤ s) (hs4 : s ≤ 4) (ha : at_ + s ≤ l.length) :
    Calls Try.prog 31 #[.slice A l.length c, .int .i64 (at_ : Int), .int .i64 (s : Int), .bool big] w fun e w' =>
      e = .returned (.tuple #[.int .u32 ((numB big (fun i => byteAt l (at_ + i)) s : Nat) : Int), .int .i64 0]) ∧ ∃ n, w' = w.drewN n := by
  generalize hf : (fun i => byteAt l (at_ + i)) = f
  have hf256 : ∀ i, f i < 256 := fun i => by rw [← hf]; exact byteAt_lt _ _
  have HF := Lib.hid hf; clear hf
  have H256 := Lib.hid hf256; clear hf256
  have d1 : decide ((s : Int) < 1) = false := by simp; omega
  have d2 : decide ((4 : Int) < (s : Int)) = false := by simp; omega
  have d3 : decide ((at_ : Int) < 0) = false := by simp
  have d4 : decide ((l.length : Int) < (at_ : Int)) = false := by simp; omega
  have d5 : decide ((l.length : Int) - (at_ : Int) < (s : Int)) = false := by simp; omega
  have d6 : decide (l.length < at_) = false := by simp; omega
  cases big
  · go_enter Try.func31, Try.ntmps31
    go_wp2_with fail
    go_loop [10, 11] (fun v i => ∃ k : Nat, k ≤ s ∧ i = .int .i64 k ∧ v = .int .u32 ((leNum f k : Nat) : Int)) (fun _ i => s - (intOf i).toNat)
    case atStart => exact ⟨0, by omega, rfl, by simp [leNum]⟩
    case round =>
      obtain ⟨k, hk, rfl, rfl⟩ := hrel
      by_cases hlt : k < s
      · obtain ⟨ad, rfl, _, hcb⟩ := h.at_ (k := at_ + k) (by omega)
        have hfk : l[at_ + k].toNat = f k := by rw [byteAt_get, ← HF.out]
        rw [hfk] at hcb
        have HFK := Lib.hid hfk; clear hfk
        have hx := H256.out k
        go_wp2_with fail
        go_round
        case rel => exact ⟨k + 1, by omega, by go_num, by rw [← le_plain f H256.out k (by omega)]⟩
        case measure => simp [intOf]; omega
      · have hkn : k = s := by omega
        subst hkn
        go_wp2_with fail
        go_ret2
        exact ⟨rfl, 0, rfl⟩
  · go_enter Try.func31, Try.ntmps31
    go_wp2_with fail
    go_loop [10, 11] (fun v i => ∃ k : Nat, k ≤ s ∧ i = .int .i64 k ∧ v = .int .u32 ((beNum f k : Nat) : Int)) (fun _ i => s - (intOf i).toNat)
    case atStart => exact ⟨0, by omega, rfl, by simp [beNum]⟩
    case round =>
      obtain ⟨k, hk, rfl, rfl⟩ := hrel
      by_cases hlt : k < s
      · obtain ⟨ad, rfl, _, hcb⟩ := h.at_ (k := at_ + k) (by omega)
        have hfk : l[at_ + k].toNat = f k := by rw [byteAt_get, ← HF.out]
        rw [hfk] at hcb
        have HFK := Lib.hid hfk; clear hfk
        have hx := H256.out k
        go_wp2_with fail
        go_round
        case rel => exact ⟨k + 1, by omega, by go_num, by rw [← be_plain f H256.out k (by omega)]⟩
        case measure => simp [intOf]; omega
      · have hkn : k = s := by omega
        subst hkn
        go_wp2_with fail
        go_ret2
        exact ⟨rfl, 0, rfl⟩
set_option maxHeartbeats 1000000 in
theorem refGet_err (A : Option Addr) (len c : Nat) (at_ size : Int) (big : Bool) (w : World) (hl : len ≤ 140737488355328) (hw : -9223372036854775808 ≤ at_ ∧ at_ ≤ 9223372036854775807) (he : spanErr len at_ size ≠ 0) :
    Calls Try.prog 31 #[.slice A len c, .int .i64 at_, .int .i64 size, .bool big] w fun e w' => e = .returned (.tuple #[.int .u32 0, .int .i64 (spanErr len at_ size)]) ∧ w = w' := by
  by_cases h1 : size < 1 ∨ 4 < size
  · have HE := Lib.hid (spanErr_size (len := len) (at_ := at_) h1)
    rw [HE.out]
    clear he
    by_cases h1' : size < 1
    · have d1 : decide (size < 1) = true := by simp; omega
      clear h1
      go_enter Try.func31, Try.ntmps31
      go_wp2_with fail
      go_ret2
      exact ⟨rfl, rfl⟩
    · have d1 : decide (size < 1) = false := by simp; omega
      have d2 : decide (4 < size) = true := by simp; omega
      clear h1
      go_enter Try.func31, Try.ntmps31
      go_wp2_with fail
      go_ret2
      exact ⟨rfl, rfl⟩
  · have d1 : decide (size < 1) = false := by simp; omega
    have d2 : decide (4 < size) = false := by simp; omega
    have h2 : at_ < 0 ∨ (len : Int) - size < at_ := by
      by_cases h2 : at_ < 0 ∨ (len : Int) - size < at_
      · exact h2
      · exact absurd (spanErr_ok h1 h2) he
    have HE := Lib.hid (spanErr_end h1 h2)
    rw [HE.out]
    clear he
    by_cases h3 : at_ < 0
    · have d3 : decide (at_ < 0) = true := by simp; omega
      clear h1 h2
      go_enter Try.func31, Try.ntmps31
      go_wp2_with fail
      go_ret2
      exact ⟨rfl, rfl⟩
    · have d3 : decide (at_ < 0) = false := by simp; omega
      by_cases h4 : (len : Int) < at_
      · have d4 : decide ((len : Int) < at_) = true := by simp; omega
        clear h1 h2
        go_enter Try.func31, Try.ntmps31
        go_wp2_with fail
        go_ret2
        exact ⟨rfl, rfl⟩
      · have d4 : decide ((len : Int) < at_) = false := by simp; omega
        have d5 : decide ((len : Int) - at_ < size) = true := by simp; omega
        clear h1 h2
        go_enter Try.func31, Try.ntmps31
        go_wp2_with fail
        go_ret2
        exact ⟨rfl, rfl⟩
end Go.Proofs.Ytaloieeemibblaa
