/- Contracts of Get and Set of numbers of bytes, the program's and the document's. -/
import Derived.Test.YtaloieeemibblaaM
import Derived.Test.YtaloieeemibblaaCo
import Derived.BigRegion
import Derived.Handy
import Derived.Deep.DeepCutAuto
namespace Go.Proofs.Ytaloieeemibblaa
open Go.ChangeShapes Go.WideShapes Go.ChangeAt Go.RowKit

theorem quiet_eq {P : Program} {f : FuncId} {args : Array Value} {w : World} {n : Nat} {v : Value}
    (h : Calls P f args (w.drewN n) fun e w' => e = .returned v ∧ w.drewN n = w') : Calls P f args (w.drewN n) fun e w'' => e = .returned v ∧ ∃ m, w'' = w.drewN m :=
  h.mono fun _ _ ⟨he, hm⟩ => ⟨he, n, hm.symm⟩

def spanErr (len : Nat) (at_ size : Int) : Int := if size < 1 ∨ 4 < size then 2 else if at_ < 0 ∨ (len : Int) - size < at_ then 5 else 0
theorem spanErr_size {len : Nat} {at_ size : Int} (h : size < 1 ∨ 4 < size) : spanErr len at_ size = 2 := by unfold spanErr; rw [if_pos h]
theorem spanErr_end {len : Nat} {at_ size : Int} (h : ¬ (size < 1 ∨ 4 < size)) (h2 : at_ < 0 ∨ (len : Int) - size < at_) : spanErr len at_ size = 5 := by unfold spanErr; rw [if_neg h, if_pos h2]
theorem spanErr_ok {len : Nat} {at_ size : Int} (h : ¬ (size < 1 ∨ 4 < size)) (h2 : ¬ (at_ < 0 ∨ (len : Int) - size < at_)) : spanErr len at_ size = 0 := by unfold spanErr; rw [if_neg h, if_neg h2]
theorem ret_i64 {a b : Int} (h : a = b) : Ending.returned (.int .i64 a) = .returned (.int .i64 b) := by rw [h]

set_option maxHeartbeats 400000 in
theorem spanFault_any (A : Option Addr) (len c : Nat) (at_ size : Int) (w : World) (hl : len ≤ 140737488355328) :
    Calls Try.prog 62 #[.slice A len c, .int .i64 at_, .int .i64 size] w fun e w' => e = .returned (.int .i64 (spanErr len at_ size)) ∧ w = w' := by
  by_cases h1 : size < 1 ∨ 4 < size
  · have HE := Lib.hid (spanErr_size (len := len) (at_ := at_) h1)
    rcases h1 with h1 | h1
    · have d1 : decide (size < 1) = true := by simp; omega
      go_enter Try.func62, Try.ntmps62
      go_wp2_with fail
      go_ret
      exact ⟨ret_i64 HE.out.symm, rfl⟩
    · have d1 : decide (size < 1) = false := by simp; omega
      go_enter Try.func62, Try.ntmps62
      go_wp2_with fail
      go_ret
      exact ⟨ret_i64 HE.out.symm, rfl⟩
  · have d1 : decide (size < 1) = false := by simp; omega
    have d2 : decide (4 < size) = false := by simp; omega
    by_cases h2 : at_ < 0 ∨ (len : Int) - size < at_
    · have HE := Lib.hid (spanErr_end h1 h2)
      rcases h2 with h2 | h2
      · have d3 : decide (at_ < 0) = true := by simp; omega
        go_enter Try.func62, Try.ntmps62
        go_wp2_with fail
        go_ret
        exact ⟨ret_i64 HE.out.symm, rfl⟩
      · by_cases h3 : at_ < 0
        · have d3 : decide (at_ < 0) = true := by simp; omega
          go_enter Try.func62, Try.ntmps62
          go_wp2_with fail
          go_ret
          exact ⟨ret_i64 HE.out.symm, rfl⟩
        · have d3 : decide (at_ < 0) = false := by simp; omega
          have h1' : 1 ≤ size ∧ size ≤ 4 := by omega
          go_enter Try.func62, Try.ntmps62
          go_wp2_with fail
          go_ret
          exact ⟨ret_i64 HE.out.symm, rfl⟩
    · have HE := Lib.hid (spanErr_ok h1 h2)
      have d3 : decide (at_ < 0) = false := by simp; omega
      have h1' : 1 ≤ size ∧ size ≤ 4 := by omega
      have h2' : at_ ≤ (len : Int) - size := by omega
      go_enter Try.func62, Try.ntmps62
      go_wp2_with fail
      go_ret
      exact ⟨ret_i64 HE.out.symm, rfl⟩
theorem byteShift_big (i size : Int) (w : World) (h0 : 0 ≤ i) (h1 : i < size) (h2 : size ≤ 4) :
    Calls Try.prog 64 #[.int .i64 i, .int .i64 size, .bool true] w fun e w' => e = .returned (.int .i64 (8 * (size - 1 - i))) ∧ w = w' := by
  go_enter Try.func64, Try.ntmps64
  go_wp2_with fail
  go_ret
  exact ⟨rfl, rfl⟩
theorem byteShift_low (i size : Int) (w : World) (h0 : 0 ≤ i) (h1 : i < size) (h2 : size ≤ 4) :
    Calls Try.prog 64 #[.int .i64 i, .int .i64 size, .bool false] w fun e w' => e = .returned (.int .i64 (8 * i)) ∧ w = w' := by
  go_enter Try.func64, Try.ntmps64
  go_wp2_with fail
  go_ret
  exact ⟨rfl, rfl⟩

/-- The number of n bytes, the first one the highest; the first one the lowest. -/
def beNum (f : Nat → Nat) : Nat → Nat
  | 0 => 0
  | n + 1 => 256 * beNum f n + f n
def leNum (f : Nat → Nat) : Nat → Nat
  | 0 => 0
  | n + 1 => leNum f n + f n * 2 ^ (8 * n)
def numB (big : Bool) (f : Nat → Nat) (n : Nat) : Nat := if big then beNum f n else leNum f n
def byteAt (l : List UInt8) (i : Nat) : Nat := (l[i]?.getD 0).toNat
theorem byteAt_lt (l : List UInt8) (i : Nat) : byteAt l i < 256 := UInt8.toNat_lt _
theorem byteAt_get (l : List UInt8) (i : Nat) (h : i < l.length) : l[i].toNat = byteAt l i := by unfold byteAt; rw [List.getElem?_eq_getElem h]; rfl
theorem beNum_lt (f : Nat → Nat) (hf : ∀ i, f i < 256) (n : Nat) : beNum f n < 2 ^ (8 * n) := by
  induction n with
  | zero => simp [beNum]
  | succ n ih =>
    have h := hf n
    rw [beNum, show 8 * (n + 1) = 8 * n + 8 from by omega, Nat.pow_add]
    omega
theorem leNum_lt (f : Nat → Nat) (hf : ∀ i, f i < 256) (n : Nat) : leNum f n < 2 ^ (8 * n) := by
  induction n with
  | zero => simp [leNum]
  | succ n ih =>
    have h := hf n
    rw [leNum, show 8 * (n + 1) = 8 + 8 * n from by omega, Nat.pow_add]
    have : f n * 2 ^ (8 * n) ≤ 255 * 2 ^ (8 * n) := Nat.mul_le_mul_right _ (by omega)
    omega
theorem numB_lt (big : Bool) (f : Nat → Nat) (hf : ∀ i, f i < 256) (n : Nat) (hn : n ≤ 4) : numB big f n < 4294967296 := by
  have h4 : 2 ^ (8 * n) ≤ 2 ^ 32 := Nat.pow_le_pow_right (by omega) (by omega)
  unfold numB
  cases big
  · have := leNum_lt f hf n; simp; omega
  · have := beNum_lt f hf n; simp; omega
theorem be_step (f : Nat → Nat) (hf : ∀ i, f i < 256) (n s : Nat) (hs : s ≤ 4) (hn : n < s) :
    bits .or .u32 ((beNum f n <<< (8 * (s - n)) : Nat) : Int) (((f n : Nat) : Int) * 2 ^ (8 * (s - 1 - n)) % 4294967296) = ((beNum f (n + 1) <<< (8 * (s - (n + 1))) : Nat) : Int) := by
  have hfn := hf n
  have p1 : beNum f n <<< (8 * (s - n)) < 4294967296 := by
    rw [Nat.shiftLeft_eq]
    have h3 : beNum f n * 2 ^ (8 * (s - n)) < 2 ^ (8 * n) * 2 ^ (8 * (s - n)) := Nat.mul_lt_mul_of_pos_right (beNum_lt f hf n) (Nat.two_pow_pos _)
    rw [← Nat.pow_add] at h3
    have h4 : 2 ^ (8 * n + 8 * (s - n)) ≤ 2 ^ 32 := Nat.pow_le_pow_right (by omega) (by omega)
    omega
  have p2 : f n * 2 ^ (8 * (s - 1 - n)) < 2 ^ (8 * (s - n)) := by
    have h3 : f n * 2 ^ (8 * (s - 1 - n)) < 2 ^ 8 * 2 ^ (8 * (s - 1 - n)) := Nat.mul_lt_mul_of_pos_right (by omega) (Nat.two_pow_pos _)
    rw [← Nat.pow_add, show 8 + 8 * (s - 1 - n) = 8 * (s - n) from by omega] at h3
    exact h3
  have p3 : 2 ^ (8 * (s - n)) ≤ 2 ^ 32 := Nat.pow_le_pow_right (by omega) (by omega)
  have e2 : ((f n : Nat) : Int) * 2 ^ (8 * (s - 1 - n)) % 4294967296 = ((f n * 2 ^ (8 * (s - 1 - n)) : Nat) : Int) := by
    have h5 : ((f n * 2 ^ (8 * (s - 1 - n)) : Nat) : Int) = ((f n : Nat) : Int) * 2 ^ (8 * (s - 1 - n)) := by simp
    rw [← h5]
    generalize f n * 2 ^ (8 * (s - 1 - n)) = y at p2 ⊢
    omega
  rw [e2, or_u32 _ _ p1 (by omega), ← Nat.shiftLeft_add_eq_or_of_lt p2, beNum, show s - (n + 1) = s - 1 - n from by omega]
  congr 1
  simp only [Nat.shiftLeft_eq]
  rw [Nat.add_mul, show 8 * (s - n) = 8 + 8 * (s - 1 - n) from by omega, Nat.pow_add, ← Nat.mul_assoc, Nat.mul_comm 256]
theorem le_step (f : Nat → Nat) (hf : ∀ i, f i < 256) (n : Nat) (hn : n < 4) :
    bits .or .u32 ((leNum f n : Nat) : Int) (((f n : Nat) : Int) * 2 ^ (8 * n) % 4294967296) = ((leNum f (n + 1) : Nat) : Int) := by
  have hfn := hf n
  have p1 := leNum_lt f hf n
  have p3 : 2 ^ (8 * n) ≤ 2 ^ 24 := Nat.pow_le_pow_right (by omega) (by omega)
  have p2 : f n * 2 ^ (8 * n) < 4294967296 := by
    have h3 : f n * 2 ^ (8 * n) ≤ 255 * 2 ^ (8 * n) := Nat.mul_le_mul_right _ (by omega)
    omega
  have e2 : ((f n : Nat) : Int) * 2 ^ (8 * n) % 4294967296 = ((f n * 2 ^ (8 * n) : Nat) : Int) := by
    have h5 : ((f n * 2 ^ (8 * n) : Nat) : Int) = ((f n : Nat) : Int) * 2 ^ (8 * n) := by simp
    rw [← h5]
    generalize f n * 2 ^ (8 * n) = y at p2 ⊢
    omega
  rw [e2, or_u32 _ _ (by omega) p2, Nat.or_comm]
  have e3 := Nat.shiftLeft_add_eq_or_of_lt p1 (f n)
  rw [Nat.shiftLeft_eq] at e3
  rw [← e3, leNum, Nat.add_comm]
end Go.Proofs.Ytaloieeemibblaa
