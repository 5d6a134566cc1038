/- Joined texts (a claim has at most 60 files): G H I. -/
import Derived.Test.YtnfjeeflcfmpbaaGreatDoorU
import Derived.Deep.LoopGhost
/- Contracts of Get and Set of numbers of bytes, the program's and the document's. -/
namespace Go.Proofs.YtnfjeeflcfmpbaaGreatDoor
open Go.ChangeShapes Go.WideShapes Go.ChangeAt Go.RowKit

def spanErr (len : Nat) (at_ size : Int) : Int := if size < 1 ∨ 4 < size then 2 else if at_ < 0 ∨ (len : Int) - size < at_ then 5 else 0
theorem spanErr_size {len : Nat} {at_ size : Int} (h : size < 1 ∨ 4 < size) : spanErr len at_ size = 2 := by unfold spanErr; rw [if_pos h]
theorem spanErr_end {len : Nat} {at_ size : Int} (h : ¬ (size < 1 ∨ 4 < size)) (h2 : at_ < 0 ∨ (len : Int) - size < at_) : spanErr len at_ size = 5 := by unfold spanErr; rw [if_neg h, if_pos h2]
theorem spanErr_ok {len : Nat} {at_ size : Int} (h : ¬ (size < 1 ∨ 4 < size)) (h2 : ¬ (at_ < 0 ∨ (len : Int) - size < at_)) : spanErr len at_ size = 0 := by unfold spanErr; rw [if_neg h, if_neg h2]
theorem ret_i64 {a b : Int} (h : a = b) : Ending.returned (.int .i64 a) = .returned (.int .i64 b) := by rw [h]

set_option maxHeartbeats 400000 in
theorem spanFault_any (A : Option Addr) (len c : Nat) (at_ size : Int) (w : World) (hl : len ≤ 140737488355328) :
    Calls Tryz.prog 90 #[.slice A len c, .int .i64 at_, .int .i64 size] w fun e w' => e = .returned (.int .i64 (spanErr len at_ size)) ∧ w = w' := by
  by_cases h1 : size < 1 ∨ 4 < size
  · have HE := Lib.hid (spanErr_size (len := len) (at_ := at_) h1)
    rcases h1 with h1 | h1
    · have d1 : decide (size < 1) = true := by simp; omega
      go_enter Tryz.func90, Tryz.ntmps90
      go_wp2_with fail
      go_ret
      exact ⟨ret_i64 HE.out.symm, rfl⟩
    · have d1 : decide (size < 1) = false := by simp; omega
      go_enter Tryz.func90, Tryz.ntmps90
      go_wp2_with fail
      go_ret
      exact ⟨ret_i64 HE.out.symm, rfl⟩
  · have d1 : decide (size < 1) = false := by simp; omega
    have d2 : decide (4 < size) = false := by simp; omega
    by_cases h2 : at_ < 0 ∨ (len : Int) - size < at_
    · have HE := Lib.hid (spanErr_end h1 h2)
      rcases h2 with h2 | h2
      · have d3 : decide (at_ < 0) = true := by simp; omega
        go_enter Tryz.func90, Tryz.ntmps90
        go_wp2_with fail
        go_ret
        exact ⟨ret_i64 HE.out.symm, rfl⟩
      · by_cases h3 : at_ < 0
        · have d3 : decide (at_ < 0) = true := by simp; omega
          go_enter Tryz.func90, Tryz.ntmps90
          go_wp2_with fail
          go_ret
          exact ⟨ret_i64 HE.out.symm, rfl⟩
        · have d3 : decide (at_ < 0) = false := by simp; omega
          have h1' : 1 ≤ size ∧ size ≤ 4 := by omega
          go_enter Tryz.func90, Tryz.ntmps90
          go_wp2_with fail
          go_ret
          exact ⟨ret_i64 HE.out.symm, rfl⟩
    · have HE := Lib.hid (spanErr_ok h1 h2)
      have d3 : decide (at_ < 0) = false := by simp; omega
      have h1' : 1 ≤ size ∧ size ≤ 4 := by omega
      have h2' : at_ ≤ (len : Int) - size := by omega
      go_enter Tryz.func90, Tryz.ntmps90
      go_wp2_with fail
      go_ret
      exact ⟨ret_i64 HE.out.symm, rfl⟩
theorem byteShift_big (i size : Int) (w : World) (h0 : 0 ≤ i) (h1 : i < size) (h2 : size ≤ 4) :
    Calls Tryz.prog 91 #[.int .i64 i, .int .i64 size, .bool true] w fun e w' => e = .returned (.int .i64 (8 * (size - 1 - i))) ∧ w = w' := by
  go_enter Tryz.func91, Tryz.ntmps91
  go_wp2_with fail
  go_ret
  exact ⟨rfl, rfl⟩
theorem byteShift_low (i size : Int) (w : World) (h0 : 0 ≤ i) (h1 : i < size) (h2 : size ≤ 4) :
    Calls Tryz.prog 91 #[.int .i64 i, .int .i64 size, .bool false] w fun e w' => e = .returned (.int .i64 (8 * i)) ∧ w = w' := by
  go_enter Tryz.func91, Tryz.ntmps91
  go_wp2_with fail
  go_ret
  exact ⟨rfl, rfl⟩

/-- The number of n bytes, the first one the highest; the first one the lowest. -/
def beNum (f : Nat → Nat) : Nat → Nat
  | 0 => 0
  | n + 1 => 256 * beNum f n + f n
def leNum (f : Nat → Nat) : Nat → Nat
  | 0 => 0
  | n + 1 => leNum f n + f n * 2 ^ (8 * n)
def numB (big : Bool) (f : Nat → Nat) (n : Nat) : Nat := if big then beNum f n else leNum f n
def byteAt (l : List UInt8) (i : Nat) : Nat := (l[i]?.getD 0).toNat
theorem byteAt_lt (l : List UInt8) (i : Nat) : byteAt l i < 256 := UInt8.toNat_lt _
theorem byteAt_get (l : List UInt8) (i : Nat) (h : i < l.length) : l[i].toNat = byteAt l i := by unfold byteAt; rw [List.getElem?_eq_getElem h]; rfl
theorem beNum_lt (f : Nat → Nat) (hf : ∀ i, f i < 256) (n : Nat) : beNum f n < 2 ^ (8 * n) := by
  induction n with
  | zero => simp [beNum]
  | succ n ih =>
    have h := hf n
    rw [beNum, show 8 * (n + 1) = 8 * n + 8 from by omega, Nat.pow_add]
    omega
theorem leNum_lt (f : Nat → Nat) (hf : ∀ i, f i < 256) (n : Nat) : leNum f n < 2 ^ (8 * n) := by
  induction n with
  | zero => simp [leNum]
  | succ n ih =>
    have h := hf n
    rw [leNum, show 8 * (n + 1) = 8 + 8 * n from by omega, Nat.pow_add]
    have : f n * 2 ^ (8 * n) ≤ 255 * 2 ^ (8 * n) := Nat.mul_le_mul_right _ (by omega)
    omega
theorem numB_lt (big : Bool) (f : Nat → Nat) (hf : ∀ i, f i < 256) (n : Nat) (hn : n ≤ 4) : numB big f n < 4294967296 := by
  have h4 : 2 ^ (8 * n) ≤ 2 ^ 32 := Nat.pow_le_pow_right (by omega) (by omega)
  unfold numB
  cases big
  · have := leNum_lt f hf n; simp; omega
  · have := beNum_lt f hf n; simp; omega
theorem be_step (f : Nat → Nat) (hf : ∀ i, f i < 256) (n s : Nat) (hs : s ≤ 4) (hn : n < s) :
    bits .or .u32 ((beNum f n <<< (8 * (s - n)) : Nat) : Int) (((f n : Nat) : Int) * 2 ^ (8 * (s - 1 - n)) % 4294967296) = ((beNum f (n + 1) <<< (8 * (s - (n + 1))) : Nat) : Int) := by
  have hfn := hf n
  have p1 : beNum f n <<< (8 * (s - n)) < 4294967296 := by
    rw [Nat.shiftLeft_eq]
    have h3 : beNum f n * 2 ^ (8 * (s - n)) < 2 ^ (8 * n) * 2 ^ (8 * (s - n)) := Nat.mul_lt_mul_of_pos_right (beNum_lt f hf n) (Nat.two_pow_pos _)
    rw [← Nat.pow_add] at h3
    have h4 : 2 ^ (8 * n + 8 * (s - n)) ≤ 2 ^ 32 := Nat.pow_le_pow_right (by omega) (by omega)
    omega
  have p2 : f n * 2 ^ (8 * (s - 1 - n)) < 2 ^ (8 * (s - n)) := by
    have h3 : f n * 2 ^ (8 * (s - 1 - n)) < 2 ^ 8 * 2 ^ (8 * (s - 1 - n)) := Nat.mul_lt_mul_of_pos_right (by omega) (Nat.two_pow_pos _)
    rw [← Nat.pow_add, show 8 + 8 * (s - 1 - n) = 8 * (s - n) from by omega] at h3
    exact h3
  have p3 : 2 ^ (8 * (s - n)) ≤ 2 ^ 32 := Nat.pow_le_pow_right (by omega) (by omega)
  have e2 : ((f n : Nat) : Int) * 2 ^ (8 * (s - 1 - n)) % 4294967296 = ((f n * 2 ^ (8 * (s - 1 - n)) : Nat) : Int) := by
    have h5 : ((f n * 2 ^ (8 * (s - 1 - n)) : Nat) : Int) = ((f n : Nat) : Int) * 2 ^ (8 * (s - 1 - n)) := by simp
    rw [← h5]
    generalize f n * 2 ^ (8 * (s - 1 - n)) = y at p2 ⊢
    omega
  rw [e2, or_u32 _ _ p1 (by omega), ← Nat.shiftLeft_add_eq_or_of_lt p2, beNum, show s - (n + 1) = s - 1 - n from by omega]
  congr 1
  simp only [Nat.shiftLeft_eq]
  rw [Nat.add_mul, show 8 * (s - n) = 8 + 8 * (s - 1 - n) from by omega, Nat.pow_add, ← Nat.mul_assoc, Nat.mul_comm 256]
theorem le_step (f : Nat → Nat) (hf : ∀ i, f i < 256) (n : Nat) (hn : n < 4) :
    bits .or .u32 ((leNum f n : Nat) : Int) (((f n : Nat) : Int) * 2 ^ (8 * n) % 4294967296) = ((leNum f (n + 1) : Nat) : Int) := by
  have hfn := hf n
  have p1 := leNum_lt f hf n
  have p3 : 2 ^ (8 * n) ≤ 2 ^ 24 := Nat.pow_le_pow_right (by omega) (by omega)
  have p2 : f n * 2 ^ (8 * n) < 4294967296 := by
    have h3 : f n * 2 ^ (8 * n) ≤ 255 * 2 ^ (8 * n) := Nat.mul_le_mul_right _ (by omega)
    omega
  have e2 : ((f n : Nat) : Int) * 2 ^ (8 * n) % 4294967296 = ((f n * 2 ^ (8 * n) : Nat) : Int) := by
    have h5 : ((f n * 2 ^ (8 * n) : Nat) : Int) = ((f n : Nat) : Int) * 2 ^ (8 * n) := by simp
    rw [← h5]
    generalize f n * 2 ^ (8 * n) = y at p2 ⊢
    omega
  rw [e2, or_u32 _ _ (by omega) p2, Nat.or_comm]
  have e3 := Nat.shiftLeft_add_eq_or_of_lt p1 (f n)
  rw [Nat.shiftLeft_eq] at e3
  rw [← e3, leNum, Nat.add_comm]
end Go.Proofs.YtnfjeeflcfmpbaaGreatDoor

/- Contracts of Get, the program's and the document's. -/
namespace Go.Proofs.YtnfjeeflcfmpbaaGreatDoor
open Go.ChangeShapes Go.WideShapes Go.ChangeAt Go.RowKit

def pnum (big : Bool) (f : Nat → Nat) (k s : Nat) : Nat := if big then beNum f k <<< (8 * (s - k)) else leNum f k
theorem pnum_be (f : Nat → Nat) (k s : Nat) : pnum true f k s = beNum f k <<< (8 * (s - k)) := rfl
theorem pnum_le (f : Nat → Nat) (k s : Nat) : pnum false f k s = leNum f k := rfl
set_option maxHeartbeats 1000000 in
set_option maxRecDepth 100000 in
theorem get_ok (A : Option Addr) (c : Nat) (l : List UInt8) (at_ s : Nat) (big : Bool) (B : Nat) (w : World) (h : Bs w B A l) (hl : l.length ≤ 140737488355328) (hs : 1 ≤ s) (hs4 : s ≤ 4) (ha : at_ + s ≤ l.length) :
    Calls Tryz.prog 50 #[.slice A l.length c, .int .i64 (at_ : Int), .int .i64 (s : Int), .bool big] w fun e w' =>
      e = .returned (.tuple #[.int .u32 ((numB big (fun i => byteAt l (at_ + i)) s : Nat) : Int), .int .i64 0]) ∧ ∃ n, w' = w.drewN n := by
  have HE := Lib.hid (spanErr_ok (len := l.length) (at_ := (at_ : Int)) (size := (s : Int)) (by omega) (by omega))
  generalize hf : (fun i => byteAt l (at_ + i)) = f
  have hf256 : ∀ i, f i < 256 := fun i => by rw [← hf]; exact byteAt_lt _ _
  have HF := Lib.hid hf; clear hf
  have H256 := Lib.hid hf256; clear hf256
  go_enter Tryz.func50, Tryz.ntmps50
  go_wp2_with (go_at_call 90; refine (spanFault_any _ _ _ _ _ _ hl).mono ?_; rintro e w1 ⟨rfl, rfl⟩; rw [HE.out])
  go_loopw [11, 21] (fun v i wr => ∃ k : Nat, k ≤ s ∧ i = .int .i64 k ∧ v = .int .u32 ((pnum big f k s : Nat) : Int) ∧ ∃ n, wr = w.drewN n) (fun _ i _ => s - (intOf i).toNat)
  case atStart => exact ⟨0, by omega, rfl, by cases big <;> simp [pnum, beNum, leNum], 0, rfl⟩
  case round =>
    obtain ⟨k, hk, rfl, rfl, hw⟩ := hrel
    have hBw : Bs wr B A l := by obtain ⟨m, rfl⟩ := hw; exact h.drewN m
    have HW := Lib.hid hw; clear hw
    by_cases hlt : k < s
    · obtain ⟨ad, rfl, _, hcb⟩ := hBw.at_ (k := at_ + k) (by omega)
      have hfk : l[at_ + k].toNat = f k := by rw [byteAt_get, ← HF.out]
      rw [hfk] at hcb
      have HFK := Lib.hid hfk; clear hfk
      have hx := H256.out k
      have hx2 : ((f k : Nat) : Int) < 256 := by omega
      have b0 : (0 : Int) ≤ (k : Int) := by omega
      have b1 : (k : Int) < (s : Int) := by omega
      have b2 : (s : Int) ≤ 4 := by omega
      have q1 : IntKind.i64.wrap ((at_ : Int) + k) = (at_ : Int) + k := IntWalk.i64_in _ (by omega)
      have q2 : ((at_ : Int) + k).toNat = at_ + k := by omega
      have q3 : ((at_ : Int) + k) < (l.length : Int) := by omega
      have q4 : 0 ≤ ((at_ : Int) + k) := by omega
      cases big
      · go_wp2_with fail
        go_quiet ((go_at_call 91; exact quiet_eq (byteShift_low _ _ _ b0 b1 b2)))
        clear q1 q2
        go_wp2_with fail
        go_roundw
        case rel => exact ⟨k + 1, by omega, by go_num, by rw [pnum_le, pnum_le, le_step f H256.out k (by omega)], by obtain ⟨m, rfl⟩ := HW.out; exact ⟨m + nq, by simp⟩⟩
        case measure => simp [intOf]; omega
      · go_wp2_with fail
        go_quiet ((go_at_call 91; exact quiet_eq (byteShift_big _ _ _ b0 b1 b2)))
        clear q1 q2
        go_wp2_with fail
        go_roundw
        case rel => exact ⟨k + 1, by omega, by go_num, by rw [pnum_be, pnum_be, be_step f H256.out k s (by omega) hlt], by obtain ⟨m, rfl⟩ := HW.out; exact ⟨m + nq, by simp⟩⟩
        case measure => simp [intOf]; omega
    · have hkn : k = s := by omega
      subst hkn
      go_wp2_with fail
      go_ret2
      refine ⟨?_, HW.out⟩
      cases big <;> simp [pnum, numB]
set_option maxHeartbeats 400000 in
theorem get_err (A : Option Addr) (len c : Nat) (at_ size : Int) (big : Bool) (w : World) (hl : len ≤ 140737488355328) (he : spanErr len at_ size ≠ 0) :
    Calls Tryz.prog 50 #[.slice A len c, .int .i64 at_, .int .i64 size, .bool big] w fun e w' => e = .returned (.tuple #[.int .u32 0, .int .i64 (spanErr len at_ size)]) ∧ w = w' := by
  generalize hE : spanErr len at_ size = E at *
  have HE := Lib.hid hE; clear hE
  have hne : (E != 0) = true := by simpa using he
  go_enter Tryz.func50, Tryz.ntmps50
  go_wp2_with (go_at_call 90; refine (spanFault_any _ _ _ _ _ _ hl).mono ?_; rintro e w1 ⟨rfl, rfl⟩; rw [HE.out])
  go_ret2
  exact ⟨rfl, rfl⟩
end Go.Proofs.YtnfjeeflcfmpbaaGreatDoor

/- Contracts of the document's Get and Set, and of the program's Set. -/
namespace Go.Proofs.YtnfjeeflcfmpbaaGreatDoor
open Go.ChangeShapes Go.WideShapes Go.ChangeAt Go.RowKit

theorem be_plain (f : Nat → Nat) (hf : ∀ i, f i < 256) (n : Nat) (hn : n < 4) : 256 * ((beNum f n : Nat) : Int) % 4294967296 + ((f n : Nat) : Int) = ((beNum f (n + 1) : Nat) : Int) := by
  have h1 := beNum_lt f hf n
  have h2 : 2 ^ (8 * n) ≤ 2 ^ 24 := Nat.pow_le_pow_right (by omega) (by omega)
  have h3 := hf n
  rw [beNum]
  omega
theorem le_plain (f : Nat → Nat) (hf : ∀ i, f i < 256) (n : Nat) (hn : n < 4) : (((leNum f n : Nat) : Int) + ((f n : Nat) : Int) * 2 ^ (8 * n) % 4294967296) % 4294967296 = ((leNum f (n + 1) : Nat) : Int) := by
  have h1 := leNum_lt f hf (n + 1)
  have h2 : 2 ^ (8 * (n + 1)) ≤ 2 ^ 32 := Nat.pow_le_pow_right (by omega) (by omega)
  have h5 : ((f n * 2 ^ (8 * n) : Nat) : Int) = ((f n : Nat) : Int) * 2 ^ (8 * n) := by simp
  rw [← h5]
  rw [leNum] at h1 ⊢
  generalize f n * 2 ^ (8 * n) = y at h1 ⊢
  omega
set_option maxHeartbeats 1000000 in
set_option maxRecDepth 100000 in
theorem refGet_ok (A : Option Addr) (c : Nat) (l : List UInt8) (at_ s : Nat) (big : Bool) (B : Nat) (w : World) (h : Bs w B A l) (hl : l.length ≤ 140737488355328) (hs : 1 ≤ s) (hs4 : s ≤ 4) (ha : at_ + s ≤ l.length) :
    Calls Tryz.prog 46 #[.slice A l.length c, .int .i64 (at_ : Int), .int .i64 (s : Int), .bool big] w fun e w' =>
      e = .returned (.tuple #[.int .u32 ((numB big (fun i => byteAt l (at_ + i)) s : Nat) : Int), .int .i64 0]) ∧ ∃ n, w' = w.drewN n := by
  generalize hf : (fun i => byteAt l (at_ + i)) = f
  have hf256 : ∀ i, f i < 256 := fun i => by rw [← hf]; exact byteAt_lt _ _
  have HF := Lib.hid hf; clear hf
  have H256 := Lib.hid hf256; clear hf256
  have d1 : decide ((s : Int) < 1) = false := by simp; omega
  have d2 : decide ((4 : Int) < (s : Int)) = false := by simp; omega
  have d3 : decide ((at_ : Int) < 0) = false := by simp
  have d4 : decide ((l.length : Int) < (at_ : Int)) = false := by simp; omega
  have d5 : decide ((l.length : Int) - (at_ : Int) < (s : Int)) = false := by simp; omega
  have d6 : decide (l.length < at_) = false := by simp; omega
  cases big
  · go_enter Tryz.func46, Tryz.ntmps46
    go_wp2_with fail
    go_loop [10, 11] (fun v i => ∃ k : Nat, k ≤ s ∧ i = .int .i64 k ∧ v = .int .u32 ((leNum f k : Nat) : Int)) (fun _ i => s - (intOf i).toNat)
    case atStart => exact ⟨0, by omega, rfl, by simp [leNum]⟩
    case round =>
      obtain ⟨k, hk, rfl, rfl⟩ := hrel
      by_cases hlt : k < s
      · obtain ⟨ad, rfl, _, hcb⟩ := h.at_ (k := at_ + k) (by omega)
        have hfk : l[at_ + k].toNat = f k := by rw [byteAt_get, ← HF.out]
        rw [hfk] at hcb
        have HFK := Lib.hid hfk; clear hfk
        have hx := H256.out k
        go_wp2_with fail
        go_round
        case rel => exact ⟨k + 1, by omega, by go_num, by rw [← le_plain f H256.out k (by omega)]⟩
        case measure => simp [intOf]; omega
      · have hkn : k = s := by omega
        subst hkn
        go_wp2_with fail
        go_ret2
        exact ⟨rfl, 0, rfl⟩
  · go_enter Tryz.func46, Tryz.ntmps46
    go_wp2_with fail
    go_loop [10, 11] (fun v i => ∃ k : Nat, k ≤ s ∧ i = .int .i64 k ∧ v = .int .u32 ((beNum f k : Nat) : Int)) (fun _ i => s - (intOf i).toNat)
    case atStart => exact ⟨0, by omega, rfl, by simp [beNum]⟩
    case round =>
      obtain ⟨k, hk, rfl, rfl⟩ := hrel
      by_cases hlt : k < s
      · obtain ⟨ad, rfl, _, hcb⟩ := h.at_ (k := at_ + k) (by omega)
        have hfk : l[at_ + k].toNat = f k := by rw [byteAt_get, ← HF.out]
        rw [hfk] at hcb
        have HFK := Lib.hid hfk; clear hfk
        have hx := H256.out k
        go_wp2_with fail
        go_round
        case rel => exact ⟨k + 1, by omega, by go_num, by rw [← be_plain f H256.out k (by omega)]⟩
        case measure => simp [intOf]; omega
      · have hkn : k = s := by omega
        subst hkn
        go_wp2_with fail
        go_ret2
        exact ⟨rfl, 0, rfl⟩
set_option maxHeartbeats 1000000 in
theorem refGet_err (A : Option Addr) (len c : Nat) (at_ size : Int) (big : Bool) (w : World) (hl : len ≤ 140737488355328) (hw : -9223372036854775808 ≤ at_ ∧ at_ ≤ 9223372036854775807) (he : spanErr len at_ size ≠ 0) :
    Calls Tryz.prog 46 #[.slice A len c, .int .i64 at_, .int .i64 size, .bool big] w fun e w' => e = .returned (.tuple #[.int .u32 0, .int .i64 (spanErr len at_ size)]) ∧ w = w' := by
  by_cases h1 : size < 1 ∨ 4 < size
  · have HE := Lib.hid (spanErr_size (len := len) (at_ := at_) h1)
    rw [HE.out]
    clear he
    by_cases h1' : size < 1
    · have d1 : decide (size < 1) = true := by simp; omega
      clear h1
      go_enter Tryz.func46, Tryz.ntmps46
      go_wp2_with fail
      go_ret2
      exact ⟨rfl, rfl⟩
    · have d1 : decide (size < 1) = false := by simp; omega
      have d2 : decide (4 < size) = true := by simp; omega
      clear h1
      go_enter Tryz.func46, Tryz.ntmps46
      go_wp2_with fail
      go_ret2
      exact ⟨rfl, rfl⟩
  · have d1 : decide (size < 1) = false := by simp; omega
    have d2 : decide (4 < size) = false := by simp; omega
    have h2 : at_ < 0 ∨ (len : Int) - size < at_ := by
      by_cases h2 : at_ < 0 ∨ (len : Int) - size < at_
      · exact h2
      · exact absurd (spanErr_ok h1 h2) he
    have HE := Lib.hid (spanErr_end h1 h2)
    rw [HE.out]
    clear he
    by_cases h3 : at_ < 0
    · have d3 : decide (at_ < 0) = true := by simp; omega
      clear h1 h2
      go_enter Tryz.func46, Tryz.ntmps46
      go_wp2_with fail
      go_ret2
      exact ⟨rfl, rfl⟩
    · have d3 : decide (at_ < 0) = false := by simp; omega
      by_cases h4 : (len : Int) < at_
      · have d4 : decide ((len : Int) < at_) = true := by simp; omega
        clear h1 h2
        go_enter Tryz.func46, Tryz.ntmps46
        go_wp2_with fail
        go_ret2
        exact ⟨rfl, rfl⟩
      · have d4 : decide ((len : Int) < at_) = false := by simp; omega
        have d5 : decide ((len : Int) - at_ < size) = true := by simp; omega
        clear h1 h2
        go_enter Tryz.func46, Tryz.ntmps46
        go_wp2_with fail
        go_ret2
        exact ⟨rfl, rfl⟩
end Go.Proofs.YtnfjeeflcfmpbaaGreatDoor
