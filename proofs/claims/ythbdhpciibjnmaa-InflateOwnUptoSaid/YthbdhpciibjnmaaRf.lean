/- Contracts of the document's reader of bits. -/
import Derived.Test.YthbdhpciibjnmaaCo
import Derived.Test.YthbdhpciibjnmaaM
import Derived.Test.YthbdhpciibjnmaaR
import Derived.Handy
namespace Go.Proofs.Ythbdhpciibjnmaa
open Go.ChangeShapes Go.WideShapes Go.ChangeAt Go.RowKit

theorem bit_val (x s : Nat) : ((x : Int) / 2 ^ s) % 2 = (((x.testBit s).toNat : Nat) : Int) := by
  rw [Nat.testBit_eq_decide_div_mod_eq]
  have h : ((x : Int) / 2 ^ s) = ((x / 2 ^ s : Nat) : Int) := by simp
  rw [h]
  generalize x / 2 ^ s = y
  by_cases hy : y % 2 = 1
  · simp [hy]; omega
  · simp [hy]; omega
theorem bit_val' (x s : Nat) : ((x : Int) / 2 ^ s).tmod 2 = (((x.testBit s).toNat : Nat) : Int) := by
  rw [← bit_val, Int.tmod_eq_emod_of_nonneg]
  exact Int.ediv_nonneg (by omega) (by
    have h : ((2 : Int) ^ s) = ((2 ^ s : Nat) : Int) := by simp
    rw [h]; exact Int.natCast_nonneg _)
theorem ret_u32 {a b : Int} (h : a = b) : Ending.returned (.int .u32 a) = .returned (.int .u32 b) := by rw [h]
set_option maxRecDepth 100000 in
theorem refBit_any (A : Option Addr) (c : Nat) (l : List UInt8) (high : Bool) (i : Nat) (B : Nat) (w : World) (h : Bs w B A l) (hi : i < 8 * l.length) (hl : l.length ≤ 140737488355328) :
    Calls Try.prog 67 #[.slice A l.length c, .bool high, .int .i64 (i : Int)] w fun e w' => e = .returned (.int .u32 (((bitAt l high i).toNat : Nat) : Int)) ∧ w = w' := by
  obtain ⟨ad, rfl, _, hcb⟩ := h.at_ (k := i / 8) (by omega)
  have hx := byte_lt l[i / 8]
  have h1 : ((i : Int) / 8) < (l.length : Int) := by omega
  have HB : Hid (bitAt l high i = l[i / 8].toNat.testBit (if high then 7 - i % 8 else i % 8)) := Lib.hid (by
    have := bitAt_run l high i 0 (by omega) (by omega)
    simpa using this)
  generalize bitAt l high i = bt at *
  cases high
  · go_enter Try.func67, Try.ntmps67
    go_wp2_with fail
    go_ret
    exact ⟨ret_u32 ((bit_val' _ _).trans (by rw [HB.out]; rfl)), rfl⟩
  · have h2 : 0 ≤ ((i : Int) % 8) := by omega
    have h3 : ((i : Int) % 8) < 8 := by omega
    go_enter Try.func67, Try.ntmps67
    go_wp2_with fail
    go_ret
    exact ⟨ret_u32 ((bit_val' _ _).trans (by rw [HB.out]; rfl)), rfl⟩
theorem lo_plain (f : Nat → Bool) (k : Nat) (hk : k < 32) : (((numLo f k : Nat) : Int) + (((f k).toNat : Nat) : Int) * 2 ^ k % 4294967296) % 4294967296 = ((numLo f (k + 1) : Nat) : Int) := by
  have h1 := numLo_lt f (k + 1)
  have h2 : 2 ^ (k + 1) ≤ 2 ^ 32 := Nat.pow_le_pow_right (by omega) (by omega)
  have h5 : (((f k).toNat * 2 ^ k : Nat) : Int) = (((f k).toNat : Nat) : Int) * 2 ^ k := by simp
  rw [← h5]
  rw [numLo] at h1 ⊢
  generalize (f k).toNat * 2 ^ k = y at h1 ⊢
  omega
theorem hi_plain (f : Nat → Bool) (k : Nat) (hk : k < 32) : 2 * ((numHi f k : Nat) : Int) % 4294967296 + (((f k).toNat : Nat) : Int) = ((numHi f (k + 1) : Nat) : Int) := by
  have h1 := numHi_lt f (k + 1)
  have h2 : 2 ^ (k + 1) ≤ 2 ^ 32 := Nat.pow_le_pow_right (by omega) (by omega)
  rw [numHi] at h1 ⊢
  omega
def rdV (A : Option Addr) (c : Nat) (l : List UInt8) (high : Bool) (at_ : Int) : Value := .agg #[.slice A l.length c, .bool high, .int .i64 at_]
theorem refLeft_any (A : Option Addr) (n c : Nat) (high : Bool) (at_ : Nat) (w : World) (ha : at_ ≤ 8 * n) (hl : n ≤ 140737488355328) :
    Calls Try.prog 66 #[.agg #[.slice A n c, .bool high, .int .i64 (at_ : Int)]] w fun e w' => e = .returned (.int .i64 (8 * (n : Int) - at_)) ∧ w.alloc (.cells #[.slice A n c, .bool high, .int .i64 (at_ : Int)] 51) = w' := by
  go_enter Try.func66, Try.ntmps66
  go_wp2_with fail
  go_ret
  exact ⟨rfl, rfl⟩
theorem refTake_range (A : Option Addr) (m c : Nat) (high : Bool) (at_ n : Int) (w : World) (hn : n < 0 ∨ 32 < n) :
    Calls Try.prog 39 #[.agg #[.slice A m c, .bool high, .int .i64 at_], .int .i64 n] w fun e w' => e = .returned (.tuple #[.agg #[.slice A m c, .bool high, .int .i64 at_], .int .u32 0, .int .i64 2]) ∧ Below w.heap.size w w' := by
  rcases hn with hn | hn
  · have d1 : decide (n < 0) = true := by simp; omega
    go_enter Try.func39, Try.ntmps39
    go_wp2_with fail
    go_returns
    exact ⟨rfl, by go_grown⟩
  · have d1 : decide (n < 0) = false := by simp; omega
    go_enter Try.func39, Try.ntmps39
    go_wp2_with fail
    go_returns
    exact ⟨rfl, by go_grown⟩
set_option maxHeartbeats 400000 in
theorem refTake_end (A : Option Addr) (m c : Nat) (high : Bool) (at_ : Nat) (n : Int) (w : World) (ha : at_ ≤ 8 * m) (hl : m ≤ 140737488355328) (h0 : 0 ≤ n) (h32 : n ≤ 32) (hn : 8 * (m : Int) - at_ < n) :
    Calls Try.prog 39 #[.agg #[.slice A m c, .bool high, .int .i64 (at_ : Int)], .int .i64 n] w fun e w' => e = .returned (.tuple #[.agg #[.slice A m c, .bool high, .int .i64 (at_ : Int)], .int .u32 0, .int .i64 5]) ∧ Below w.heap.size w w' := by
  have d1 : decide (n < 0) = false := by simp; omega
  have d2 : decide (32 < n) = false := by simp; omega
  have d3 : decide (8 * (m : Int) - (at_ : Int) < n) = true := by simp; omega
  go_enter Try.func39, Try.ntmps39
  go_wp2_with fail
  refine (refLeft_any A m c high at_ _ ha hl).mono ?_
  rintro e w1 ⟨rfl, rfl⟩
  go_wp2_with fail
  go_returns
  exact ⟨rfl, by go_grown⟩
set_option maxHeartbeats 1000000 in
set_option maxRecDepth 100000 in
theorem refTake_ok (A : Option Addr) (c : Nat) (l : List UInt8) (high : Bool) (at_ n : Nat) (w : World) (h : Bs w w.heap.size A l) (hl : l.length ≤ 140737488355328) (h32 : n ≤ 32) (hn : at_ + n ≤ 8 * l.length) :
    Calls Try.prog 39 #[.agg #[.slice A l.length c, .bool high, .int .i64 (at_ : Int)], .int .i64 (n : Int)] w fun e w' =>
      e = .returned (.tuple #[.agg #[.slice A l.length c, .bool high, .int .i64 ((at_ + n : Nat) : Int)], .int .u32 ((num high (fun i => bitAt l high (at_ + i)) n : Nat) : Int), .int .i64 0]) ∧ Below w.heap.size w w' := by
  have d1 : decide ((n : Int) < 0) = false := by simp
  have d2 : decide (32 < (n : Int)) = false := by simp; omega
  have d3 : decide (8 * (l.length : Int) - (at_ : Int) < (n : Int)) = false := by simp; omega
  generalize hf : (fun i => bitAt l high (at_ + i)) = f
  have HF := Lib.hid hf; clear hf
  cases high
  · go_enter Try.func39, Try.ntmps39
    go_wp2_with fail
    refine (refLeft_any A l.length c _ at_ _ (by omega) hl).mono ?_
    rintro e w1 ⟨rfl, rfl⟩
    go_wp2_with fail
    have hB : Bs (((w.alloc (.cells #[.slice A l.length c, .bool false, .int .i64 (at_ : Int)] 51)).alloc (.cells #[.slice none 0 0, .bool false, .int .i64 0] 51)).alloc (.cells #[.slice A l.length c, .bool false, .int .i64 (at_ : Int)] 51)) w.heap.size A l := ((h.alloc (Nat.le_refl _) _).alloc (by simp) _).alloc (by simp; omega) _
    go_loop [7, 8] (fun v i => ∃ k : Nat, k ≤ n ∧ i = .int .i64 k ∧ v = .int .u32 ((numLo f k : Nat) : Int)) (fun _ i => n - (intOf i).toNat)
    case atStart => exact ⟨0, by omega, rfl, by simp [numLo]⟩
    case round =>
      obtain ⟨k, hk, rfl, rfl⟩ := hrel
      by_cases hlt : k < n
      · have HC := Lib.hid (refBit_any A c l false (at_ + k) _ _ hB (by omega) hl)
        have hfk : bitAt l false (at_ + k) = f k := by rw [← HF.out]
        go_wp2_with fail
        rw [show ((at_ : Int) + k) = ((at_ + k : Nat) : Int) from by omega]
        refine HC.out.mono ?_
        rintro e w' ⟨rfl, rfl⟩
        rw [hfk]
        clear hfk
        have hb2 : (((f k).toNat : Nat) : Int) ≤ 1 := by cases f k <;> simp
        go_wp2_with fail
        go_round
        case rel => 
          refine ⟨k + 1, by omega, by go_num, ?_⟩
          rw [lo_plain f k (by omega)]
        case measure => simp [intOf]; omega
      · have hkn : k = n := by omega
        subst hkn
        go_wp2_with fail
        go_returns
        exact ⟨by simp [num], by go_grown⟩
  · go_enter Try.func39, Try.ntmps39
    go_wp2_with fail
    refine (refLeft_any A l.length c _ at_ _ (by omega) hl).mono ?_
    rintro e w1 ⟨rfl, rfl⟩
    go_wp2_with fail
    have hB : Bs (((w.alloc (.cells #[.slice A l.length c, .bool true, .int .i64 (at_ : Int)] 51)).alloc (.cells #[.slice none 0 0, .bool false, .int .i64 0] 51)).alloc (.cells #[.slice A l.length c, .bool true, .int .i64 (at_ : Int)] 51)) w.heap.size A l := ((h.alloc (Nat.le_refl _) _).alloc (by simp) _).alloc (by simp; omega) _
    go_loop [7, 8] (fun v i => ∃ k : Nat, k ≤ n ∧ i = .int .i64 k ∧ v = .int .u32 ((numHi f k : Nat) : Int)) (fun _ i => n - (intOf i).toNat)
    case atStart => exact ⟨0, by omega, rfl, by simp [numHi]⟩
    case round =>
      obtain ⟨k, hk, rfl, rfl⟩ := hrel
      by_cases hlt : k < n
      · have HC := Lib.hid (refBit_any A c l true (at_ + k) _ _ hB (by omega) hl)
        have hfk : bitAt l true (at_ + k) = f k := by rw [← HF.out]
        go_wp2_with fail
        rw [show ((at_ : Int) + k) = ((at_ + k : Nat) : Int) from by omega]
        refine HC.out.mono ?_
        rintro e w' ⟨rfl, rfl⟩
        rw [hfk]
        clear hfk
        have hb2 : (((f k).toNat : Nat) : Int) ≤ 1 := by cases f k <;> simp
        go_wp2_with fail
        go_round
        case rel =>
          refine ⟨k + 1, by omega, by go_num, ?_⟩
          rw [hi_plain f k (by omega)]
        case measure => simp [intOf]; omega
      · have hkn : k = n := by omega
        subst hkn
        go_wp2_with fail
        go_returns
        exact ⟨by simp [num], by go_grown⟩
end Go.Proofs.Ythbdhpciibjnmaa
