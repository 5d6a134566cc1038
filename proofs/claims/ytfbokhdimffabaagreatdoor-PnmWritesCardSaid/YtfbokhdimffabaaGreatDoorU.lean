/- Joined texts (a claim has at most 60 files): M R U. -/
import Derived.WalkKit
import Derived.Test.YtfbokhdimffabaaGreatDoorCo
import Derived.BigRegion
import Derived.Handy
import Derived.Deep.DeepCutAuto
/- Plain mathematics of bits: numbers told bit by bit, in both orders. No program, no memory. -/
namespace Go.Proofs.YtfbokhdimffabaaGreatDoor

/-- Bit i of the bytes l in an order. -/
def bitAt (l : List UInt8) (high : Bool) (i : Nat) : Bool := (l[i / 8]?.getD 0).toNat.testBit (if high then 7 - i % 8 else i % 8)
def numHi (f : Nat → Bool) : Nat → Nat
  | 0 => 0
  | n + 1 => 2 * numHi f n + (f n).toNat
def numLo (f : Nat → Bool) : Nat → Nat
  | 0 => 0
  | n + 1 => numLo f n + (f n).toNat * 2 ^ n
def num (high : Bool) (f : Nat → Bool) (n : Nat) : Nat := if high then numHi f n else numLo f n

theorem testBit_two_mul_add (x : Nat) (b : Bool) (j : Nat) : (2 * x + b.toNat).testBit j = if j = 0 then b else x.testBit (j - 1) := by
  cases j with
  | zero => cases b <;> simp [Nat.testBit, Nat.shiftRight_zero]
  | succ j =>
    have : (2 * x + b.toNat) / 2 = x := by cases b <;> simp <;> omega
    simp [Nat.testBit_succ, this]
theorem numHi_testBit (f : Nat → Bool) (n j : Nat) : (numHi f n).testBit j = (decide (j < n) && f (n - 1 - j)) := by
  induction n generalizing j with
  | zero => simp [numHi]
  | succ n ih =>
    rw [numHi, testBit_two_mul_add]
    by_cases hj : j = 0
    · subst hj; simp
    · rw [if_neg hj, ih]
      have e : n - 1 - (j - 1) = n + 1 - 1 - j := by omega
      rw [e]
      congr 1
      simp; omega
theorem numLo_lt (f : Nat → Bool) (n : Nat) : numLo f n < 2 ^ n := by
  induction n with
  | zero => simp [numLo]
  | succ n ih =>
    rw [numLo, Nat.pow_succ]
    cases f n <;> simp <;> omega
theorem numHi_lt (f : Nat → Bool) (n : Nat) : numHi f n < 2 ^ n := by
  induction n with
  | zero => simp [numHi]
  | succ n ih =>
    rw [numHi, Nat.pow_succ]
    cases f n <;> simp <;> omega
theorem num_lt (high : Bool) (f : Nat → Bool) (n : Nat) : num high f n < 2 ^ n := by unfold num; cases high <;> simp [numLo_lt, numHi_lt]
theorem numLo_testBit (f : Nat → Bool) (n j : Nat) : (numLo f n).testBit j = (decide (j < n) && f j) := by
  induction n generalizing j with
  | zero => simp [numLo]
  | succ n ih =>
    have e : numLo f n + (f n).toNat * 2 ^ n = 2 ^ n * (f n).toNat + numLo f n := by rw [Nat.mul_comm]; omega
    rw [numLo, e, Nat.testBit_two_pow_mul_add _ (numLo_lt f n)]
    by_cases hj : j < n
    · rw [if_pos hj, ih]; simp [hj]; omega
    · rw [if_neg hj]
      by_cases hn : j = n
      · subst hn; cases f j <;> simp
      · have : ¬ j < n + 1 := by omega
        have h2 : 1 ≤ j - n := by omega
        simp [this]
        cases f n
        · simp
        · simp only [Bool.toNat_true]
          exact Nat.testBit_lt_two_pow (by have := Nat.pow_le_pow_right (n := 2) (by omega) h2; omega)

theorem hi_step (f : Nat → Bool) (x at_ k i n : Nat) (h1 : at_ + k ≤ 8) (h2 : i + k ≤ n) (hf : ∀ m, m < k → f (i + m) = x.testBit (7 - (at_ + m))) :
    (numHi f i <<< (n - i)) ||| ((x >>> (8 - at_ - k) &&& (2 ^ k - 1)) <<< (n - i - k)) = numHi f (i + k) <<< (n - i - k) := by
  apply Nat.eq_of_testBit_eq
  intro j
  simp only [Nat.testBit_or, Nat.testBit_shiftLeft, Nat.testBit_and, Nat.testBit_shiftRight, Nat.testBit_two_pow_sub_one, numHi_testBit]
  by_cases a : n - i - k ≤ j
  · by_cases b : n - i ≤ j
    · have e1 : ¬ (j - (n - i - k) < k) := by omega
      have e2 : (i - 1 - (j - (n - i))) = (i + k - 1 - (j - (n - i - k))) := by omega
      have e3 : decide (j - (n - i) < i) = decide (j - (n - i - k) < i + k) := by simp; omega
      simp [a, b, e1, e2, e3]
    · have e1 : j - (n - i - k) < k := by omega
      have e2 : j - (n - i - k) < i + k := by omega
      have e3 : i + k - 1 - (j - (n - i - k)) = i + (k - 1 - (j - (n - i - k))) := by omega
      have e4 : 7 - (at_ + (k - 1 - (j - (n - i - k)))) = 8 - at_ - k + (j - (n - i - k)) := by omega
      rw [e3, hf _ (by omega), e4]
      simp [a, b, e1, e2]
  · have b : ¬ n - i ≤ j := by omega
    simp [a, b]
theorem lo_step (f : Nat → Bool) (x at_ k i : Nat) (h1 : at_ + k ≤ 8) (hf : ∀ m, m < k → f (i + m) = x.testBit (at_ + m)) :
    numLo f i ||| ((x >>> at_ &&& (2 ^ k - 1)) <<< i) = numLo f (i + k) := by
  apply Nat.eq_of_testBit_eq
  intro j
  simp only [Nat.testBit_or, Nat.testBit_shiftLeft, Nat.testBit_and, Nat.testBit_shiftRight, Nat.testBit_two_pow_sub_one, numLo_testBit]
  by_cases b : j < i
  · have e1 : ¬ i ≤ j := by omega
    have e2 : j < i + k := by omega
    simp [b, e1, e2]
  · by_cases c : j < i + k
    · have e1 : j - i < k := by omega
      have e2 : i ≤ j := by omega
      have e3 := hf (j - i) e1
      rw [show i + (j - i) = j from by omega] at e3
      simp [b, c, e1, e2, e3]
    · have e1 : ¬ j - i < k := by omega
      simp [b, c, e1]

theorem bv_of (n a : Nat) (ha : a < 2 ^ n) : (BitVec.ofInt n (a : Int)).toNat = a := by
  simp [Nat.mod_eq_of_lt ha]
theorem and_u32 (a b : Nat) (ha : a < 4294967296) (hb : b < 4294967296) : bits .and .u32 (a : Int) (b : Int) = ((a &&& b : Nat) : Int) := by
  have h1 : a &&& b < 4294967296 := Nat.lt_of_le_of_lt Nat.and_le_left ha
  show IntKind.u32.wrap ((BitVec.ofInt 32 (a : Int) &&& BitVec.ofInt 32 (b : Int)).toNat : Int) = _
  rw [BitVec.toNat_and, bv_of 32 a ha, bv_of 32 b hb, IntKind.wrap_u32]
  omega
theorem or_u32 (a b : Nat) (ha : a < 4294967296) (hb : b < 4294967296) : bits .or .u32 (a : Int) (b : Int) = ((a ||| b : Nat) : Int) := by
  have h1 : a ||| b < 2 ^ 32 := Nat.or_lt_two_pow ha hb
  show IntKind.u32.wrap ((BitVec.ofInt 32 (a : Int) ||| BitVec.ofInt 32 (b : Int)).toNat : Int) = _
  rw [BitVec.toNat_or, bv_of 32 a ha, bv_of 32 b hb, IntKind.wrap_u32]
  omega
theorem or_u8 (a b : Nat) (ha : a < 256) (hb : b < 256) : bits .or .u8 (a : Int) (b : Int) = ((a ||| b : Nat) : Int) := by
  have h1 : a ||| b < 2 ^ 8 := Nat.or_lt_two_pow ha hb
  show IntKind.u8.wrap ((BitVec.ofInt 8 (a : Int) ||| BitVec.ofInt 8 (b : Int)).toNat : Int) = _
  rw [BitVec.toNat_or, bv_of 8 a ha, bv_of 8 b hb, IntKind.wrap_u8]
  omega
theorem mask_cast (k : Nat) (hk : k < 32) : ((2 : Int) ^ k - 1) % 4294967296 = ((2 ^ k - 1 : Nat) : Int) := by
  have h0 : 0 < 2 ^ k := Nat.two_pow_pos k
  have h1 : 2 ^ k < 2 ^ 32 := Nat.pow_lt_pow_right (by omega) hk
  have h2 : (2 : Int) ^ k = ((2 ^ k : Nat) : Int) := by simp
  rw [h2]
  omega
/-- What the low order's round leaves. -/
theorem lo_close (f : Nat → Bool) (x a k kk : Nat) (hx : x < 256) (h1 : a + kk ≤ 8) (h2 : k + kk ≤ 32) (hf : ∀ m, m < kk → f (k + m) = x.testBit (a + m)) :
    bits .or .u32 ((numLo f k : Nat) : Int) (bits .and .u32 ((x : Int) / 2 ^ a) (((2 : Int) ^ kk - 1) % 4294967296) * 2 ^ k % 4294967296) = ((numLo f (k + kk) : Nat) : Int) := by
  rw [mask_cast kk (by omega)]
  have e1 : (x : Int) / 2 ^ a = ((x >>> a : Nat) : Int) := by rw [Nat.shiftRight_eq_div_pow]; simp
  have hs : x >>> a < 4294967296 := by rw [Nat.shiftRight_eq_div_pow]; exact Nat.lt_of_le_of_lt (Nat.div_le_self _ _) (by omega)
  have hm : 2 ^ kk - 1 < 4294967296 := by have : 2 ^ kk < 2 ^ 32 := Nat.pow_lt_pow_right (by omega) (by omega); omega
  have hml : (x >>> a &&& (2 ^ kk - 1)) < 2 ^ kk := by have := Nat.and_le_right (n := x >>> a) (m := 2 ^ kk - 1); have := Nat.two_pow_pos kk; omega
  rw [e1, and_u32 _ _ hs hm]
  have hb : (x >>> a &&& (2 ^ kk - 1)) * 2 ^ k < 4294967296 := by
    have h3 : (x >>> a &&& (2 ^ kk - 1)) * 2 ^ k < 2 ^ kk * 2 ^ k := Nat.mul_lt_mul_of_pos_right hml (Nat.two_pow_pos k)
    rw [← Nat.pow_add] at h3
    have h4 : 2 ^ (kk + k) ≤ 2 ^ 32 := Nat.pow_le_pow_right (by omega) (by omega)
    omega
  have e2 : ((x >>> a &&& (2 ^ kk - 1) : Nat) : Int) * 2 ^ k % 4294967296 = (((x >>> a &&& (2 ^ kk - 1)) <<< k : Nat) : Int) := by
    rw [Nat.shiftLeft_eq]
    have : (((x >>> a &&& (2 ^ kk - 1)) * 2 ^ k : Nat) : Int) = ((x >>> a &&& (2 ^ kk - 1) : Nat) : Int) * 2 ^ k := by simp
    rw [← this]; omega
  have hlo : numLo f k < 4294967296 := by have := numLo_lt f k; have : 2 ^ k ≤ 2 ^ 32 := Nat.pow_le_pow_right (by omega) (by omega); omega
  rw [e2, or_u32 _ _ hlo (by rw [Nat.shiftLeft_eq]; exact hb), lo_step f x a kk k h1 hf]
/-- What the high order's round leaves. -/
theorem hi_close (f : Nat → Bool) (x a k kk n : Nat) (hx : x < 256) (h1 : a + kk ≤ 8) (h2 : k + kk ≤ n) (hn : n ≤ 32) (hf : ∀ m, m < kk → f (k + m) = x.testBit (7 - (a + m))) :
    bits .or .u32 ((numHi f k <<< (n - k) : Nat) : Int) (bits .and .u32 ((x : Int) / 2 ^ (8 - a - kk)) (((2 : Int) ^ kk - 1) % 4294967296) * 2 ^ (n - k - kk) % 4294967296) = ((numHi f (k + kk) <<< (n - (k + kk)) : Nat) : Int) := by
  rw [mask_cast kk (by omega)]
  have e1 : (x : Int) / 2 ^ (8 - a - kk) = ((x >>> (8 - a - kk) : Nat) : Int) := by rw [Nat.shiftRight_eq_div_pow]; simp
  have hs : x >>> (8 - a - kk) < 4294967296 := by rw [Nat.shiftRight_eq_div_pow]; exact Nat.lt_of_le_of_lt (Nat.div_le_self _ _) (by omega)
  have hm : 2 ^ kk - 1 < 4294967296 := by have : 2 ^ kk < 2 ^ 32 := Nat.pow_lt_pow_right (by omega) (by omega); omega
  have hml : (x >>> (8 - a - kk) &&& (2 ^ kk - 1)) < 2 ^ kk := by have := Nat.and_le_right (n := x >>> (8 - a - kk)) (m := 2 ^ kk - 1); have := Nat.two_pow_pos kk; omega
  rw [e1, and_u32 _ _ hs hm]
  have hb : (x >>> (8 - a - kk) &&& (2 ^ kk - 1)) * 2 ^ (n - k - kk) < 4294967296 := by
    have h3 : (x >>> (8 - a - kk) &&& (2 ^ kk - 1)) * 2 ^ (n - k - kk) < 2 ^ kk * 2 ^ (n - k - kk) := Nat.mul_lt_mul_of_pos_right hml (Nat.two_pow_pos _)
    rw [← Nat.pow_add] at h3
    have h4 : 2 ^ (kk + (n - k - kk)) ≤ 2 ^ 32 := Nat.pow_le_pow_right (by omega) (by omega)
    omega
  have e2 : ((x >>> (8 - a - kk) &&& (2 ^ kk - 1) : Nat) : Int) * 2 ^ (n - k - kk) % 4294967296 = (((x >>> (8 - a - kk) &&& (2 ^ kk - 1)) <<< (n - k - kk) : Nat) : Int) := by
    rw [Nat.shiftLeft_eq]
    have : (((x >>> (8 - a - kk) &&& (2 ^ kk - 1)) * 2 ^ (n - k - kk) : Nat) : Int) = ((x >>> (8 - a - kk) &&& (2 ^ kk - 1) : Nat) : Int) * 2 ^ (n - k - kk) := by simp
    rw [← this]; omega
  have hhi : numHi f k <<< (n - k) < 4294967296 := by
    rw [Nat.shiftLeft_eq]
    have h3 : numHi f k * 2 ^ (n - k) < 2 ^ k * 2 ^ (n - k) := Nat.mul_lt_mul_of_pos_right (numHi_lt f k) (Nat.two_pow_pos _)
    rw [← Nat.pow_add] at h3
    have h4 : 2 ^ (k + (n - k)) ≤ 2 ^ 32 := Nat.pow_le_pow_right (by omega) (by omega)
    omega
  rw [e2, or_u32 _ _ hhi (by rw [Nat.shiftLeft_eq]; exact hb), hi_step f x a kk k n h1 h2 hf, Nat.sub_sub]
theorem bitAt_run (l : List UInt8) (high : Bool) (p m : Nat) (h : p % 8 + m < 8) (hp : p / 8 < l.length) : bitAt l high (p + m) = l[p / 8].toNat.testBit (if high then 7 - (p % 8 + m) else p % 8 + m) := by
  have e1 : (p + m) / 8 = p / 8 := by omega
  have e2 : (p + m) % 8 = p % 8 + m := by omega
  unfold bitAt
  rw [e1, e2, List.getElem?_eq_getElem hp, Option.getD_some]
theorem hi_close_a (f : Nat → Bool) (x a k n : Nat) (hx : x < 256) (h1 : a < 8) (h2 : k + (8 - a) ≤ n) (hn : n ≤ 32) (hf : ∀ m, m < 8 - a → f (k + m) = x.testBit (7 - (a + m))) :
    bits .or .u32 ((numHi f k <<< (n - k) : Nat) : Int) (bits .and .u32 (x : Int) (((2 : Int) ^ (8 - a) - 1) % 4294967296) * 2 ^ (n - k - (8 - a)) % 4294967296) = ((numHi f (k + (8 - a)) <<< (n - (k + (8 - a))) : Nat) : Int) := by
  have h := hi_close f x a k (8 - a) n hx (by omega) h2 hn hf
  rw [show 8 - a - (8 - a) = 0 from by omega, Int.pow_zero, Int.ediv_one] at h
  exact h
theorem hi_close_b (f : Nat → Bool) (x a k n : Nat) (hx : x < 256) (h1 : a + (n - k) ≤ 8) (h2 : k ≤ n) (hn : n ≤ 32) (hf : ∀ m, m < n - k → f (k + m) = x.testBit (7 - (a + m))) :
    bits .or .u32 ((numHi f k <<< (n - k) : Nat) : Int) (bits .and .u32 ((x : Int) / 2 ^ (8 - a - (n - k))) (((2 : Int) ^ (n - k) - 1) % 4294967296) % 4294967296) = ((numHi f (k + (n - k)) <<< (n - (k + (n - k))) : Nat) : Int) := by
  have h := hi_close f x a k (n - k) n hx h1 (by omega) hn hf
  rw [show n - k - (n - k) = 0 from by omega, Int.pow_zero, Int.mul_one] at h
  exact h
end Go.Proofs.YtfbokhdimffabaaGreatDoor

/- Contracts of the reader of bits. -/
namespace Go.Proofs.YtfbokhdimffabaaGreatDoor
open Go.ChangeShapes Go.WideShapes Go.ChangeAt Go.RowKit

theorem quiet_eq {P : Program} {f : FuncId} {args : Array Value} {w : World} {n : Nat} {v : Value}
    (h : Calls P f args (w.drewN n) fun e w' => e = .returned v ∧ w.drewN n = w') : Calls P f args (w.drewN n) fun e w'' => e = .returned v ∧ ∃ m, w'' = w.drewN m :=
  h.mono fun _ _ ⟨he, hm⟩ => ⟨he, n, hm.symm⟩
def ord (high : Bool) : Value := .func (.func (if high then 95 else 96)) #[] #[]
theorem highFirst_any (i k n : Int) (w : World) (h0 : 0 ≤ i) (h1 : 0 ≤ k) (h2 : 0 ≤ n) (h3 : n ≤ 64) (h4 : i ≤ 64) (h5 : k ≤ 64) :
    Calls Tryz.prog 95 #[.int .i64 i, .int .i64 k, .int .i64 n] w fun e w' => e = .returned (.int .i64 (n - i - k)) ∧ w = w' := by
  go_enter Tryz.func95, Tryz.ntmps95
  go_wp2
  go_ret
  exact ⟨rfl, rfl⟩
theorem lowFirst_any (i k n : Int) (w : World) :
    Calls Tryz.prog 96 #[.int .i64 i, .int .i64 k, .int .i64 n] w fun e w' => e = .returned (.int .i64 i) ∧ w = w' := by
  go_enter Tryz.func96, Tryz.ntmps96
  go_wp2
  go_ret
  exact ⟨rfl, rfl⟩
theorem orderOf_any (b : Bool) (w : World) :
    Calls Tryz.prog 73 #[.bool b] w fun e w' => e = .returned (ord b) ∧ w = w' := by
  cases b
  all_goals
    go_enter Tryz.func73, Tryz.ntmps73
    go_wp2
    go_ret
    exact ⟨rfl, rfl⟩
/-- A reader stands in block g: its bytes l, in a row of the call's own, its order, how many bits were taken. -/
def Rdr (w : World) (base g : Nat) (A : Option Addr) (c : Nat) (l : List UInt8) (high : Bool) (at_ : Nat) : Prop :=
  Blk w g 126 #[.slice A l.length c, .int .i64 (at_ : Int), ord high] ∧ w.ownsRow base 5 1 (.slice A l.length c) l.length (bytesV l) ∧ base ≤ g ∧ at_ ≤ 8 * l.length ∧ l.length ≤ 140737488355328

def NewRdr (w : World) (l : List UInt8) (high : Bool) (e : Ending) (w' : World) : Prop := ∃ g A' c', e = .returned (.pointer (some ⟨g, 0, none⟩)) ∧ Rdr w' w.heap.size g A' c' l high 0 ∧ Below w.heap.size w w'

set_option maxHeartbeats 400000 in
theorem newReader_any (A : Option Addr) (c : Nat) (l : List UInt8) (high : Bool) (B : Nat) (w : World) (h : Bs w B A l) (hB : B ≤ w.heap.size) (hl : l.length ≤ 140737488355328) :
    Calls Tryz.prog 45 #[.slice A l.length c, .bool high] w (NewRdr w l high) := by
  go_enter Tryz.func45, Tryz.ntmps45
  go_wp2_with (first | (go_at_call 72; refine (copyOf_any _ _ _ B _ h hB hl).mono ?_; rintro e w1 ⟨A1, c1, rfl, hown1, hb1⟩) | (go_at_call 73; refine (orderOf_any _ _).mono ?_; rintro e w2 ⟨rfl, rfl⟩; unfold ord))
  all_goals go_ret
  all_goals refine ⟨_, A1, c1, rfl, ⟨Blk.new _ _ _, hown1.alloc _, hb1.size, by omega, hl⟩, hb1.alloc hb1.size _⟩

section
variable {w w' : World} {base g : Nat} {A : Option Addr} {c : Nat} {l : List UInt8} {high : Bool} {at_ : Nat}
theorem Rdr.upd {S : Nat → Prop} (h : Rdr w base g A c l high at_) (hu : Upd S w w') (hg : ¬ S g) (hA : ∀ k, (Value.slice A l.length c).ownBlock = some k → ¬ S k) : Rdr w' base g A c l high at_ :=
  ⟨h.1.upd hu hg, own_upd h.2.1 hu hA, h.2.2⟩
theorem Rdr.data (h : Rdr w base g A c l high at_) : w.cell? ⟨g, 0, none⟩ = some (.slice A l.length c) := by rw [h.1.cell]; rfl
theorem Rdr.place (h : Rdr w base g A c l high at_) : w.cell? ⟨g, 1, none⟩ = some (.int .i64 (at_ : Int)) := by rw [h.1.cell]; rfl
theorem Rdr.shift (h : Rdr w base g A c l high at_) : w.cell? ⟨g, 2, none⟩ = some (ord high) := by rw [h.1.cell]; rfl
theorem Rdr.free (h : Rdr w base g A c l high at_) (i : Nat) : w.frozen? ⟨g, i, none⟩ = false := h.1.frozen i
theorem Rdr.ne (h : Rdr w base g A c l high at_) : (Value.slice A l.length c).ownBlock ≠ some g := own_blk_ne h.2.1 h.1 (by decide)
theorem Rdr.set_ (h : Rdr w base g A c l high at_) (k : Nat) (hk : k ≤ 8 * l.length) : Rdr (w.setCell ⟨g, 1, none⟩ (.int .i64 (k : Int))) base g A c l high k :=
  ⟨h.1.set_ 1 _, own_upd h.2.1 ((Upd.refl (· = g) w).setCell (fun _ => rfl) _) (fun k hk e => h.ne (by subst e; exact hk)), h.2.2.1, hk, h.2.2.2.2⟩
end

theorem left_any (w : World) (base g : Nat) (A : Option Addr) (c : Nat) (l : List UInt8) (high : Bool) (at_ : Nat) (h : Rdr w base g A c l high at_) :
    Calls Tryz.prog 74 #[.pointer (some ⟨g, 0, none⟩)] w fun e w' => e = .returned (.int .i64 (8 * (l.length : Int) - at_)) ∧ ∃ n, w' = w.drewN n := by
  have hc0 := h.data
  have hc1 := h.place
  have hb := h.2.2.2
  go_enter Tryz.func74, Tryz.ntmps74
  go_wp2_with fail
  go_quiet (fail)
  go_wp2
  go_ret
  exact ⟨rfl, _, rfl⟩
theorem left_nil (w : World) :
    Calls Tryz.prog 74 #[.pointer none] w fun e w' => e = .returned (.int .i64 0) ∧ w = w' := by
  go_enter Tryz.func74, Tryz.ntmps74
  go_wp2_with fail
  go_ret
  exact ⟨rfl, rfl⟩
def part (high : Bool) (f : Nat → Bool) (k n : Nat) : Nat := if high then numHi f k <<< (n - k) else numLo f k

theorem part_hi (f : Nat → Bool) (k n : Nat) : part true f k n = numHi f k <<< (n - k) := rfl
theorem part_lo (f : Nat → Bool) (k n : Nat) : part false f k n = numLo f k := rfl
end Go.Proofs.YtfbokhdimffabaaGreatDoor

/- Contracts of the reader's other calls: faults of Take, Bytes, Align, and all of them of a nil reader. -/
namespace Go.Proofs.YtfbokhdimffabaaGreatDoor
open Go.ChangeShapes Go.WideShapes Go.ChangeAt Go.RowKit

theorem take_nil (n : Int) (w : World) :
    Calls Tryz.prog 46 #[.pointer none, .int .i64 n] w fun e w' => e = .returned (.tuple #[.int .u32 0, .int .i64 1]) ∧ w = w' := by
  go_enter Tryz.func46, Tryz.ntmps46
  go_wp2_with fail
  go_ret2
  exact ⟨rfl, rfl⟩
theorem take_range (g : Nat) (n : Int) (w : World) (hn : n < 0 ∨ 32 < n) :
    Calls Tryz.prog 46 #[.pointer (some ⟨g, 0, none⟩), .int .i64 n] w fun e w' => e = .returned (.tuple #[.int .u32 0, .int .i64 2]) ∧ w = w' := by
  rcases hn with hn | hn
  · have d1 : decide (n < 0) = true := by simp; omega
    go_enter Tryz.func46, Tryz.ntmps46
    go_wp2_with fail
    go_ret2
    exact ⟨rfl, rfl⟩
  · have d1 : decide (n < 0) = false := by simp; omega
    go_enter Tryz.func46, Tryz.ntmps46
    go_wp2_with fail
    go_ret2
    exact ⟨rfl, rfl⟩
set_option maxHeartbeats 400000 in
theorem take_end (w : World) (base g : Nat) (A : Option Addr) (c : Nat) (l : List UInt8) (high : Bool) (at_ : Nat) (n : Int) (h : Rdr w base g A c l high at_) (h0 : 0 ≤ n) (hn : n ≤ 32) (hl : 8 * (l.length : Int) - at_ < n) :
    Calls Tryz.prog 46 #[.pointer (some ⟨g, 0, none⟩), .int .i64 n] w fun e w' =>
      e = .returned (.tuple #[.int .u32 0, .int .i64 5]) ∧ ∃ k, w' = w.drewN k := by
  have d1 : decide (n < 0) = false := by simp; omega
  have d2 : decide ((32 : Int) < n) = false := by simp; omega
  have d3 : decide (8 * (l.length : Int) - (at_ : Int) < n) = true := by simp; omega
  go_enter Tryz.func46, Tryz.ntmps46
  go_wp2_with fail
  refine (left_any _ _ _ _ _ _ _ _ h).mono ?_
  rintro e w1 ⟨rfl, n1, rfl⟩
  go_wp2_with fail
  go_ret2
  exact ⟨rfl, _, rfl⟩
theorem own_cap {w : World} {base : Nat} {e : TypeId} {size n c : Nat} {A : Option Addr} {xs : List Value} (h : w.ownsRow base e size (.slice A n c) n xs) : n ≤ c ∧ c ≤ maxLen := by
  rcases h.2 with ⟨h1, rfl⟩ | ⟨g, cap, cur, h1, _, _, h2, h3, _⟩
  · injection h1 with _ _ h; subst h; exact ⟨Nat.le_refl _, Nat.zero_le _⟩
  · injection h1 with _ _ h; subst h; exact ⟨h2, h3⟩

end Go.Proofs.YtfbokhdimffabaaGreatDoor
