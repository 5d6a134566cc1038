/- Plain mathematics of the two sums: CRC-32 step by step, Adler-32 byte by byte. No program, no memory. -/
import Derived.WalkKit
namespace Go.Proofs.Ytaloieeemibblaa

def poly : Nat := 3988292384
def ones : Nat := 4294967295
def step1 (c : Nat) : Nat := if c % 2 = 1 then c / 2 ^^^ poly else c / 2
def stepN : Nat → Nat → Nat
  | 0, c => c
  | n + 1, c => step1 (stepN n c)
/-- What one byte makes of the number c. -/
def crcByte (c : Nat) (x : UInt8) : Nat := stepN 8 (c ^^^ x.toNat)
def crcGo (c : Nat) (l : List UInt8) : Nat := l.foldl crcByte c
def crcOn (sum : Nat) (l : List UInt8) : Nat := crcGo (sum ^^^ ones) l ^^^ ones

theorem xor_lt {a b : Nat} (ha : a < 4294967296) (hb : b < 4294967296) : a ^^^ b < 4294967296 := Nat.xor_lt_two_pow (n := 32) ha hb
theorem step1_lt {c : Nat} (h : c < 4294967296) : step1 c < 4294967296 := by
  unfold step1 poly
  split
  · exact xor_lt (by omega) (by omega)
  · omega
theorem step1_odd {c : Nat} (h : c % 2 = 1) : step1 c = c / 2 ^^^ poly := if_pos h
theorem step1_even {c : Nat} (h : ¬ c % 2 = 1) : step1 c = c / 2 := if_neg h
theorem stepN_lt {c : Nat} (h : c < 4294967296) (n : Nat) : stepN n c < 4294967296 := by
  induction n with
  | zero => exact h
  | succ n ih => exact step1_lt ih
theorem crcByte_lt {c : Nat} (h : c < 4294967296) (x : UInt8) : crcByte c x < 4294967296 := stepN_lt (xor_lt h (by have := x.toNat_lt; omega)) 8
theorem crcGo_lt {c : Nat} (h : c < 4294967296) (l : List UInt8) : crcGo c l < 4294967296 := by
  induction l generalizing c with
  | nil => exact h
  | cons x r ih => exact ih (crcByte_lt h x)
theorem crcOn_lt {s : Nat} (h : s < 4294967296) (l : List UInt8) : crcOn s l < 4294967296 := xor_lt (crcGo_lt (xor_lt h (by unfold ones; omega)) l) (by unfold ones; omega)
theorem xor_self_left (a b : Nat) : a ^^^ (a ^^^ b) = b := by rw [← Nat.xor_assoc, Nat.xor_self, Nat.zero_xor]
theorem xor_self_right (a b : Nat) : a ^^^ b ^^^ b = a := by rw [Nat.xor_assoc, Nat.xor_self, Nat.xor_zero]
theorem eq_of_xor {a b : Nat} (h : a ^^^ b = 0) : a = b := by
  have := xor_self_left a b
  rw [h, Nat.xor_zero] at this
  exact this
theorem step1_xor (a b : Nat) : step1 (a ^^^ b) = step1 a ^^^ step1 b := by
  have hd : (a ^^^ b) / 2 = a / 2 ^^^ b / 2 := Nat.xor_div_two
  have hm : (a ^^^ b) % 2 = (a + b) % 2 := by
    have h := Nat.xor_mod_two_eq_one (a := a) (b := b)
    by_cases h1 : (a ^^^ b) % 2 = 1
    · have := h.mp h1; omega
    · have : ¬ ¬ (a % 2 = 1 ↔ b % 2 = 1) := fun k => h1 (h.mpr k)
      omega
  unfold step1
  rw [hd, hm]
  by_cases ha : a % 2 = 1 <;> by_cases hb : b % 2 = 1
  · rw [if_pos ha, if_pos hb, if_neg (by omega)]
    rw [show a / 2 ^^^ poly ^^^ (b / 2 ^^^ poly) = a / 2 ^^^ b / 2 ^^^ (poly ^^^ poly) from by ac_rfl, Nat.xor_self, Nat.xor_zero]
  · rw [if_pos ha, if_neg hb, if_pos (by omega)]; ac_rfl
  · rw [if_neg ha, if_pos hb, if_pos (by omega)]; ac_rfl
  · rw [if_neg ha, if_neg hb, if_neg (by omega)]
theorem stepN_xor (n a b : Nat) : stepN n (a ^^^ b) = stepN n a ^^^ stepN n b := by
  induction n with
  | zero => rfl
  | succ n ih => simp only [stepN]; rw [ih, step1_xor]
theorem stepN_shift (n c : Nat) : stepN n (c * 2 ^ n) = c := by
  induction n generalizing c with
  | zero => simp [stepN]
  | succ n ih =>
    simp only [stepN]
    rw [show c * 2 ^ (n + 1) = (c * 2) * 2 ^ n from by rw [Nat.pow_succ]; ac_rfl, ih, step1_even (by omega)]
    omega
theorem split16 (c : Nat) : c = (c / 16 * 16) ^^^ (c % 16) := by
  have h : c % 16 < 2 ^ 4 := by omega
  have h1 := Nat.shiftLeft_add_eq_or_of_lt h (c / 16)
  have h2 : (c / 16) <<< 4 = c / 16 * 16 := by rw [Nat.shiftLeft_eq]
  apply Nat.eq_of_testBit_eq
  intro j
  rw [Nat.testBit_xor, show c / 16 * 16 = 2 ^ 4 * (c / 16) from by omega, show c % 16 = c % 2 ^ 4 from rfl, Nat.testBit_two_pow_mul, Nat.testBit_mod_two_pow, show c / 16 = c / 2 ^ 4 from rfl, Nat.testBit_div_two_pow]
  by_cases hj : j < 4
  · simp [hj, show ¬ 4 ≤ j from by omega]
  · simp [hj, show 4 ≤ j from by omega]
theorem half (c : Nat) : c / 16 ^^^ stepN 4 (c % 16) = stepN 4 c := by
  conv => rhs; rw [split16 c]
  rw [stepN_xor, show c / 16 * 16 = c / 16 * 2 ^ 4 from rfl, stepN_shift]
theorem stepN_add (m n c : Nat) : stepN (m + n) c = stepN m (stepN n c) := by
  induction m with
  | zero => simp [stepN]
  | succ m ih => rw [show m + 1 + n = (m + n) + 1 from by omega]; simp only [stepN]; rw [ih]
theorem halves (c : Nat) : stepN 4 c / 16 ^^^ stepN 4 (stepN 4 c % 16) = stepN 8 c := by
  rw [half, ← stepN_add]
theorem crcGo_take (c : Nat) (l : List UInt8) (k : Nat) (hk : k < l.length) : crcGo c (l.take (k + 1)) = crcByte (crcGo c (l.take k)) l[k] := by
  rw [List.take_succ_eq_append_getElem hk]
  unfold crcGo
  rw [List.foldl_append]
  rfl
theorem crcGo_append (c : Nat) (a b : List UInt8) : crcGo c (a ++ b) = crcGo (crcGo c a) b := by unfold crcGo; rw [List.foldl_append]
theorem crcOn_append (s : Nat) (a b : List UInt8) : crcOn (crcOn s a) b = crcOn s (a ++ b) := by
  unfold crcOn
  rw [xor_self_right, crcGo_append]
theorem step1_inj {a b : Nat} (ha : a < 4294967296) (hb : b < 4294967296) (h : step1 a = step1 b) : a = b := by
  have key : ∀ x, x < 4294967296 → step1 x = 0 → x = 0 := by
    intro x hx h0
    by_cases ho : x % 2 = 1
    · rw [step1_odd ho] at h0
      have := eq_of_xor h0
      unfold poly at this
      omega
    · rw [step1_even ho] at h0; omega
  have h2 := key (a ^^^ b) (xor_lt ha hb) (by rw [step1_xor, h, Nat.xor_self])
  exact eq_of_xor h2
theorem stepN_inj (n : Nat) {a b : Nat} (ha : a < 4294967296) (hb : b < 4294967296) (h : stepN n a = stepN n b) : a = b := by
  induction n with
  | zero => exact h
  | succ n ih => exact ih (step1_inj (stepN_lt ha n) (stepN_lt hb n) h)
theorem crcByte_inj {a b : Nat} (ha : a < 4294967296) (hb : b < 4294967296) (x : UInt8) (h : crcByte a x = crcByte b x) : a = b := by
  have h2 := stepN_inj 8 (xor_lt ha (by have := x.toNat_lt; omega)) (xor_lt hb (by have := x.toNat_lt; omega)) h
  have h3 := congrArg (· ^^^ x.toNat) h2
  simp only [xor_self_right] at h3
  exact h3
theorem crcGo_inj {a b : Nat} (ha : a < 4294967296) (hb : b < 4294967296) (l : List UInt8) (h : crcGo a l = crcGo b l) : a = b := by
  induction l generalizing a b with
  | nil => exact h
  | cons x r ih => exact crcByte_inj ha hb x (ih (crcByte_lt ha x) (crcByte_lt hb x) h)
/-- Of two lists that part at one place alone the sums differ. -/
theorem crcOn_tell (s : Nat) (hs : s < 4294967296) (p r : List UInt8) (x y : UInt8) (hxy : x ≠ y) : crcOn s (p ++ x :: r) ≠ crcOn s (p ++ y :: r) := by
  intro h
  unfold crcOn at h
  have h1 := congrArg (· ^^^ ones) h
  simp only [xor_self_right] at h1
  have hc0 : s ^^^ ones < 4294967296 := xor_lt hs (by unfold ones; omega)
  have hp := crcGo_lt hc0 p
  have e : ∀ z, crcGo (s ^^^ ones) (p ++ z :: r) = crcGo (crcByte (crcGo (s ^^^ ones) p) z) r := by intro z; rw [crcGo_append]; rfl
  rw [e x, e y] at h1
  have h2 := crcGo_inj (crcByte_lt hp x) (crcByte_lt hp y) r h1
  have h3 := stepN_inj 8 (xor_lt hp (by have := x.toNat_lt; omega)) (xor_lt hp (by have := y.toNat_lt; omega)) h2
  have h4 := congrArg (crcGo (s ^^^ ones) p ^^^ ·) h3
  simp only [xor_self_left] at h4
  exact hxy (UInt8.toNat_inj.mp h4)

def adByte (p : Nat × Nat) (x : UInt8) : Nat × Nat := ((p.1 + x.toNat) % 65521, (p.2 + (p.1 + x.toNat) % 65521) % 65521)
def adGo (p : Nat × Nat) (l : List UInt8) : Nat × Nat := l.foldl adByte p
theorem adGo_append (p : Nat × Nat) (a b : List UInt8) : adGo p (a ++ b) = adGo (adGo p a) b := by unfold adGo; rw [List.foldl_append]
def adAt (sum : Nat) : Nat × Nat := (sum % 65536 % 65521, sum / 65536 % 65521)
def adOn (sum : Nat) (l : List UInt8) : Nat := 65536 * (adGo (adAt sum) l).2 + (adGo (adAt sum) l).1
theorem adGo_lt (p : Nat × Nat) (l : List UInt8) (h : p.1 < 65521 ∧ p.2 < 65521) : (adGo p l).1 < 65521 ∧ (adGo p l).2 < 65521 := by
  induction l generalizing p with
  | nil => exact h
  | cons x r ih => exact ih _ (by unfold adByte; constructor <;> simp only <;> omega)
theorem adAt_lt (s : Nat) : (adAt s).1 < 65521 ∧ (adAt s).2 < 65521 := by unfold adAt; constructor <;> simp only <;> omega
theorem adOn_lt (s : Nat) (l : List UInt8) : adOn s l < 4294967296 := by
  have := adGo_lt _ l (adAt_lt s)
  unfold adOn; omega
theorem adGo_take (p : Nat × Nat) (l : List UInt8) (k : Nat) (hk : k < l.length) : adGo p (l.take (k + 1)) = adByte (adGo p (l.take k)) l[k] := by
  rw [List.take_succ_eq_append_getElem hk]
  unfold adGo
  rw [List.foldl_append]
  rfl
theorem adOn_append (s : Nat) (a b : List UInt8) : adOn (adOn s a) b = adOn s (a ++ b) := by
  have h := adGo_lt _ a (adAt_lt s)
  have e : adAt (adOn s a) = adGo (adAt s) a := by
    unfold adOn
    generalize adGo (adAt s) a = q at h
    obtain ⟨q1, q2⟩ := q
    simp only at h
    unfold adAt
    simp only [Prod.mk.injEq]
    constructor <;> omega
  rw [show adOn (adOn s a) b = 65536 * (adGo (adAt (adOn s a)) b).2 + (adGo (adAt (adOn s a)) b).1 from rfl, e]
  unfold adOn
  rw [adGo_append]
theorem adGo_fst (p : Nat × Nat) (l : List UInt8) : (adGo p l).1 % 65521 = (p.1 + (l.map UInt8.toNat).sum) % 65521 := by
  induction l generalizing p with
  | nil => simp [adGo]
  | cons x r ih =>
    rw [show adGo p (x :: r) = adGo (adByte p x) r from rfl, ih]
    simp only [adByte, List.map_cons, List.sum_cons]
    omega
theorem adOn_tell (s : Nat) (p r : List UInt8) (x y : UInt8) (hxy : x ≠ y) : adOn s (p ++ x :: r) ≠ adOn s (p ++ y :: r) := by
  intro h
  have hx := adGo_lt _ (p ++ x :: r) (adAt_lt s)
  have hy := adGo_lt _ (p ++ y :: r) (adAt_lt s)
  have fx := adGo_fst (adAt s) (p ++ x :: r)
  have fy := adGo_fst (adAt s) (p ++ y :: r)
  unfold adOn at h
  have h1 : (adGo (adAt s) (p ++ x :: r)).1 = (adGo (adAt s) (p ++ y :: r)).1 := by omega
  rw [h1] at fx
  have h2 := fx.symm.trans fy
  simp only [List.map_append, List.map_cons, List.sum_append, List.sum_cons] at h2
  have lx := x.toNat_lt
  have ly := y.toNat_lt
  exact hxy (UInt8.toNat_inj.mp (by omega))

theorem bv_nat (n a : Nat) (ha : a < 2 ^ n) : (BitVec.ofInt n (a : Int)).toNat = a := by simp [Nat.mod_eq_of_lt ha]
theorem xor_u32 (a b : Nat) (ha : a < 4294967296) (hb : b < 4294967296) : bits .xor .u32 (a : Int) (b : Int) = ((a ^^^ b : Nat) : Int) := by
  have h1 : a ^^^ b < 4294967296 := xor_lt ha hb
  show IntKind.u32.wrap ((BitVec.ofInt 32 (a : Int) ^^^ BitVec.ofInt 32 (b : Int)).toNat : Int) = _
  rw [BitVec.toNat_xor, bv_nat 32 a ha, bv_nat 32 b hb, IntKind.wrap_u32]
  omega
theorem xor_u8 (a b : Nat) (ha : a < 256) (hb : b < 256) : bits .xor .u8 (a : Int) (b : Int) = ((a ^^^ b : Nat) : Int) := by
  have h1 : a ^^^ b < 2 ^ 8 := Nat.xor_lt_two_pow ha hb
  show IntKind.u8.wrap ((BitVec.ofInt 8 (a : Int) ^^^ BitVec.ofInt 8 (b : Int)).toNat : Int) = _
  rw [BitVec.toNat_xor, bv_nat 8 a ha, bv_nat 8 b hb, IntKind.wrap_u8]
  omega
theorem compl_u32 (a : Nat) (ha : a < 4294967296) : ((4294967295 : Nat) - a : Nat) = a ^^^ ones := by
  apply Nat.eq_of_testBit_eq
  intro j
  rw [Nat.testBit_xor, show ones = 2 ^ 32 - 1 from rfl, Nat.testBit_two_pow_sub_one, show 4294967295 - a = 2 ^ 32 - (a + 1) from by omega, Nat.testBit_two_pow_sub_succ (by omega)]
  by_cases hj : j < 32
  · simp [hj]
  · simp [hj]
    exact Nat.testBit_lt_two_pow (Nat.lt_of_lt_of_le ha (Nat.pow_le_pow_right (n := 2) (by omega) (show 32 ≤ j by omega)))
end Go.Proofs.Ytaloieeemibblaa
