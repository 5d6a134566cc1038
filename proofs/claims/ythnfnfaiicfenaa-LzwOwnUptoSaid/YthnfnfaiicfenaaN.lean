/- Plain mathematics of writing bits: bits packed into bytes. No program, no memory. -/
import Derived.Test.YthnfnfaiicfenaaM
namespace Go.Proofs.Ythnfnfaiicfenaa

def bitsOf (high : Bool) (v n : Nat) : List Bool := (List.range n).map fun i => v.testBit (if high then n - 1 - i else i)
theorem bitsOf_length (high : Bool) (v n : Nat) : (bitsOf high v n).length = n := by simp [bitsOf]
theorem bitsOf_get (high : Bool) (v n i : Nat) (hi : i < n) : (bitsOf high v n)[i]? = some (v.testBit (if high then n - 1 - i else i)) := by simp [bitsOf, hi]
/-- The bytes l hold the bits bs in an order, and behind them bits 0. -/
def Holds (high : Bool) (bs : List Bool) (l : List UInt8) : Prop := ∀ i, bitAt l high i = (bs[i]?).getD false
def Packed (high : Bool) (bs : List Bool) (l : List UInt8) : Prop := l.length = (bs.length + 7) / 8 ∧ Holds high bs l

theorem byte_ext (a b : UInt8) (h : ∀ j, j < 8 → a.toNat.testBit j = b.toNat.testBit j) : a = b := by
  apply UInt8.toNat_inj.mp
  apply Nat.eq_of_testBit_eq
  intro j
  by_cases hj : j < 8
  · exact h j hj
  · have p : 2 ^ 8 ≤ 2 ^ j := Nat.pow_le_pow_right (by omega) (by omega)
    have ha := a.toNat_lt
    have hb := b.toNat_lt
    rw [Nat.testBit_lt_two_pow (by omega), Nat.testBit_lt_two_pow (by omega)]
def pos (high : Bool) (r : Nat) : Nat := if high then 7 - r else r
theorem bitAt_pos (l : List UInt8) (high : Bool) (i : Nat) : bitAt l high i = (l[i / 8]?.getD 0).toNat.testBit (pos high (i % 8)) := by
  unfold bitAt pos; rfl
theorem pos_pos (high : Bool) (r : Nat) (h : r < 8) : pos high (pos high r) = r := by unfold pos; cases high <;> simp; omega
theorem pos_lt (high : Bool) (r : Nat) (h : r < 8) : pos high r < 8 := by unfold pos; cases high <;> simp <;> omega
theorem packed_unique {high : Bool} {bs : List Bool} {l l' : List UInt8} (h : Packed high bs l) (h' : Packed high bs l') : l = l' := by
  apply List.ext_getElem (by rw [h.1, h'.1])
  intro q hq hq'
  apply byte_ext
  intro j hj
  have e := (h.2 (8 * q + pos high j)).trans (h'.2 (8 * q + pos high j)).symm
  have hp := pos_lt high j hj
  rw [bitAt_pos, bitAt_pos, show (8 * q + pos high j) / 8 = q from by omega, show (8 * q + pos high j) % 8 = pos high j from by omega, pos_pos high j hj] at e
  simpa [hq, hq'] using e
theorem packed_nil (high : Bool) : Packed high [] [] := ⟨by simp, fun i => by simp [bitAt]⟩
theorem holds_grow {high : Bool} {bs : List Bool} {l : List UInt8} (h : Holds high bs l) : Holds high bs (l ++ [0]) := by
  intro i
  rw [← h i]
  unfold bitAt
  by_cases hi : i / 8 < l.length
  · rw [List.getElem?_append_left hi]
  · have e : (l ++ [0])[i / 8]?.getD 0 = 0 := by
      rcases Nat.lt_or_ge (i / 8) (l.length + 1) with h1 | h1
      · have : i / 8 = l.length := by omega
        simp [this]
      · rw [List.getElem?_eq_none (by simp; omega)]; rfl
    rw [e, List.getElem?_eq_none (by omega)]
    rfl
/-- A run of bits is laid into the byte that was begun. -/
theorem holds_put {high : Bool} {bs cs : List Bool} {l : List UInt8} (x : UInt8) (h : Holds high bs l) (hq : bs.length / 8 < l.length) (hk : bs.length % 8 + cs.length ≤ 8)
    (hx : ∀ r, r < 8 → x.toNat.testBit (pos high r) = if r < bs.length % 8 then (l[bs.length / 8]).toNat.testBit (pos high r) else (cs[r - bs.length % 8]?).getD false) :
    Holds high (bs ++ cs) (l.set (bs.length / 8) x) := by
  intro i
  rw [bitAt_pos]
  by_cases hi : i / 8 = bs.length / 8
  · rw [hi, List.getElem?_set_self hq, Option.getD_some, hx _ (by omega)]
    by_cases hr : i % 8 < bs.length % 8
    · rw [if_pos hr, List.getElem?_append_left (by omega), ← h i, bitAt_pos, hi, List.getElem?_eq_getElem hq, Option.getD_some]
    · rw [if_neg hr, List.getElem?_append_right (by omega), show i - bs.length = i % 8 - bs.length % 8 from by omega]
  · rw [List.getElem?_set_ne (fun e => hi e.symm), ← bitAt_pos, h i]
    by_cases hlt : i < bs.length
    · rw [List.getElem?_append_left hlt]
    · have : bs.length + cs.length ≤ i := by omega
      rw [List.getElem?_append_right (by omega), List.getElem?_eq_none (by omega), List.getElem?_eq_none (by omega)]
/-- Where nothing was laid yet the byte is 0. -/
theorem holds_free {high : Bool} {bs : List Bool} {l : List UInt8} (h : Holds high bs l) (hq : bs.length / 8 < l.length) (r : Nat) (h1 : bs.length % 8 ≤ r) (h2 : r < 8) : (l[bs.length / 8]).toNat.testBit (pos high r) = false := by
  have e := h (8 * (bs.length / 8) + r)
  rw [bitAt_pos, show (8 * (bs.length / 8) + r) / 8 = bs.length / 8 from by omega, show (8 * (bs.length / 8) + r) % 8 = r from by omega, List.getElem?_eq_getElem hq, Option.getD_some,
    List.getElem?_eq_none (by omega)] at e
  exact e
/-- The byte that Put's round leaves, bit by bit. -/
theorem put_byte (high : Bool) (x v a k i n : Nat) (h1 : a + k ≤ 8) (h2 : i + k ≤ n) (r : Nat) (hr : r < 8) (hfree : ∀ r, a ≤ r → r < 8 → x.testBit (pos high r) = false) :
    (x ||| ((v >>> (if high then n - i - k else i) &&& (2 ^ k - 1)) <<< (if high then 8 - a - k else a))).testBit (pos high r) =
      if r < a then x.testBit (pos high r) else (((bitsOf high v n).drop i).take k)[r - a]?.getD false := by
  simp only [Nat.testBit_or, Nat.testBit_shiftLeft, Nat.testBit_and, Nat.testBit_shiftRight, Nat.testBit_two_pow_sub_one]
  by_cases hra : r < a
  · rw [if_pos hra]
    cases high
    · have : ¬ a ≤ pos false r := by simp [pos]; omega
      simp [this]
    · have : ¬ (pos true r - (8 - a - k) < k) := by simp [pos]; omega
      simp [this]
  · rw [if_neg hra, hfree r (by omega) hr, List.getElem?_take]
    by_cases hk : r - a < k
    · rw [if_pos hk, List.getElem?_drop, bitsOf_get _ _ _ _ (by omega), Option.getD_some]
      cases high
      · have e1 : a ≤ pos false r := by simp [pos]; omega
        have e2 : pos false r - a < k := by simp [pos]; omega
        have e3 : i + (pos false r - a) = i + (r - a) := by simp [pos]
        simp [e1, e2, e3]
      · have e1 : 8 - a - k ≤ pos true r := by simp [pos]; omega
        have e2 : pos true r - (8 - a - k) < k := by simp [pos]; omega
        have e3 : n - i - k + (pos true r - (8 - a - k)) = n - 1 - (i + (r - a)) := by simp [pos]; omega
        simp [e2, e3]; simp [pos] at e1 ⊢; omega
    · rw [if_neg hk]
      cases high
      · have e2 : ¬ pos false r - a < k := by simp [pos]; omega
        simp [e2]
      · have e2 : ¬ (8 - a - k ≤ pos true r) := by simp [pos]; omega
        simp [e2]
theorem take_step (high : Bool) (v n i k : Nat) : (bitsOf high v n).take i ++ ((bitsOf high v n).drop i).take k = (bitsOf high v n).take (i + k) := by
  rw [List.take_add]
theorem byte_close (x v kk t s : Nat) (hx : x < 256) (hv : v < 4294967296) (h : s + kk ≤ 8) :
    bits .or .u8 (x : Int) (bits .and .u32 ((v : Int) / 2 ^ t) (((2 : Int) ^ kk - 1) % 4294967296) * 2 ^ s % 256) = ((x ||| ((v >>> t &&& (2 ^ kk - 1)) <<< s) : Nat) : Int) ∧ (x ||| ((v >>> t &&& (2 ^ kk - 1)) <<< s)) < 256 := by
  rw [mask_cast kk (by omega)]
  have e1 : (v : Int) / 2 ^ t = ((v >>> t : Nat) : Int) := by rw [Nat.shiftRight_eq_div_pow]; simp
  have hs : v >>> t < 4294967296 := by rw [Nat.shiftRight_eq_div_pow]; exact Nat.lt_of_le_of_lt (Nat.div_le_self _ _) hv
  have hm : 2 ^ kk - 1 < 4294967296 := by have : 2 ^ kk < 2 ^ 32 := Nat.pow_lt_pow_right (by omega) (by omega); omega
  have hml : (v >>> t &&& (2 ^ kk - 1)) < 2 ^ kk := by have := Nat.and_le_right (n := v >>> t) (m := 2 ^ kk - 1); have := Nat.two_pow_pos kk; omega
  rw [e1, and_u32 _ _ hs hm]
  have hb : (v >>> t &&& (2 ^ kk - 1)) <<< s < 256 := by
    rw [Nat.shiftLeft_eq]
    have h3 : (v >>> t &&& (2 ^ kk - 1)) * 2 ^ s < 2 ^ kk * 2 ^ s := Nat.mul_lt_mul_of_pos_right hml (Nat.two_pow_pos s)
    rw [← Nat.pow_add] at h3
    have h4 : 2 ^ (kk + s) ≤ 2 ^ 8 := Nat.pow_le_pow_right (by omega) (by omega)
    omega
  have e2 : ((v >>> t &&& (2 ^ kk - 1) : Nat) : Int) * 2 ^ s % 256 = (((v >>> t &&& (2 ^ kk - 1)) <<< s : Nat) : Int) := by
    have h5 : (((v >>> t &&& (2 ^ kk - 1)) <<< s : Nat) : Int) = ((v >>> t &&& (2 ^ kk - 1) : Nat) : Int) * 2 ^ s := by rw [Nat.shiftLeft_eq]; simp
    rw [← h5]
    generalize (v >>> t &&& (2 ^ kk - 1)) <<< s = y at hb ⊢
    omega
  rw [e2, or_u8 _ _ hx hb]
  exact ⟨rfl, Nat.or_lt_two_pow (n := 8) hx hb⟩
/-- Put's round: the byte that it leaves, and what the bytes then hold. -/
theorem put_round (high : Bool) (bsk : List Bool) (p : Nat) (hp : bsk.length = p) (l2 : List UInt8) (v n k kk : Nat) (hH : Holds high bsk l2) (hq : p / 8 < l2.length) (h1 : p % 8 + kk ≤ 8) (h2 : k + kk ≤ n) (hv : v < 4294967296) :
    ∃ x : UInt8, bits .or .u8 (l2[p / 8].toNat : Int) (bits .and .u32 ((v : Int) / 2 ^ (if high then n - k - kk else k)) (((2 : Int) ^ kk - 1) % 4294967296) * 2 ^ (if high then 8 - p % 8 - kk else p % 8) % 256) = (x.toNat : Int) ∧
      Holds high (bsk ++ ((bitsOf high v n).drop k).take kk) (l2.set (p / 8) x) := by
  subst hp
  obtain ⟨e, hlt⟩ := byte_close l2[bsk.length / 8].toNat v kk (if high then n - k - kk else k) (if high then 8 - bsk.length % 8 - kk else bsk.length % 8) (UInt8.toNat_lt _) hv (by cases high <;> simp <;> omega)
  have hcs : (((bitsOf high v n).drop k).take kk).length = kk := by rw [List.length_take, List.length_drop, bitsOf_length]; omega
  refine ⟨UInt8.ofNat (l2[bsk.length / 8].toNat ||| ((v >>> (if high then n - k - kk else k) &&& (2 ^ kk - 1)) <<< (if high then 8 - bsk.length % 8 - kk else bsk.length % 8))), ?_, ?_⟩
  · rw [e, UInt8.toNat_ofNat_of_lt' hlt]
  · refine holds_put _ hH hq (by rw [hcs]; exact h1) (fun r hr => ?_)
    rw [UInt8.toNat_ofNat_of_lt' hlt, put_byte high _ v (bsk.length % 8) kk k n h1 h2 r hr (fun r h3 h4 => holds_free hH hq r h3 h4)]
end Go.Proofs.Ythnfnfaiicfenaa
