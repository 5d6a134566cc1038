/- Plain mathematics of prefix codes: room, codes by their lengths. No program, no memory. -/
import Derived.WalkKit
import Derived.Test.YthbdhpciibjnmaaPm
namespace Go.Proofs.Ythbdhpciibjnmaa

/-- What a code of length x takes of the room 65536. -/
def cost (x : Int) : Int := if 0 < x then ((2 ^ (16 - x).toNat : Nat) : Int) else 0
def badLen (x : Int) : Bool := decide (x < 0) || decide (16 < x)
def taken (l : List Int) : Int := (l.map cost).sum
def roomErr (l : List Int) : Int := if 4096 < l.length then 3 else if l.any badLen then 2 else 0
def roomOf (l : List Int) : Int := 65536 - taken l
theorem cost_nonneg (x : Int) : 0 ≤ cost x := by
  unfold cost
  split
  · exact Int.natCast_nonneg _
  · exact Int.le_refl 0
theorem cost_pos (x : Int) (h : 0 < x) : cost x = ((2 ^ (16 - x).toNat : Nat) : Int) := if_pos h
theorem cost_none (x : Int) (h : ¬ 0 < x) : cost x = 0 := if_neg h
theorem pow_le16 (x : Int) (h : 0 < x) : 2 ^ (16 - x).toNat ≤ 32768 := Nat.pow_le_pow_right (n := 2) (by omega) (show (16 - x).toNat ≤ 15 by omega)
theorem cost_le (x : Int) : cost x ≤ 32768 := by
  unfold cost
  split
  · have := pow_le16 x (by assumption); omega
  · omega
theorem taken_take (l : List Int) (k : Nat) (hk : k < l.length) : taken (l.take (k + 1)) = taken (l.take k) + cost l[k] := by
  unfold taken
  rw [List.take_succ_eq_append_getElem hk, List.map_append, List.sum_append]
  simp
theorem taken_bd (l : List Int) : 0 ≤ taken l ∧ taken l ≤ 32768 * (l.length : Int) := by
  induction l with
  | nil => simp [taken]
  | cons x r ih =>
    have h1 := cost_nonneg x
    have h2 := cost_le x
    have e : taken (x :: r) = cost x + taken r := by simp [taken]
    rw [e, List.length_cons]
    omega
theorem taken_take_bd (l : List Int) (k : Nat) (h : l.length ≤ 4096) : 0 ≤ taken (l.take k) ∧ taken (l.take k) ≤ 134217728 := by
  have h1 := taken_bd (l.take k)
  have h2 : (l.take k).length ≤ l.length := by rw [List.length_take]; omega
  omega
theorem any_take (l : List Int) (k : Nat) (hk : k < l.length) (h : (l.take k).any badLen = false) (hb : badLen l[k] = false) : (l.take (k + 1)).any badLen = false := by
  rw [List.take_succ_eq_append_getElem hk, List.any_append, h]
  simp [hb]
theorem any_at (l : List Int) (k : Nat) (hk : k < l.length) (hb : badLen l[k] = true) : l.any badLen = true := List.any_eq_true.mpr ⟨_, List.getElem_mem hk, hb⟩
theorem roomErr_long (l : List Int) (h : 4096 < l.length) : roomErr l = 3 := if_pos h
theorem roomErr_bad (l : List Int) (h : ¬ 4096 < l.length) (hb : l.any badLen = true) : roomErr l = 2 := by unfold roomErr; rw [if_neg h, if_pos hb]
theorem roomErr_ok (l : List Int) (h : ¬ 4096 < l.length) (hb : l.any badLen = false) : roomErr l = 0 := by unfold roomErr; rw [if_neg h, hb]; rfl
/-- What Room answers: the room (nought beside an error), the error. -/
def roomAns (l : List Int) : Int := if roomErr l = 0 then roomOf l else 0

def cntN (l : List Int) (n : Nat) : Nat := l.countP fun x => x == (n : Int)
/-- The number behind the last code of length n. -/
def endN (l : List Int) : Nat → Nat
  | 0 => 0
  | n + 1 => 2 * endN l n + cntN l (n + 1)
def rank (l : List Int) (n i : Nat) : Nat := cntN (l.take i) n
def lenAt (l : List Int) (j : Nat) : Int := l.getD j 0
/-- The code's number of symbol j. -/
def codeAt (l : List Int) (j : Nat) : Nat := 2 * endN l ((lenAt l j).toNat - 1) + rank l (lenAt l j).toNat j
/-- The codes of length below n, and of length n of the symbols below i; nought elsewhere. -/
def partCodes (l : List Int) (n i : Nat) : List Nat := (List.range l.length).map fun j => if 0 < lenAt l j ∧ (lenAt l j < n ∨ lenAt l j = n ∧ j < i) then codeAt l j else 0
def codesL (l : List Int) : List Nat := (List.range l.length).map fun j => if 0 < lenAt l j then codeAt l j else 0
theorem lenAt_get (l : List Int) (j : Nat) (h : j < l.length) : lenAt l j = l[j] := by simp [lenAt, h]
theorem rank_zero (l : List Int) (n : Nat) : rank l n 0 = 0 := by simp [rank, cntN]
theorem rank_all (l : List Int) (n : Nat) : rank l n l.length = cntN l n := by simp [rank]
theorem rank_succ (l : List Int) (n i : Nat) (h : i < l.length) : rank l n (i + 1) = rank l n i + if l[i] = (n : Int) then 1 else 0 := by
  unfold rank cntN
  rw [List.take_succ_eq_append_getElem h, List.countP_append]
  simp [List.countP_cons]
theorem rank_le (l : List Int) (n i : Nat) : rank l n i ≤ cntN l n := (List.take_sublist i l).countP_le
theorem partCodes_length (l : List Int) (n i : Nat) : (partCodes l n i).length = l.length := by simp [partCodes]
theorem partCodes_get (l : List Int) (n i j : Nat) (h : j < l.length) : (partCodes l n i)[j]? = some (if 0 < lenAt l j ∧ (lenAt l j < n ∨ lenAt l j = n ∧ j < i) then codeAt l j else 0) := by simp [partCodes, h]
theorem codesL_length (l : List Int) : (codesL l).length = l.length := by simp [codesL]
theorem codesL_get (l : List Int) (j : Nat) (h : j < l.length) : (codesL l)[j]? = some (if 0 < lenAt l j then codeAt l j else 0) := by simp [codesL, h]
theorem partCodes_start (l : List Int) : partCodes l 1 0 = List.replicate l.length 0 := by
  apply List.ext_getElem?
  intro j
  by_cases h : j < l.length
  · rw [partCodes_get l 1 0 j h, List.getElem?_replicate, if_pos h, if_neg (by omega)]
  · rw [List.getElem?_eq_none (by rw [partCodes_length]; omega), List.getElem?_eq_none (by simp; omega)]
theorem partCodes_end (l : List Int) (n : Nat) : partCodes l n l.length = partCodes l (n + 1) 0 := by
  unfold partCodes
  apply List.map_congr_left
  intro j hj
  have hj2 : j < l.length := by simpa using hj
  have e : (0 < lenAt l j ∧ (lenAt l j < n ∨ lenAt l j = n ∧ j < l.length)) ↔ (0 < lenAt l j ∧ (lenAt l j < (n + 1 : Nat) ∨ lenAt l j = (n + 1 : Nat) ∧ j < 0)) := by omega
  simp only [e]
theorem partCodes_skip (l : List Int) (n i : Nat) (h : i < l.length) (hx : ¬ l[i] = (n : Int)) : partCodes l n (i + 1) = partCodes l n i := by
  unfold partCodes
  apply List.map_congr_left
  intro j hj
  by_cases e : j = i
  · subst e
    rw [lenAt_get l j h]
    have e2 : (0 < l[j] ∧ (l[j] < n ∨ l[j] = n ∧ j < j + 1)) ↔ (0 < l[j] ∧ (l[j] < n ∨ l[j] = n ∧ j < j)) := by omega
    simp only [e2]
  · have e2 : (0 < lenAt l j ∧ (lenAt l j < n ∨ lenAt l j = n ∧ j < i + 1)) ↔ (0 < lenAt l j ∧ (lenAt l j < n ∨ lenAt l j = n ∧ j < i)) := by omega
    simp only [e2]
theorem codeAt_eq (l : List Int) (n i : Nat) (h : i < l.length) (hx : l[i] = ((n + 1 : Nat) : Int)) : codeAt l i = 2 * endN l n + rank l (n + 1) i := by
  unfold codeAt
  rw [lenAt_get l i h, hx]
  have e : (((n + 1 : Nat) : Int)).toNat = n + 1 := by omega
  rw [e, Nat.add_sub_cancel]
theorem partCodes_set (l : List Int) (n i : Nat) (h : i < l.length) (hx : l[i] = ((n + 1 : Nat) : Int)) : (partCodes l (n + 1) i).set i (2 * endN l n + rank l (n + 1) i) = partCodes l (n + 1) (i + 1) := by
  apply List.ext_getElem?
  intro j
  rw [List.getElem?_set]
  by_cases hj : j < l.length
  · rw [partCodes_get _ _ _ j hj, partCodes_get _ _ _ j hj, partCodes_length]
    by_cases e : i = j
    · subst e
      rw [if_pos rfl, if_pos h, lenAt_get l i h, if_pos (by omega), codeAt_eq l n i h hx]
    · rw [if_neg e]
      have e2 : (0 < lenAt l j ∧ (lenAt l j < (n + 1 : Nat) ∨ lenAt l j = (n + 1 : Nat) ∧ j < i)) ↔ (0 < lenAt l j ∧ (lenAt l j < (n + 1 : Nat) ∨ lenAt l j = (n + 1 : Nat) ∧ j < i + 1)) := by omega
      simp only [e2]
  · have h1 : (partCodes l (n + 1) i)[j]? = none := List.getElem?_eq_none (by rw [partCodes_length]; omega)
    have h2 : (partCodes l (n + 1) (i + 1))[j]? = none := List.getElem?_eq_none (by rw [partCodes_length]; omega)
    rw [h1, h2, if_neg (by omega)]
theorem good_len (l : List Int) (hg : l.any badLen = false) (j : Nat) (h : j < l.length) : 0 ≤ l[j] ∧ l[j] ≤ 16 := by
  have := List.any_eq_false.mp hg l[j] (List.getElem_mem h)
  unfold badLen at this
  simp at this
  omega
theorem partCodes_all (l : List Int) (hg : l.any badLen = false) : partCodes l 17 0 = codesL l := by
  unfold partCodes codesL
  apply List.map_congr_left
  intro j hj
  have hj2 : j < l.length := by simpa using hj
  have hb := good_len l hg j hj2
  rw [lenAt_get l j hj2]
  have e : (0 < l[j] ∧ (l[j] < (17 : Nat) ∨ l[j] = (17 : Nat) ∧ j < 0)) ↔ 0 < l[j] := by omega
  simp only [e]

/-- What the codes of length up to n take of the room. -/
def upTo (l : List Int) (n : Nat) : Nat := (l.map fun x : Int => if 0 < x ∧ x ≤ (n : Int) then 2 ^ (16 - x).toNat else 0).sum
theorem upTo_zero (l : List Int) : upTo l 0 = 0 := by
  induction l with
  | nil => rfl
  | cons x r ih =>
    unfold upTo at ih ⊢
    rw [List.map_cons, List.sum_cons, ih, if_neg (by omega)]
theorem upTo_succ (l : List Int) (n : Nat) (hn : n < 16) : upTo l (n + 1) = upTo l n + cntN l (n + 1) * 2 ^ (15 - n) := by
  induction l with
  | nil => simp [upTo, cntN]
  | cons x r ih =>
    have e1 : upTo (x :: r) (n + 1) = (if 0 < x ∧ x ≤ ((n + 1 : Nat) : Int) then 2 ^ (16 - x).toNat else 0) + upTo r (n + 1) := by simp [upTo]
    have e2 : upTo (x :: r) n = (if 0 < x ∧ x ≤ (n : Int) then 2 ^ (16 - x).toNat else 0) + upTo r n := by simp [upTo]
    have e3 : cntN (x :: r) (n + 1) = cntN r (n + 1) + if x == ((n + 1 : Nat) : Int) then 1 else 0 := by simp [cntN, List.countP_cons]
    rw [e1, e2, e3, ih]
    by_cases hx : x = ((n + 1 : Nat) : Int)
    · rw [if_pos (by omega), if_neg (by omega), if_pos (by simp [hx]), hx]
      rw [show (16 - ((n + 1 : Nat) : Int)).toNat = 15 - n from by omega, Nat.add_mul]
      omega
    · have e4 : (0 < x ∧ x ≤ ((n + 1 : Nat) : Int)) ↔ (0 < x ∧ x ≤ (n : Int)) := by omega
      have e5 : (x == ((n + 1 : Nat) : Int)) = false := by rw [beq_eq_false_iff_ne]; exact hx
      simp only [e4, e5]
      simp
      omega
theorem upTo_le (l : List Int) (n : Nat) : ((upTo l n : Nat) : Int) ≤ taken l := by
  induction l with
  | nil => simp [upTo, taken]
  | cons x r ih =>
    have e1 : upTo (x :: r) n = (if 0 < x ∧ x ≤ (n : Int) then 2 ^ (16 - x).toNat else 0) + upTo r n := by simp [upTo]
    have e2 : taken (x :: r) = cost x + taken r := by simp [taken]
    rw [e1, e2]
    have hc : (((if 0 < x ∧ x ≤ (n : Int) then 2 ^ (16 - x).toNat else 0 : Nat)) : Int) ≤ cost x := by
      by_cases h : 0 < x ∧ x ≤ (n : Int)
      · rw [if_pos h, cost_pos x h.1]; exact Int.le_refl _
      · rw [if_neg h]; exact cost_nonneg x
    generalize (if 0 < x ∧ x ≤ (n : Int) then 2 ^ (16 - x).toNat else 0 : Nat) = q at *
    omega
theorem endN_upTo (l : List Int) : ∀ n, n ≤ 16 → endN l n * 2 ^ (16 - n) = upTo l n
  | 0, _ => by simp [endN, upTo_zero]
  | n + 1, h => by
    have ih := endN_upTo l n (by omega)
    rw [upTo_succ l n (by omega), ← ih]
    simp only [endN]
    rw [show 16 - (n + 1) = 15 - n from by omega, show 16 - n = (15 - n) + 1 from by omega, Nat.pow_succ, Nat.add_mul, Nat.mul_comm (2 ^ (15 - n)) 2, ← Nat.mul_assoc, Nat.mul_comm (endN l n) 2]
theorem endN_le (l : List Int) (hr : 0 ≤ roomOf l) (n : Nat) (hn : n ≤ 16) : endN l n ≤ 2 ^ n := by
  have h1 := endN_upTo l n hn
  have h2 := upTo_le l n
  unfold roomOf at hr
  have h3 : endN l n * 2 ^ (16 - n) ≤ 2 ^ n * 2 ^ (16 - n) := by
    rw [← Nat.pow_add, show n + (16 - n) = 16 from by omega]
    omega
  exact Nat.le_of_mul_le_mul_right h3 (Nat.two_pow_pos _)
theorem endN_bd (l : List Int) (hr : 0 ≤ roomOf l) (n : Nat) (hn : n ≤ 16) : endN l n ≤ 65536 := Nat.le_trans (endN_le l hr n hn) (Nat.pow_le_pow_right (n := 2) (by omega) hn)
end Go.Proofs.Ythbdhpciibjnmaa
