/- Plain mathematics of a decoder's table: the symbols of each length, which number is a code, which begins a longer one. No program, no memory. -/
import Derived.Test.YthbdhpciibjnmaaCm
namespace Go.Proofs.Ythbdhpciibjnmaa

/-- The symbols below i whose code has length n, rising. -/
def symsBelow (l : List Int) (n i : Nat) : List Nat := (List.range i).filter fun j => decide (lenAt l j = (n : Int))
def syms (l : List Int) (n : Nat) : List Nat := symsBelow l n l.length
theorem symsBelow_zero (l : List Int) (n : Nat) : symsBelow l n 0 = [] := rfl
theorem symsBelow_succ (l : List Int) (n i : Nat) (h : i < l.length) : symsBelow l n (i + 1) = symsBelow l n i ++ if l[i] = (n : Int) then [i] else [] := by
  unfold symsBelow
  rw [List.range_succ, List.filter_append]
  congr 1
  rw [← lenAt_get l i h]
  by_cases hx : lenAt l i = (n : Int) <;> simp [hx]
theorem symsBelow_length (l : List Int) (n : Nat) : ∀ i, i ≤ l.length → (symsBelow l n i).length = rank l n i
  | 0, _ => by rw [rank_zero]; rfl
  | i + 1, h => by
    have ih := symsBelow_length l n i (by omega)
    rw [symsBelow_succ l n i (by omega), rank_succ l n i (by omega), List.length_append, ih]
    split <;> simp
theorem syms_length (l : List Int) (n : Nat) : (syms l n).length = cntN l n := by
  unfold syms
  rw [symsBelow_length l n l.length (Nat.le_refl _), rank_all]
/-- What the table holds of length k, behind lengths below n, and of length n the symbols below i. -/
def symsAt (l : List Int) (n i k : Nat) : List Nat := if k = 0 then [] else if k < n then syms l k else if k = n then symsBelow l k i else []
theorem symsAt_start (l : List Int) (k : Nat) : symsAt l 1 0 k = [] := by
  unfold symsAt
  split
  · rfl
  · split
    · omega
    · split
      · rfl
      · rfl
theorem symsAt_end (l : List Int) (n k : Nat) : symsAt l n l.length k = symsAt l (n + 1) 0 k := by
  unfold symsAt
  by_cases h0 : k = 0
  · rw [if_pos h0, if_pos h0]
  · rw [if_neg h0, if_neg h0]
    by_cases h1 : k < n
    · rw [if_pos h1, if_pos (by omega)]
    · rw [if_neg h1]
      by_cases h2 : k = n
      · subst h2
        rw [if_pos rfl, if_pos (by omega)]
        rfl
      · rw [if_neg h2, if_neg (by omega)]
        split <;> rfl
theorem symsAt_skip (l : List Int) (n i k : Nat) (h : i < l.length) (hx : ¬ l[i] = (n : Int)) : symsAt l n (i + 1) k = symsAt l n i k := by
  unfold symsAt
  by_cases h2 : k = n
  · subst h2
    rw [symsBelow_succ l k i h, if_neg hx, List.append_nil]
  · rw [if_neg h2, if_neg h2]
theorem symsAt_add (l : List Int) (n i : Nat) (h : i < l.length) (hx : l[i] = (n : Int)) (hn : 0 < n) : symsAt l n (i + 1) n = symsAt l n i n ++ [i] := by
  unfold symsAt
  rw [if_neg (by omega), if_neg (by omega), if_pos rfl, if_neg (by omega), if_neg (by omega), if_pos rfl, symsBelow_succ l n i h, if_pos hx]
theorem symsAt_other (l : List Int) (n i k : Nat) (hk : k ≠ n) : symsAt l n (i + 1) k = symsAt l n i k := by
  unfold symsAt
  rw [if_neg hk, if_neg hk]
theorem symsAt_len (l : List Int) (n : Nat) (hn : 0 < n) : (symsAt l n l.length n).length = cntN l n := by
  unfold symsAt
  rw [if_neg (by omega), if_neg (by omega), if_pos rfl]
  exact syms_length l n
theorem symsAt_le (l : List Int) (n i k : Nat) (hi : i ≤ l.length) : (symsAt l n i k).length ≤ l.length := by
  have hb : ∀ m, m ≤ l.length → (symsBelow l k m).length ≤ l.length := fun m hm => by
    have h1 := List.length_filter_le (fun j => decide (lenAt l j = (k : Int))) (List.range m)
    unfold symsBelow
    simp at h1 ⊢
    omega
  unfold symsAt
  split
  · simp
  · split
    · exact hb _ (Nat.le_refl _)
    · split
      · exact hb _ hi
      · simp
/-- The whole table. -/
def symsOf (l : List Int) (k : Nat) : List Nat := symsAt l 17 0 k
theorem symsOf_eq (l : List Int) (k : Nat) (h1 : 1 ≤ k) (h2 : k ≤ 16) : symsOf l k = syms l k := by
  unfold symsOf symsAt
  rw [if_neg (by omega), if_pos (by omega)]
/-- The first code's number of length k. -/
def firstOf (l : List Int) (n k : Nat) : Int := if 1 ≤ k ∧ k ≤ n then ((2 * endN l (k - 1) : Nat) : Int) else 0
def anyBelow (l : List Int) (n i : Nat) : Bool := (List.range l.length).any fun j => decide (0 < lenAt l j ∧ (lenAt l j < n ∨ lenAt l j = n ∧ j < i))
def anyOf (l : List Int) : Bool := (List.range l.length).any fun j => decide (0 < lenAt l j)
theorem anyBelow_start (l : List Int) : anyBelow l 1 0 = false := by
  unfold anyBelow
  rw [List.any_eq_false]
  intro j _
  simp
  omega
theorem anyBelow_end (l : List Int) (n : Nat) : anyBelow l n l.length = anyBelow l (n + 1) 0 := by
  unfold anyBelow
  rw [Bool.eq_iff_iff, List.any_eq_true, List.any_eq_true]
  constructor
  · rintro ⟨j, hj, hd⟩
    exact ⟨j, hj, by have h := of_decide_eq_true hd; apply decide_eq_true; omega⟩
  · rintro ⟨j, hj, hd⟩
    have hj2 : j < l.length := by simpa using hj
    exact ⟨j, hj, by have h := of_decide_eq_true hd; apply decide_eq_true; omega⟩
theorem anyBelow_skip (l : List Int) (n i : Nat) (h : i < l.length) (hx : ¬ l[i] = (n : Int)) : anyBelow l n (i + 1) = anyBelow l n i := by
  unfold anyBelow
  rw [Bool.eq_iff_iff, List.any_eq_true, List.any_eq_true]
  rw [← lenAt_get l i h] at hx
  constructor
  · rintro ⟨j, hj, hd⟩
    refine ⟨j, hj, ?_⟩
    have h2 := of_decide_eq_true hd
    apply decide_eq_true
    by_cases e : j = i
    · subst e; omega
    · omega
  · rintro ⟨j, hj, hd⟩
    exact ⟨j, hj, by have h2 := of_decide_eq_true hd; apply decide_eq_true; omega⟩
theorem anyBelow_hit (l : List Int) (n i : Nat) (h : i < l.length) (hx : l[i] = (n : Int)) (hn : 0 < n) : anyBelow l n (i + 1) = true := by
  unfold anyBelow
  rw [List.any_eq_true]
  refine ⟨i, by simpa using h, decide_eq_true ?_⟩
  rw [lenAt_get l i h, hx]
  omega
theorem anyBelow_all (l : List Int) (hg : l.any badLen = false) : anyBelow l 17 0 = anyOf l := by
  unfold anyBelow anyOf
  rw [Bool.eq_iff_iff, List.any_eq_true, List.any_eq_true]
  constructor
  · rintro ⟨j, hj, hd⟩
    exact ⟨j, hj, by have h2 := of_decide_eq_true hd; exact decide_eq_true h2.1⟩
  · rintro ⟨j, hj, hd⟩
    have hj2 : j < l.length := by simpa using hj
    have hb := good_len l hg j hj2
    rw [← lenAt_get l j hj2] at hb
    exact ⟨j, hj, by have h2 := of_decide_eq_true hd; apply decide_eq_true; omega⟩
end Go.Proofs.Ythbdhpciibjnmaa
