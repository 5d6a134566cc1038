/- Plain mathematics of the least weight: the rows' bounds. No program, no memory. -/
import Derived.Test.YtpolbnobnilfcaaMe
namespace Go.Proofs.Ytpolbnobnilfcaa

theorem Mg.total {a b : List Nat} {o : List (Bool × Nat)} (h : Mg a b o) : (wts o).sum = a.sum + b.sum := by
  induction h with
  | nil => rfl
  | left _ _ ih => simp only [wts, List.map_cons, List.sum_cons] at ih ⊢; omega
  | right _ _ ih => simp only [wts, List.map_cons, List.sum_cons] at ih ⊢; omega
theorem pairs_total : ∀ l : List Nat, (pairs l).sum ≤ l.sum
  | [] => by simp [pairs]
  | [_] => by simp [pairs]
  | a :: b :: r => by have := pairs_total r; simp only [pairs, List.sum_cons]; omega
/-- The document's rows of coins and packages. -/
def rowsOf (own : List Nat) : Nat → List (Bool × Nat)
  | 0 => mg own []
  | k + 1 => mg own (pairs (wts (rowsOf own k)))
theorem rowsOf_Rows (own : List Nat) : Rows own (rowsOf own) := ⟨mg_Mg _ _, fun _ => mg_Mg _ _⟩
theorem rowsOf_total (own : List Nat) : ∀ k, (wts (rowsOf own k)).sum ≤ (k + 1) * own.sum
  | 0 => by rw [rowsOf, mg_own]; omega
  | k + 1 => by
    have h := rowsOf_total own k
    have h1 := pairs_total (wts (rowsOf own k))
    rw [rowsOf, (mg_Mg _ _).total, Nat.add_mul (k + 1) 1]
    omega
theorem sum_le_of {l : List Nat} {b : Nat} (h : ∀ x ∈ l, x ≤ b) : l.sum ≤ l.length * b := by
  induction l with
  | nil => simp
  | cons x r ih =>
    have h1 := h x (by simp)
    have h2 := ih (fun y hy => h y (by simp [hy]))
    rw [List.sum_cons, List.length_cons, Nat.add_mul]
    omega
theorem mem_le_sum {l : List Nat} {x : Nat} (h : x ∈ l) : x ≤ l.sum := by
  induction l with
  | nil => simp at h
  | cons y r ih =>
    rw [List.sum_cons]
    rcases List.mem_cons.mp h with rfl | h
    · omega
    · have := ih h; omega
theorem take_sum_le (l : List Nat) (k : Nat) : (l.take k).sum ≤ l.sum := by
  have h := List.sum_append (l₁ := l.take k) (l₂ := l.drop k)
  rw [List.take_append_drop] at h
  omega
theorem take_sum_succ (l : List Nat) (k : Nat) (h : k < l.length) : (l.take (k + 1)).sum = (l.take k).sum + l[k] := by
  rw [List.take_succ_eq_append_getElem h, List.sum_append]; simp
/-- The counts above nought. -/
def posL (l : List Int) : List Nat := (l.filter fun x => decide (0 < x)).map Int.toNat
theorem posL_length (l : List Int) : (posL l).length = posN l := by simp [posL, posN, List.countP_eq_length_filter]
theorem posL_succ (l : List Int) (k : Nat) (h : k < l.length) : posL (l.take (k + 1)) = posL (l.take k) ++ if 0 < l[k] then [l[k].toNat] else [] := by
  unfold posL
  rw [List.take_succ_eq_append_getElem h, List.filter_append, List.map_append]
  congr 1
  by_cases hx : 0 < l[k] <;> simp [hx]
theorem posL_mem {l : List Int} {x : Nat} (h : x ∈ posL l) : 0 < x ∧ (x : Int) ∈ l := by
  unfold posL at h
  obtain ⟨y, hy, rfl⟩ := List.mem_map.mp h
  have h2 := List.mem_filter.mp hy
  have h3 : 0 < y := by simpa using h2.2
  refine ⟨by omega, ?_⟩
  rw [Int.toNat_of_nonneg (by omega)]
  exact h2.1
/-- Two rising lists of the same numbers are one. -/
theorem sorted_unique {a b : List Nat} (h : a.Perm b) (ha : a.Pairwise (· ≤ ·)) (hb : b.Pairwise (· ≤ ·)) : a = b := by
  induction a generalizing b with
  | nil => exact (List.nil_perm.mp h).symm
  | cons x r ih =>
    cases b with
    | nil => exact absurd (List.perm_nil.mp h) (by simp)
    | cons y s =>
      have ha2 := List.pairwise_cons.mp ha
      have hb2 := List.pairwise_cons.mp hb
      have hx : x ∈ y :: s := h.mem_iff.mp (by simp)
      have hy : y ∈ x :: r := h.mem_iff.mpr (by simp)
      have hxy : x = y := by
        rcases List.mem_cons.mp hx with e | e
        · exact e
        · rcases List.mem_cons.mp hy with e2 | e2
          · exact e2.symm
          · have h1 := hb2.1 x e
            have h2 := ha2.1 y e2
            omega
      subst hxy
      rw [ih ((List.perm_cons x).mp h) ha2.2 hb2.2]
/-- The least weight of a code of so many counts, whose lengths are at most k + 1. -/
def leastOf (own : List Nat) (k : Nat) : Nat := ((wts (rowsOf own k)).take (2 * own.length - 2)).sum
theorem rowsOf_length (own : List Nat) (k : Nat) : (rowsOf own k).length ≤ 2 * own.length := ((rowsOf_Rows own).short k).2
theorem natsI_perm {l : List Int} {L : List Int} (h : L.Perm (natsI (posL l))) (hs : L.Pairwise (· ≤ ·)) : ∃ own : List Nat, L = natsI own ∧ own.Perm (posL l) ∧ own.Pairwise (· ≤ ·) := by
  have hnn : ∀ x ∈ L, 0 ≤ x := by
    intro x hx
    have := h.mem_iff.mp hx
    obtain ⟨y, _, rfl⟩ := List.mem_map.mp this
    omega
  have e : natsI (L.map Int.toNat) = L := by
    unfold natsI
    rw [List.map_map]
    conv => rhs; rw [← List.map_id L]
    apply List.map_congr_left
    intro x hx
    have := hnn x hx
    simp only [Function.comp, id]
    omega
  refine ⟨L.map Int.toNat, e.symm, ?_, ?_⟩
  · have h2 := h.map Int.toNat
    have e2 : (natsI (posL l)).map Int.toNat = posL l := by
      unfold natsI
      rw [List.map_map]
      conv => rhs; rw [← List.map_id (posL l)]
      apply List.map_congr_left
      intro x _
      simp
    rw [e2] at h2
    exact h2
  · rw [List.pairwise_map]
    exact hs.imp (fun {a b} hab => by omega)
end Go.Proofs.Ytpolbnobnilfcaa
