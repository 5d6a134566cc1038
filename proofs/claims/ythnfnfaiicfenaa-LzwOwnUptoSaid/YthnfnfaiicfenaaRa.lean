/- The document's table of codes: each string by a code and a byte more. Plain mathematics. -/
import Derived.Test.YthnfnfaiicfenaaZe
namespace Go.Proofs.Ythnfnfaiicfenaa

/-- The string of a code of the table. -/
def strC (clear : Nat) (T : List (List UInt8)) (c : Nat) : List UInt8 := if c < clear then [UInt8.ofNat c] else T.getD (c - clear - 2) []
/-- A code whose string is known, if the table has k strings. -/
def GoodC (clear k c : Nat) : Prop := c < clear ∨ (clear + 2 ≤ c ∧ c < clear + 2 + k)
/-- The document's table: the codes ahead, the last bytes, the lengths. -/
structure TabD (clear : Nat) (ah : List Nat) (la : List UInt8) (sz : List Nat) (T : List (List UInt8)) : Prop where
  la_ : la.length = T.length
  ah_ : ah.length = T.length
  sz_ : sz.length = T.length
  good : ∀ (k : Nat) (h : k < T.length), GoodC clear k (ah[k]'(by rw [ah_]; exact h))
  str : ∀ (k : Nat) (h : k < T.length), T[k] = strC clear T (ah[k]'(by rw [ah_]; exact h)) ++ [la[k]'(by rw [la_]; exact h)]
  len : ∀ (k : Nat) (h : k < T.length), (sz[k]'(by rw [sz_]; exact h)) = (T[k]).length
theorem strC_lo {clear c : Nat} {T : List (List UInt8)} (h : c < clear) : strC clear T c = [UInt8.ofNat c] := by unfold strC; rw [if_pos h]
theorem strC_hi {clear c : Nat} {T : List (List UInt8)} (h1 : clear + 2 ≤ c) (h2 : c - clear - 2 < T.length) : strC clear T c = T[c - clear - 2] := by
  unfold strC; rw [if_neg (by omega), List.getD_eq_getElem?_getD, List.getElem?_eq_getElem h2]; rfl
theorem strC_more {clear c : Nat} {T : List (List UInt8)} {s : List UInt8} (h : GoodC clear T.length c) : strC clear (T ++ [s]) c = strC clear T c := by
  unfold strC
  rcases h with h | h
  · rw [if_pos h, if_pos h]
  · rw [if_neg (by omega), if_neg (by omega), List.getD_eq_getElem?_getD, List.getD_eq_getElem?_getD, List.getElem?_append_left (by omega)]
theorem GoodC.mono {clear k j c : Nat} (h : GoodC clear k c) (hk : k ≤ j) : GoodC clear j c := by
  rcases h with h | h
  · exact .inl h
  · exact .inr (by omega)
theorem strC_pos {clear c : Nat} {ah : List Nat} {la : List UInt8} {sz : List Nat} {T : List (List UInt8)} (hT : TabD clear ah la sz T) (h : GoodC clear T.length c) : 1 ≤ (strC clear T c).length := by
  rcases h with h | h
  · rw [strC_lo h]; simp
  · rw [strC_hi h.1 (by omega), hT.str _ (by omega)]; simp
theorem TabD.nil_ (clear : Nat) : TabD clear [] [] [] [] := ⟨rfl, rfl, rfl, fun _ h => by simp at h, fun _ h => by simp at h, fun _ h => by simp at h⟩
theorem TabD.grow {clear c : Nat} {ah : List Nat} {la : List UInt8} {sz : List Nat} {T : List (List UInt8)} {x : UInt8} (h : TabD clear ah la sz T) (hc : GoodC clear T.length c) :
    TabD clear (ah ++ [c]) (la ++ [x]) (sz ++ [(strC clear T c).length + 1]) (T ++ [strC clear T c ++ [x]]) := by
  have e1 := h.la_
  have e2 := h.ah_
  have e3 := h.sz_
  refine ⟨by simp [e1], by simp [e2], by simp [e3], fun k hk => ?_, fun k hk => ?_, fun k hk => ?_⟩
  all_goals
    rw [List.length_append, List.length_singleton] at hk
  · by_cases hl : k < T.length
    · rw [List.getElem_append_left (by omega)]; exact h.good k hl
    · have : k = T.length := by omega
      subst this
      rw [List.getElem_append_right (by omega)]
      simpa [e2] using hc
  · by_cases hl : k < T.length
    · rw [List.getElem_append_left hl, List.getElem_append_left (by omega), List.getElem_append_left (by omega), strC_more ((h.good k hl).mono (by omega))]
      exact h.str k hl
    · have : k = T.length := by omega
      subst this
      rw [List.getElem_append_right (by omega), List.getElem_append_right (by omega), List.getElem_append_right (by omega)]
      simp only [e1, e2, Nat.sub_self, List.getElem_cons_zero]
      rw [strC_more hc]
  · by_cases hl : k < T.length
    · rw [List.getElem_append_left hl, List.getElem_append_left (by omega)]
      exact h.len k hl
    · have : k = T.length := by omega
      subst this
      rw [List.getElem_append_right (by omega), List.getElem_append_right (by omega)]
      simp [e3]
theorem strC_last {clear n : Nat} {T : List (List UInt8)} {x : List UInt8} (hn : clear + 2 + T.length = n) : GoodC clear (T ++ [x]).length n ∧ strC clear (T ++ [x]) n = x := by
  refine ⟨.inr ⟨by omega, by rw [List.length_append]; simp; omega⟩, ?_⟩
  have e : n - clear - 2 = T.length := by omega
  unfold strC
  rw [if_neg (by omega), e, List.getD_eq_getElem?_getD, List.getElem?_append_right (Nat.le_refl _), Nat.sub_self]
  rfl
/-- The width of the next code, when the table has one more. -/
theorem bitLen_two (x : Nat) (h : 1 ≤ x) (hx : x < 2 ^ 64) : 2 ^ (Lib.bitLen x - 1) ≤ x ∧ x < 2 ^ Lib.bitLen x := by
  induction x using Nat.strongRecOn with
  | ind x ih =>
    have e := Lib.bitLen_half x (by omega) hx
    by_cases h1 : x = 1
    · subst h1; decide
    · have := ih (x / 2) (by omega) (by omega) (by omega)
      have l := bitLen_one (x / 2) (by omega)
      rw [e]
      obtain ⟨m, hm⟩ : ∃ m, Lib.bitLen (x / 2) = m + 1 := ⟨_, (Nat.sub_add_cancel l).symm⟩
      rw [hm] at this ⊢
      have p1 := Nat.pow_succ (m := m) (n := 2)
      have p2 := Nat.pow_succ (m := m + 1) (n := 2)
      rw [show 1 + (m + 1) = m + 1 + 1 by omega]
      simp only [Nat.add_sub_cancel, Nat.succ_eq_add_one] at this p1 p2 ⊢
      omega
theorem pow_lt_of {a b : Nat} (h : 2 ^ a < 2 ^ b) : a < b := by
  rcases Nat.lt_or_ge a b with h1 | h1
  · exact h1
  · have := Nat.pow_le_pow_right (n := 2) (by omega) h1; omega
theorem bitLen_unique {x k : Nat} (h : 1 ≤ x) (hx : x < 2 ^ 64) (h1 : 2 ^ k ≤ x) (h2 : x < 2 ^ (k + 1)) : Lib.bitLen x = k + 1 := by
  obtain ⟨a, b⟩ := bitLen_two x h hx
  have l := bitLen_one x (by omega)
  have c1 : k < Lib.bitLen x := pow_lt_of (by omega)
  have c2 : Lib.bitLen x - 1 < k + 1 := pow_lt_of (by omega)
  omega
theorem wM_step (early n : Nat) (he : early ≤ 1) (h1 : 4 ≤ n) (h2 : n ≤ 4096) : wM early (n + 1) = if n + 1 + early = 2 ^ wM early n ∧ wM early n < 12 then wM early n + 1 else wM early n := by
  obtain ⟨a, b⟩ := bitLen_two (n + early) (by omega) (by omega)
  have l := bitLen_one (n + early) (by omega)
  obtain ⟨k, hk⟩ : ∃ k, Lib.bitLen (n + early) = k + 1 := ⟨_, (Nat.sub_add_cancel l).symm⟩
  rw [hk] at a b
  simp only [Nat.add_sub_cancel] at a
  have hk13 : k < 13 := pow_lt_of (by omega)
  unfold wM
  rw [hk]
  by_cases hs : n + 1 + early = 2 ^ (k + 1)
  · have e : Lib.bitLen (n + 1 + early) = k + 2 := bitLen_unique (by omega) (by omega) (by omega) (by rw [Nat.pow_succ 2 (k + 1)]; omega)
    rw [e]
    by_cases hm : k + 1 < 12
    · rw [show min (k + 1) 12 = k + 1 by omega, if_pos ⟨hs, hm⟩]; omega
    · rw [show min (k + 1) 12 = 12 by omega, if_neg (by omega)]; omega
  · have e : Lib.bitLen (n + 1 + early) = k + 1 := bitLen_unique (by omega) (by omega) (by omega) (by omega)
    rw [e]
    by_cases hm : k + 1 < 12
    · rw [show min (k + 1) 12 = k + 1 by omega, if_neg (fun h => hs h.1)]
    · rw [show min (k + 1) 12 = 12 by omega, if_neg (by omega)]
theorem wM_gif (s : Nat) (h1 : 2 ≤ s) (h2 : s ≤ 8) : wM 0 (clr s + 2) = s + 1 := by
  have : ∀ s : Fin 9, 2 ≤ s.val → wM 0 (clr s.val + 2) = s.val + 1 := by decide +kernel
  exact this ⟨s, by omega⟩ h1
theorem wM_tiff : wM 1 (clr 8 + 2) = 9 := by decide +kernel
end Go.Proofs.Ythnfnfaiicfenaa
