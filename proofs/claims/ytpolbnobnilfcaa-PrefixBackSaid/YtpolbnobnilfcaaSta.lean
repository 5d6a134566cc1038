/- Plain mathematics of a stable sort by a key: rows of numbers, swapped, rotated, merged in place. No program, no memory. -/
import Derived.WalkKit
namespace Go.Proofs.Ytpolbnobnilfcaa

def itm (l : List Int) (i : Nat) : Int := l.getD i 0
theorem itm_get (l : List Int) (i : Nat) (h : i < l.length) : itm l i = l[i] := by simp [itm, h]
def swp (l : List Int) (i j : Nat) : List Int := (l.set i (itm l j)).set j (itm l i)
theorem swp_length (l : List Int) (i j : Nat) : (swp l i j).length = l.length := by simp [swp]
theorem itm_set (l : List Int) (i p : Nat) (x : Int) (h : i < l.length) : itm (l.set i x) p = if p = i then x else itm l p := by
  unfold itm
  simp only [List.getD, List.getElem?_set]
  by_cases e : p = i
  · subst e; simp [h]
  · rw [if_neg (fun k => e k.symm), if_neg e]
theorem itm_swp (l : List Int) (i j p : Nat) (hi : i < l.length) (hj : j < l.length) : itm (swp l i j) p = if p = j then itm l i else if p = i then itm l j else itm l p := by
  unfold swp
  rw [itm_set _ _ _ _ (by simpa using hj), itm_set _ _ _ _ hi]
theorem swp_perm (l : List Int) (i j : Nat) (hi : i < l.length) (hj : j < l.length) : (swp l i j).Perm l := by
  rw [List.perm_iff_count]
  intro a
  have hj2 : j < (l.set i (itm l j)).length := by simpa using hj
  have h2 : (l.set i (itm l j))[j]'hj2 = if i = j then itm l j else l[j] := by rw [List.getElem_set]
  have e1 : itm l i = l[i] := itm_get l i hi
  have e2 : itm l j = l[j] := itm_get l j hj
  unfold swp
  rw [List.count_set hj2, List.count_set hi, h2, e1, e2]
  have c1 : l[i] == a → 0 < l.count a := fun h => by
    have := List.count_pos_iff.mpr (List.getElem_mem hi)
    rw [beq_iff_eq] at h
    rwa [h] at this
  have c2 : l[j] == a → 0 < l.count a := fun h => by
    have := List.count_pos_iff.mpr (List.getElem_mem hj)
    rw [beq_iff_eq] at h
    rwa [h] at this
  by_cases e : i = j
  · subst e
    simp only [if_true]
    by_cases k : (l[i] == a) = true
    · have := c1 k; simp only [k, if_true]; omega
    · simp only [k]; simp
  · rw [if_neg e]
    by_cases k : (l[i] == a) = true <;> by_cases k' : (l[j] == a) = true
    · have := c1 k; simp only [k, k', if_true]; omega
    · have := c1 k; simp only [k, k', if_true]; simp; omega
    · have := c2 k'; simp only [k, k', if_true]; simp
    · simp only [k, k']; simp

/-- l' is l with the numbers of the places a, .., b - 1 in another order. -/
structure Re (l l' : List Int) (a b : Nat) : Prop where
  len : l'.length = l.length
  perm : l'.Perm l
  out : ∀ i, i < a ∨ b ≤ i → itm l' i = itm l i
  inn : ∀ i, a ≤ i → i < b → ∃ j, a ≤ j ∧ j < b ∧ itm l' i = itm l j
theorem Re.refl (l : List Int) (a b : Nat) : Re l l a b := ⟨rfl, List.Perm.refl _, fun _ _ => rfl, fun i h1 h2 => ⟨i, h1, h2, rfl⟩⟩
theorem Re.trans {l l' l'' : List Int} {a b : Nat} (h : Re l l' a b) (k : Re l' l'' a b) : Re l l'' a b :=
  ⟨k.len.trans h.len, k.perm.trans h.perm, fun i hi => (k.out i hi).trans (h.out i hi), fun i h1 h2 => by
    obtain ⟨j, h3, h4, e⟩ := k.inn i h1 h2
    obtain ⟨m, h5, h6, e'⟩ := h.inn j h3 h4
    exact ⟨m, h5, h6, e.trans e'⟩⟩
theorem Re.wide {l l' : List Int} {a b a' b' : Nat} (h : Re l l' a b) (ha : a' ≤ a) (hb : b ≤ b') : Re l l' a' b' :=
  ⟨h.len, h.perm, fun i hi => h.out i (by omega), fun i h1 h2 => by
    by_cases hi : a ≤ i ∧ i < b
    · obtain ⟨j, h3, h4, e⟩ := h.inn i hi.1 hi.2
      exact ⟨j, by omega, by omega, e⟩
    · exact ⟨i, h1, h2, h.out i (by omega)⟩⟩
theorem re_swp (l : List Int) (i j a b : Nat) (hi : a ≤ i ∧ i < b) (hj : a ≤ j ∧ j < b) (hb : b ≤ l.length) : Re l (swp l i j) a b := by
  have hv := fun p => itm_swp l i j p (by omega) (by omega)
  refine ⟨swp_length l i j, swp_perm l i j (by omega) (by omega), fun p hp => ?_, fun p h1 h2 => ?_⟩
  · rw [hv, if_neg (by omega), if_neg (by omega)]
  · by_cases e : p = j
    · exact ⟨i, hi.1, hi.2, by rw [hv, if_pos e]⟩
    · by_cases e' : p = i
      · exact ⟨j, hj.1, hj.2, by rw [hv, if_neg e, if_pos e']⟩
      · exact ⟨p, h1, h2, by rw [hv, if_neg e, if_neg e']⟩

section
variable (key : Int → Int)
def Srt (l : List Int) (a b : Nat) : Prop := ∀ i j, a ≤ i → i ≤ j → j < b → key (itm l i) ≤ key (itm l j)
end
section
variable {key : Int → Int} {l l' : List Int} {a b m : Nat}
theorem Srt.keep (h : Srt key l a b) (he : ∀ i, a ≤ i → i < b → itm l' i = itm l i) : Srt key l' a b := fun i j h1 h2 h3 => by
  rw [he i h1 (by omega), he j (by omega) h3]
  exact h i j h1 h2 h3
theorem Srt.sub (h : Srt key l a b) {a' b' : Nat} (ha : a ≤ a') (hb : b' ≤ b) : Srt key l a' b' := fun i j h1 h2 h3 => h i j (by omega) h2 (by omega)
theorem Srt.none (h : b ≤ a + 1) : Srt key l a b := fun i j h1 h2 h3 => by
  obtain rfl : i = j := by omega
  exact Int.le_refl _
theorem Srt.join (h1 : Srt key l a m) (h2 : Srt key l m b) (h3 : ∀ i j, a ≤ i → i < m → m ≤ j → j < b → key (itm l i) ≤ key (itm l j)) : Srt key l a b := fun i j a1 a2 a3 => by
  by_cases c1 : j < m
  · exact h1 i j a1 a2 c1
  · by_cases c2 : i < m
    · exact h3 i j a1 c2 (by omega) a3
    · exact h2 i j (by omega) a2 a3
end

/-! insertion -/
def StIns (key : Int → Int) (l : List Int) (a j i : Nat) : Prop :=
  (∀ p q, a ≤ p → p ≤ q → q ≤ i → p ≠ j → q ≠ j → key (itm l p) ≤ key (itm l q)) ∧ (∀ q, j < q → q ≤ i → key (itm l j) ≤ key (itm l q))
theorem stIns_start {key : Int → Int} {l : List Int} {a i : Nat} (h : Srt key l a i) : StIns key l a i i :=
  ⟨fun p q h1 h2 h3 h4 h5 => h p q h1 h2 (by omega), fun q h1 h2 => by omega⟩
theorem stIns_step {key : Int → Int} {l : List Int} {a j i : Nat} (h : StIns key l a (j + 1) i) (ha : a ≤ j) (hi : j + 1 ≤ i) (hl : i < l.length) (hlt : key (itm l (j + 1)) < key (itm l j)) : StIns key (swp l (j + 1) j) a j i := by
  have hv := fun p => itm_swp l (j + 1) j p (by omega) (by omega)
  obtain ⟨h1, h2⟩ := h
  refine ⟨fun p q a1 a2 a3 a4 a5 => ?_, fun q a1 a2 => ?_⟩
  · rw [hv p, hv q, if_neg a4, if_neg a5]
    by_cases e : p = j + 1 <;> by_cases e' : q = j + 1
    · rw [if_pos e, if_pos e']; exact Int.le_refl _
    · rw [if_pos e, if_neg e']; exact h1 j q ha (by omega) a3 (by omega) e'
    · rw [if_neg e, if_pos e']; exact h1 p j a1 (by omega) (by omega) e (by omega)
    · rw [if_neg e, if_neg e']; exact h1 p q a1 a2 a3 e e'
  · rw [hv j, hv q, if_pos rfl, if_neg (by omega)]
    by_cases e : q = j + 1
    · rw [if_pos e]; omega
    · rw [if_neg e]; exact h2 q (by omega) a2
theorem stIns_stop {key : Int → Int} {l : List Int} {a j i : Nat} (h : StIns key l a j i) (hs : j = a ∨ key (itm l (j - 1)) ≤ key (itm l j)) : Srt key l a (i + 1) := by
  obtain ⟨h1, h2⟩ := h
  intro p q a1 a2 a3
  by_cases e : p = j <;> by_cases e' : q = j
  · rw [e, e']; exact Int.le_refl _
  · rw [e]; exact h2 q (by omega) (by omega)
  · rw [e']
    rcases hs with hs | hs
    · omega
    · by_cases c : p = j - 1
      · rw [c]; exact hs
      · exact Int.le_trans (h1 p (j - 1) a1 (by omega) (by omega) e (by omega)) hs
  · exact h1 p q a1 a2 (by omega) e e'

/-! one number carried up, or down -/
def Up1 (l0 l : List Int) (a k : Nat) : Prop := l.length = l0.length ∧ ∀ p, itm l p = if p < a ∨ k < p then itm l0 p else if p = k then itm l0 a else itm l0 (p + 1)
theorem up1_start (l : List Int) (a : Nat) : Up1 l l a a := ⟨rfl, fun p => by
  by_cases h : p < a ∨ a < p
  · rw [if_pos h]
  · obtain rfl : p = a := by omega
    rw [if_neg h, if_pos rfl]⟩
theorem up1_step {l0 l : List Int} {a k : Nat} (h : Up1 l0 l a k) (hk : k + 1 < l.length) (ha : a ≤ k) : Up1 l0 (swp l k (k + 1)) a (k + 1) := by
  obtain ⟨h1, h2⟩ := h
  refine ⟨(swp_length _ _ _).trans h1, fun p => ?_⟩
  rw [itm_swp l k (k + 1) p (by omega) hk, h2 k, h2 (k + 1), h2 p]
  by_cases e : p = k + 1
  · rw [if_pos e, if_neg (by omega), if_pos rfl, if_neg (by omega), if_pos e]
  · rw [if_neg e]
    by_cases e' : p = k
    · rw [if_pos e', if_pos (by omega), if_neg (by omega), if_neg e, e']
    · rw [if_neg e']
      by_cases c : p < a ∨ k + 1 < p
      · rw [if_pos (by omega), if_pos c]
      · rw [if_neg (by omega), if_neg e', if_neg c, if_neg e]
def Dn1 (l0 l : List Int) (k m : Nat) : Prop := l.length = l0.length ∧ ∀ p, itm l p = if p < k ∨ m < p then itm l0 p else if p = k then itm l0 m else itm l0 (p - 1)
theorem dn1_start (l : List Int) (m : Nat) : Dn1 l l m m := ⟨rfl, fun p => by
  by_cases h : p < m ∨ m < p
  · rw [if_pos h]
  · obtain rfl : p = m := by omega
    rw [if_neg h, if_pos rfl]⟩
theorem dn1_step {l0 l : List Int} {k m : Nat} (h : Dn1 l0 l (k + 1) m) (hk : k + 1 ≤ m) (hm : m < l.length) : Dn1 l0 (swp l (k + 1) k) k m := by
  obtain ⟨h1, h2⟩ := h
  refine ⟨(swp_length _ _ _).trans h1, fun p => ?_⟩
  rw [itm_swp l (k + 1) k p (by omega) (by omega), h2 k, h2 (k + 1), h2 p]
  by_cases e : p = k
  · rw [if_pos e, if_neg (by omega), if_pos rfl, if_neg (by omega), if_pos e]
  · rw [if_neg e]
    by_cases e' : p = k + 1
    · rw [if_pos e', if_pos (by omega), if_neg (by omega), if_neg (by omega), e', Nat.add_sub_cancel]
    · rw [if_neg e']
      by_cases c : p < k ∨ m < p
      · rw [if_pos (by omega), if_pos c]
      · rw [if_neg (by omega), if_neg e', if_neg c, if_neg e]

/-- What a merge in place is to do. -/
def Mrg (key : Int → Int) (a b : Nat) (l l' : List Int) : Prop := Re l l' a b ∧ Srt key l' a b
theorem mrg_up {key : Int → Int} {l0 l : List Int} {a b k : Nat} (hu : Up1 l0 l a k) (hr : Re l0 l a b) (hs : Srt key l0 (a + 1) b) (hk : a ≤ k) (hkb : k < b)
    (h1 : ∀ h, a + 1 ≤ h → h < k + 1 → key (itm l0 h) < key (itm l0 a)) (h2 : ∀ h, k + 1 ≤ h → h < b → key (itm l0 a) ≤ key (itm l0 h)) : Mrg key a b l0 l := by
  refine ⟨hr, fun i j a1 a2 a3 => ?_⟩
  rw [hu.2 i, hu.2 j]
  by_cases c1 : k < j
  · rw [if_pos (show j < a ∨ k < j from .inr c1)]
    by_cases c2 : k < i
    · rw [if_pos (.inr c2)]; exact hs i j (by omega) a2 a3
    · rw [if_neg (by omega)]
      by_cases c3 : i = k
      · rw [if_pos c3]; exact h2 j (by omega) a3
      · rw [if_neg c3]; exact hs (i + 1) j (by omega) (by omega) a3
  · rw [if_neg (show ¬ (j < a ∨ k < j) by omega), if_neg (show ¬ (i < a ∨ k < i) by omega)]
    by_cases c2 : j = k
    · rw [if_pos c2]
      by_cases c3 : i = k
      · rw [if_pos c3]; exact Int.le_refl _
      · rw [if_neg c3]; have := h1 (i + 1) (by omega) (by omega); omega
    · rw [if_neg c2, if_neg (by omega)]; exact hs (i + 1) (j + 1) (by omega) (by omega) (by omega)
theorem mrg_dn {key : Int → Int} {l0 l : List Int} {a m k : Nat} (hu : Dn1 l0 l k m) (hr : Re l0 l a (m + 1)) (hs : Srt key l0 a m) (hk : a ≤ k) (hkm : k ≤ m)
    (h1 : ∀ h, a ≤ h → h < k → key (itm l0 h) ≤ key (itm l0 m)) (h2 : ∀ h, k ≤ h → h < m → key (itm l0 m) < key (itm l0 h)) : Mrg key a (m + 1) l0 l := by
  refine ⟨hr, fun i j a1 a2 a3 => ?_⟩
  rw [hu.2 i, hu.2 j]
  by_cases c1 : i < k
  · rw [if_pos (show i < k ∨ m < i from .inl c1)]
    by_cases c2 : j < k
    · rw [if_pos (.inl c2)]; exact hs i j a1 a2 (by omega)
    · rw [if_neg (by omega)]
      by_cases c3 : j = k
      · rw [if_pos c3]; exact h1 i a1 c1
      · rw [if_neg c3]; exact hs i (j - 1) a1 (by omega) (by omega)
  · rw [if_neg (show ¬ (j < k ∨ m < j) by omega), if_neg (show ¬ (i < k ∨ m < i) by omega)]
    by_cases c2 : i = k
    · rw [if_pos c2]
      by_cases c3 : j = k
      · rw [if_pos c3]; exact Int.le_refl _
      · rw [if_neg c3]; have := h2 (j - 1) (by omega) (by omega); omega
    · rw [if_neg c2, if_neg (by omega)]; exact hs (i - 1) (j - 1) (by omega) (by omega) (by omega)

/-! rotation -/
/-- The numbers of the places a, .., m - 1 and m, .., b - 1 changed about. -/
def rotv (l : List Int) (a m b p : Nat) : Int := if a ≤ p ∧ p < b then (if p < a + (b - m) then itm l (p - a + m) else itm l (p - (b - m))) else itm l p
def swpRange (l : List Int) (a b n p : Nat) : Int := if a ≤ p ∧ p < a + n then itm l (p - a + b) else if b ≤ p ∧ p < b + n then itm l (p - b + a) else itm l p
theorem rot_more {l l' : List Int} {m i j : Nat} (him : i ≤ m) (hji : j < i) (h : ∀ p, itm l' p = swpRange l (m - i) m j p) (p : Nat) : rotv l' (m - (i - j)) m (m + j) p = rotv l (m - i) m (m + j) p := by
  unfold rotv
  simp only [h]
  unfold swpRange
  by_cases c1 : m - i ≤ p ∧ p < m + j
  · rw [if_pos c1]
    by_cases c2 : p < m - i + j
    · rw [if_neg (by omega), if_pos (by omega), if_pos (by omega)]
    · rw [if_pos (by omega)]
      by_cases c3 : p < m - (i - j) + (m + j - m)
      · rw [if_pos c3, if_neg (by omega), if_pos (by omega), if_neg (by omega)]
        congr 1; omega
      · rw [if_neg c3, if_neg (by omega), if_neg (by omega), if_neg (by omega)]
  · rw [if_neg c1, if_neg (by omega), if_neg (by omega), if_neg (by omega)]
theorem rot_less {l l' : List Int} {m i j : Nat} (him : i ≤ m) (hij : i < j) (h : ∀ p, itm l' p = swpRange l (m - i) (m + j - i) i p) (p : Nat) : rotv l' (m - i) m (m + (j - i)) p = rotv l (m - i) m (m + j) p := by
  unfold rotv
  simp only [h]
  unfold swpRange
  by_cases c1 : m - i ≤ p ∧ p < m + j
  · rw [if_pos c1]
    by_cases c2 : m + (j - i) ≤ p
    · rw [if_neg (by omega), if_neg (by omega), if_pos (by omega), if_neg (by omega)]
      congr 1; omega
    · rw [if_pos (by omega)]
      by_cases c3 : p < m - i + (m + (j - i) - m)
      · rw [if_pos c3, if_neg (by omega), if_neg (by omega), if_pos (by omega)]
      · rw [if_neg c3, if_pos (by omega), if_pos (by omega)]
        congr 1; omega
  · rw [if_neg c1, if_neg (by omega), if_neg (by omega), if_neg (by omega)]
theorem rot_last {l l' : List Int} {m i : Nat} (him : i ≤ m) (h : ∀ p, itm l' p = swpRange l (m - i) m i p) (p : Nat) : itm l' p = rotv l (m - i) m (m + i) p := by
  rw [h]
  unfold rotv swpRange
  by_cases c1 : m - i ≤ p ∧ p < m + i
  · rw [if_pos c1]
    by_cases c2 : p < m
    · rw [if_pos (by omega), if_pos (by omega)]
    · rw [if_neg (by omega), if_pos (by omega), if_neg (by omega)]
      congr 1; omega
  · rw [if_neg c1, if_neg (by omega), if_neg (by omega)]
theorem rot_none (l : List Int) (a m b p : Nat) (h : a = m ∨ m = b) (ha : a ≤ m) (hb : m ≤ b) : itm l p = rotv l a m b p := by
  unfold rotv
  by_cases c1 : a ≤ p ∧ p < b
  · rw [if_pos c1]
    by_cases c2 : p < a + (b - m)
    · rw [if_pos c2]; congr 1; omega
    · rw [if_neg c2]; congr 1; omega
  · rw [if_neg c1]

/-! the merge in place -/
/-- How far the search for the cut has come. -/
def Cut (key : Int → Int) (l : List Int) (n lo hi s r : Nat) : Prop :=
  (∀ c, lo ≤ c → c < s → key (itm l c) ≤ key (itm l (n - 1 - c))) ∧ (∀ c, r ≤ c → c < hi → key (itm l (n - 1 - c)) < key (itm l c))
theorem cut_up {key : Int → Int} {l : List Int} {a m b n lo hi s r c : Nat} (h : Cut key l n lo hi s r) (h1 : Srt key l a m) (h2 : Srt key l m b) (hlo : a ≤ lo) (hhi : hi ≤ m) (hb : n ≤ b + lo) (hm : m + hi ≤ n)
    (hr : c < r) (hrh : r ≤ hi) (hle : key (itm l c) ≤ key (itm l (n - 1 - c))) : Cut key l n lo hi (c + 1) r := by
  refine ⟨fun d a1 a2 => ?_, h.2⟩
  by_cases e : d < s
  · exact h.1 d a1 e
  · have k1 := h1 d c (by omega) (by omega) (by omega)
    have k2 := h2 (n - 1 - c) (n - 1 - d) (by omega) (by omega) (by omega)
    omega
theorem cut_dn {key : Int → Int} {l : List Int} {a m b n lo hi s r c : Nat} (h : Cut key l n lo hi s r) (h1 : Srt key l a m) (h2 : Srt key l m b) (hlo : a ≤ lo) (hhi : hi ≤ m) (hb : n ≤ b + lo) (hm : m + hi ≤ n)
    (hr : c < r) (hrh : r ≤ hi) (hlc : lo ≤ c) (hlt : key (itm l (n - 1 - c)) < key (itm l c)) : Cut key l n lo hi s c := by
  refine ⟨h.1, fun d a1 a2 => ?_⟩
  by_cases e : r ≤ d
  · exact h.2 d e a2
  · have k1 := h1 c d (by omega) (by omega) (by omega)
    have k2 := h2 (n - 1 - d) (n - 1 - c) (by omega) (by omega) (by omega)
    omega
/-- Behind the rotation: both halves are two sorted pieces each, and the first half stands below the second. -/
theorem cut_rot {key : Int → Int} {l l1 : List Int} {a m b mid lo hi s : Nat} (h : Cut key l (mid + m) lo hi s s) (h1 : Srt key l a m) (h2 : Srt key l m b) (hlo : a ≤ lo) (hls : lo ≤ s) (hsh : s ≤ hi) (hhi : hi ≤ m) (hb : mid + m ≤ b + lo) (hm : hi ≤ mid)
    (hlo2 : lo = a ∨ mid + m = b + lo) (hhi2 : hi = m ∨ hi = mid) (hrot : ∀ p, itm l1 p = rotv l s m (mid + m - s) p) :
    Srt key l1 a s ∧ Srt key l1 s mid ∧ Srt key l1 mid (mid + m - s) ∧ Srt key l1 (mid + m - s) b ∧ ∀ i j, a ≤ i → i < mid → mid ≤ j → j < b → key (itm l1 i) ≤ key (itm l1 j) := by
  have e1 : ∀ p, p < s → itm l1 p = itm l p := fun p hp => by rw [hrot]; unfold rotv; rw [if_neg (by omega)]
  have e2 : ∀ p, s ≤ p → p < mid → itm l1 p = itm l (p - s + m) := fun p h1 h2 => by rw [hrot]; unfold rotv; rw [if_pos (by omega), if_pos (by omega)]
  have e3 : ∀ p, mid ≤ p → p < mid + m - s → itm l1 p = itm l (p - (mid - s)) := fun p h1 h2 => by rw [hrot]; unfold rotv; rw [if_pos (by omega), if_neg (by omega)]; congr 1; omega
  have e4 : ∀ p, mid + m - s ≤ p → itm l1 p = itm l p := fun p hp => by rw [hrot]; unfold rotv; rw [if_neg (by omega)]
  refine ⟨fun i j b1 b2 b3 => ?_, fun i j b1 b2 b3 => ?_, fun i j b1 b2 b3 => ?_, fun i j b1 b2 b3 => ?_, fun i j b1 b2 b3 b4 => ?_⟩
  · rw [e1 i (by omega), e1 j b3]; exact h1 i j b1 b2 (by omega)
  · rw [e2 i b1 (by omega), e2 j (by omega) b3]; exact h2 _ _ (by omega) (by omega) (by omega)
  · rw [e3 i b1 (by omega), e3 j (by omega) b3]; exact h1 _ _ (by omega) (by omega) (by omega)
  · rw [e4 i b1, e4 j (by omega)]; exact h2 i j (by omega) b2 b3
  · by_cases c1 : i < s <;> by_cases c2 : j < mid + m - s
    · rw [e1 i c1, e3 j b3 c2]; exact h1 i _ b1 (by omega) (by omega)
    · rw [e1 i c1, e4 j (by omega)]
      have k1 := h1 i (s - 1) b1 (by omega) (by omega)
      have k2 := h.1 (s - 1) (by omega) (by omega)
      have k3 := h2 (mid + m - 1 - (s - 1)) j (by omega) (by omega) b4
      omega
    · rw [e2 i (by omega) b2, e3 j b3 c2]
      have k1 := h2 (i - s + m) (mid + m - 1 - s) (by omega) (by omega) (by omega)
      have k2 := h.2 s (Nat.le_refl _) (by omega)
      have k3 := h1 s (j - (mid - s)) (by omega) (by omega) (by omega)
      omega
    · rw [e2 i (by omega) b2, e4 j (by omega)]; exact h2 _ j (by omega) (by omega) b4
theorem mrg_both {key : Int → Int} {l l1 l2 l3 : List Int} {a b mid : Nat} (ha : a ≤ mid) (hb : mid ≤ b) (h1 : Re l l1 a b) (hx : ∀ i j, a ≤ i → i < mid → mid ≤ j → j < b → key (itm l1 i) ≤ key (itm l1 j))
    (h2 : Mrg key a mid l1 l2) (h3 : Mrg key mid b l2 l3) : Mrg key a b l l3 := by
  refine ⟨(h1.trans (h2.1.wide (Nat.le_refl _) hb)).trans (h3.1.wide ha (Nat.le_refl _)), Srt.join (h2.2.keep fun i _ hi => h3.1.out i (.inl hi)) h3.2 fun i j a1 a2 a3 a4 => ?_⟩
  rw [h3.1.out i (.inl a2)]
  obtain ⟨i', b1, b2, e1⟩ := h2.1.inn i a1 a2
  obtain ⟨j', b3, b4, e2⟩ := h3.1.inn j a3 a4
  rw [e1, e2, h2.1.out j' (.inr b3)]
  exact hx i' j' b1 b2 b3 b4

/-! blocks -/
inductive Runs (key : Int → Int) (l : List Int) (bs n : Nat) : Nat → Prop
  | last (a : Nat) : n ≤ a + bs → Srt key l a n → Runs key l bs n a
  | more (a : Nat) : a + bs ≤ n → Srt key l a (a + bs) → Runs key l bs n (a + bs) → Runs key l bs n a
inductive Heads (key : Int → Int) (l : List Int) (bs : Nat) : Nat → Prop
  | zero : Heads key l bs 0
  | add (a : Nat) : Heads key l bs a → Srt key l a (a + bs) → Heads key l bs (a + bs)
theorem Runs.keep {key : Int → Int} {l l' : List Int} {bs n a : Nat} (h : Runs key l bs n a) (he : ∀ i, a ≤ i → itm l' i = itm l i) : Runs key l' bs n a := by
  induction h with
  | last a h1 h2 => exact .last a h1 (h2.keep fun i hi _ => he i hi)
  | more a h1 h2 _ ih => exact .more a h1 (h2.keep fun i hi _ => he i hi) (ih fun i hi => he i (by omega))
theorem Heads.keep {key : Int → Int} {l l' : List Int} {bs a : Nat} (h : Heads key l bs a) (he : ∀ i, i < a → itm l' i = itm l i) : Heads key l' bs a := by
  induction h with
  | zero => exact .zero
  | add a _ h2 ih => exact .add a (ih fun i hi => he i (by omega)) (h2.keep fun i _ hi => he i (by omega))
theorem Heads.runs {key : Int → Int} {l : List Int} {bs n a : Nat} (h : Heads key l bs a) (ha : a ≤ n) (hr : Runs key l bs n a) : Runs key l bs n 0 := by
  induction h with
  | zero => exact hr
  | add a _ h2 ih => exact ih (by omega) (.more a ha h2 hr)
theorem Runs.two {key : Int → Int} {l : List Int} {bs n a : Nat} (h : Runs key l bs n a) (hbs : 0 < bs) (hb : a + 2 * bs ≤ n) : Srt key l a (a + bs) ∧ Srt key l (a + bs) (a + 2 * bs) ∧ Runs key l bs n (a + 2 * bs) := by
  cases h with
  | last _ h1 _ => omega
  | more _ h1 h2 h3 =>
    cases h3 with
    | last _ h4 h5 =>
      obtain rfl : n = a + 2 * bs := by omega
      exact ⟨h2, h5, .last _ (by omega) (Srt.none (by omega))⟩
    | more _ h4 h5 h6 =>
      have e : a + bs + bs = a + 2 * bs := by omega
      rw [e] at h5 h6
      exact ⟨h2, h5, h6⟩
theorem Runs.tail {key : Int → Int} {l : List Int} {bs n a : Nat} (h : Runs key l bs n a) (hb : n < a + 2 * bs) (hm : a + bs < n) : Srt key l a (a + bs) ∧ Srt key l (a + bs) n := by
  cases h with
  | last _ h1 _ => omega
  | more _ h1 h2 h3 =>
    cases h3 with
    | last _ h4 h5 => exact ⟨h2, h5⟩
    | more _ h4 h5 h6 => omega
theorem Runs.whole {key : Int → Int} {l : List Int} {bs n a : Nat} (h : Runs key l bs n a) (hm : n ≤ a + bs) : Srt key l a n := by
  cases h with
  | last _ _ h2 => exact h2
  | more _ h1 h2 _ =>
    obtain rfl : n = a + bs := by omega
    exact h2
end Go.Proofs.Ytpolbnobnilfcaa
