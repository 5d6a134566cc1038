/- Plain mathematics: no code begins another one, longer codes come behind shorter ones, and what is written by the codes is read back. No program, no memory. -/
import Derived.Test.YthbdhpciibjnmaaNx
namespace Go.Proofs.Ythbdhpciibjnmaa

section
variable {l : List Int}
theorem rank_lt (n i : Nat) (h : i < l.length) (hx : l[i] = (n : Int)) : rank l n i < cntN l n := by
  have h1 := rank_succ l n i h
  rw [if_pos hx] at h1
  have h2 := rank_le l n (i + 1)
  omega
theorem rank_mono (n i k : Nat) (hk : k ≤ l.length) (hik : i ≤ k) : rank l n i ≤ rank l n k := by
  induction k with
  | zero => obtain rfl : i = 0 := by omega
            exact Nat.le_refl _
  | succ k ih =>
    by_cases e : i = k + 1
    · subst e; exact Nat.le_refl _
    · have h1 := ih (by omega) (by omega)
      have h2 := rank_succ l n k (by omega)
      omega
theorem codeAt_len (n i : Nat) (h : i < l.length) (hx : l[i] = (n : Int)) (hn : 0 < n) : codeAt l i = 2 * endN l (n - 1) + rank l n i := by
  obtain ⟨m, rfl⟩ : ∃ m, n = m + 1 := ⟨n - 1, by omega⟩
  rw [codeAt_eq l m i h hx, Nat.add_sub_cancel]
theorem codeAt_lt (n i : Nat) (h : i < l.length) (hx : l[i] = (n : Int)) (hn : 0 < n) : codeAt l i < endN l n := by
  have h1 := rank_lt n i h hx
  rw [codeAt_len n i h hx hn, endN_pred l n hn]
  omega
theorem codeAt_ge (n i : Nat) (h : i < l.length) (hx : l[i] = (n : Int)) (hn : 0 < n) : 2 * endN l (n - 1) ≤ codeAt l i := by
  rw [codeAt_len n i h hx hn]; omega
theorem endN_shift (n d : Nat) : endN l n * 2 ^ d ≤ endN l (n + d) := by
  induction d with
  | zero => simp
  | succ d ih =>
    rw [Nat.pow_succ, ← Nat.mul_assoc, show n + (d + 1) = (n + d) + 1 from rfl]
    have h1 := endN_pred l (n + d + 1) (by omega)
    rw [Nat.add_sub_cancel] at h1
    omega
/-- The codes of greater lengths stand behind all of length n. -/
theorem endN_ahead (n m : Nat) (h : n < m) : endN l n * 2 ^ (m - n) ≤ 2 * endN l (m - 1) := by
  obtain ⟨d, rfl⟩ : ∃ d, m = n + d + 1 := ⟨m - n - 1, by omega⟩
  have h1 := endN_shift (l := l) n d
  rw [show n + d + 1 - n = d + 1 from by omega, Nat.pow_succ, ← Nat.mul_assoc, Nat.add_sub_cancel]
  omega
theorem code_behind (n m i k : Nat) (hi : i < l.length) (hk : k < l.length) (hx : l[i] = (n : Int)) (hy : l[k] = (m : Int)) (hn : 0 < n) (hnm : n < m) : codeAt l i < codeAt l k / 2 ^ (m - n) := by
  have h1 := codeAt_lt n i hi hx hn
  have h2 := codeAt_ge m k hk hy (by omega)
  have h3 := endN_ahead (l := l) n m hnm
  have h4 : endN l n ≤ codeAt l k / 2 ^ (m - n) := (Nat.le_div_iff_mul_le (Nat.two_pow_pos _)).mpr (Nat.le_trans h3 h2)
  omega
theorem code_rising (n i k : Nat) (hk : k < l.length) (hik : i < k) (hx : l[i]'(by omega) = (n : Int)) (hy : l[k] = (n : Int)) (hn : 0 < n) : codeAt l i < codeAt l k := by
  rw [codeAt_len n i (by omega) hx hn, codeAt_len n k hk hy hn]
  have h1 := rank_succ l n i (by omega)
  rw [if_pos hx] at h1
  have h2 := rank_mono (l := l) n (i + 1) k (by omega) (by omega)
  omega
/-- The symbol at its place among those of its length. -/
theorem symsBelow_at (n i m : Nat) (hm : m ≤ l.length) (h : i < m) (hx : l[i]'(by omega) = (n : Int)) : (symsBelow l n m)[rank l n i]? = some i := by
  induction m with
  | zero => omega
  | succ m ih =>
    rw [symsBelow_succ l n m (by omega)]
    by_cases e : i = m
    · subst e
      rw [if_pos hx, List.getElem?_append_right (by rw [symsBelow_length l n i (by omega)]; exact Nat.le_refl _), symsBelow_length l n i (by omega), Nat.sub_self]
      rfl
    · have h1 := ih (by omega) (by omega) hx
      rw [List.getElem?_append_left ((List.getElem?_eq_some_iff.mp h1).1)]
      exact h1
theorem syms_at (n i : Nat) (h : i < l.length) (hx : l[i] = (n : Int)) : (syms l n).getD (rank l n i) 0 = i := by
  unfold syms
  rw [List.getD, symsBelow_at n i l.length (Nat.le_refl _) h hx]
  rfl
/-- The first j bits of symbol s's code begin a code, and are none. -/
theorem code_begins (n s j : Nat) (h : s < l.length) (hx : l[s] = (n : Int)) (hj : j < n) (hn : n ≤ 16) : moreB l j (codeAt l s / 2 ^ (n - j)) = true := by
  refine moreB_yes (k := n) (by omega) ?_
  have h1 := codeAt_lt n s h hx (by omega)
  have h2 := codeAt_ge n s h hx (by omega)
  have h3 := rank_lt n s h hx
  unfold begins
  rw [decide_eq_true_iff]
  have h4 := Nat.div_mul_le_self (codeAt l s) (2 ^ (n - j))
  have h5 := Nat.lt_div_mul_add (a := codeAt l s) (Nat.two_pow_pos (n - j))
  refine ⟨hj, by omega, Nat.lt_of_le_of_lt h4 h1, ?_⟩
  rw [Nat.add_mul, Nat.one_mul]
  omega
theorem code_nohit (n s j : Nat) (h : s < l.length) (hx : l[s] = (n : Int)) (hj : j < n) : ¬ codeAt l s / 2 ^ (n - j) < endN l j := by
  have h2 := codeAt_ge n s h hx (by omega)
  have h3 := endN_ahead (l := l) j n hj
  have h4 : endN l j ≤ codeAt l s / 2 ^ (n - j) := (Nat.le_div_iff_mul_le (Nat.two_pow_pos _)).mpr (Nat.le_trans h3 h2)
  omega
/-- Where the bits are those of symbol s's code, the next symbol is s. -/
theorem nextFrom_code (n s av : Nat) (f : Nat → Bool) (h : s < l.length) (hx : l[s] = (n : Int)) (hn1 : 1 ≤ n) (hn : n ≤ 16) (hav : n ≤ av) (hf : ∀ j, j < n → (f j).toNat = codeAt l s / 2 ^ (n - 1 - j) % 2) :
    ∀ d j, j + d = n → 1 ≤ d → nextFrom l f av j (codeAt l s / 2 ^ (n - j)) (16 - j) = (n, s, 0) := by
  intro d
  induction d with
  | zero => intro j _ h1; omega
  | succ d ih =>
    intro j hj _
    obtain ⟨r, hr⟩ : ∃ r, 16 - j = r + 1 := ⟨15 - j, by omega⟩
    have hy : codeAt l s / 2 ^ (n - (j + 1)) = 2 * (codeAt l s / 2 ^ (n - j)) + (f j).toNat := by
      rw [hf j (by omega), show n - 1 - j = n - (j + 1) from by omega, show n - j = (n - (j + 1)) + 1 from by omega, Nat.pow_succ, ← Nat.div_div_eq_div_mul]
      omega
    rw [hr]
    by_cases hd : d = 0
    · have hjn : n = j + 1 := by omega
      subst hjn
      have h1 := codeAt_lt (j + 1) s h hx (by omega)
      have h2 := codeAt_ge (j + 1) s h hx (by omega)
      rw [Nat.sub_self, Nat.pow_zero, Nat.div_one] at hy
      rw [Nat.add_sub_cancel] at h2
      have hs := codeAt_len (j + 1) s h hx (by omega)
      rw [Nat.add_sub_cancel] at hs
      rw [nextFrom_hit (by omega) hy h2 h1, hs, Nat.add_sub_cancel_left, syms_at (j + 1) s h hx]
    · rw [nextFrom_go (by omega) hy (fun hh => code_nohit n s (j + 1) h hx (by omega) hh.2) (code_begins n s (j + 1) h hx (by omega) hn)]
      have h3 := ih (j + 1) (by omega) (by omega)
      rw [show 16 - (j + 1) = r from by omega] at h3
      exact h3
/-- Behind all codes of its length a number begins a longer code just where it stands ahead of the last code's end. -/
theorem moreB_limit (n v : Nat) (hn : n ≤ 16) (h : endN l n ≤ v) : moreB l n v = decide (v * 2 ^ (16 - n) < endN l 16) := by
  have key : ∀ d, n + d ≤ 16 → v * 2 ^ d < endN l (n + d) → ∃ k, n < k ∧ k ≤ n + d ∧ v * 2 ^ (k - n) < endN l k ∧ 2 * endN l (k - 1) ≤ v * 2 ^ (k - n) := by
    intro d
    induction d with
    | zero => intro _ h1; simp at h1; omega
    | succ d ih =>
      intro hd h1
      by_cases h2 : v * 2 ^ d < endN l (n + d)
      · obtain ⟨k, a, b, c, e⟩ := ih (by omega) h2
        exact ⟨k, a, by omega, c, e⟩
      · refine ⟨n + (d + 1), by omega, Nat.le_refl _, by rw [Nat.add_sub_cancel_left]; exact h1, ?_⟩
        rw [Nat.add_sub_cancel_left, Nat.pow_succ, ← Nat.mul_assoc, show n + (d + 1) - 1 = n + d from by omega]
        omega
  rw [Bool.eq_iff_iff, decide_eq_true_iff]
  unfold moreB
  rw [List.any_eq_true]
  constructor
  · rintro ⟨k, hk, hb⟩
    unfold begins at hb
    obtain ⟨h1, h2, h3, h4⟩ := of_decide_eq_true hb
    have hk2 : k < 17 := by simpa using hk
    have h5 := endN_shift (l := l) k (16 - k)
    rw [show k + (16 - k) = 16 from by omega] at h5
    have h6 : v * 2 ^ (k - n) * 2 ^ (16 - k) < endN l k * 2 ^ (16 - k) := Nat.mul_lt_mul_of_pos_right h3 (Nat.two_pow_pos _)
    rw [Nat.mul_assoc, ← Nat.pow_add, show k - n + (16 - k) = 16 - n from by omega] at h6
    exact Nat.lt_of_lt_of_le h6 h5
  · intro h1
    obtain ⟨k, a, b, c, e⟩ := key (16 - n) (by omega) (by rw [show n + (16 - n) = 16 from by omega]; exact h1)
    refine ⟨k, by simp; omega, ?_⟩
    unfold begins
    rw [decide_eq_true_iff]
    have h5 := endN_pred l k (by omega)
    have h6 : 0 < 2 ^ (k - n) := Nat.two_pow_pos _
    refine ⟨a, by omega, c, ?_⟩
    rw [Nat.add_mul, Nat.one_mul]
    omega
end
end Go.Proofs.Ythbdhpciibjnmaa
