/- Plain mathematics: a stream's fault has a number above 0; what of a stream is used. No program, no memory. -/
import Derived.Test.YthbdhpciibjnmaaIp
namespace Go.Proofs.Ythbdhpciibjnmaa

section
variable {b : List UInt8} {most : Nat} {ll ld lc l : List Int} {n p k : Nat} {out : List UInt8}
theorem takeM_err (h : takeM b p n = .error k) : k ≠ 0 := by
  unfold takeM at h; split at h
  · cases h
  · cases h; decide
theorem nextM_err (h : nextM b l p = .error k) : k ≠ 0 := by
  unfold nextM at h; split at h
  · cases h
  · rename_i hx; cases h; exact hx
theorem steppedM_err {s g : Nat} (h : steppedM b s g p = .error k) : k ≠ 0 := by
  unfold steppedM at h; split at h
  · cases h
  · split at h
    · rename_i hx; cases h; exact takeM_err hx
    · cases h
theorem lengthM_err {v : Nat} (h : lengthM b v p = .error k) : k ≠ 0 := by
  unfold lengthM at h; split at h
  · cases h; decide
  · split at h
    · cases h
    · split at h
      · rename_i hx; cases h; exact steppedM_err hx
      · cases h
theorem distM_err (h : distM b l p = .error k) : k ≠ 0 := by
  unfold distM at h; split at h
  · rename_i hx; cases h; exact nextM_err hx
  · split at h
    · rename_i hx; cases h; exact steppedM_err hx
    · cases h
theorem repeatM_err {far : Nat} (h : repeatM most n far out = .error k) : k ≠ 0 := by
  unfold repeatM at h; split at h
  · cases h; decide
  · split at h
    · cases h; decide
    · cases h
theorem symM_err (h : symM b most ll ld p out = .error k) : k ≠ 0 := by
  unfold symM at h; split at h
  · rename_i hx; cases h; exact nextM_err hx
  · split at h
    · split at h
      · cases h; decide
      · cases h
    · split at h
      · cases h
      · split at h
        · rename_i hx; cases h; exact lengthM_err hx
        · split at h
          · rename_i hx; cases h; exact distM_err hx
          · split at h
            · rename_i hx; cases h; exact repeatM_err hx
            · cases h
theorem symsF_err (hd : ld.length ≤ 30) : ∀ r p (out : List UInt8), 8 * b.length + 1 - p ≤ r → p ≤ 8 * b.length → out.length ≤ most → symsF b most ll ld r p out = .error k → k ≠ 0 := by
  intro r
  induction r with
  | zero => intro p out h1 h2; omega
  | succ r ih =>
    intro p out h1 h2 h3 h
    rw [symsF] at h
    rcases hx : symM b most ll ld p out with ke | ⟨q, o2, last⟩
    · rw [hx] at h; cases h; exact symM_err hx
    · obtain ⟨g1, g2, g3, _⟩ := symM_ok hx hd h3
      rw [hx] at h
      cases last
      · exact ih q o2 (by omega) g2 g3 h
      · cases h
theorem storedM_err (h : storedM b most p out = .error k) : k ≠ 0 := by
  unfold storedM at h; split at h
  · rename_i hx; cases h; exact takeM_err hx
  · split at h
    · rename_i hx; cases h; exact takeM_err hx
    · split at h
      · cases h; decide
      · split at h
        · cases h; decide
        · split at h
          · cases h; decide
          · cases h
theorem runM_err {v : Nat} {row : List Int} (h : runM b v row p = .error k) : k ≠ 0 := by
  unfold runM at h; split at h
  · split at h
    · cases h; decide
    · split at h
      · rename_i hx; cases h; exact takeM_err hx
      · cases h
  · split at h
    · split at h
      · rename_i hx; cases h; exact takeM_err hx
      · cases h
    · split at h
      · split at h
        · rename_i hx; cases h; exact takeM_err hx
        · cases h
      · cases h
theorem rowF_err : ∀ r p (row : List Int), 8 * b.length + 1 - p ≤ r → p ≤ 8 * b.length → rowF b lc n r p row = .error k → k ≠ 0 := by
  intro r
  induction r with
  | zero => intro p row h1 h2; omega
  | succ r ih =>
    intro p row h1 h2 h
    rw [rowF] at h
    split at h
    · cases h
    · rcases hx : nextM b lc p with ke | ⟨v, q⟩
      · rw [hx] at h; cases h; exact nextM_err hx
      · obtain ⟨_, g1, g2⟩ := nextM_ok hx
        rw [hx] at h
        dsimp only at h
        rcases hy : runM b v row q with ke | ⟨⟨x, t⟩, q2⟩
        · rw [hy] at h; cases h; exact runM_err hy
        · obtain ⟨g3, g4, _, _⟩ := runM_ok hy (by omega)
          rw [hy] at h
          dsimp only at h
          split at h
          · cases h; decide
          · exact ih q2 _ (by omega) (by omega) h
theorem lensF_err : ∀ r i p (l : List Int), lensF b r i p l = .error k → k ≠ 0 := by
  intro r
  induction r with
  | zero => intro i p l h; cases h
  | succ r ih =>
    intro i p l h
    rw [lensF] at h
    split at h
    · rename_i hx; cases h; exact takeM_err hx
    · exact ih _ _ _ h
theorem lensM_err (h : lensM b n p = .error k) : k ≠ 0 := by
  unfold lensM at h; split at h
  · rename_i hx; cases h; exact lensF_err _ _ _ _ hx
  · split at h
    · cases h
    · cases h; decide
theorem toldM_err (h : toldM b p = .error k) : k ≠ 0 := by
  unfold toldM at h; split at h
  · rename_i hx; cases h; exact takeM_err hx
  · split at h
    · rename_i hx; cases h; exact takeM_err hx
    · split at h
      · rename_i hx; cases h; exact takeM_err hx
      · rename_i hx
        have hp := (takeM_ok hx).2.2
        split at h
        · cases h; decide
        · split at h
          · rename_i hx; cases h; exact lensM_err hx
          · rename_i hx
            have hq := (lensM_ok hx hp).2.2.2.2
            split at h
            · rename_i hy; cases h
              exact rowF_err _ _ _ (Nat.le_refl _) hq hy
            · split at h
              · cases h; decide
              · split at h
                · split at h
                  · cases h
                  · cases h; decide
                · cases h; decide
theorem symsM_err (hd : ld.length ≤ 30) (hp : p ≤ 8 * b.length) (ho : out.length ≤ most) (h : symsM b most ll ld p out = .error k) : k ≠ 0 :=
  symsF_err hd _ _ _ (Nat.le_refl _) hp ho h
theorem blockM_err (ho : out.length ≤ most) (h : blockM b most p out = .error k) : k ≠ 0 := by
  unfold blockM at h; split at h
  · rename_i hx; cases h; exact takeM_err hx
  · split at h
    · rename_i hx; cases h; exact takeM_err hx
    · rename_i hx
      have hq := (takeM_ok hx).2.2
      split at h
      · rename_i hy
        cases h
        split at hy
        · exact storedM_err hy
        · split at hy
          · exact symsM_err (by simp [fixedD]) hq ho hy
          · split at hy
            · split at hy
              · rename_i hz; cases hy; exact toldM_err hz
              · rename_i hz
                obtain ⟨hc, _, hq2⟩ := toldM_ok hz
                exact symsM_err hc.d2 hq2 ho hy
            · cases hy; decide
      · cases h
theorem rawF_err : ∀ r p (out : List UInt8), 8 * b.length + 1 - p ≤ r → p ≤ 8 * b.length → out.length ≤ most → rawF b most r p out = .error k → k ≠ 0 := by
  intro r
  induction r with
  | zero => intro p out h1 h2; omega
  | succ r ih =>
    intro p out h1 h2 h3 h
    rw [rawF] at h
    rcases hx : blockM b most p out with ke | ⟨q, o2, last⟩
    · rw [hx] at h; cases h; exact blockM_err h3 hx
    · obtain ⟨g1, g2, g3, _⟩ := blockM_ok hx h3
      rw [hx] at h
      cases last
      · exact ih q o2 (by omega) g2 g3 h
      · cases h
theorem rawM_err (h : rawM b most = .error k) : k ≠ 0 := by
  unfold rawM at h; split at h
  · rename_i hx; cases h; exact rawF_err _ _ _ (by omega) (by omega) (Nat.zero_le _) hx
  · cases h
end
theorem rawF_used {b : List UInt8} {most : Nat} : ∀ (r p : Nat) (out : List UInt8) {q : Nat} {o : List UInt8}, out.length ≤ most → rawF b most r p out = .ok (q, o) → p < q ∧ q ≤ 8 * b.length ∧ o.length ≤ most ∧ o.length ≤ out.length + 258 * (q - p)
  | 0, _, _, _, _, _, h => by cases h
  | r + 1, p, out, q, o, ho, h => by
    unfold rawF at h
    rcases hx : blockM b most p out with ke | ⟨q1, o1, last⟩
    · rw [hx] at h; cases h
    · obtain ⟨g1, g2, g3, g4⟩ := blockM_ok hx ho
      rw [hx] at h
      cases last
      · obtain ⟨k1, k2, k3, k4⟩ := rawF_used r q1 o1 g3 h
        exact ⟨by omega, k2, k3, by omega⟩
      · cases h
        exact ⟨g1, g2, g3, g4⟩
theorem rawM_used {b : List UInt8} {most : Nat} {out : List UInt8} {n : Nat} (h : rawM b most = .ok (out, n)) : 0 < n ∧ n ≤ b.length ∧ out.length ≤ most ∧ out.length ≤ 258 * (8 * b.length) := by
  unfold rawM at h
  rcases hx : rawF b most (8 * b.length + 1) 0 [] with ke | ⟨q, o⟩
  · rw [hx] at h; cases h
  · obtain ⟨k1, k2, k3, k4⟩ := rawF_used _ _ _ (Nat.zero_le _) hx
    rw [hx] at h
    cases h
    simp only [List.length_nil, Nat.zero_add] at k4
    exact ⟨by omega, by omega, k3, Nat.le_trans k4 (Nat.mul_le_mul_left 258 (by omega))⟩
end Go.Proofs.Ythbdhpciibjnmaa
