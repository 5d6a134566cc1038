/- Plain mathematics: the rounds of rows, symbols and blocks are bounded by the bits that are left. No program, no memory. -/
import Derived.Test.YthbdhpciibjnmaaIc
namespace Go.Proofs.Ythbdhpciibjnmaa

section
variable {b : List UInt8} {most : Nat} {ll ld lc : List Int} {n : Nat}
theorem runM_ok {v p q t : Nat} {row : List Int} {z : Int} (h : runM b v row p = .ok ((z, t), q)) (hp : p ≤ 8 * b.length) : p ≤ q ∧ q ≤ 8 * b.length ∧ 1 ≤ t ∧ t ≤ 138 := by
  unfold runM at h
  split at h
  · split at h
    · cases h
    · split at h
      · cases h
      · rename_i hx
        injection h with h
        injection h with h1 h2
        injection h1 with h1 h3
        have := takeM_ok hx
        omega
  · split at h
    · split at h
      · cases h
      · rename_i hx
        injection h with h
        injection h with h1 h2
        injection h1 with h1 h3
        have := takeM_ok hx
        omega
    · split at h
      · split at h
        · cases h
        · rename_i hx
          injection h with h
          injection h with h1 h2
          injection h1 with h1 h3
          have := takeM_ok hx
          omega
      · injection h with h
        injection h with h1 h2
        injection h1 with h1 h3
        omega
theorem rowF_fuel : ∀ r r' p row, 8 * b.length + 1 - p ≤ r → 8 * b.length + 1 - p ≤ r' → p ≤ 8 * b.length → rowF b lc n r p row = rowF b lc n r' p row := by
  intro r
  induction r with
  | zero => intro r' p row h1 _ h3; omega
  | succ r ih =>
    intro r' p row h1 h2 h3
    obtain ⟨s, rfl⟩ : ∃ s, r' = s + 1 := ⟨r' - 1, by omega⟩
    rw [rowF, rowF]
    split
    · rfl
    · rcases hx : nextM b lc p with ke | ⟨v, q⟩
      · rfl
      · obtain ⟨_, g1, g2⟩ := nextM_ok hx
        dsimp only
        rcases hy : runM b v row q with ke | ⟨⟨x, k⟩, q2⟩
        · rfl
        · obtain ⟨g3, g4, _, _⟩ := runM_ok hy (by omega)
          dsimp only
          rw [ih s q2 _ (by omega) (by omega) (by omega)]
theorem rowM_end {p : Nat} {row : List Int} (hp : p ≤ 8 * b.length) (h : n ≤ row.length) : rowM b lc n p row = .ok (p, row) := by
  unfold rowM
  rw [show 8 * b.length + 1 - p = (8 * b.length - p) + 1 by omega, rowF, if_pos h]
theorem rowM_next {p : Nat} {row : List Int} (hp : p ≤ 8 * b.length) (h : ¬ n ≤ row.length) : rowM b lc n p row = match nextM b lc p with
    | .error e => .error e
    | .ok (v, q) => match runM b v row q with
      | .error e => .error e
      | .ok ((x, k), q) => if n - row.length < k then .error 41 else rowM b lc n q (row ++ List.replicate k x) := by
  conv => lhs; unfold rowM
  rw [show 8 * b.length + 1 - p = (8 * b.length - p) + 1 by omega, rowF, if_neg h]
  rcases hx : nextM b lc p with ke | ⟨v, q⟩
  · rfl
  · obtain ⟨_, g1, g2⟩ := nextM_ok hx
    dsimp only
    rcases hy : runM b v row q with ke | ⟨⟨x, k⟩, q2⟩
    · rfl
    · obtain ⟨g3, g4, _, _⟩ := runM_ok hy (by omega)
      dsimp only
      unfold rowM
      rw [rowF_fuel (8 * b.length - p) (8 * b.length + 1 - q2) q2 _ (by omega) (by omega) (by omega)]
/-- A row that is read holds lengths of codes, as many as were asked for. -/
theorem runM_len {v p q t : Nat} {row : List Int} {z : Int} (h : runM b v row p = .ok ((z, t), q)) (hv : v < 19) (hr : ∀ x ∈ row, 0 ≤ x ∧ x ≤ 15) : 0 ≤ z ∧ z ≤ 15 := by
  unfold runM at h
  split at h
  · split at h
    · cases h
    · rename_i x hx2
      split at h
      · cases h
      · injection h with h
        injection h with h1 _
        injection h1 with h1 _
        subst h1
        exact hr _ (List.mem_of_getLast? hx2)
  · split at h
    · split at h
      · cases h
      · injection h with h
        injection h with h1 _
        injection h1 with h1 _
        omega
    · split at h
      · split at h
        · cases h
        · injection h with h
          injection h with h1 _
          injection h1 with h1 _
          omega
      · injection h with h
        injection h with h1 _
        injection h1 with h1 _
        omega
theorem repeatM_len {far k : Nat} {out out2 : List UInt8} (h : repeatM most k far out = .ok out2) : out2.length = out.length + k ∧ (out.length ≤ most → out2.length ≤ most) := by
  have hcl : ∀ k (out : List UInt8), (copyM far k out).length = out.length + k := by
    intro k
    induction k with
    | zero => intro out; rfl
    | succ k ih => intro out; rw [copyM, ih, List.length_append]; simp; omega
  unfold repeatM at h
  split at h
  · cases h
  · split at h
    · cases h
    · injection h with h
      subst h
      rw [hcl]
      omega
theorem lengthM_ok {v p q k : Nat} (h : lengthM b v p = .ok (k, q)) (h1 : 257 ≤ v) (hp : p ≤ 8 * b.length) : k ≤ 258 ∧ p ≤ q ∧ q ≤ 8 * b.length ∧ 3 ≤ k := by
  unfold lengthM at h
  split at h
  · cases h
  · split at h
    · injection h with h
      injection h with h2 h3
      omega
    · split at h
      · cases h
      · rename_i x q2 hx
        injection h with h
        injection h with h2 h3
        have hb := steppedM_ok hx (by omega) (by omega) (by omega) hp
        refine ⟨?_, by omega, by omega, by omega⟩
        unfold steppedM at hx
        split at hx
        · injection hx with hx
          injection hx with hx1 _
          omega
        · split at hx
          · cases hx
          · rename_i y q3 hy
            injection hx with hx
            injection hx with hx1 _
            have h5 := (takeM_ok hy).1
            have hm : (v - 257) / 4 - 1 ≤ 5 := by omega
            have e1 : (v - 257) / 4 - 1 = 0 ∨ (v - 257) / 4 - 1 = 1 ∨ (v - 257) / 4 - 1 = 2 ∨ (v - 257) / 4 - 1 = 3 ∨ (v - 257) / 4 - 1 = 4 ∨ (v - 257) / 4 - 1 = 5 := by omega
            rcases e1 with e1 | e1 | e1 | e1 | e1 | e1
            all_goals
              rw [e1] at h5 hx1
              simp at h5 hx1
              omega
theorem distM_ok {l : List Int} {p q d : Nat} (h : distM b l p = .ok (d, q)) (hl : l.length ≤ 30) : 1 ≤ d ∧ d ≤ 1000000 ∧ p < q ∧ q ≤ 8 * b.length := by
  unfold distM at h
  split at h
  · cases h
  · rename_i x q2 hx
    obtain ⟨g1, g2, g3⟩ := nextM_ok hx
    split at h
    · cases h
    · rename_i y q3 hy
      injection h with h
      injection h with h1 h2
      have := steppedM_ok hy (by omega) (by omega) (by omega) g3
      omega
/-- A symbol's round: bits are taken, and no more is written than there may be. -/
theorem symM_ok {p q : Nat} {out out2 : List UInt8} {last : Bool} (h : symM b most ll ld p out = .ok (q, out2, last)) (hd : ld.length ≤ 30) (hol : out.length ≤ most) : p < q ∧ q ≤ 8 * b.length ∧ out2.length ≤ most ∧ out2.length ≤ out.length + 258 * (q - p) := by
  unfold symM at h
  split at h
  · cases h
  · rename_i v q1 hx
    obtain ⟨_, g1, g2⟩ := nextM_ok hx
    split at h
    · split at h
      · cases h
      · injection h with h
        injection h with h1 h2
        injection h2 with h2 _
        subst h1 h2
        rw [List.length_append]
        simp
        omega
    · split at h
      · injection h with h
        injection h with h1 h2
        injection h2 with h2 _
        subst h1 h2
        omega
      · split at h
        · cases h
        · rename_i k q2 hy
          obtain ⟨g3, g4, g5, _⟩ := lengthM_ok hy (by omega) g2
          split at h
          · cases h
          · rename_i far q3 hz
            obtain ⟨_, _, g6, g7⟩ := distM_ok hz hd
            split at h
            · cases h
            · rename_i o2 ho
              obtain ⟨g8, g9⟩ := repeatM_len ho
              injection h with h
              injection h with h1 h2
              injection h2 with h2 _
              subst h1 h2
              have := g9 hol
              omega
theorem symsF_fuel (hd : ld.length ≤ 30) : ∀ r r' p out, 8 * b.length + 1 - p ≤ r → 8 * b.length + 1 - p ≤ r' → p ≤ 8 * b.length → out.length ≤ most → symsF b most ll ld r p out = symsF b most ll ld r' p out := by
  intro r
  induction r with
  | zero => intro r' p out h1 _ h3; omega
  | succ r ih =>
    intro r' p out h1 h2 h3 h4
    obtain ⟨s, rfl⟩ : ∃ s, r' = s + 1 := ⟨r' - 1, by omega⟩
    rw [symsF, symsF]
    rcases hx : symM b most ll ld p out with ke | ⟨q, o2, last⟩
    · rfl
    · obtain ⟨g1, g2, g3, _⟩ := symM_ok hx hd h4
      cases last
      · exact ih s q o2 (by omega) (by omega) (by omega) g3
      · rfl
theorem symsM_step {p : Nat} {out : List UInt8} (hd : ld.length ≤ 30) (hp : p ≤ 8 * b.length) (hol : out.length ≤ most) : symsM b most ll ld p out = match symM b most ll ld p out with
    | .error e => .error e
    | .ok (q, out, true) => .ok (q, out)
    | .ok (q, out, false) => symsM b most ll ld q out := by
  conv => lhs; unfold symsM
  rw [show 8 * b.length + 1 - p = (8 * b.length - p) + 1 by omega, symsF]
  rcases hx : symM b most ll ld p out with ke | ⟨q, o2, last⟩
  · rfl
  · obtain ⟨g1, g2, g3, _⟩ := symM_ok hx hd hol
    cases last
    · exact symsF_fuel hd _ _ _ _ (by omega) (by omega) (by omega) g3
    · rfl
theorem symsF_ok (hd : ld.length ≤ 30) : ∀ r p out q out2, symsF b most ll ld r p out = .ok (q, out2) → out.length ≤ most → p < q ∧ q ≤ 8 * b.length ∧ out2.length ≤ most ∧ out2.length ≤ out.length + 258 * (q - p) := by
  intro r
  induction r with
  | zero => intro p out q out2 h; cases h
  | succ r ih =>
    intro p out q out2 h hol
    rw [symsF] at h
    rcases hx : symM b most ll ld p out with ke | ⟨q1, o1, last⟩
    · rw [hx] at h; cases h
    · rw [hx] at h
      obtain ⟨g1, g2, g3, g4⟩ := symM_ok hx hd hol
      cases last
      · obtain ⟨k1, k2, k3, k4⟩ := ih q1 o1 q out2 h g3
        omega
      · injection h with h
        injection h with h1 h2
        subst h1 h2
        omega
theorem symsM_ok {p q : Nat} {out out2 : List UInt8} (hd : ld.length ≤ 30) (h : symsM b most ll ld p out = .ok (q, out2)) (hol : out.length ≤ most) : p < q ∧ q ≤ 8 * b.length ∧ out2.length ≤ most ∧ out2.length ≤ out.length + 258 * (q - p) := symsF_ok hd _ _ _ _ _ h hol
theorem storedM_ok {p q : Nat} {out out2 : List UInt8} (h : storedM b most p out = .ok (q, out2)) (hol : out.length ≤ most) : p < q ∧ q ≤ 8 * b.length ∧ out2.length ≤ most ∧ out2.length ≤ out.length + 258 * (q - p) := by
  unfold storedM at h
  split at h
  · cases h
  · rename_i x q1 hx
    have g1 := takeM_ok hx
    split at h
    · cases h
    · rename_i y q2 hy
      have g2 := takeM_ok hy
      split at h
      · cases h
      · split at h
        · cases h
        · split at h
          · cases h
          · injection h with h
            injection h with h1 h2
            subst h1 h2
            rw [List.length_append, List.length_take, List.length_drop]
            omega
end
end Go.Proofs.Ythbdhpciibjnmaa
