/- Plain mathematics: a right stream stays right with any room for what it writes. No program, no memory. -/
import Derived.Test.YtpemgjnoinnlnaaIs
namespace Go.Proofs.Ytpemgjnoinnlnaa

section
variable {b : List UInt8} {most most' : Nat} {ll ld : List Int}
theorem repeatM_room {far k : Nat} {out out2 : List UInt8} (h : repeatM most k far out = .ok out2) (hm : out2.length ≤ most') : out.length ≤ out2.length ∧ repeatM most' k far out = .ok out2 := by
  have hl := (repeatM_len h).1
  unfold repeatM at *
  split at h
  · cases h
  · rename_i c1
    rw [if_neg c1]
    split at h
    · cases h
    · rw [if_neg (by omega)]
      exact ⟨by omega, h⟩
theorem symM_room {p q : Nat} {out out2 : List UInt8} {last : Bool} (h : symM b most ll ld p out = .ok (q, out2, last)) (hm : out2.length ≤ most') : out.length ≤ out2.length ∧ symM b most' ll ld p out = .ok (q, out2, last) := by
  unfold symM at *
  split at h
  · cases h
  · rename_i v q1 hx
    split at h
    · rename_i c1
      split at h
      · cases h
      · injection h with h
        injection h with h1 h2
        injection h2 with h2 h3
        subst h1 h2 h3
        rw [List.length_append] at hm
        simp at hm
        try dsimp only
        rw [if_pos c1, if_neg (by omega)]
        exact ⟨by rw [List.length_append]; omega, rfl⟩
    · rename_i c1
      try dsimp only
      rw [if_neg c1]
      split at h
      · rename_i c2
        rw [if_pos c2]
        injection h with h
        injection h with h1 h2
        injection h2 with h2 h3
        subst h1 h2 h3
        exact ⟨Nat.le_refl _, rfl⟩
      · rename_i c2
        rw [if_neg c2]
        split at h
        · cases h
        · rename_i n q2 hy
          try dsimp only
          split at h
          · cases h
          · rename_i far q3 hz
            try dsimp only
            split at h
            · cases h
            · rename_i o2 ho
              injection h with h
              injection h with h1 h2
              injection h2 with h2 h3
              subst h1 h2 h3
              obtain ⟨k1, k2⟩ := repeatM_room ho hm
              rw [k2]
              exact ⟨k1, rfl⟩
theorem symsF_room : ∀ r p out q out2, symsF b most ll ld r p out = .ok (q, out2) → out2.length ≤ most' → out.length ≤ out2.length ∧ symsF b most' ll ld r p out = .ok (q, out2) := by
  intro r
  induction r with
  | zero => intro p out q out2 h; cases h
  | succ r ih =>
    intro p out q out2 h hm
    rw [symsF] at h
    rw [symsF]
    rcases hx : symM b most ll ld p out with ke | ⟨q1, o1, last⟩
    · rw [hx] at h; cases h
    · rw [hx] at h
      cases last
      · obtain ⟨k1, k2⟩ := ih q1 o1 q out2 h hm
        obtain ⟨k3, k4⟩ := symM_room hx (Nat.le_trans k1 hm)
        rw [k4]
        exact ⟨Nat.le_trans k3 k1, k2⟩
      · injection h with h
        injection h with h1 h2
        subst h1 h2
        obtain ⟨k3, k4⟩ := symM_room hx hm
        rw [k4]
        exact ⟨k3, rfl⟩
theorem storedM_room {p q : Nat} {out out2 : List UInt8} (h : storedM b most p out = .ok (q, out2)) (hm : out2.length ≤ most') : out.length ≤ out2.length ∧ storedM b most' p out = .ok (q, out2) := by
  unfold storedM at *
  split at h
  · cases h
  · rename_i x q1 hx
    try dsimp only
    split at h
    · cases h
    · rename_i y q2 hy
      have g2 := takeM_ok hy
      try dsimp only
      split at h
      · cases h
      · rename_i c1
        rw [if_neg c1]
        split at h
        · cases h
        · rename_i c2
          split at h
          · cases h
          · rename_i c3
            injection h with h
            injection h with h1 h2
            subst h1 h2
            rw [List.length_append, List.length_take, List.length_drop] at hm
            rw [if_neg (by omega), if_neg c3]
            exact ⟨by rw [List.length_append]; omega, rfl⟩
theorem blockM_room {p q : Nat} {out out2 : List UInt8} {last : Bool} (h : blockM b most p out = .ok (q, out2, last)) (hm : out2.length ≤ most') : out.length ≤ out2.length ∧ blockM b most' p out = .ok (q, out2, last) := by
  unfold blockM at *
  split at h
  · cases h
  · rename_i l p1 h1
    split at h
    · cases h
    · rename_i kind p2 h2
      split at h
      · cases h
      · rename_i q3 o3 h3
        injection h with h
        injection h with e1 e2
        injection e2 with e2 e3
        subst e1 e2
        try dsimp only
        split at h3
        · rename_i c0
          rw [if_pos c0]
          obtain ⟨k1, k2⟩ := storedM_room h3 hm
          rw [k2, e3]
          exact ⟨k1, rfl⟩
        · rename_i c0
          rw [if_neg c0]
          split at h3
          · rename_i c1
            rw [if_pos c1]
            obtain ⟨k1, k2⟩ := symsF_room _ _ _ _ _ h3 hm
            refine ⟨k1, ?_⟩
            rw [show symsM b most' fixedL fixedD p2 out = _ from k2]
            try dsimp only
            rw [e3]
          · rename_i c1
            rw [if_neg c1]
            split at h3
            · rename_i c2
              rw [if_pos c2]
              split at h3
              · cases h3
              · rename_i p4 ll ld h4
                obtain ⟨k1, k2⟩ := symsF_room _ _ _ _ _ h3 hm
                refine ⟨k1, ?_⟩
                try dsimp only
                rw [show symsM b most' ll ld p4 out = _ from k2]
                try dsimp only
                rw [e3]
            · cases h3
theorem rawF_room : ∀ r p out q out2, rawF b most r p out = .ok (q, out2) → out2.length ≤ most' → out.length ≤ out2.length ∧ rawF b most' r p out = .ok (q, out2) := by
  intro r
  induction r with
  | zero => intro p out q out2 h; cases h
  | succ r ih =>
    intro p out q out2 h hm
    rw [rawF] at h
    rw [rawF]
    rcases hx : blockM b most p out with ke | ⟨q1, o1, last⟩
    · rw [hx] at h; cases h
    · rw [hx] at h
      cases last
      · obtain ⟨k1, k2⟩ := ih q1 o1 q out2 h hm
        obtain ⟨k3, k4⟩ := blockM_room hx (Nat.le_trans k1 hm)
        rw [k4]
        exact ⟨Nat.le_trans k3 k1, k2⟩
      · injection h with h
        injection h with h1 h2
        subst h1 h2
        obtain ⟨k3, k4⟩ := blockM_room hx hm
        rw [k4]
        exact ⟨k3, rfl⟩
theorem rawM_room {n : Nat} {out : List UInt8} (h : rawM b most = .ok (out, n)) (hm : out.length ≤ most') : rawM b most' = .ok (out, n) := by
  unfold rawM at h
  rcases hx : rawF b most (8 * b.length + 1) 0 [] with ke | ⟨q, o⟩
  · rw [hx] at h; cases h
  · rw [hx] at h
    dsimp only at h
    injection h with h
    injection h with h1 h2
    subst h1 h2
    unfold rawM
    rw [(rawF_room _ _ _ _ _ hx hm).2]
end
end Go.Proofs.Ytpemgjnoinnlnaa
