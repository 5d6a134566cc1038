/- Plain mathematics: what a stream says hangs on the bits that are used alone; where they end too early, the fault is that they end. No program, no memory. -/
import Derived.Test.YtpemgjnoinnlnaaIs
namespace Go.Proofs.Ytpemgjnoinnlnaa

/-- The same m bytes at the beginning. -/
structure Agree (b b' : List UInt8) (m : Nat) : Prop where
  same : b.take m = b'.take m
  left : m ≤ b.length
  right : m ≤ b'.length
theorem Agree.byte {b b' : List UInt8} {m : Nat} (A : Agree b b' m) (i : Nat) (h : i < m) : b[i]? = b'[i]? := by
  have h1 : (b.take m)[i]? = (b'.take m)[i]? := by rw [A.same]
  rw [List.getElem?_take_of_lt h, List.getElem?_take_of_lt h] at h1
  exact h1
theorem Agree.bit {b b' : List UInt8} {m : Nat} (A : Agree b b' m) (i : Nat) (h : i < 8 * m) : bitAt b false i = bitAt b' false i := by
  unfold bitAt
  rw [A.byte (i / 8) (by omega)]
theorem numLo_same {f g : Nat → Bool} : ∀ n, (∀ i, i < n → f i = g i) → numLo f n = numLo g n
  | 0, _ => rfl
  | n + 1, h => by rw [numLo, numLo, numLo_same n (fun i hi => h i (by omega)), h n (by omega)]
/-- What the other bytes say: the same, as far as they reach; else that they end. -/
def Two {α : Type} (b' : List UInt8) (m : Nat) (x' : Except Nat α) (v : α) (q : Nat) : Prop := (q ≤ 8 * m → x' = .ok v) ∧ (8 * m < q → b'.length = m → x' = .error 5)
section
variable {b b' : List UInt8} {m : Nat} {most : Nat} {ll ld lc : List Int}
theorem takeM_loc (A : Agree b b' m) {p n v q : Nat} (h : takeM b p n = .ok (v, q)) : Two b' m (takeM b' p n) (v, q) q := by
  have hr := A.right
  unfold takeM at *
  split at h
  · injection h with h
    injection h with h1 h2
    subst h1 h2
    refine ⟨fun hq => ?_, fun hq hE => ?_⟩
    · rw [if_pos (by omega)]
      unfold numAt num
      simp only [Bool.false_eq_true, if_false]
      rw [numLo_same n (fun i hi => A.bit (p + i) (by omega))]
    · rw [if_neg (by omega)]
  · cases h
theorem nextFrom_more (l : List Int) (f : Nat → Bool) (av : Nat) : ∀ r n v u s, nextFrom l f av n v r = (u, s, 0) → n < u := by
  intro r
  induction r with
  | zero =>
    intro n v u s h
    rw [nextFrom] at h
    injection h with _ h
    injection h with _ h
    cases h
  | succ r ih =>
    intro n v u s h
    rw [nextFrom] at h
    split at h
    · injection h with _ h
      injection h with _ h
      cases h
    · split at h
      · injection h with h1 h2
        omega
      · split at h
        · have := ih _ _ _ _ h
          omega
        · injection h with _ h
          injection h with _ h
          cases h
theorem nextFrom_loc (l : List Int) (f f' : Nat → Bool) (av av' : Nat) : ∀ r n v u s, nextFrom l f av n v r = (u, s, 0) → n ≤ av' → (u ≤ av' → (∀ i, i < u → f i = f' i) → nextFrom l f' av' n v r = (u, s, 0)) ∧ (av' < u → (∀ i, i < av' → f i = f' i) → nextFrom l f' av' n v r = (av', 0, 5)) := by
  intro r
  induction r with
  | zero =>
    intro n v u s h
    rw [nextFrom] at h
    injection h with _ h
    injection h with _ h
    cases h
  | succ r ih =>
    intro n v u s h hn
    have hnu := nextFrom_more l f av _ _ _ _ _ h
    rw [nextFrom] at h
    split at h
    · injection h with _ h
      injection h with _ h
      cases h
    · rename_i hav
      split at h
      · rename_i hhit
        injection h with h1 h2
        subst h1
        refine ⟨fun hu hf => ?_, fun hu hf => ?_⟩
        · rw [nextFrom, if_neg (by omega), ← hf n (by omega), if_pos hhit, h2]
        · rw [show av' = n by omega, nextFrom, if_pos (Nat.le_refl n)]
      · rename_i hhit
        split at h
        · rename_i hmore
          by_cases hna : av' = n
          · subst hna
            exact ⟨fun hu => by omega, fun _ _ => by rw [nextFrom, if_pos (Nat.le_refl _)]⟩
          · obtain ⟨k2, k3⟩ := ih (n + 1) _ u s h (by omega)
            refine ⟨fun hu hf => ?_, fun hu hf => ?_⟩
            · rw [nextFrom, if_neg (by omega), ← hf n (by omega), if_neg hhit, if_pos hmore]
              exact k2 hu hf
            · rw [nextFrom, if_neg (by omega), ← hf n (by omega), if_neg hhit, if_pos hmore]
              exact k3 hu hf
        · injection h with _ h
          injection h with _ h
          cases h
theorem nextOf_loc (l : List Int) (f f' : Nat → Bool) (av av' u s : Nat) (h : nextOf l f av = (u, s, 0)) : (u ≤ av' → (∀ i, i < u → f i = f' i) → nextOf l f' av' = (u, s, 0)) ∧ (av' < u → (∀ i, i < av' → f i = f' i) → nextOf l f' av' = (av', 0, 5)) := by
  unfold nextOf at *
  split at h
  · rename_i ha
    simp only [ha, if_true]
    exact nextFrom_loc l f f' av av' 16 0 0 u s h (Nat.zero_le _)
  · injection h with _ h
    injection h with _ h
    cases h
theorem nextM_loc (A : Agree b b' m) {l : List Int} {p v q : Nat} (h : nextM b l p = .ok (v, q)) : Two b' m (nextM b' l p) (v, q) q := by
  have hr := A.right
  have hpq := (nextM_ok h).2.1
  unfold nextM at h
  obtain ⟨X, HX⟩ : ∃ X, nextOf l (fun i => bitAt b false (p + i)) (8 * b.length - p) = X := ⟨_, rfl⟩
  rw [HX] at h
  obtain ⟨u, s, er⟩ := X
  dsimp only at h
  split at h
  · rename_i h0
    subst h0
    injection h with h
    injection h with h1 h2
    subst h1 h2
    obtain ⟨k1, k2⟩ := nextOf_loc l _ (fun i => bitAt b' false (p + i)) _ (8 * b'.length - p) u s HX
    refine ⟨fun hq => ?_, fun hq hE => ?_⟩
    · unfold nextM
      rw [k1 (by omega) (fun i hi => A.bit (p + i) (by omega))]
      rfl
    · unfold nextM
      rw [k2 (by omega) (fun i hi => A.bit (p + i) (by omega))]
      rfl
  · cases h
theorem steppedM_loc (A : Agree b b' m) {k g p v q : Nat} (h : steppedM b k g p = .ok (v, q)) (hp : p ≤ 8 * m) : Two b' m (steppedM b' k g p) (v, q) q := by
  unfold steppedM at *
  split at h
  · rename_i hk
    rw [if_pos hk]
    injection h with h
    injection h with h1 h2
    subst h1 h2
    exact ⟨fun _ => rfl, fun hq => by omega⟩
  · rename_i hk
    rw [if_neg hk]
    split at h
    · cases h
    · rename_i x q1 hx
      injection h with h
      injection h with h1 h2
      subst h1 h2
      obtain ⟨k1, k2⟩ := takeM_loc A hx
      exact ⟨fun hq => by rw [k1 hq], fun hq hE => by rw [k2 hq hE]⟩
theorem lengthM_loc (A : Agree b b' m) {v p k q : Nat} (h : lengthM b v p = .ok (k, q)) (hp : p ≤ 8 * m) : Two b' m (lengthM b' v p) (k, q) q := by
  unfold lengthM at *
  split at h
  · cases h
  · rename_i h0
    rw [if_neg h0]
    split at h
    · rename_i h1
      rw [if_pos h1]
      injection h with h
      injection h with h2 h3
      subst h2 h3
      exact ⟨fun _ => rfl, fun hq => by omega⟩
    · rename_i h1
      rw [if_neg h1]
      split at h
      · cases h
      · rename_i x q1 hx
        injection h with h
        injection h with h2 h3
        subst h2 h3
        obtain ⟨k1, k2⟩ := steppedM_loc A hx hp
        exact ⟨fun hq => by rw [k1 hq], fun hq hE => by rw [k2 hq hE]⟩
theorem steppedM_on {k g p v q : Nat} (h : steppedM b k g p = .ok (v, q)) : p ≤ q := by
  unfold steppedM at h
  split at h
  · injection h with h
    injection h with _ h
    omega
  · split at h
    · cases h
    · rename_i hx
      injection h with h
      injection h with _ h
      have := takeM_ok hx
      omega
theorem lengthM_on {v p k q : Nat} (h : lengthM b v p = .ok (k, q)) : p ≤ q := by
  unfold lengthM at h
  split at h
  · cases h
  · split at h
    · injection h with h
      injection h with _ h
      omega
    · split at h
      · cases h
      · rename_i hx
        injection h with h
        injection h with _ h
        have := steppedM_on hx
        omega
theorem distM_on {l : List Int} {p d q : Nat} (h : distM b l p = .ok (d, q)) : p < q := by
  unfold distM at h
  split at h
  · cases h
  · rename_i hx
    have h1 := nextM_ok hx
    split at h
    · cases h
    · rename_i hy
      injection h with h
      injection h with _ h
      have := steppedM_on hy
      omega
theorem distM_loc (A : Agree b b' m) {l : List Int} {p d q : Nat} (h : distM b l p = .ok (d, q)) : Two b' m (distM b' l p) (d, q) q := by
  unfold distM at *
  split at h
  · cases h
  · rename_i x q1 hx
    obtain ⟨k1, k2⟩ := nextM_loc A hx
    split at h
    · cases h
    · rename_i y q2 hy
      have hyo := steppedM_on hy
      injection h with h
      injection h with h2 h3
      subst h2 h3
      refine ⟨fun hq => ?_, fun hq hE => ?_⟩
      · rw [k1 (by omega)]
        dsimp only
        rw [(steppedM_loc A hy (by omega)).1 hq]
      · by_cases h1 : q1 ≤ 8 * m
        · rw [k1 h1]
          dsimp only
          rw [(steppedM_loc A hy h1).2 hq hE]
        · rw [k2 (by omega) hE]
theorem symM_loc (A : Agree b b' m) {p q : Nat} {out out2 : List UInt8} {last : Bool} (h : symM b most ll ld p out = .ok (q, out2, last)) : Two b' m (symM b' most ll ld p out) (q, out2, last) q := by
  unfold symM at *
  split at h
  · cases h
  · rename_i v q1 hx
    obtain ⟨k1, k2⟩ := nextM_loc A hx
    split at h
    · rename_i hv
      split at h
      · cases h
      · rename_i hr
        injection h with h
        injection h with h1 h2
        subst h1
        refine ⟨fun hq => ?_, fun hq hE => ?_⟩
        · rw [k1 hq]
          dsimp only
          rw [if_pos hv, if_neg hr, h2]
        · rw [k2 hq hE]
    · rename_i hv
      split at h
      · rename_i hv2
        injection h with h
        injection h with h1 h2
        subst h1
        refine ⟨fun hq => ?_, fun hq hE => ?_⟩
        · rw [k1 hq]
          dsimp only
          rw [if_neg hv, if_pos hv2, h2]
        · rw [k2 hq hE]
      · rename_i hv2
        split at h
        · cases h
        · rename_i n q2 hy
          have hyo := lengthM_on hy
          split at h
          · cases h
          · rename_i far q3 hz
            have hzo := distM_on hz
            split at h
            · cases h
            · rename_i o2 ho
              injection h with h
              injection h with h1 h2
              subst h1
              refine ⟨fun hq => ?_, fun hq hE => ?_⟩
              · rw [k1 (by omega)]
                dsimp only
                rw [if_neg hv, if_neg hv2, (lengthM_loc A hy (by omega)).1 (by omega)]
                dsimp only
                rw [(distM_loc A hz).1 hq]
                dsimp only
                rw [ho]
                dsimp only
                rw [h2]
              · by_cases c1 : q1 ≤ 8 * m
                · rw [k1 c1]
                  dsimp only
                  rw [if_neg hv, if_neg hv2]
                  by_cases c2 : q2 ≤ 8 * m
                  · rw [(lengthM_loc A hy c1).1 c2]
                    dsimp only
                    rw [(distM_loc A hz).2 hq hE]
                  · rw [(lengthM_loc A hy c1).2 (by omega) hE]
                · rw [k2 (by omega) hE]
theorem symM_on {p q : Nat} {out out2 : List UInt8} {last : Bool} (h : symM b most ll ld p out = .ok (q, out2, last)) : p < q := by
  unfold symM at h
  split at h
  · cases h
  · rename_i v q1 hx
    have h1 := nextM_ok hx
    split at h
    · split at h
      · cases h
      · injection h with h
        injection h with h2 h3
        omega
    · split at h
      · injection h with h
        injection h with h2 h3
        omega
      · split at h
        · cases h
        · rename_i n q2 hy
          have hyo := lengthM_on hy
          split at h
          · cases h
          · rename_i far q3 hz
            have hzo := distM_on hz
            split at h
            · cases h
            · injection h with h
              injection h with h2 h3
              omega
theorem symsF_on : ∀ r p out q out2, symsF b most ll ld r p out = .ok (q, out2) → p < q := by
  intro r
  induction r with
  | zero => intro p out q out2 h; cases h
  | succ r ih =>
    intro p out q out2 h
    rw [symsF] at h
    rcases hx : symM b most ll ld p out with ke | ⟨q1, o1, last⟩
    · rw [hx] at h; cases h
    · rw [hx] at h
      have := symM_on hx
      cases last
      · have := ih _ _ _ _ h
        omega
      · injection h with h
        injection h with h1 h2
        omega
theorem symsF_loc (A : Agree b b' m) : ∀ r p out q out2, symsF b most ll ld r p out = .ok (q, out2) → p ≤ 8 * m → ∀ r', 8 * b'.length + 1 - p ≤ r' → Two b' m (symsF b' most ll ld r' p out) (q, out2) q := by
  have hr := A.right
  intro r
  induction r with
  | zero => intro p out q out2 h; cases h
  | succ r ih =>
    intro p out q out2 h hp r' hr'
    obtain ⟨s, rfl⟩ : ∃ s, r' = s + 1 := ⟨r' - 1, by omega⟩
    rw [symsF] at h
    rw [symsF]
    rcases hx : symM b most ll ld p out with ke | ⟨q1, o1, last⟩
    · rw [hx] at h; cases h
    · rw [hx] at h
      have hon := symM_on hx
      obtain ⟨k1, k2⟩ := symM_loc A hx
      cases last
      · have h2 := symsF_on _ _ _ _ _ h
        by_cases c1 : q1 ≤ 8 * m
        · rw [k1 c1]
          exact ih q1 o1 q out2 h c1 s (by omega)
        · exact ⟨fun hq => by omega, fun _ hE => by rw [k2 (by omega) hE]⟩
      · injection h with h
        injection h with h1 h2
        subst h1 h2
        exact ⟨fun hq => by rw [k1 hq], fun hq hE => by rw [k2 hq hE]⟩
theorem symsM_loc (A : Agree b b' m) {p q : Nat} {out out2 : List UInt8} (h : symsM b most ll ld p out = .ok (q, out2)) (hp : p ≤ 8 * m) : Two b' m (symsM b' most ll ld p out) (q, out2) q := symsF_loc A _ _ _ _ _ h hp _ (Nat.le_refl _)
theorem Agree.piece (A : Agree b b' m) (k n : Nat) (h : k + n ≤ m) : (b.drop k).take n = (b'.drop k).take n := by
  have hl := A.left
  have hr := A.right
  apply List.ext_getElem?
  intro i
  by_cases hi : i < n
  · rw [List.getElem?_take_of_lt hi, List.getElem?_take_of_lt hi, List.getElem?_drop, List.getElem?_drop, A.byte (k + i) (by omega)]
  · rw [List.getElem?_eq_none (by rw [List.length_take]; omega), List.getElem?_eq_none (by rw [List.length_take]; omega)]
theorem storedM_loc (A : Agree b b' m) {p q : Nat} {out out2 : List UInt8} (h : storedM b most p out = .ok (q, out2)) : Two b' m (storedM b' most p out) (q, out2) q := by
  have hr := A.right
  unfold storedM at *
  split at h
  · cases h
  · rename_i x q1 hx
    obtain ⟨k1, k2⟩ := takeM_loc A hx
    split at h
    · cases h
    · rename_i y q2 hy
      obtain ⟨k3, k4⟩ := takeM_loc A hy
      have g1 := takeM_ok hx
      have g2 := takeM_ok hy
      split at h
      · cases h
      · rename_i c1
        split at h
        · cases h
        · rename_i c2
          split at h
          · cases h
          · rename_i c3
            injection h with h
            injection h with h1 h2
            subst h1 h2
            refine ⟨fun hq => ?_, fun hq hE => ?_⟩
            · rw [k1 (by omega)]
              dsimp only
              rw [k3 (by omega)]
              dsimp only
              rw [if_neg c1, if_neg c2, if_neg (by omega), A.piece _ _ (by omega)]
            · by_cases d1 : q1 ≤ 8 * m
              · rw [k1 d1]
                dsimp only
                by_cases d2 : q2 ≤ 8 * m
                · rw [k3 d2]
                  dsimp only
                  rw [if_neg c1, if_neg c2, if_pos (by omega)]
                · rw [k4 (by omega) hE]
              · rw [k2 (by omega) hE]
theorem runM_loc (A : Agree b b' m) {v p q t : Nat} {row : List Int} {z : Int} (h : runM b v row p = .ok ((z, t), q)) (hp : p ≤ 8 * m) : Two b' m (runM b' v row p) ((z, t), q) q := by
  unfold runM at *
  split at h
  · rename_i c1
    rw [if_pos c1]
    split at h
    · cases h
    · rename_i x hrow
      split at h
      · cases h
      · rename_i y q1 hx
        obtain ⟨k1, k2⟩ := takeM_loc A hx
        injection h with h
        injection h with h1 h2
        injection h1 with h3 h4
        subst h2 h3 h4
        exact ⟨fun hq => by rw [k1 hq], fun hq hE => by rw [k2 hq hE]⟩
  · rename_i c1
    rw [if_neg c1]
    split at h
    · rename_i c2
      rw [if_pos c2]
      split at h
      · cases h
      · rename_i y q1 hx
        obtain ⟨k1, k2⟩ := takeM_loc A hx
        injection h with h
        injection h with h1 h2
        injection h1 with h3 h4
        subst h2 h3 h4
        exact ⟨fun hq => by rw [k1 hq], fun hq hE => by rw [k2 hq hE]⟩
    · rename_i c2
      rw [if_neg c2]
      split at h
      · rename_i c3
        rw [if_pos c3]
        split at h
        · cases h
        · rename_i y q1 hx
          obtain ⟨k1, k2⟩ := takeM_loc A hx
          injection h with h
          injection h with h1 h2
          injection h1 with h3 h4
          subst h2 h3 h4
          exact ⟨fun hq => by rw [k1 hq], fun hq hE => by rw [k2 hq hE]⟩
      · rename_i c3
        rw [if_neg c3]
        injection h with h
        injection h with h1 h2
        injection h1 with h3 h4
        subst h2 h3 h4
        exact ⟨fun _ => rfl, fun hq => by omega⟩
theorem runM_on {v p q t : Nat} {row : List Int} {z : Int} (h : runM b v row p = .ok ((z, t), q)) : p ≤ q := by
  unfold runM at h
  split at h
  · split at h
    · cases h
    · split at h
      · cases h
      · rename_i hx
        injection h with h
        injection h with h1 h2
        have := takeM_ok hx
        omega
  · split at h
    · split at h
      · cases h
      · rename_i hx
        injection h with h
        injection h with h1 h2
        have := takeM_ok hx
        omega
    · split at h
      · split at h
        · cases h
        · rename_i hx
          injection h with h
          injection h with h1 h2
          have := takeM_ok hx
          omega
      · injection h with h
        injection h with h1 h2
        omega
theorem rowF_on {n : Nat} : ∀ r p row q l2, rowF b lc n r p row = .ok (q, l2) → p ≤ q := by
  intro r
  induction r with
  | zero => intro p row q l2 h; cases h
  | succ r ih =>
    intro p row q l2 h
    rw [rowF] at h
    split at h
    · injection h with h
      injection h with h1 h2
      omega
    · split at h
      · cases h
      · rename_i v q1 hx
        have h1 := nextM_ok hx
        split at h
        · cases h
        · rename_i x k q2 hy
          have h2 := runM_on hy
          split at h
          · cases h
          · have := ih _ _ _ _ h
            omega
theorem rowF_loc (A : Agree b b' m) {n : Nat} : ∀ r p row q l2, rowF b lc n r p row = .ok (q, l2) → p ≤ 8 * m → ∀ r', 8 * b'.length + 1 - p ≤ r' → Two b' m (rowF b' lc n r' p row) (q, l2) q := by
  have hr := A.right
  intro r
  induction r with
  | zero => intro p row q l2 h; cases h
  | succ r ih =>
    intro p row q l2 h hp r' hr'
    obtain ⟨s, rfl⟩ : ∃ s, r' = s + 1 := ⟨r' - 1, by omega⟩
    rw [rowF] at h
    rw [rowF]
    split at h
    · rename_i c1
      rw [if_pos c1]
      injection h with h
      injection h with h1 h2
      subst h1 h2
      exact ⟨fun _ => rfl, fun hq => by omega⟩
    · rename_i c1
      rw [if_neg c1]
      split at h
      · cases h
      · rename_i v q1 hx
        have g1 := nextM_ok hx
        obtain ⟨k1, k2⟩ := nextM_loc A hx
        split at h
        · cases h
        · rename_i x k q2 hy
          have g2 := runM_on hy
          split at h
          · cases h
          · rename_i c2
            have g3 := rowF_on _ _ _ _ _ h
            by_cases d1 : q1 ≤ 8 * m
            · rw [k1 d1]
              dsimp only
              obtain ⟨k3, k4⟩ := runM_loc A hy d1
              by_cases d2 : q2 ≤ 8 * m
              · rw [k3 d2]
                dsimp only
                rw [if_neg c2]
                exact ih q2 _ q l2 h d2 s (by omega)
              · exact ⟨fun hq => by omega, fun _ hE => by rw [k4 (by omega) hE]⟩
            · exact ⟨fun hq => by omega, fun _ hE => by rw [k2 (by omega) hE]⟩
theorem rowM_loc (A : Agree b b' m) {n p q : Nat} {row l2 : List Int} (h : rowM b lc n p row = .ok (q, l2)) (hp : p ≤ 8 * m) : Two b' m (rowM b' lc n p row) (q, l2) q := rowF_loc A _ _ _ _ _ h hp _ (Nat.le_refl _)
theorem lensF_on : ∀ r i p (l : List Int) q l2, lensF b r i p l = .ok (q, l2) → p ≤ q := by
  intro r
  induction r with
  | zero =>
    intro i p l q l2 h
    rw [lensF] at h
    injection h with h
    injection h with h1 h2
    omega
  | succ r ih =>
    intro i p l q l2 h
    rw [lensF] at h
    split at h
    · cases h
    · rename_i x q1 hx
      have := takeM_ok hx
      have := ih _ _ _ _ _ h
      omega
theorem lensF_loc (A : Agree b b' m) : ∀ r i p (l : List Int) q l2, lensF b r i p l = .ok (q, l2) → p ≤ 8 * m → Two b' m (lensF b' r i p l) (q, l2) q := by
  intro r
  induction r with
  | zero =>
    intro i p l q l2 h hp
    rw [lensF] at h
    injection h with h
    injection h with h1 h2
    subst h1 h2
    exact ⟨fun _ => rfl, fun hq => by omega⟩
  | succ r ih =>
    intro i p l q l2 h hp
    rw [lensF] at h
    rw [lensF]
    split at h
    · cases h
    · rename_i x q1 hx
      obtain ⟨k1, k2⟩ := takeM_loc A hx
      have g := lensF_on _ _ _ _ _ _ h
      by_cases d1 : q1 ≤ 8 * m
      · rw [k1 d1]
        exact ih _ _ _ _ _ h d1
      · exact ⟨fun hq => by omega, fun _ hE => by rw [k2 (by omega) hE]⟩
theorem lensM_loc (A : Agree b b' m) {n p q : Nat} {l : List Int} (h : lensM b n p = .ok (q, l)) (hp : p ≤ 8 * m) : p ≤ q ∧ Two b' m (lensM b' n p) (q, l) q := by
  unfold lensM at *
  split at h
  · cases h
  · rename_i q1 l1 hx
    have g := lensF_on _ _ _ _ _ _ hx
    obtain ⟨k1, k2⟩ := lensF_loc A _ _ _ _ _ _ hx hp
    split at h
    · rename_i c1
      injection h with h
      injection h with h1 h2
      subst h1 h2
      refine ⟨g, fun hq => ?_, fun hq hE => ?_⟩
      · rw [k1 hq]
        dsimp only
        rw [if_pos c1]
      · rw [k2 hq hE]
    · cases h
theorem lensF_leave {n p q : Nat} {l : List Int} (h : lensM b n p = .ok (q, l)) : p ≤ q := by
  unfold lensM at h
  split at h
  · cases h
  · rename_i q1 l1 hx
    have g := lensF_on _ _ _ _ _ _ hx
    split at h
    · injection h with h
      injection h with h1 h2
      omega
    · cases h
theorem toldM_loc (A : Agree b b' m) {p q : Nat} {ll ld : List Int} (h : toldM b p = .ok (q, ll, ld)) : Two b' m (toldM b' p) (q, ll, ld) q := by
  unfold toldM at *
  split at h
  · cases h
  · rename_i hl p1 h1
    obtain ⟨a1, b1⟩ := takeM_loc A h1
    have g1 := takeM_ok h1
    split at h
    · cases h
    · rename_i hd p2 h2
      obtain ⟨a2, b2⟩ := takeM_loc A h2
      have g2 := takeM_ok h2
      split at h
      · cases h
      · rename_i hc p3 h3
        obtain ⟨a3, b3⟩ := takeM_loc A h3
        have g3 := takeM_ok h3
        split at h
        · cases h
        · rename_i c1
          split at h
          · cases h
          · rename_i p4 lc h4
            split at h
            · cases h
            · rename_i p5 row h5
              have g5 := rowF_on _ _ _ _ _ h5
              split at h
              · cases h
              · rename_i c2
                split at h
                · rename_i c3
                  split at h
                  · rename_i c4
                    injection h with h
                    injection h with e1 e2
                    subst e1
                    by_cases d1 : p1 ≤ 8 * m
                    · rw [a1 d1]
                      dsimp only
                      by_cases d2 : p2 ≤ 8 * m
                      · rw [a2 d2]
                        dsimp only
                        by_cases d3 : p3 ≤ 8 * m
                        · rw [a3 d3]
                          dsimp only
                          rw [if_neg c1]
                          obtain ⟨g4, a4, b4⟩ := lensM_loc A h4 d3
                          by_cases d4 : p4 ≤ 8 * m
                          · rw [a4 d4]
                            dsimp only
                            obtain ⟨a5, b5⟩ := rowM_loc A h5 d4
                            refine ⟨fun hq => ?_, fun hq hE => ?_⟩
                            · rw [a5 hq]
                              dsimp only
                              rw [if_neg c2, if_pos c3, if_pos c4, e2]
                            · rw [b5 hq hE]
                          · exact ⟨fun hq => by omega, fun _ hE => by rw [b4 (by omega) hE]⟩
                        · have g4 := lensF_leave h4
                          exact ⟨fun hq => by omega, fun _ hE => by rw [b3 (by omega) hE]⟩
                      · have g4 := lensF_leave h4
                        exact ⟨fun hq => by omega, fun _ hE => by rw [b2 (by omega) hE]⟩
                    · have g4 := lensF_leave h4
                      exact ⟨fun hq => by omega, fun _ hE => by rw [b1 (by omega) hE]⟩
                  · cases h
                · cases h
theorem blockM_loc (A : Agree b b' m) {p q : Nat} {out out2 : List UInt8} {last : Bool} (h : blockM b most p out = .ok (q, out2, last)) (hol : out.length ≤ most) : Two b' m (blockM b' most p out) (q, out2, last) q := by
  have hok := blockM_ok h hol
  unfold blockM at *
  split at h
  · cases h
  · rename_i l p1 h1
    obtain ⟨a1, b1⟩ := takeM_loc A h1
    have g1 := takeM_ok h1
    split at h
    · cases h
    · rename_i kind p2 h2
      obtain ⟨a2, b2⟩ := takeM_loc A h2
      have g2 := takeM_ok h2
      split at h
      · cases h
      · rename_i q3 o3 h3
        injection h with h
        injection h with e1 e2
        subst e1
        have hp2 : p2 ≤ q3 := by
          split at h3
          · have := storedM_ok h3 hol
            omega
          · split at h3
            · exact Nat.le_of_lt (symsF_on _ _ _ _ _ h3)
            · split at h3
              · split at h3
                · cases h3
                · rename_i p4 ll ld h4
                  have g4 := (toldM_ok h4).2.1
                  have g5 := symsF_on _ _ _ _ _ h3
                  omega
              · cases h3
        by_cases d1 : p1 ≤ 8 * m
        · rw [a1 d1]
          dsimp only
          by_cases d2 : p2 ≤ 8 * m
          · rw [a2 d2]
            dsimp only
            split at h3
            · rename_i c0
              rw [if_pos c0]
              obtain ⟨a3, b3⟩ := storedM_loc A h3
              refine ⟨fun hq => ?_, fun hq hE => ?_⟩
              · rw [a3 hq]
                dsimp only
                rw [e2]
              · rw [b3 hq hE]
            · rename_i c0
              rw [if_neg c0]
              split at h3
              · rename_i c1
                rw [if_pos c1]
                obtain ⟨a3, b3⟩ := symsM_loc A h3 d2
                refine ⟨fun hq => ?_, fun hq hE => ?_⟩
                · rw [a3 hq]
                  dsimp only
                  rw [e2]
                · rw [b3 hq hE]
              · rename_i c1
                rw [if_neg c1]
                split at h3
                · rename_i c2
                  rw [if_pos c2]
                  split at h3
                  · cases h3
                  · rename_i p4 ll ld h4
                    have g4 := (toldM_ok h4).2.1
                    have g5 := symsF_on _ _ _ _ _ h3
                    obtain ⟨a4, b4⟩ := toldM_loc A h4
                    by_cases d4 : p4 ≤ 8 * m
                    · rw [a4 d4]
                      dsimp only
                      obtain ⟨a3, b3⟩ := symsM_loc A h3 d4
                      refine ⟨fun hq => ?_, fun hq hE => ?_⟩
                      · rw [a3 hq]
                        dsimp only
                        rw [e2]
                      · rw [b3 hq hE]
                    · exact ⟨fun hq => by omega, fun _ hE => by rw [b4 (by omega) hE]⟩
                · cases h3
          · exact ⟨fun hq => by omega, fun _ hE => by rw [b2 (by omega) hE]⟩
        · exact ⟨fun hq => by omega, fun _ hE => by rw [b1 (by omega) hE]⟩
theorem rawF_loc (A : Agree b b' m) : ∀ r p out q out2, rawF b most r p out = .ok (q, out2) → p ≤ 8 * m → out.length ≤ most → ∀ r', 8 * b'.length + 1 - p ≤ r' → Two b' m (rawF b' most r' p out) (q, out2) q := by
  have hr := A.right
  intro r
  induction r with
  | zero => intro p out q out2 h; cases h
  | succ r ih =>
    intro p out q out2 h hp hol r' hr'
    obtain ⟨s, rfl⟩ : ∃ s, r' = s + 1 := ⟨r' - 1, by omega⟩
    rw [rawF] at h
    rw [rawF]
    rcases hx : blockM b most p out with ke | ⟨q1, o1, last⟩
    · rw [hx] at h; cases h
    · rw [hx] at h
      obtain ⟨g1, g2, g3, g4⟩ := blockM_ok hx hol
      obtain ⟨k1, k2⟩ := blockM_loc A hx hol
      cases last
      · have h2 := (rawF_used _ _ _ g3 h).1
        by_cases c1 : q1 ≤ 8 * m
        · rw [k1 c1]
          exact ih q1 o1 q out2 h c1 g3 s (by omega)
        · exact ⟨fun hq => by omega, fun _ hE => by rw [k2 (by omega) hE]⟩
      · injection h with h
        injection h with h1 h2
        subst h1 h2
        exact ⟨fun hq => by rw [k1 hq], fun hq hE => by rw [k2 hq hE]⟩
/-- A right stream hangs on the bytes that were begun alone; of fewer of them it says that they end. -/
theorem rawM_loc (A : Agree b b' m) {n : Nat} {out : List UInt8} (h : rawM b most = .ok (out, n)) : (n ≤ m → rawM b' most = .ok (out, n)) ∧ (m < n → b'.length = m → rawM b' most = .error 5) := by
  unfold rawM at h
  rcases hx : rawF b most (8 * b.length + 1) 0 [] with ke | ⟨q, o⟩
  · rw [hx] at h; cases h
  · rw [hx] at h
    dsimp only at h
    injection h with h
    injection h with h1 h2
    subst h1 h2
    obtain ⟨k1, k2⟩ := rawF_loc A _ _ _ _ _ hx (Nat.zero_le _) (Nat.zero_le _) (8 * b'.length + 1) (by omega)
    refine ⟨fun hq => ?_, fun hq hE => ?_⟩
    · unfold rawM
      rw [k1 (by omega)]
    · unfold rawM
      rw [k2 (by omega) hE]
end
end Go.Proofs.Ytpemgjnoinnlnaa
