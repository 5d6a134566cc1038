/- Plain mathematics of packed coins: rows of coins and packages, the lengths that the cheapest ones make: a full code, of the least weight that the rows tell. No program, no memory. -/
import Derived.WalkKit
namespace Go.Proofs.Ythbdhpciibjnmaa

def sumTo (f : Nat → Nat) : Nat → Nat
  | 0 => 0
  | n + 1 => sumTo f n + f n
theorem sumTo_congr {f g : Nat → Nat} {n : Nat} (h : ∀ i, i < n → f i = g i) : sumTo f n = sumTo g n := by
  induction n with
  | zero => rfl
  | succ n ih => rw [sumTo, sumTo, ih (fun i hi => h i (by omega)), h n (by omega)]
theorem sumTo_zero (n : Nat) : sumTo (fun _ => 0) n = 0 := by
  induction n with
  | zero => rfl
  | succ n ih => rw [sumTo, ih]
theorem sumTo_add (f g : Nat → Nat) (n : Nat) : sumTo (fun i => f i + g i) n = sumTo f n + sumTo g n := by
  induction n with
  | zero => rfl
  | succ n ih => simp only [sumTo]; rw [ih]; omega
theorem sumTo_swap (f : Nat → Nat → Nat) (n m : Nat) : sumTo (fun i => sumTo (fun j => f i j) m) n = sumTo (fun j => sumTo (fun i => f i j) n) m := by
  induction n with
  | zero => simp only [sumTo]; rw [sumTo_zero]
  | succ n ih => simp only [sumTo]; rw [ih, ← sumTo_add]
theorem sumTo_mul (f : Nat → Nat) (c n : Nat) : sumTo (fun i => f i * c) n = sumTo f n * c := by
  induction n with
  | zero => simp [sumTo]
  | succ n ih => simp only [sumTo]; rw [ih, Nat.add_mul]
theorem sumTo_const (c n : Nat) : sumTo (fun _ => c) n = n * c := by
  induction n with
  | zero => simp [sumTo]
  | succ n ih => simp only [sumTo]; rw [ih, Nat.add_mul]; omega
/-- Only the first a of n count. -/
theorem sumTo_first (f : Nat → Nat) (a n : Nat) (h : a ≤ n) : sumTo (fun i => if i < a then f i else 0) n = sumTo f a := by
  induction n with
  | zero => obtain rfl : a = 0 := by omega
            rfl
  | succ n ih =>
    by_cases hn : a ≤ n
    · simp only [sumTo]; rw [ih hn, if_neg (by omega)]; omega
    · obtain rfl : a = n + 1 := by omega
      simp only [sumTo]
      rw [if_pos (by omega)]
      congr 1
      exact sumTo_congr fun i hi => if_pos (by omega)
theorem sumTo_le {f g : Nat → Nat} {n : Nat} (h : ∀ i, i < n → f i ≤ g i) : sumTo f n ≤ sumTo g n := by
  induction n with
  | zero => exact Nat.le_refl _
  | succ n ih => simp only [sumTo]; have := ih (fun i hi => h i (by omega)); have := h n (by omega); omega
theorem sumTo_pos {f : Nat → Nat} {n i : Nat} (hi : i < n) : f i ≤ sumTo f n := by
  induction n with
  | zero => omega
  | succ n ih =>
    simp only [sumTo]
    by_cases h : i = n
    · subst h; omega
    · have := ih (by omega); omega

def pairs : List Nat → List Nat
  | a :: b :: r => (a + b) :: pairs r
  | _ => []
theorem pairs_length : ∀ l : List Nat, (pairs l).length = l.length / 2
  | [] => rfl
  | [_] => by simp [pairs]
  | a :: b :: r => by simp only [pairs, List.length_cons]; rw [pairs_length r]; omega
theorem pairs_get : ∀ (l : List Nat) (k : Nat) (h : 2 * k + 1 < l.length), (pairs l)[k]? = some (l[2 * k] + l[2 * k + 1])
  | [], _, h => by simp at h
  | [_], k, h => by simp only [List.length_cons, List.length_nil] at h; omega
  | a :: b :: r, 0, _ => by simp [pairs]
  | a :: b :: r, k + 1, h => by
    simp only [List.length_cons] at h
    have := pairs_get r k (by omega)
    simp only [pairs, List.getElem?_cons_succ, this]
    rfl
theorem pairs_sum : ∀ (l : List Nat) (k : Nat), 2 * k ≤ l.length → ((pairs l).take k).sum = (l.take (2 * k)).sum
  | _, 0, _ => by simp
  | [], k + 1, h => by simp at h
  | [_], k + 1, h => by simp only [List.length_cons, List.length_nil] at h; omega
  | a :: b :: r, k + 1, h => by
    simp only [List.length_cons] at h
    have := pairs_sum r k (by omega)
    rw [show 2 * (k + 1) = 2 * k + 2 from by omega]
    simp only [pairs, List.take_succ_cons, List.sum_cons, this]
    omega
theorem pairs_ge : ∀ (l : List Nat) (x : Nat), (∀ y ∈ l, x ≤ y) → ∀ z ∈ pairs l, 2 * x ≤ z
  | [], _, _, z, hz => by simp [pairs] at hz
  | [_], _, _, z, hz => by simp [pairs] at hz
  | a :: b :: r, x, h, z, hz => by
    simp only [pairs, List.mem_cons] at hz
    rcases hz with rfl | hz
    · have h1 := h a (by simp); have h2 := h b (by simp); omega
    · exact pairs_ge r x (fun y hy => h y (by simp [hy])) z hz
theorem pairs_sorted : ∀ l : List Nat, l.Pairwise (· ≤ ·) → (pairs l).Pairwise (· ≤ ·)
  | [], _ => by simp [pairs]
  | [_], _ => by simp [pairs]
  | a :: b :: r, h => by
    simp only [List.pairwise_cons] at h
    simp only [pairs, List.pairwise_cons]
    refine ⟨fun z hz => ?_, pairs_sorted r h.2.2⟩
    have h1 := pairs_ge r b h.2.1 z hz
    have h2 := h.1 b (by simp)
    omega

/-- Two rising lists as one; each of the outcome tells whether it comes of the first. -/
inductive Mg : List Nat → List Nat → List (Bool × Nat) → Prop
  | nil : Mg [] [] []
  | left {x : Nat} {a b : List Nat} {o : List (Bool × Nat)} : (∀ y, b.head? = some y → x ≤ y) → Mg a b o → Mg (x :: a) b ((true, x) :: o)
  | right {y : Nat} {a b : List Nat} {o : List (Bool × Nat)} : (∀ x, a.head? = some x → y ≤ x) → Mg a b o → Mg a (y :: b) ((false, y) :: o)
def coins (o : List (Bool × Nat)) (m : Nat) : Nat := (o.take m).countP (·.1)
def wts (o : List (Bool × Nat)) : List Nat := o.map (·.2)
theorem coins_zero (o : List (Bool × Nat)) : coins o 0 = 0 := by simp [coins]
theorem coins_cons (t : Bool) (x : Nat) (o : List (Bool × Nat)) (m : Nat) : coins ((t, x) :: o) (m + 1) = coins o m + if t then 1 else 0 := by
  simp only [coins, List.take_succ_cons, List.countP_cons]
theorem coins_le (o : List (Bool × Nat)) (m : Nat) : coins o m ≤ m := by
  have h1 := List.countP_le_length (p := fun z : Bool × Nat => z.1) (l := o.take m)
  have h2 := List.length_take_le m o
  unfold coins; omega
theorem wts_length (o : List (Bool × Nat)) : (wts o).length = o.length := by simp [wts]
section
variable {a b : List Nat} {o : List (Bool × Nat)}
theorem Mg.length_ (h : Mg a b o) : o.length = a.length + b.length := by
  induction h with
  | nil => rfl
  | left _ _ ih => simp only [List.length_cons]; omega
  | right _ _ ih => simp only [List.length_cons]; omega
theorem Mg.sum_ (h : Mg a b o) : ∀ m, m ≤ o.length → coins o m ≤ a.length ∧ m - coins o m ≤ b.length ∧ ((wts o).take m).sum = (a.take (coins o m)).sum + (b.take (m - coins o m)).sum := by
  induction h with
  | nil => intro m hm; simp at hm; subst hm; simp [coins, wts]
  | @left x a b o _ hM ih =>
    intro m hm
    cases m with
    | zero => simp [coins_zero]
    | succ m =>
      simp only [List.length_cons] at hm
      obtain ⟨h1, h2, h3⟩ := ih m (by omega)
      have h4 := coins_le o m
      have e : coins ((true, x) :: o) (m + 1) = coins o m + 1 := by simp [coins_cons]
      rw [e, show m + 1 - (coins o m + 1) = m - coins o m from by omega]
      refine ⟨by simp only [List.length_cons]; omega, h2, ?_⟩
      simp only [wts, List.map_cons, List.take_succ_cons, List.sum_cons] at h3 ⊢
      omega
  | @right y a b o _ hM ih =>
    intro m hm
    cases m with
    | zero => simp [coins_zero]
    | succ m =>
      simp only [List.length_cons] at hm
      obtain ⟨h1, h2, h3⟩ := ih m (by omega)
      have h4 := coins_le o m
      have e : coins ((false, y) :: o) (m + 1) = coins o m := by simp [coins_cons]
      rw [e, show m + 1 - coins o m = (m - coins o m) + 1 from by omega]
      refine ⟨h1, by simp only [List.length_cons]; omega, ?_⟩
      simp only [wts, List.map_cons, List.take_succ_cons, List.sum_cons] at h3 ⊢
      omega
theorem Mg.mem_ (h : Mg a b o) : ∀ z ∈ wts o, z ∈ a ∨ z ∈ b := by
  induction h with
  | nil => intro z hz; simp [wts] at hz
  | left _ _ ih =>
    intro z hz
    simp only [wts, List.map_cons, List.mem_cons] at hz
    rcases hz with rfl | hz
    · exact .inl (by simp)
    · rcases ih z (by simpa [wts] using hz) with h | h
      · exact .inl (by simp [h])
      · exact .inr h
  | right _ _ ih =>
    intro z hz
    simp only [wts, List.map_cons, List.mem_cons] at hz
    rcases hz with rfl | hz
    · exact .inr (by simp)
    · rcases ih z (by simpa [wts] using hz) with h | h
      · exact .inl h
      · exact .inr (by simp [h])
theorem head_le {x : Nat} {l : List Nat} (h : ∀ y, l.head? = some y → x ≤ y) (hs : l.Pairwise (· ≤ ·)) : ∀ y ∈ l, x ≤ y := by
  cases l with
  | nil => intro y hy; simp at hy
  | cons z r =>
    have h1 := h z rfl
    intro y hy
    rw [List.pairwise_cons] at hs
    rcases List.mem_cons.mp hy with rfl | hy
    · exact h1
    · exact Nat.le_trans h1 (hs.1 y hy)
theorem Mg.sorted_ (h : Mg a b o) : a.Pairwise (· ≤ ·) → b.Pairwise (· ≤ ·) → (wts o).Pairwise (· ≤ ·) := by
  induction h with
  | nil => intro _ _; simp [wts]
  | @left x a b o hx hM ih =>
    intro ha hb
    have ha2 := List.pairwise_cons.mp ha
    simp only [wts, List.map_cons, List.pairwise_cons]
    refine ⟨fun z hz => ?_, ih ha2.2 hb⟩
    rcases hM.mem_ z (by simpa [wts] using hz) with h | h
    · exact ha2.1 z h
    · exact head_le hx hb z h
  | @right y a b o hy hM ih =>
    intro ha hb
    have hb2 := List.pairwise_cons.mp hb
    simp only [wts, List.map_cons, List.pairwise_cons]
    refine ⟨fun z hz => ?_, ih ha hb2.2⟩
    rcases hM.mem_ z (by simpa [wts] using hz) with h | h
    · exact head_le hy ha z h
    · exact hb2.1 z h
/-- The last package that was taken isn't dearer than the first coin that wasn't. -/
theorem Mg.order_ (h : Mg a b o) : a.Pairwise (· ≤ ·) → ∀ m, m ≤ o.length → ∀ x y, a[coins o m]? = some x → 0 < m - coins o m → b[m - coins o m - 1]? = some y → y ≤ x := by
  induction h with
  | nil => intro _ m hm x y hx; simp at hx
  | @left x0 a b o _ hM ih =>
    intro ha m hm x y hx hp hy
    cases m with
    | zero => simp at hp
    | succ m =>
      have e : coins ((true, x0) :: o) (m + 1) = coins o m + 1 := by simp [coins_cons]
      rw [e] at hx hp hy
      rw [show m + 1 - (coins o m + 1) = m - coins o m from by omega] at hp hy
      rw [List.getElem?_cons_succ] at hx
      exact ih (List.pairwise_cons.mp ha).2 m (by simpa using hm) x y hx hp hy
  | @right y0 a b o hy0 hM ih =>
    intro ha m hm x y hx hp hy
    cases m with
    | zero => simp at hp
    | succ m =>
      have h4 := coins_le o m
      have e : coins ((false, y0) :: o) (m + 1) = coins o m := by simp [coins_cons]
      rw [e] at hx hp hy
      rw [show m + 1 - coins o m - 1 = m - coins o m from by omega] at hy
      by_cases h0 : m - coins o m = 0
      · rw [h0] at hy
        simp only [List.getElem?_cons_zero, Option.some.injEq] at hy
        subst hy
        exact head_le hy0 ha x (List.mem_of_getElem? hx)
      · obtain ⟨q, hq⟩ : ∃ q, m - coins o m = q + 1 := ⟨m - coins o m - 1, by omega⟩
        rw [hq, List.getElem?_cons_succ] at hy
        exact ih ha m (by simpa using hm) x y hx (by omega) (by rw [hq]; simpa using hy)
/-- Where more than c coins were taken, coin c is among what was taken. -/
theorem Mg.coin_at (h : Mg a b o) : ∀ m c, c < coins o m → ∃ j x, j < m ∧ a[c]? = some x ∧ (wts o)[j]? = some x := by
  induction h with
  | nil => intro m c hc; simp [coins] at hc
  | @left x0 a b o _ hM ih =>
    intro m c hc
    cases m with
    | zero => simp [coins_zero] at hc
    | succ m =>
      have e : coins ((true, x0) :: o) (m + 1) = coins o m + 1 := by simp [coins_cons]
      rw [e] at hc
      cases c with
      | zero => exact ⟨0, x0, by omega, rfl, rfl⟩
      | succ c =>
        obtain ⟨j, x, hj, h1, h2⟩ := ih m c (by omega)
        exact ⟨j + 1, x, by omega, by simpa using h1, by simpa [wts] using h2⟩
  | @right y0 a b o _ hM ih =>
    intro m c hc
    cases m with
    | zero => simp [coins_zero] at hc
    | succ m =>
      have e : coins ((false, y0) :: o) (m + 1) = coins o m := by simp [coins_cons]
      rw [e] at hc
      obtain ⟨j, x, hj, h1, h2⟩ := ih m c hc
      exact ⟨j + 1, x, by omega, h1, by simpa [wts] using h2⟩
end

/-- Rows of coins and packages, one a level: the first of the coins alone, each other one of the coins and of the pairs of the one ahead. -/
structure Rows (own : List Nat) (r : Nat → List (Bool × Nat)) : Prop where
  base : Mg own [] (r 0)
  step : ∀ k, Mg own (pairs (wts (r k))) (r (k + 1))
section
variable {own : List Nat} {r : Nat → List (Bool × Nat)}
theorem Rows.sorted_ (h : Rows own r) (hs : own.Pairwise (· ≤ ·)) : ∀ k, (wts (r k)).Pairwise (· ≤ ·)
  | 0 => h.base.sorted_ hs (by simp)
  | k + 1 => (h.step k).sorted_ hs (pairs_sorted _ (h.sorted_ hs k))
theorem Rows.pos (h : Rows own r) (hp : ∀ x ∈ own, 0 < x) : ∀ k, ∀ z ∈ wts (r k), 0 < z
  | 0 => fun z hz => by rcases h.base.mem_ z hz with h | h
                        · exact hp z h
                        · simp at h
  | k + 1 => fun z hz => by
    rcases (h.step k).mem_ z hz with h1 | h1
    · exact hp z h1
    · have := pairs_ge (wts (r k)) 1 (fun y hy => h.pos hp k y hy) z h1; omega
theorem Rows.length0 (h : Rows own r) : (r 0).length = own.length := by rw [h.base.length_]; simp
theorem Rows.lengthS (h : Rows own r) (k : Nat) : (r (k + 1)).length = own.length + (r k).length / 2 := by rw [(h.step k).length_, pairs_length, wts_length]
theorem Rows.short (h : Rows own r) (k : Nat) : (2 * own.length - (r k).length) * 2 ^ k < own.length + 2 ^ k ∧ (r k).length ≤ 2 * own.length := by
  induction k with
  | zero => rw [h.length0]; simp; omega
  | succ k ih =>
    rw [h.lengthS, Nat.pow_succ]
    obtain ⟨h1, h2⟩ := ih
    refine ⟨?_, by omega⟩
    have e : 2 * own.length - (own.length + (r k).length / 2) = (2 * own.length - (r k).length + 1) / 2 := by omega
    rw [e]
    generalize 2 * own.length - (r k).length = d at h1
    generalize 2 ^ k = q at h1
    have h3 : (d + 1) / 2 * (q * 2) ≤ (d + 1) * q := by
      rw [Nat.mul_comm q 2, ← Nat.mul_assoc]
      exact Nat.mul_le_mul_right _ (by omega)
    rw [Nat.add_mul, Nat.one_mul] at h3
    omega
theorem Rows.enough (h : Rows own r) (k : Nat) (hn : own.length ≤ 2 ^ (k + 1)) : 2 * own.length - 2 ≤ (r k).length := by
  obtain ⟨h1, h2⟩ := h.short k
  rw [Nat.pow_succ] at hn
  have hq : 0 < 2 ^ k := Nat.two_pow_pos k
  generalize 2 ^ k = q at *
  generalize hd : 2 * own.length - (r k).length = d at *
  rcases Nat.lt_or_ge d 3 with h3 | h3
  · omega
  · have := Nat.mul_le_mul_right q h3
    omega

/-- How many are taken at a level, where m are taken at level k: pairs that are taken want two each of the level ahead. -/
def want (r : Nat → List (Bool × Nat)) (k m : Nat) : Nat → Nat
  | 0 => m
  | d + 1 => 2 * (want r k m d - coins (r (k - d)) (want r k m d))
/-- The coins that are taken at level j. -/
def took (r : Nat → List (Bool × Nat)) (k m j : Nat) : Nat := coins (r j) (want r k m (k - j))
theorem want_fits (h : Rows own r) (k m : Nat) (hm : m ≤ (r k).length) : ∀ d, d ≤ k → want r k m d ≤ (r (k - d)).length
  | 0, _ => hm
  | d + 1, hd => by
    have ih := want_fits h k m hm d (by omega)
    obtain ⟨j, hj⟩ : ∃ j, k - d = j + 1 := ⟨k - (d + 1), by omega⟩
    rw [hj] at ih
    have hs := ((h.step j).sum_ _ ih).2.1
    rw [pairs_length, wts_length] at hs
    rw [show k - (d + 1) = j from by omega]
    simp only [want]
    rw [hj]
    omega
theorem took_le (h : Rows own r) (k m : Nat) (hm : m ≤ (r k).length) (j : Nat) (hj : j ≤ k) : took r k m j ≤ own.length := by
  have hf := want_fits h k m hm (k - j) (by omega)
  rw [show k - (k - j) = j from by omega] at hf
  unfold took
  cases j with
  | zero => exact (h.base.sum_ _ hf).1
  | succ j => exact ((h.step j).sum_ _ hf).1
theorem want_succ (k m j : Nat) (hj : j < k) : want r k m (k - j) = 2 * (want r k m (k - (j + 1)) - took r k m (j + 1)) := by
  unfold took
  rw [show k - j = (k - (j + 1)) + 1 from by omega]
  simp only [want]
  rw [show k - (k - (j + 1)) = j + 1 from by omega]
/-- At no level fewer coins are taken than at the one ahead of it. -/
theorem took_mono (h : Rows own r) (hs : own.Pairwise (· ≤ ·)) (hp : ∀ x ∈ own, 0 < x) (k m : Nat) (hm : m ≤ (r k).length) (j : Nat) (hj : j < k) : took r k m j ≤ took r k m (j + 1) := by
  rcases Nat.lt_or_ge (took r k m (j + 1)) (took r k m j) with hlt | hge
  · exfalso
    have hf := want_fits h k m hm (k - (j + 1)) (by omega)
    rw [show k - (k - (j + 1)) = j + 1 from by omega] at hf
    have hf0 := want_fits h k m hm (k - j) (by omega)
    rw [show k - (k - j) = j from by omega] at hf0
    have hw := want_succ (r := r) k m j hj
    have hn := took_le h k m hm j (by omega)
    obtain ⟨c1, c2, _⟩ := (h.step j).sum_ _ hf
    generalize hW : want r k m (k - (j + 1)) = W at *
    have ec : coins (r (j + 1)) W = took r k m (j + 1) := by unfold took; rw [hW]
    rw [ec] at c1 c2
    generalize hc : took r k m (j + 1) = c at *
    have hc0 : c < coins (r j) (want r k m (k - j)) := hlt
    rw [hw] at hc0 hf0
    obtain ⟨i, x, hi, hx, hxi⟩ : ∃ i x, i < 2 * (W - c) ∧ own[c]? = some x ∧ (wts (r j))[i]? = some x := by
      cases j with
      | zero => exact h.base.coin_at _ c hc0
      | succ j => exact (h.step j).coin_at _ c hc0
    have hlen : 2 * (W - c) ≤ (wts (r j)).length := by rw [wts_length]; exact hf0
    have hsorted := h.sorted_ hs j
    obtain ⟨q, hq⟩ : ∃ q, W - c = q + 1 := ⟨W - c - 1, by omega⟩
    have hg := pairs_get (wts (r j)) q (by omega)
    have ho := (h.step j).order_ hs W hf x ((wts (r j))[2 * q] + (wts (r j))[2 * q + 1]) (by rw [ec]; exact hx) (by rw [ec]; omega) (by rw [ec, hq]; exact hg)
    have h1 : 0 < (wts (r j))[2 * q] := h.pos hp j _ (List.getElem_mem _)
    have h2 : x ≤ (wts (r j))[2 * q + 1] := by
      obtain ⟨hil, hie⟩ := List.getElem?_eq_some_iff.mp hxi
      rcases Nat.lt_or_ge i (2 * q + 1) with h3 | h3
      · rw [← hie]; exact List.pairwise_iff_getElem.mp hsorted i (2 * q + 1) hil (by omega) h3
      · have : i = 2 * q + 1 := by omega
        subst this
        rw [hie]
        exact Nat.le_refl _
    omega
  · exact hge
/-- What is taken has just the room of what is wanted. -/
theorem took_room (h : Rows own r) (k m : Nat) (hm : m ≤ (r k).length) : ∀ j, j ≤ k → sumTo (fun i => took r k m i * 2 ^ i) (j + 1) = want r k m (k - j) * 2 ^ j
  | 0, hj => by
    have hf := want_fits h k m hm k (Nat.le_refl _)
    rw [Nat.sub_self] at hf
    have hs := (h.base.sum_ _ hf).2.1
    have h2 := coins_le (r 0) (want r k m k)
    simp only [sumTo, took, Nat.sub_zero, Nat.pow_zero, Nat.mul_one, Nat.zero_add]
    simp at hs
    omega
  | j + 1, hj => by
    have ih := took_room h k m hm j (by omega)
    rw [sumTo, ih, want_succ k m j (by omega), Nat.pow_succ]
    have hl : took r k m (j + 1) ≤ want r k m (k - (j + 1)) := coins_le _ _
    generalize took r k m (j + 1) = a at *
    generalize want r k m (k - (j + 1)) = W at *
    generalize 2 ^ j = q
    rw [Nat.mul_comm 2 (W - a), Nat.mul_assoc, Nat.mul_comm 2 q, ← Nat.add_mul, Nat.sub_add_cancel hl]
/-- What is taken weighs as much as its coins. -/
theorem took_weight (h : Rows own r) (k m : Nat) (hm : m ≤ (r k).length) : ∀ j, j ≤ k → sumTo (fun i => (own.take (took r k m i)).sum) (j + 1) = ((wts (r j)).take (want r k m (k - j))).sum
  | 0, hj => by
    have hf := want_fits h k m hm k (Nat.le_refl _)
    rw [Nat.sub_self] at hf
    have hs := (h.base.sum_ _ hf).2.2
    simp only [sumTo, took, Nat.sub_zero, Nat.zero_add]
    simp only [List.take_nil, List.sum_nil, Nat.add_zero] at hs
    exact hs.symm
  | j + 1, hj => by
    have ih := took_weight h k m hm j (by omega)
    have hf := want_fits h k m hm (k - (j + 1)) (by omega)
    rw [show k - (k - (j + 1)) = j + 1 from by omega] at hf
    have hf0 := want_fits h k m hm (k - j) (by omega)
    rw [show k - (k - j) = j from by omega] at hf0
    have hs := ((h.step j).sum_ _ hf).2.2
    have hw := want_succ (r := r) k m j (by omega)
    rw [sumTo, ih, hw, hs]
    rw [hw] at hf0
    rw [pairs_sum _ _ (by rw [wts_length]; exact hf0)]
    unfold took
    omega

/-- The length of coin i's code: at how many of the levels it is taken. -/
def lenOf (r : Nat → List (Bool × Nat)) (k m i : Nat) : Nat := sumTo (fun j => if i < took r k m j then 1 else 0) (k + 1)
theorem lenOf_le (k m i : Nat) : lenOf r k m i ≤ k + 1 := by
  unfold lenOf
  have h : sumTo (fun j => if i < took r k m j then 1 else 0) (k + 1) ≤ sumTo (fun _ => 1) (k + 1) := sumTo_le fun j _ => by split <;> omega
  rw [sumTo_const] at h
  omega
/-- If what holds at a level holds at those behind it, the levels at which it holds have together the room of all, less that of one that is as much deeper. -/
theorem room_of (p : Nat → Bool) : ∀ k, (∀ j, j < k → p j = true → p (j + 1) = true) → sumTo (fun j => if p j then 2 ^ j else 0) (k + 1) + 2 ^ (k + 1 - sumTo (fun j => if p j then 1 else 0) (k + 1)) = 2 ^ (k + 1)
  | 0, _ => by
    simp only [sumTo]
    cases p 0 <;> simp
  | k + 1, h => by
    have ih := room_of p k (fun j hj => h j (by omega))
    have hle : sumTo (fun j => if p j then 1 else 0) (k + 1) ≤ sumTo (fun _ => 1) (k + 1) := sumTo_le fun j _ => by split <;> omega
    rw [sumTo_const] at hle
    have e1 : sumTo (fun j => if p j then 2 ^ j else 0) (k + 1 + 1) = sumTo (fun j => if p j then 2 ^ j else 0) (k + 1) + if p (k + 1) then 2 ^ (k + 1) else 0 := rfl
    have e2 : sumTo (fun j => if p j then 1 else 0) (k + 1 + 1) = sumTo (fun j => if p j then 1 else 0) (k + 1) + if p (k + 1) then 1 else 0 := rfl
    rw [e1, e2]
    by_cases hp : p (k + 1) = true
    · rw [if_pos hp, if_pos hp]
      rw [show k + 1 + 1 - (sumTo (fun j => if p j then 1 else 0) (k + 1) + 1) = k + 1 - sumTo (fun j => if p j then 1 else 0) (k + 1) from by omega]
      rw [Nat.pow_succ 2 (k + 1)]
      omega
    · have hall : ∀ j, j ≤ k → p j = false := by
        intro j hj
        rcases hb : p j with _ | _
        · rfl
        · exfalso
          have : ∀ d, j + d ≤ k + 1 → p (j + d) = true := by
            intro d
            induction d with
            | zero => intro _; exact hb
            | succ d ihd => intro hd; exact h (j + d) (by omega) (ihd (by omega))
          have h2 := this (k + 1 - j) (by omega)
          rw [show j + (k + 1 - j) = k + 1 from by omega] at h2
          exact hp h2
      have z1 : sumTo (fun j => if p j then 2 ^ j else 0) (k + 1) = 0 := (sumTo_congr (g := fun _ => 0) fun j hj => by rw [hall j (by omega)]; rfl).trans (sumTo_zero _)
      have z2 : sumTo (fun j => if p j then 1 else 0) (k + 1) = 0 := (sumTo_congr (g := fun _ => 0) fun j hj => by rw [hall j (by omega)]; rfl).trans (sumTo_zero _)
      rw [z1, z2, if_neg hp, if_neg hp]
      simp
theorem lenOf_room (h : Rows own r) (hs : own.Pairwise (· ≤ ·)) (hp : ∀ x ∈ own, 0 < x) (k m : Nat) (hm : m ≤ (r k).length) (i : Nat) :
    sumTo (fun j => if i < took r k m j then 2 ^ j else 0) (k + 1) + 2 ^ (k + 1 - lenOf r k m i) = 2 ^ (k + 1) := by
  have h1 := room_of (fun j => decide (i < took r k m j)) k (fun j hj hd => by
    have := took_mono h hs hp k m hm j hj
    simp at hd ⊢
    omega)
  simpa [lenOf] using h1
/-- The lengths of the coins that are taken make a full code. -/
theorem full (h : Rows own r) (hs : own.Pairwise (· ≤ ·)) (hp : ∀ x ∈ own, 0 < x) (k : Nat) (hn : 2 ≤ own.length) (hk : own.length ≤ 2 ^ (k + 1)) :
    sumTo (fun i => 2 ^ (k + 1 - lenOf r k (2 * own.length - 2) i)) own.length = 2 ^ (k + 1) := by
  have hm := h.enough k hk
  have hr := took_room h k _ hm k (Nat.le_refl _)
  rw [Nat.sub_self] at hr
  have h1 : sumTo (fun i => sumTo (fun j => if i < took r k (2 * own.length - 2) j then 2 ^ j else 0) (k + 1)) own.length = sumTo (fun j => took r k (2 * own.length - 2) j * 2 ^ j) (k + 1) := by
    rw [sumTo_swap]
    refine sumTo_congr fun j hj => ?_
    rw [sumTo_first (fun _ => 2 ^ j) _ _ (took_le h k _ hm j (by omega)), sumTo_const]
  have h2 : sumTo (fun i => sumTo (fun j => if i < took r k (2 * own.length - 2) j then 2 ^ j else 0) (k + 1) + 2 ^ (k + 1 - lenOf r k (2 * own.length - 2) i)) own.length = sumTo (fun _ => 2 ^ (k + 1)) own.length :=
    sumTo_congr fun i _ => lenOf_room h hs hp k _ hm i
  rw [sumTo_add, sumTo_const, h1, hr] at h2
  simp only [want] at h2
  rw [Nat.pow_succ] at h2 ⊢
  generalize 2 ^ k = q at *
  generalize sumTo (fun i => 2 ^ (k + 1 - lenOf r k (2 * own.length - 2) i)) own.length = s at *
  have e : (2 * own.length - 2) * q + q * 2 = own.length * (q * 2) := by
    obtain ⟨n, hn2⟩ : ∃ n, own.length = n + 2 := ⟨own.length - 2, by omega⟩
    rw [hn2, show 2 * (n + 2) - 2 = 2 * n + 2 from by omega, Nat.add_mul, Nat.add_mul, Nat.mul_comm 2 n, Nat.mul_assoc, Nat.mul_comm 2 q]
    omega
  omega
/-- None of them is nought. -/
theorem lenOf_pos (h : Rows own r) (hs : own.Pairwise (· ≤ ·)) (hp : ∀ x ∈ own, 0 < x) (k : Nat) (hn : 2 ≤ own.length) (hk : own.length ≤ 2 ^ (k + 1)) (i : Nat) (hi : i < own.length) : 0 < lenOf r k (2 * own.length - 2) i := by
  have hf := full h hs hp k hn hk
  rcases Nat.eq_zero_or_pos (lenOf r k (2 * own.length - 2) i) with h0 | h0
  · exfalso
    have h1 : ∀ a n, a < n → sumTo (fun i => 2 ^ (k + 1 - lenOf r k (2 * own.length - 2) i)) n ≥ 2 ^ (k + 1 - lenOf r k (2 * own.length - 2) a) + (n - 1) := by
      intro a n
      induction n with
      | zero => omega
      | succ n ih =>
        intro ha
        simp only [sumTo]
        have hq : 0 < 2 ^ (k + 1 - lenOf r k (2 * own.length - 2) n) := Nat.two_pow_pos _
        by_cases e : a = n
        · subst e
          have : ∀ b, sumTo (fun i => 2 ^ (k + 1 - lenOf r k (2 * own.length - 2) i)) b ≥ b := by
            intro b
            induction b with
            | zero => simp [sumTo]
            | succ b ihb => simp only [sumTo]; have : 0 < 2 ^ (k + 1 - lenOf r k (2 * own.length - 2) b) := Nat.two_pow_pos _; omega
          have := this a
          omega
        · have := ih (by omega); omega
    have h2 := h1 i own.length hi
    rw [h0, hf, Nat.sub_zero] at h2
    omega
  · exact h0
/-- Their weight is that of the cheapest of the last row. -/
theorem weight (h : Rows own r) (k m : Nat) (hm : m ≤ (r k).length) : sumTo (fun i => own.getD i 0 * lenOf r k m i) own.length = ((wts (r k)).take m).sum := by
  have hw := took_weight h k m hm k (Nat.le_refl _)
  rw [Nat.sub_self] at hw
  simp only [want] at hw
  rw [← hw]
  have e1 : sumTo (fun i => own.getD i 0 * lenOf r k m i) own.length = sumTo (fun i => sumTo (fun j => if i < took r k m j then own.getD i 0 else 0) (k + 1)) own.length := by
    refine sumTo_congr fun i _ => ?_
    unfold lenOf
    rw [Nat.mul_comm, ← sumTo_mul]
    exact sumTo_congr fun j _ => by split <;> simp
  rw [e1, sumTo_swap]
  refine sumTo_congr fun j hj => ?_
  have hle := took_le h k m hm j (by omega)
  rw [sumTo_first (fun i => own.getD i 0) _ _ hle]
  generalize took r k m j = a at hle
  clear hj e1 hw hm
  induction a with
  | zero => simp [sumTo]
  | succ a ih =>
    rw [sumTo, ih (by omega), List.take_succ_eq_append_getElem (by omega), List.sum_append]
    simp [List.getD, show a < own.length from by omega]
end
end Go.Proofs.Ythbdhpciibjnmaa
