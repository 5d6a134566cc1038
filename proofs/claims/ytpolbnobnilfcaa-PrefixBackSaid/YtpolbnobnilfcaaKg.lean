/- Plain mathematics: what the lengths are when all coins are bought. No program, no memory but for its import. -/
import Derived.Test.YtpolbnobnilfcaaKf
import Derived.Test.YtpolbnobnilfcaaLe
namespace Go.Proofs.Ytpolbnobnilfcaa

def hits (ss : List Int) (j : Nat) : Nat := ss.countP fun s => s.toNat == j
theorem itm_incs (ss : List Int) : ∀ (L : List Int) (j : Nat), j < L.length → (∀ s ∈ ss, s.toNat < L.length) → itm (incs L ss) j = itm L j + (hits ss j : Nat) := by
  induction ss with
  | nil => intro L j _ _; simp [incs, hits]
  | cons s ss ih =>
    intro L j hj hs
    have e : incs L (s :: ss) = incs (L.set s.toNat (itm L s.toNat + 1)) ss := rfl
    have h1 := hs s (by simp)
    rw [e, ih _ j (by simpa using hj) (fun x hx => by simpa using hs x (by simp [hx])), itm_set _ _ _ _ h1]
    unfold hits
    rw [List.countP_cons]
    by_cases c : j = s.toNat
    · subst c; simp; omega
    · rw [if_neg c]
      have : (s.toNat == j) = false := by rw [beq_eq_false_iff_ne]; exact fun k => c k.symm
      simp [this]
theorem itm_spent (sy L0 : List Int) (r : Nat → List (Bool × Nat)) (k m : Nat) (hz : ∀ i, itm L0 i = 0) (hs : ∀ s ∈ sy, s.toNat < L0.length) (j : Nat) (hj : j < L0.length) : ∀ d, itm (spentTo sy L0 r k m d) j = ((sumTo (fun t => hits (sy.take (took r k m (k - t))) j) d : Nat) : Int)
  | 0 => by rw [spentTo, hz]; rfl
  | d + 1 => by
    rw [spentTo, itm_incs _ _ j (by rw [spentTo_length]; exact hj) (fun s h => by rw [spentTo_length]; exact hs s (List.mem_of_mem_take h)), itm_spent sy L0 r k m hz hs j hj d]
    simp only [sumTo]
    omega
theorem sumTo_shift (f : Nat → Nat) : ∀ n, sumTo f (n + 1) = f 0 + sumTo (fun i => f (i + 1)) n
  | 0 => by simp [sumTo]
  | n + 1 => by rw [sumTo, sumTo_shift f n, sumTo]; omega
theorem sumTo_rev (f : Nat → Nat) : ∀ n, sumTo (fun t => f (n - t)) (n + 1) = sumTo f (n + 1)
  | 0 => by simp [sumTo]
  | n + 1 => by
    rw [sumTo_shift, Nat.sub_zero]
    have h := sumTo_rev f n
    have e : sumTo (fun i => f (n + 1 - (i + 1))) (n + 1) = sumTo (fun t => f (n - t)) (n + 1) := sumTo_congr fun i _ => by rw [show n + 1 - (i + 1) = n - i from by omega]
    rw [e, h, sumTo, sumTo, sumTo]
    omega
/-- A symbol that comes once is hit just by the pieces that reach it. -/
theorem hits_take (sy : List Int) (hd : (sy.map Int.toNat).Nodup) : ∀ (a i : Nat) (hi : i < sy.length), hits (sy.take a) (sy[i]).toNat = if i < a then 1 else 0 := by
  intro a
  induction a with
  | zero => intro i hi; simp [hits]
  | succ a ih =>
    intro i hi
    by_cases ha : a < sy.length
    · unfold hits at ih ⊢
      rw [List.take_succ_eq_append_getElem ha, List.countP_append, ih i hi]
      by_cases e : i = a
      · subst e; simp
      · have hne : ((sy[a]).toNat == (sy[i]).toNat) = false := by
          rw [beq_eq_false_iff_ne]
          intro h
          have h1 := List.pairwise_iff_getElem.mp hd
          rcases Nat.lt_or_ge a i with c | c
          · exact h1 a i (by simpa using ha) (by simpa using hi) c (by simp [h])
          · exact h1 i a (by simpa using hi) (by simpa using ha) (by omega) (by simp [h])
        simp [hne]
        by_cases c : i < a
        · rw [if_pos c, if_pos (by omega)]
        · rw [if_neg c, if_neg (by omega)]
    · have h1 := ih i hi
      rw [List.take_of_length_le (by omega)] at h1 ⊢
      rw [h1, if_pos (by omega), if_pos (by omega)]
theorem hits_none (sy : List Int) (a j : Nat) (h : ∀ s ∈ sy, s.toNat ≠ j) : hits (sy.take a) j = 0 := by
  unfold hits
  rw [List.countP_eq_zero]
  intro s hs
  have := h s (List.mem_of_mem_take hs)
  simp [this]
/-- The lengths when all rows are bought. -/
theorem spent_at (sy L0 : List Int) (r : Nat → List (Bool × Nat)) (k m : Nat) (hz : ∀ i, itm L0 i = 0) (hs : ∀ s ∈ sy, s.toNat < L0.length) (hd : (sy.map Int.toNat).Nodup) (i : Nat) (hi : i < sy.length) : itm (spentTo sy L0 r k m (k + 1)) (sy[i]).toNat = ((lenOf r k m i : Nat) : Int) := by
  rw [itm_spent sy L0 r k m hz hs _ (hs _ (List.getElem_mem hi))]
  unfold lenOf
  rw [← sumTo_rev (fun j => if i < took r k m j then 1 else 0) k]
  congr 1
  exact sumTo_congr fun t _ => hits_take sy hd _ i hi
theorem spent_none (sy L0 : List Int) (r : Nat → List (Bool × Nat)) (k m : Nat) (hz : ∀ i, itm L0 i = 0) (hs : ∀ s ∈ sy, s.toNat < L0.length) (j : Nat) (hj : j < L0.length) (hn : ∀ s ∈ sy, s.toNat ≠ j) : itm (spentTo sy L0 r k m (k + 1)) j = 0 := by
  rw [itm_spent sy L0 r k m hz hs j hj]
  have e : sumTo (fun t => hits (sy.take (took r k m (k - t))) j) (k + 1) = sumTo (fun _ => 0) (k + 1) := sumTo_congr fun t _ => hits_none sy _ j hn
  rw [e, sumTo_zero]
  rfl

/-- The places of the counts above nought. -/
def posTo (cs : List Int) (k : Nat) : List Int := ((List.range k).filter fun j => decide (0 < itm cs j)).map fun j : Nat => (j : Int)
def posIdx (cs : List Int) : List Int := posTo cs cs.length
theorem posTo_succ (cs : List Int) (k : Nat) : posTo cs (k + 1) = posTo cs k ++ if 0 < itm cs k then [(k : Int)] else [] := by
  unfold posTo
  rw [List.range_succ, List.filter_append, List.map_append]
  congr 1
  by_cases h : 0 < itm cs k <;> simp [h]
theorem posTo_length_le (cs : List Int) (k : Nat) : (posTo cs k).length ≤ k := by
  unfold posTo
  rw [List.length_map]
  have := List.length_filter_le (fun j => decide (0 < itm cs j)) (List.range k)
  simpa using this
theorem posIdx_nodup (cs : List Int) : ((posIdx cs).map Int.toNat).Nodup := by
  unfold posIdx posTo
  rw [List.map_map]
  have e : ((Int.toNat ∘ fun j : Nat => (j : Int))) = id := by funext j; simp
  rw [e, List.map_id]
  exact List.Pairwise.filter _ List.nodup_range
theorem posIdx_mem {cs : List Int} {s : Int} (h : s ∈ posIdx cs) : 0 ≤ s ∧ s.toNat < cs.length ∧ 0 < itm cs s.toNat := by
  unfold posIdx posTo at h
  obtain ⟨j, hj, rfl⟩ := List.mem_map.mp h
  have h2 := List.mem_filter.mp hj
  exact ⟨by omega, by simpa using h2.1, by simpa using h2.2⟩
theorem mem_posIdx {cs : List Int} {j : Nat} (hj : j < cs.length) (h : 0 < itm cs j) : (j : Int) ∈ posIdx cs := by
  unfold posIdx posTo
  exact List.mem_map.mpr ⟨j, List.mem_filter.mpr ⟨by simpa using hj, by simpa using h⟩, rfl⟩
theorem posTo_posL (cs : List Int) (k : Nat) (hk : k ≤ cs.length) : (posTo cs k).map (fun s => (cnt cs s).toNat) = posL (cs.take k) := by
  induction k with
  | zero => simp [posTo, posL]
  | succ k ih =>
    rw [posTo_succ, posL_succ cs k (by omega), List.map_append, ih (by omega), itm_get cs k (by omega)]
    congr 1
    by_cases h : 0 < cs[k]
    · rw [if_pos h, if_pos h]
      simp [cnt, itm_get cs k (by omega)]
    · rw [if_neg h, if_neg h]; rfl
theorem posIdx_posL (cs : List Int) : (posIdx cs).map (fun s => (cnt cs s).toNat) = posL cs := by
  have h := posTo_posL cs cs.length (Nat.le_refl _)
  rwa [List.take_length] at h
theorem perm_sum {a b : List Nat} (h : a.Perm b) : a.sum = b.sum := by
  induction h with
  | nil => rfl
  | cons x _ ih => rw [List.sum_cons, List.sum_cons, ih]
  | swap x y l => rw [List.sum_cons, List.sum_cons, List.sum_cons, List.sum_cons]; omega
  | trans _ _ h1 h2 => exact h1.trans h2
theorem sum_filter (p : Nat → Bool) (G : Nat → Nat) (l : List Nat) (h : ∀ j ∈ l, p j = false → G j = 0) : (l.map G).sum = ((l.filter p).map G).sum := by
  induction l with
  | nil => rfl
  | cons x l ih =>
    rw [List.map_cons, List.sum_cons, ih (fun j hj => h j (by simp [hj])), List.filter_cons]
    rcases hp : p x with _ | _
    · rw [h x (by simp) hp]; simp
    · simp
theorem sum_sumTo (H : Int → Nat) (l : List Int) : (l.map H).sum = sumTo (fun i => H (itm l i)) l.length := by
  have key : ∀ k, k ≤ l.length → ((l.take k).map H).sum = sumTo (fun i => H (itm l i)) k := by
    intro k
    induction k with
    | zero => intro _; simp [sumTo]
    | succ k ih =>
      intro hk
      rw [List.take_succ_eq_append_getElem (by omega), List.map_append, List.sum_append, ih (by omega), sumTo, itm_get l k (by omega)]
      simp
  have h := key l.length (Nat.le_refl _)
  rwa [List.take_length] at h
/-- A sum over all places whose terms are nought off sy. -/
theorem sum_over (cs sy : List Int) (hp : sy.Perm (posIdx cs)) (G : Nat → Nat) (h : ∀ j, j < cs.length → ¬ 0 < itm cs j → G j = 0) : ((List.range cs.length).map G).sum = sumTo (fun i => G (itm sy i).toNat) sy.length := by
  rw [sum_filter (fun j => decide (0 < itm cs j)) G (List.range cs.length) (fun j hj hf => h j (by simpa using hj) (by simpa using hf)), ← sum_sumTo (fun s => G s.toNat) sy, perm_sum (hp.map (fun s => G s.toNat))]
  unfold posIdx posTo
  rw [List.map_map]
  congr 1
theorem list_range (L : List Int) (F : Int → Nat) : (L.map F).sum = ((List.range L.length).map fun j => F (itm L j)).sum := by
  congr 1
  apply List.ext_getElem?
  intro j
  by_cases h : j < L.length
  · simp [h, itm]
  · simp [h]
def costN (x : Int) : Nat := if 0 < x then 2 ^ (16 - x).toNat else 0
theorem taken_nat (l : List Int) : taken l = (((l.map costN).sum : Nat) : Int) := by
  induction l with
  | nil => rfl
  | cons x l ih =>
    have e : taken (x :: l) = cost x + taken l := by simp [taken]
    rw [e, ih, List.map_cons, List.sum_cons]
    have : cost x = ((costN x : Nat) : Int) := by unfold cost costN; split <;> simp
    omega
end Go.Proofs.Ytpolbnobnilfcaa
