/- Plain mathematics: the lengths that Build answers are good. No program, no memory but for its import. -/
import Derived.Test.YtpolbnobnilfcaaKg
namespace Go.Proofs.Ytpolbnobnilfcaa

/-- Lengths by which symbols of these counts take the fewest bits. -/
def GoodLens (cs : List Int) (most : Nat) (L : List Int) : Prop :=
  L.length = cs.length ∧ (∀ j, j < cs.length → 0 ≤ itm L j ∧ itm L j ≤ most ∧ (0 < itm L j ↔ 0 < itm cs j)) ∧ (posN cs = 1 → taken L = 32768) ∧
    (2 ≤ posN cs → taken L = 65536 ∧ ∀ own, own.Perm (posL cs) → own.Pairwise (· ≤ ·) → ((List.range cs.length).map fun j => (itm cs j).toNat * (itm L j).toNat).sum = leastOf own (most - 1))
theorem posIdx_length (cs : List Int) : (posIdx cs).length = posN cs := by
  have h := congrArg List.length (posIdx_posL cs)
  rwa [List.length_map, posL_length] at h
theorem itm_rep (n i : Nat) : itm (List.replicate n 0) i = 0 := by
  unfold itm
  rw [List.getD, List.getElem?_replicate]
  split <;> rfl
theorem costN_zero : costN 0 = 0 := rfl
theorem good_none (cs : List Int) (most : Nat) (h : posN cs = 0) : GoodLens cs most (List.replicate cs.length 0) := by
  refine ⟨by simp, fun j hj => ?_, fun h1 => by omega, fun h1 => by omega⟩
  rw [itm_rep]
  refine ⟨Int.le_refl _, by omega, ?_⟩
  constructor
  · intro h1; omega
  · intro h1
    have h2 := mem_posIdx hj h1
    have h3 := posIdx_length cs
    rw [h] at h3
    rw [List.eq_nil_of_length_eq_zero h3] at h2
    simp at h2
theorem good_one (cs sy : List Int) (most : Nat) (hm : 1 ≤ most) (hp : sy.Perm (posIdx cs)) (s : Int) (hsy : sy = [s]) : GoodLens cs most ((List.replicate cs.length 0).set s.toNat 1) := by
  subst hsy
  have hn : posN cs = 1 := by rw [← posIdx_length, ← hp.length_eq]; rfl
  have hs := posIdx_mem (hp.subset (show s ∈ [s] by simp))
  have hv : ∀ j, itm ((List.replicate cs.length 0).set s.toNat 1) j = if j = s.toNat then 1 else 0 := fun j => by
    rw [itm_set _ _ _ _ (by simpa using hs.2.1), itm_rep]
  have hu : ∀ j, j < cs.length → 0 < itm cs j → j = s.toNat := fun j hj h => by
    have h1 := hp.symm.subset (mem_posIdx hj h)
    have h2 : (j : Int) = s := by simpa using h1
    omega
  refine ⟨by simp, fun j hj => ?_, fun _ => ?_, fun h1 => by omega⟩
  · rw [hv]
    by_cases e : j = s.toNat
    · rw [if_pos e, e]
      exact ⟨by omega, by omega, fun _ => hs.2.2, fun _ => by omega⟩
    · rw [if_neg e]
      exact ⟨by omega, by omega, fun h => by omega, fun h => absurd (hu j hj h) e⟩
  · have hl : ((List.replicate cs.length (0 : Int)).set s.toNat 1).length = cs.length := by simp
    rw [taken_nat, list_range, hl, sum_over cs [s] hp (fun j => costN (itm ((List.replicate cs.length 0).set s.toNat 1) j)) (fun j _ h => by
      show costN (itm _ j) = 0
      rw [hv, if_neg (fun e => h (by rw [e]; exact hs.2.2)), costN_zero])]
    simp only [List.length_cons, List.length_nil, sumTo]
    rw [hv]
    simp [itm, costN]
theorem ownN_sorted (cs sy : List Int) (h : Srt (cnt cs) sy 0 sy.length) : (ownN cs sy).Pairwise (· ≤ ·) := by
  rw [List.pairwise_iff_getElem]
  intro i j hi hj hij
  have h1 := h i j (by omega) (by omega) (by simpa [ownN] using hj)
  have e1 : i < sy.length := by simpa [ownN] using hi
  have e2 : j < sy.length := by simpa [ownN] using hj
  rw [itm_get sy i e1, itm_get sy j e2] at h1
  simp only [ownN, List.getElem_map]
  omega
theorem ownN_perm (cs sy : List Int) (hp : sy.Perm (posIdx cs)) : (ownN cs sy).Perm (posL cs) := by
  rw [← posIdx_posL]
  exact hp.map _
theorem ownN_pos (cs sy : List Int) (hp : sy.Perm (posIdx cs)) : ∀ x ∈ ownN cs sy, 0 < x := by
  intro x hx
  obtain ⟨s, hs, rfl⟩ := List.mem_map.mp hx
  have h := posIdx_mem (hp.subset hs)
  unfold cnt
  omega
theorem good_spent (cs sy : List Int) (k : Nat) (hk : k < 16) (hp : sy.Perm (posIdx cs)) (hsr : Srt (cnt cs) sy 0 sy.length) (hn : 2 ≤ sy.length) (hm : sy.length ≤ 2 ^ (k + 1)) :
    GoodLens cs (k + 1) (spentTo sy (List.replicate cs.length 0) (rowsOf (ownN cs sy)) k (2 * sy.length - 2) (k + 1)) := by
  have hol : (ownN cs sy).length = sy.length := by simp [ownN]
  have hR := rowsOf_Rows (ownN cs sy)
  have hso := ownN_sorted cs sy hsr
  have hpo := ownN_pos cs sy hp
  have hz := itm_rep cs.length
  have hs : ∀ s ∈ sy, s.toNat < (List.replicate cs.length (0 : Int)).length := fun s h => by simpa using (posIdx_mem (hp.subset h)).2.1
  have hd : (sy.map Int.toNat).Nodup := ((hp.map Int.toNat).nodup_iff).mpr (posIdx_nodup cs)
  have hat := fun i hi => spent_at sy _ (rowsOf (ownN cs sy)) k (2 * sy.length - 2) hz hs hd i hi
  have hno := fun j hj hh => spent_none sy _ (rowsOf (ownN cs sy)) k (2 * sy.length - 2) hz hs j hj hh
  have hlen : (spentTo sy (List.replicate cs.length 0) (rowsOf (ownN cs sy)) k (2 * sy.length - 2) (k + 1)).length = cs.length := by rw [spentTo_length]; simp
  have hpos := fun i hi => lenOf_pos hR hso hpo k (by omega) (by omega) i hi
  have hful := full hR hso hpo k (by omega) (by omega)
  have hwei := weight hR k (2 * sy.length - 2) (by have := hR.enough k (by omega); omega)
  rw [hol] at hpos hful hwei
  have hzero : ∀ j, j < cs.length → ¬ 0 < itm cs j → itm (spentTo sy (List.replicate cs.length 0) (rowsOf (ownN cs sy)) k (2 * sy.length - 2) (k + 1)) j = 0 := fun j hj h =>
    hno j (by simpa using hj) (fun s hss e => h (by rw [← e]; exact (posIdx_mem (hp.subset hss)).2.2))
  generalize hL : spentTo sy (List.replicate cs.length 0) (rowsOf (ownN cs sy)) k (2 * sy.length - 2) (k + 1) = L at *
  have hval : ∀ i, i < sy.length → itm L (itm sy i).toNat = ((lenOf (rowsOf (ownN cs sy)) k (2 * sy.length - 2) i : Nat) : Int) := fun i hi => by rw [itm_get sy i hi]; exact hat i hi
  refine ⟨hlen, fun j hj => ?_, fun h1 => ?_, fun _ => ⟨?_, fun own hop hos => ?_⟩⟩
  · by_cases hc : 0 < itm cs j
    · have h1 := hp.symm.subset (mem_posIdx hj hc)
      obtain ⟨i, hi, he⟩ := List.getElem_of_mem h1
      have h2 := hval i hi
      rw [itm_get sy i hi, he] at h2
      have h3 : itm L j = ((lenOf (rowsOf (ownN cs sy)) k (2 * sy.length - 2) i : Nat) : Int) := by simpa using h2
      have h4 := hpos i hi
      have h5 := lenOf_le (r := rowsOf (ownN cs sy)) k (2 * sy.length - 2) i
      rw [h3]
      exact ⟨by omega, by omega, fun _ => hc, fun _ => by omega⟩
    · rw [hzero j hj hc]
      exact ⟨by omega, by omega, fun h => by omega, fun h => absurd h hc⟩
  · have := hp.length_eq
    rw [posIdx_length] at this
    omega
  · rw [taken_nat, list_range, hlen, sum_over cs sy hp (fun j => costN (itm L j)) (fun j hj h => by
      show costN (itm L j) = 0
      rw [hzero j hj h, costN_zero])]
    have e : sumTo (fun i => costN (itm L (itm sy i).toNat)) sy.length = sumTo (fun i => 2 ^ (k + 1 - lenOf (rowsOf (ownN cs sy)) k (2 * sy.length - 2) i) * 2 ^ (15 - k)) sy.length := sumTo_congr fun i hi => by
      have h4 := hpos i hi
      have h5 := lenOf_le (r := rowsOf (ownN cs sy)) k (2 * sy.length - 2) i
      rw [hval i hi]
      unfold costN
      rw [if_pos (by omega), ← Nat.pow_add]
      congr 1
      omega
    rw [e, sumTo_mul, hful, ← Nat.pow_add, show k + 1 + (15 - k) = 16 from by omega]
    rfl
  · rw [sum_over cs sy hp (fun j => (itm cs j).toNat * (itm L j).toNat) (fun j hj h => by
      show (itm cs j).toNat * (itm L j).toNat = 0
      rw [hzero j hj h]; simp)]
    have e : sumTo (fun i => (itm cs (itm sy i).toNat).toNat * (itm L (itm sy i).toNat).toNat) sy.length = sumTo (fun i => (ownN cs sy).getD i 0 * lenOf (rowsOf (ownN cs sy)) k (2 * sy.length - 2) i) sy.length := sumTo_congr fun i hi => by
      rw [hval i hi, itm_get sy i hi]
      simp [ownN, cnt, hi]
    rw [e, hwei, sorted_unique (hop.trans (ownN_perm cs sy hp).symm) hos hso]
    unfold leastOf
    rw [hol, Nat.add_sub_cancel]
end Go.Proofs.Ytpolbnobnilfcaa
