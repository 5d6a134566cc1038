/- A region that draws its order, walked by what holds at each of its stages: one step for each operation, whatever came before it. No program is named here. -/
import Derived.Test.YtkfomjdmdgddlaaL
import Derived.StillTail
import Derived.RegionTactic
import Derived.WalkKit
namespace Go.Proofs.Ytkfomjdmdgddlaa
open Go.RowKit

/-- An operation is done. -/
abbrev Did (listed : Array Bool) (j : Nat) : Prop := listed.getD j false = true
def orderlyB (ops : Array Oper) : Bool := (List.range ops.size).all fun i => ((ops[i]?).map fun o => o.after.all fun e => decide (e.on < i)).getD true
section
variable {P : Program} {ops : Array Oper} {Q : Exit → Act → World → Prop} {md : Region.Mode}
theorem orderly_spec (ho : orderlyB ops = true) {i : Nat} {o : Oper} (hi : ops[i]? = some o) : ∀ e ∈ o.after, e.on < i := by
  intro e he
  unfold orderlyB at ho
  rw [List.all_eq_true] at ho
  have h := ho i (List.mem_range.2 (Array.getElem?_eq_some_iff.1 hi).1)
  rw [hi] at h
  simp only [Option.map_some, Option.getD_some, Array.all_eq_true_iff_forall_mem, decide_eq_true_eq] at h
  exact h e he
theorem all_listed {listed : Array Bool} (ho : orderlyB ops = true) (hs : listed.size = ops.size) (hr : Region.ready md ops listed = []) : ∀ n i, i < n → i < ops.size → Did listed i
  | 0, i, h, _ => by omega
  | n + 1, i, h, hi => by
    have ih := all_listed ho hs hr n
    rcases Nat.lt_or_ge i n with h1 | h1
    · exact ih i h1 hi
    · obtain rfl : i = n := by omega
      cases hd : listed.getD i false with
      | true => exact hd
      | false =>
        have hm : i ∈ Region.ready md ops listed := mem_ready.2 ⟨getD_in (by omega) hd, _, Array.getElem?_eq_getElem hi, fun e he _ => ih e.on (orderly_spec ho (Array.getElem?_eq_getElem hi) e he) (by have := orderly_spec ho (Array.getElem?_eq_getElem hi) e he; omega)⟩
        rw [hr] at hm
        cases hm
theorem wpAny_inv (J : Array Bool → Act → World → Prop) (ho : orderlyB ops = true)
    (hdone : ∀ listed a w, (∀ i, i < ops.size → Did listed i) → J listed a w → Q .normal a w)
    (hstep : ∀ i o, ops[i]? = some o → ∀ listed a w, listed.size = ops.size → ¬ Did listed i → (∀ e ∈ o.after, Region.binds md e = true → Did listed e.on) → J listed a w → wpOp P ops Q i (J (listed.setIfInBounds i true)) a w) :
    ∀ fuel listed a w, listed.size = ops.size → listed.toList.count false ≤ fuel → J listed a w → wpAny P md ops Q fuel listed a w
  | 0, listed, a, w, hs, hc, hJ => by
    have hall : ∀ i, i < ops.size → Did listed i := fun i hi => by
      have h0 : false ∉ listed.toList := List.count_eq_zero.1 (by omega)
      cases hd : listed.getD i false with
      | true => exact hd
      | false =>
        exfalso
        apply h0
        have hi' : i < listed.size := by omega
        simp [hi'] at hd
        rw [← hd]
        simp
    refine ⟨?_, hdone _ _ _ hall hJ⟩
    cases hr : Region.ready md ops listed with
    | nil => rfl
    | cons j r =>
      have hj : j ∈ Region.ready md ops listed := by rw [hr]; simp
      obtain ⟨h1, oj, hoj, _⟩ := mem_ready.1 hj
      have := hall j (Array.getElem?_eq_some_iff.1 hoj).1
      have h2 := getD_both h1
      rw [this] at h2
      cases h2
  | fuel + 1, listed, a, w, hs, hc, hJ => by
    refine ⟨fun hr => hdone _ _ _ (fun i hi => all_listed ho hs hr (i + 1) i (by omega) hi) hJ, fun i hi => ?_⟩
    obtain ⟨h1, oi, hoi, hall⟩ := mem_ready.1 hi
    have hlt : i < listed.size := by rw [hs]; exact (Array.getElem?_eq_some_iff.1 hoi).1
    refine wpOp_mono (fun a' w' hJ' => ?_) (hstep i oi hoi listed a w hs (by unfold Did; rw [getD_both h1]; simp) hall hJ)
    refine wpAny_inv J ho hdone hstep fuel _ a' w' (by simpa using hs) ?_ hJ'
    have hf : listed.toList[i]'(by simpa using hlt) = false := by
      have := getD_both h1
      simpa [hlt] using this
    have hcs := List.count_set (l := listed.toList) (i := i) (by simpa using hlt) (a := true) (b := false)
    simp only [hf] at hcs
    have hpos : 0 < listed.toList.count false := List.count_pos_iff.2 (by rw [← hf]; exact List.getElem_mem _)
    rw [show (listed.setIfInBounds i true).toList = listed.toList.set i true by simp, hcs]
    simp
    have e2 : Array.count false listed = listed.toList.count false := by simp
    omega
/-- What is asked behind one operation: K if it goes on, Q if it leaves. -/
def onward (Q : Exit → Act → World → Prop) (K : Act → World → Prop) (e : Exit) : Act → World → Prop := match e with
  | .normal => K
  | e => Q e
theorem wpOp_list {i : Nat} {o : Oper} {K : Act → World → Prop} {a : Act} {w : World} (hi : ops[i]? = some o) (h : wpList P ops (onward Q K) [o] a w) : wpOp P ops Q i K a w := by
  unfold wpOp
  rw [hi]
  unfold wpList at h
  exact h
/-- The region, by what holds at each stage. -/
theorem wp_region_inv {id : Nat} {a : Act} {w : World} {l : List Oper} (J : Array Bool → Act → World → Prop) (hm : P.follows .mixedOrders = true) (ho : orderlyB l.toArray = true) (h0 : J (Array.replicate l.toArray.size false) a w.drew)
    (hdone : ∀ listed a w, (∀ i, i < l.toArray.size → Did listed i) → J listed a w → Q .normal a w)
    (hstep : ∀ i o, l.toArray[i]? = some o → ∀ listed a w, listed.size = l.toArray.size → ¬ Did listed i → (∀ e ∈ o.after, Region.binds .any e = true → Did listed e.on) → J listed a w → ∀ K : Act → World → Prop, (∀ a w, J (listed.setIfInBounds i true) a w → K a w) → wpList P l.toArray (onward Q K) [o] a w) :
    (Code.region id l.toArray true).wp P Q a w :=
  wp_region_any hm (wpAny_inv J ho hdone (fun i o hi listed a w hs hn hall hJ => wpOp_list hi (hstep i o hi listed a w hs hn hall hJ _ (fun _ _ h => h))) _ _ _ _ (by simp) (by simp) h0)
theorem did_set {listed : Array Bool} {i j : Nat} (hj : j ≠ i) : Did (listed.setIfInBounds i true) j ↔ Did listed j := by
  unfold Did
  rw [getD_set_ne false (Ne.symm hj)]
theorem did_new {listed : Array Bool} {i : Nat} (h : i < listed.size) : Did (listed.setIfInBounds i true) i := by
  unfold Did
  simp [h]
end
end Go.Proofs.Ytkfomjdmdgddlaa
