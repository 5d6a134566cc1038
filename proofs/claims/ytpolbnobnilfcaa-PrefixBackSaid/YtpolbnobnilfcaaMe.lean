/- Contract of the document's merged: two rising lists as one. -/
import Derived.Test.YtpolbnobnilfcaaSo
namespace Go.Proofs.Ytpolbnobnilfcaa
open Go.ChangeShapes Go.WideShapes Go.ChangeAt Go.RowKit

def natsI (l : List Nat) : List Int := l.map fun n : Nat => (n : Int)
theorem natsI_length (l : List Nat) : (natsI l).length = l.length := by simp [natsI]
theorem natsI_append (a b : List Nat) : natsI (a ++ b) = natsI a ++ natsI b := by simp [natsI]
theorem natsI_get (l : List Nat) (k : Nat) (h : k < l.length) : (natsI l)[k]'(by rw [natsI_length]; exact h) = ((l[k] : Nat) : Int) := by simp [natsI]
/-- The coins and the packages as one rising list: where both weigh the same the coin comes first. -/
def mg : List Nat → List Nat → List (Bool × Nat)
  | [], [] => []
  | x :: a, [] => (true, x) :: mg a []
  | [], y :: b => (false, y) :: mg [] b
  | x :: a, y :: b => if x ≤ y then (true, x) :: mg a (y :: b) else (false, y) :: mg (x :: a) b
termination_by a b => a.length + b.length
theorem mg_Mg (a b : List Nat) : Mg a b (mg a b) := by
  fun_induction mg a b with
  | case1 => exact .nil
  | case2 x a ih => exact .left (by simp) ih
  | case3 y b ih => exact .right (by simp) ih
  | case4 x a y b h ih => exact .left (fun z hz => by simp at hz; omega) ih
  | case5 x a y b h ih => exact .right (fun z hz => by simp at hz; omega) ih
theorem mg_length (a b : List Nat) : (mg a b).length = a.length + b.length := (mg_Mg a b).length_
theorem mg_own : ∀ a : List Nat, wts (mg a []) = a
  | [] => by simp [mg, wts]
  | x :: a => by have := mg_own a; simp only [wts] at this; simp only [mg, wts, List.map_cons, this]
/-- What of both is still to come, behind what was put together. -/
def MgAt (a b : List Nat) (i k : Nat) (out : List Nat) : Prop := i ≤ a.length ∧ k ≤ b.length ∧ out.length = i + k ∧ out ++ wts (mg (a.drop i) (b.drop k)) = wts (mg a b)
theorem MgAt.start (a b : List Nat) : MgAt a b 0 0 [] := ⟨by omega, by omega, rfl, by simp⟩
theorem MgAt.done {a b out : List Nat} {i k : Nat} (h : MgAt a b i k out) (hi : ¬ i < a.length) (hk : ¬ k < b.length) : out = wts (mg a b) := by
  obtain ⟨_, _, _, h3⟩ := h
  rw [List.drop_of_length_le (by omega), List.drop_of_length_le (by omega)] at h3
  simpa [mg, wts] using h3
theorem MgAt.left {a b out : List Nat} {i k : Nat} (h : MgAt a b i k out) (hi : i < a.length) (hc : ∀ y, b[k]? = some y → a[i] ≤ y) : MgAt a b (i + 1) k (out ++ [a[i]]) := by
  obtain ⟨h1, h2, h3, h4⟩ := h
  refine ⟨by omega, h2, by simp; omega, ?_⟩
  rw [← h4, List.drop_eq_getElem_cons hi, List.append_assoc]
  congr 1
  rcases Nat.lt_or_ge k b.length with hk | hk
  · rw [List.drop_eq_getElem_cons hk]
    simp only [mg]
    rw [if_pos (hc _ (List.getElem?_eq_getElem hk))]
    rfl
  · rw [List.drop_of_length_le hk]
    simp only [mg]
    rfl
theorem MgAt.right {a b out : List Nat} {i k : Nat} (h : MgAt a b i k out) (hk : k < b.length) (hc : ∀ x, a[i]? = some x → ¬ x ≤ b[k]) : MgAt a b i (k + 1) (out ++ [b[k]]) := by
  obtain ⟨h1, h2, h3, h4⟩ := h
  refine ⟨h1, by omega, by simp; omega, ?_⟩
  rw [← h4, List.drop_eq_getElem_cons hk, List.append_assoc]
  congr 1
  rcases Nat.lt_or_ge i a.length with hi | hi
  · rw [List.drop_eq_getElem_cons hi]
    simp only [mg]
    rw [if_neg (hc _ (List.getElem?_eq_getElem hi))]
    rfl
  · rw [List.drop_of_length_le hi]
    simp only [mg]
    rfl

theorem vs_lit1 (w : World) (t : TypeId) (u : Value) : Vs (w.alloc (.cells #[u] t)) (w.heap.size + 1) (some ⟨w.heap.size, 0, none⟩) [u] := vs_lit w t [u] (w.heap.size + 1) (by omega)
def MergeRes (w : World) (out : List Nat) (e : Ending) (w' : World) : Prop :=
  ∃ A' n' c', e = .returned (.slice A' n' c') ∧ w'.ownsRow w.heap.size 3 1 (.slice A' n' c') n' (intsV (natsI out)) ∧ Below w.heap.size w w'
def MergeAt (w : World) (a b : List Nat) (i k : Nat) (v : Value) (wr : World) : Prop :=
  ∃ A n c out, v = .slice A n c ∧ wr.ownsRow w.heap.size 3 1 (.slice A n c) n (intsV (natsI out)) ∧ MgAt a b i k out ∧ Below w.heap.size w wr

set_option maxHeartbeats 2000000 in
set_option maxRecDepth 100000 in
theorem refMerged_n (A B : Option Addr) (n m c d : Nat) (a b : List Nat) (hn : a.length = n) (hm : b.length = m) (Bl : Nat) (w : World) (ha : Is w Bl A (natsI a)) (hb : Is w Bl B (natsI b)) (hBl : Bl ≤ w.heap.size) (hl : n + m ≤ 17592186044415) :
    Calls Try.prog 44 #[.slice A n c, .slice B m d] w (MergeRes w (wts (mg a b))) := by
  subst hn hm
  obtain ⟨i0, hi, hz0, hz1, hz2⟩ := info_parts info_int
  go_enter Try.func44, Try.ntmps44
  go_wp2_with fail
  go_loopw [5, 6, 7] (fun v i k wr => ∃ p q : Nat, i = .int .i64 p ∧ k = .int .i64 q ∧ p ≤ a.length ∧ q ≤ b.length ∧ MergeAt w a b p q v wr) (fun _ i k _ => a.length + b.length - ((intOf i).toNat + (intOf k).toNat))
  case atStart => exact ⟨0, 0, rfl, rfl, by omega, by omega, none, 0, 0, [], rfl, World.ownsRow_nil w w.heap.size 3 1, MgAt.start a b, Below.refl _ _⟩
  case round =>
    obtain ⟨p, q, rfl, rfl, hp, hq, A1, n1, c1, out, rfl, hO, hM, hB⟩ := hrel
    have hn1 := own_len hO
    rw [intsV_length, natsI_length, hM.2.2.1] at hn1
    have HO := Lib.hid hO; clear hO
    have HB := Lib.hid hB; clear hB
    have HM := Lib.hid hM; clear hM
    have hn1' : n1 ≤ 17592186044415 := by omega
    have HN1 := Lib.hid hn1; clear hn1
    have hs := HB.out.size
    have ha' := Vs.below ha (HB.out.mono hBl)
    have hb' := Vs.below hb (HB.out.mono hBl)
    by_cases hpa : p < a.length
    · have d1 : decide (p < a.length) = true := by simpa using hpa
      obtain ⟨ad, rfl, _, hcx⟩ := Is.at_ (k := p) ha' (by rw [natsI_length]; exact hpa)
      rw [natsI_get a p hpa] at hcx
      have HL := Lib.hid (MgAt.left HM.out hpa)
      by_cases hqb : q < b.length
      · have d2 : decide (b.length ≤ q) = false := by simp; omega
        obtain ⟨be, rfl, _, hcy⟩ := Is.at_ (k := q) hb' (by rw [natsI_length]; exact hqb)
        rw [natsI_get b q hqb] at hcy
        have HR := Lib.hid (MgAt.right HM.out hqb)
        have HPX : Hid (a[p]? = some a[p]) := Lib.hid (List.getElem?_eq_getElem hpa)
        have HQY : Hid (b[q]? = some b[q]) := Lib.hid (List.getElem?_eq_getElem hqb)
        generalize a[p] = x at *
        generalize b[q] = y at *
        by_cases hxy : x ≤ y
        · have d3 : decide (x ≤ y) = true := by simpa using hxy
          have HST := Lib.hid (HL.out (fun z hz => by rw [HQY.out] at hz; injection hz with hz; omega))
          clear hxy
          go_wp2_with fail
          go_quiet (fail)
          have HOq : Hid ((wr.drewN nq).ownsRow w.heap.size 3 1 (.slice A1 n1 c1) n1 (intsV (natsI out))) := Lib.hid HO.out
          have HBq := Lib.hid (below_drewN HB.out nq)
          have HZq : Hid ((wr.drewN nq).heap.size = wr.heap.size) := Lib.hid rfl
          have hcq : (wr.drewN nq).cell? (ad.add p) = some (.int .i64 (x : Int)) := hcx
          generalize wr.drewN nq = wq at *
          have hsq : w.heap.size ≤ wq.heap.size := HBq.out.size
          go_wp2_with (at_builtin; refine wpList_append_vs _ rfl (.tmp 39) (.tmp 44) _ rfl w.heap.size 3 i0 (.int .i64 0) 8 Try.underlying22 hi hz0 hz1 hz2 rfl (.slice A1 n1 c1) n1 (intsV (natsI out)) rfl (HOq.out.alloc _) (wq.heap.size + 1) (some ⟨wq.heap.size, 0, none⟩) 1 1 [.int .i64 (x : Int)] rfl rfl (vs_lit1 wq 3 _) (by simp [Value.oneCell']) (by unfold maxLen; omega) (by omega) (by simp; omega) ?_; intro A2 c2 w2 o2 hg2 _)
          go_roundw
          case rel => exact ⟨p + 1, q, by go_num, by go_num, by omega, by omega, A2, _, c2, out ++ [x], rfl, by rw [natsI_append, intsV_append]; exact o2, HST.out, (HBq.out.alloc hsq _).grown hg2 (by simp; omega) (fun g hg => (HOq.out.lt g hg).1)⟩
          case measure => simp [intOf]; omega
        · have d3 : decide (x ≤ y) = false := by simpa using hxy
          have HST := Lib.hid (HR.out (fun z hz => by rw [HPX.out] at hz; injection hz with hz; omega))
          clear hxy
          go_wp2_with fail
          go_quiet (fail)
          have HOq : Hid ((wr.drewN nq).ownsRow w.heap.size 3 1 (.slice A1 n1 c1) n1 (intsV (natsI out))) := Lib.hid HO.out
          have HBq := Lib.hid (below_drewN HB.out nq)
          have HZq : Hid ((wr.drewN nq).heap.size = wr.heap.size) := Lib.hid rfl
          have hcq : (wr.drewN nq).cell? (be.add q) = some (.int .i64 (y : Int)) := hcy
          generalize wr.drewN nq = wq at *
          have hsq : w.heap.size ≤ wq.heap.size := HBq.out.size
          go_wp2_with (at_builtin; refine wpList_append_vs _ rfl (.tmp 48) (.tmp 53) _ rfl w.heap.size 3 i0 (.int .i64 0) 8 Try.underlying22 hi hz0 hz1 hz2 rfl (.slice A1 n1 c1) n1 (intsV (natsI out)) rfl (HOq.out.alloc _) (wq.heap.size + 1) (some ⟨wq.heap.size, 0, none⟩) 1 1 [.int .i64 (y : Int)] rfl rfl (vs_lit1 wq 3 _) (by simp [Value.oneCell']) (by unfold maxLen; omega) (by omega) (by simp; omega) ?_; intro A2 c2 w2 o2 hg2 _)
          go_roundw
          case rel => exact ⟨p, q + 1, by go_num, by go_num, by omega, by omega, A2, _, c2, out ++ [y], rfl, by rw [natsI_append, intsV_append]; exact o2, HST.out, (HBq.out.alloc hsq _).grown hg2 (by simp; omega) (fun g hg => (HOq.out.lt g hg).1)⟩
          case measure => simp [intOf]; omega
      · have d2 : decide (b.length ≤ q) = true := by simp; omega
        have HST := Lib.hid (HL.out (fun z hz => by rw [List.getElem?_eq_none (by omega)] at hz; cases hz))
        generalize a[p] = x at *
        go_wp2_with fail
        go_quiet (fail)
        have HOq : Hid ((wr.drewN nq).ownsRow w.heap.size 3 1 (.slice A1 n1 c1) n1 (intsV (natsI out))) := Lib.hid HO.out
        have HBq := Lib.hid (below_drewN HB.out nq)
        have HZq : Hid ((wr.drewN nq).heap.size = wr.heap.size) := Lib.hid rfl
        have hcq : (wr.drewN nq).cell? (ad.add p) = some (.int .i64 (x : Int)) := hcx
        generalize wr.drewN nq = wq at *
        have hsq : w.heap.size ≤ wq.heap.size := HBq.out.size
        go_wp2_with (at_builtin; refine wpList_append_vs _ rfl (.tmp 39) (.tmp 44) _ rfl w.heap.size 3 i0 (.int .i64 0) 8 Try.underlying22 hi hz0 hz1 hz2 rfl (.slice A1 n1 c1) n1 (intsV (natsI out)) rfl (HOq.out.alloc _) (wq.heap.size + 1) (some ⟨wq.heap.size, 0, none⟩) 1 1 [.int .i64 (x : Int)] rfl rfl (vs_lit1 wq 3 _) (by simp [Value.oneCell']) (by unfold maxLen; omega) (by omega) (by simp; omega) ?_; intro A2 c2 w2 o2 hg2 _)
        go_roundw
        case rel => exact ⟨p + 1, q, by go_num, by go_num, by omega, by omega, A2, _, c2, out ++ [x], rfl, by rw [natsI_append, intsV_append]; exact o2, HST.out, (HBq.out.alloc hsq _).grown hg2 (by simp; omega) (fun g hg => (HOq.out.lt g hg).1)⟩
        case measure => simp [intOf]; omega
    · have d1 : decide (p < a.length) = false := by simpa using hpa
      by_cases hqb : q < b.length
      · have d2 : decide (b.length ≤ q) = false := by simp; omega
        have d3 : decide (q < b.length) = true := by simpa using hqb
        obtain ⟨be, rfl, _, hcx⟩ := Is.at_ (k := q) hb' (by rw [natsI_length]; exact hqb)
        rw [natsI_get b q hqb] at hcx
        have HST := Lib.hid (MgAt.right HM.out hqb (fun z hz => by rw [List.getElem?_eq_none (by omega)] at hz; cases hz))
        generalize b[q] = x at *
        go_wp2_with fail
        go_quiet (fail)
        have HOq : Hid ((wr.drewN nq).ownsRow w.heap.size 3 1 (.slice A1 n1 c1) n1 (intsV (natsI out))) := Lib.hid HO.out
        have HBq := Lib.hid (below_drewN HB.out nq)
        have HZq : Hid ((wr.drewN nq).heap.size = wr.heap.size) := Lib.hid rfl
        have hcq : (wr.drewN nq).cell? (be.add q) = some (.int .i64 (x : Int)) := hcx
        generalize wr.drewN nq = wq at *
        have hsq : w.heap.size ≤ wq.heap.size := HBq.out.size
        go_wp2_with (at_builtin; refine wpList_append_vs _ rfl (.tmp 48) (.tmp 53) _ rfl w.heap.size 3 i0 (.int .i64 0) 8 Try.underlying22 hi hz0 hz1 hz2 rfl (.slice A1 n1 c1) n1 (intsV (natsI out)) rfl (HOq.out.alloc _) (wq.heap.size + 1) (some ⟨wq.heap.size, 0, none⟩) 1 1 [.int .i64 (x : Int)] rfl rfl (vs_lit1 wq 3 _) (by simp [Value.oneCell']) (by unfold maxLen; omega) (by omega) (by simp; omega) ?_; intro A2 c2 w2 o2 hg2 _)
        go_roundw
        case rel => exact ⟨p, q + 1, by go_num, by go_num, by omega, by omega, A2, _, c2, out ++ [x], rfl, by rw [natsI_append, intsV_append]; exact o2, HST.out, (HBq.out.alloc hsq _).grown hg2 (by simp; omega) (fun g hg => (HOq.out.lt g hg).1)⟩
        case measure => simp [intOf]; omega
      · have d3 : decide (q < b.length) = false := by simpa using hqb
        have HR : Hid (MergeRes w (wts (mg a b)) (.returned (.slice A1 n1 c1)) wr) := Lib.hid ⟨A1, n1, c1, rfl, by rw [← HM.out.done hpa hqb]; exact HO.out, HB.out⟩
        go_wp2_with fail
        go_ret
        exact HR.out
end Go.Proofs.Ytpolbnobnilfcaa
