/- Contract of the document's sorted: a rising list of the same numbers. -/
import Derived.Test.YtpolbnobnilfcaaRd
namespace Go.Proofs.Ytpolbnobnilfcaa
open Go.ChangeShapes Go.WideShapes Go.ChangeAt Go.RowKit

theorem info_int : (Try.prog.info? 3).map (fun i => (i.zero, i.size, i.bytes)) = some (some (.int .i64 0), 1, 8) := by kernel_rfl
theorem below_drewN {B : Nat} {w w' : World} (h : Below B w w') (n : Nat) : Below B w (w'.drewN n) := ⟨h.os, h.tape, h.output, h.size, h.block⟩
/-- x stands at its place among the sorted, but for the greater ones behind it. -/
structure Ins (l : List Int) (i : Nat) (x : Int) (L : List Int) (k : Nat) : Prop where
  ex : ∃ pre mid post : List Int, L = pre ++ x :: (mid ++ post) ∧ pre.length = k ∧ k + mid.length = i ∧ (pre ++ mid).Pairwise (· ≤ ·) ∧ (∀ z ∈ mid, x < z)
  perm : L.Perm l
theorem Ins.start {l L : List Int} {i : Nat} (hp : L.Perm l) (hi : i < L.length) (hs : (L.take i).Pairwise (· ≤ ·)) : Ins l i L[i] L i :=
  ⟨⟨L.take i, [], L.drop (i + 1), by rw [List.nil_append, ← List.drop_eq_getElem_cons hi, List.take_append_drop], by rw [List.length_take]; omega, by simp, by simpa using hs, by simp⟩, hp⟩
theorem Ins.len {l L : List Int} {i k : Nat} {x : Int} (h : Ins l i x L k) : k ≤ i ∧ i < L.length := by
  obtain ⟨⟨pre, mid, post, rfl, h1, h2, _, _⟩, _⟩ := h
  simp; omega
theorem Ins.at_ {l L : List Int} {i k : Nat} {x : Int} (h : Ins l i x L k) : L[k]? = some x := by
  obtain ⟨⟨pre, mid, post, rfl, h1, h2, _, _⟩, _⟩ := h
  rw [← h1]; simp
theorem Ins.step {l L : List Int} {i k : Nat} {x y : Int} (h : Ins l i x L (k + 1)) (hy : L[k]? = some y) (hxy : x < y) : Ins l i x ((L.set (k + 1) y).set k x) k := by
  obtain ⟨⟨pre, mid, post, rfl, h1, h2, h3, h4⟩, hp⟩ := h
  obtain ⟨pr, z, rfl⟩ : ∃ pr z, pre = pr ++ [z] := by
    rcases List.eq_nil_or_concat pre with rfl | ⟨pr, z, rfl⟩
    · simp at h1
    · exact ⟨pr, z, by simp⟩
  have hk : pr.length = k := by simp at h1; omega
  have hz : z = y := by
    rw [← hk] at hy
    simp at hy
    exact hy
  subst hz
  have e : ((pr ++ [z] ++ x :: (mid ++ post)).set (k + 1) z).set k x = pr ++ x :: ((z :: mid) ++ post) := by
    rw [← hk]
    simp
  rw [e]
  refine ⟨⟨pr, z :: mid, post, rfl, hk, by simp; omega, by simpa using h3, ?_⟩, ?_⟩
  · intro q hq
    rcases List.mem_cons.mp hq with rfl | hq
    · exact hxy
    · exact h4 q hq
  · refine List.Perm.trans ?_ hp
    simp only [List.append_assoc, List.cons_append, List.nil_append]
    exact List.Perm.append_left pr (List.Perm.swap z x _)
theorem Ins.done0 {l L : List Int} {i : Nat} {x : Int} (h : Ins l i x L 0) : L.Perm l ∧ (L.take (i + 1)).Pairwise (· ≤ ·) := by
  obtain ⟨⟨pre, mid, post, rfl, h1, h2, h3, h4⟩, hp⟩ := h
  obtain rfl : pre = [] := List.eq_nil_of_length_eq_zero h1
  refine ⟨hp, ?_⟩
  have e : ([] ++ x :: (mid ++ post)).take (i + 1) = x :: mid := by
    simp only [List.nil_append, List.take_succ_cons]
    rw [show i = mid.length from by omega, List.take_left]
  rw [e, List.pairwise_cons]
  exact ⟨fun z hz => by have := h4 z hz; omega, by simpa using h3⟩
theorem Ins.done {l L : List Int} {i k : Nat} {x y : Int} (h : Ins l i x L (k + 1)) (hy : L[k]? = some y) (hxy : ¬ x < y) : L.Perm l ∧ (L.take (i + 1)).Pairwise (· ≤ ·) := by
  obtain ⟨⟨pre, mid, post, rfl, h1, h2, h3, h4⟩, hp⟩ := h
  obtain ⟨pr, z, rfl⟩ : ∃ pr z, pre = pr ++ [z] := by
    rcases List.eq_nil_or_concat pre with rfl | ⟨pr, z, rfl⟩
    · simp at h1
    · exact ⟨pr, z, by simp⟩
  have hk : pr.length = k := by simp at h1; omega
  have hz : z = y := by
    rw [← hk] at hy
    simp at hy
    exact hy
  subst hz
  refine ⟨hp, ?_⟩
  have e : (pr ++ [z] ++ x :: (mid ++ post)).take (i + 1) = pr ++ [z] ++ x :: mid := by
    have e1 : (pr ++ [z] ++ x :: mid).length = i + 1 := by simp; omega
    rw [← e1, show pr ++ [z] ++ x :: (mid ++ post) = (pr ++ [z] ++ x :: mid) ++ post from by simp, List.take_left]
  rw [e]
  have h5 := List.pairwise_append.mp h3
  have h6 := List.pairwise_append.mp h5.1
  refine List.pairwise_append.mpr ⟨h5.1, List.pairwise_cons.mpr ⟨fun q hq => by have := h4 q hq; omega, h5.2.1⟩, fun p hp q hq => ?_⟩
  have hpz : p ≤ z := by
    rcases List.mem_append.mp hp with h | h
    · exact h6.2.2 p h z (by simp)
    · simp at h; omega
  rcases List.mem_cons.mp hq with rfl | hq
  · omega
  · have := h4 q hq; omega

def SortRes (w : World) (l : List Int) (e : Ending) (w' : World) : Prop :=
  ∃ A' c' L, e = .returned (.slice A' l.length c') ∧ w'.ownsRow w.heap.size 3 1 (.slice A' l.length c') l.length (intsV L) ∧ L.Perm l ∧ L.Pairwise (· ≤ ·) ∧ Below w.heap.size w w'
def SortAt (w : World) (A : Option Addr) (c : Nat) (l : List Int) (i : Nat) (wr : World) : Prop :=
  ∃ L, wr.ownsRow w.heap.size 3 1 (.slice A l.length c) l.length (intsV L) ∧ L.Perm l ∧ (L.take i).Pairwise (· ≤ ·) ∧ Below w.heap.size w wr
def SortIn (w : World) (A : Option Addr) (c : Nat) (l : List Int) (i : Nat) (x : Int) (k : Nat) (wr : World) : Prop :=
  ∃ L, wr.ownsRow w.heap.size 3 1 (.slice A l.length c) l.length (intsV L) ∧ Ins l i x L k ∧ Below w.heap.size w wr

set_option maxHeartbeats 2000000 in
set_option maxRecDepth 100000 in
theorem refSorted_any (A : Option Addr) (c : Nat) (l : List Int) (w : World) (hbs : Is w w.heap.size A l) (hl : l.length ≤ 17592186044416) :
    Calls Try.prog 43 #[.slice A l.length c] w (SortRes w l) := by
  obtain ⟨i0, hi, hz0, hz1, hz2⟩ := info_parts info_int
  go_enter Try.func43, Try.ntmps43
  go_wp2_with (at_builtin; refine wpList_append_vs _ rfl (.tmp 7) (.tmp 8) _ rfl w.heap.size 3 i0 (.int .i64 0) 8 Try.underlying22 hi hz0 hz1 hz2 rfl (.slice (some ⟨w.heap.size, 0, none⟩) 0 0) 0 [] rfl (World.ownsRow_made w #[] 0 (Nat.le_refl _) (by omega) rfl) w.heap.size A l.length c (intsV l) (intsV_length l) rfl (Vs.alloc hbs (Nat.le_refl _) _) (intsV_one l) (by unfold maxLen; omega) (by omega) (by simp) ?_; intro A1 c1 w1 o1 hg1 _; simp only [Nat.zero_add, List.nil_append] at o1 ⊢)
  have hb1 := ((Below.refl w.heap.size w).alloc (Nat.le_refl _) (.cells #[] 3)).grown hg1 (by simp) (by simp [Value.ownBlock])
  have O1 := Lib.hid o1; clear o1 hg1
  have HB1 := Lib.hid hb1; clear hb1
  go_loopw [4] (fun i wr => ∃ n : Nat, 1 ≤ n ∧ n ≤ l.length + 1 ∧ i = .int .i64 n ∧ SortAt w A1 c1 l n wr) (fun i _ => l.length + 1 - (intOf i).toNat)
  case atStart => exact ⟨1, by omega, by omega, rfl, l, O1.out, List.Perm.refl _, by cases l <;> simp, HB1.out⟩
  case round =>
    obtain ⟨n, hn1, hn2, rfl, L, hO, hP, hS, hB⟩ := hrel
    have HO := Lib.hid hO; clear hO
    have HB := Lib.hid hB; clear hB
    have hLl : L.length = l.length := hP.length_eq
    by_cases hlt : n < l.length
    · obtain ⟨g, hA1, hc1, hm1, hg1, hg2⟩ := row_form HO.out (by omega)
      subst hA1
      have HI := Lib.hid (Ins.start (i := n) hP (by omega) hS)
      generalize L[n] = x at *
      clear hP hS hLl
      go_wp2_with fail
      obtain ⟨wo, hwo⟩ : ∃ wo : World, wo = wr := ⟨_, rfl⟩
      subst hwo
      go_loopw [5] (fun i wr => ∃ k : Nat, k ≤ n ∧ i = .int .i64 k ∧ SortIn w (some ⟨g, 0, none⟩) c1 l n x k wr) (fun i _ => (intOf i).toNat)
      case atStart => exact ⟨n, by omega, rfl, L, HO.out, HI.out, HB.out⟩
      case round =>
        obtain ⟨k, hk, rfl, L2, hO2, hI2, hB2⟩ := hrel
        have HO2 := Lib.hid hO2; clear hO2
        have HB2 := Lib.hid hB2; clear hB2
        have hL2 : L2.length = l.length := hI2.perm.length_eq
        have HI2 := Lib.hid hI2; clear hI2
        rcases Nat.eq_zero_or_pos k with hk0 | hk0
        · subst hk0
          obtain ⟨hp3, hs3⟩ := HI2.out.done0
          have HD := Lib.hid (And.intro hp3 hs3); clear hp3 hs3
          go_wp2_with fail
          go_quiet (fail)
          go_wp2_with fail
          go_roundw
          case rel => exact ⟨n + 1, by omega, by omega, by go_num, L2, HO2.out, HD.out.1, HD.out.2, below_drewN HB2.out _⟩
          case measure => simp [intOf]; omega
        · obtain ⟨m, rfl⟩ : ∃ m, k = m + 1 := ⟨k - 1, by omega⟩
          have d1 : decide ((0 : Int) < ((m + 1 : Nat) : Int)) = true := by simp
          have e1 : (((m + 1 : Nat) : Int)) = (m : Int) + 1 := by omega
          have hcx : wr.cell? ⟨g, m + 1, none⟩ = some (.int .i64 x) := by
            have h1 := HI2.out.at_
            obtain ⟨h2, h3⟩ := List.getElem?_eq_some_iff.mp h1
            rw [row_at HO2.out (m + 1) (by omega), h3]
          have hcy : wr.cell? ⟨g, m, none⟩ = some (.int .i64 L2[m]) := row_at HO2.out m (by omega)
          have hy2 : L2[m]? = some L2[m] := List.getElem?_eq_getElem (by omega)
          generalize L2[m] = y at *
          have HY := Lib.hid hy2; clear hy2
          have hf0 := HO2.out.frozenAt m
          have hf1 := HO2.out.frozenAt (m + 1)
          by_cases hxy : x < y
          · have d2 : decide (x < y) = true := by simp; omega
            have HN := Lib.hid (HI2.out.step HY.out hxy)
            have HR := Lib.hid (row_set (row_set HO2.out (m + 1) y) m x)
            clear hxy
            go_wp2_with fail
            go_quiet (fail)
            go_wp2_with fail
            go_roundw
            case rel => exact ⟨m, by omega, rfl, _, HR.out, HN.out, ((below_drewN HB2.out nq).setCell (p := ⟨g, m + 1, none⟩) (by simp; omega) _).setCell (p := ⟨g, m, none⟩) (by simp; omega) _⟩
            case measure => simp [intOf]
          · have d2 : decide (x < y) = false := by simp; omega
            have HN := Lib.hid (HI2.out.done HY.out hxy)
            clear hxy
            go_wp2_with fail
            go_quiet (fail)
            go_wp2_with fail
            go_roundw
            case rel => exact ⟨n + 1, by omega, by omega, by go_num, L2, HO2.out, HN.out.1, HN.out.2, below_drewN HB2.out _⟩
            case measure => simp [intOf]; omega
    · have HR : Hid (SortRes w l (.returned (.slice A1 l.length c1)) wr) := Lib.hid ⟨A1, c1, L, rfl, HO.out, hP, by have h := hS; rwa [List.take_of_length_le (by omega)] at h, HB.out⟩
      go_wp2_with fail
      go_ret
      exact HR.out
end Go.Proofs.Ytpolbnobnilfcaa
