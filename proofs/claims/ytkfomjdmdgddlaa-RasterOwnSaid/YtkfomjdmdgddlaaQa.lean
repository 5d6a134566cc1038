/- Samples as values; which sizes may be, which parts lie within, which images are good: the program's and the document's. -/
import Derived.Test.YtkfomjdmdgddlaaOp
import Derived.Test.YtkfomjdmdgddlaaAs
import Derived.Lib.Hide
import Derived.Lib.Walk
import Derived.WalkKit
import Derived.Handy
import Derived.Outline
import Derived.Lib.SliceRun
import Derived.BigQuiet
import Derived.Deep.QuietTactic
import Derived.Deep.LoopGhost
namespace Go.Proofs.Ytkfomjdmdgddlaa
open Go.ChangeShapes Go.WideShapes Go.ChangeAt Go.RowKit

theorem ret_bl {a b : Bool} (h : a = b) : Ending.returned (.bool a) = .returned (.bool b) := by rw [h]
theorem add_off (b off j : Nat) : (⟨b, off, none⟩ : Addr).add j = ⟨b, off + j, none⟩ := by unfold Addr.add; split <;> simp_all
/-- Samples, as values. -/
def usV (l : List Int) : List Value := l.map fun n => .int .u16 n
theorem usV_length (l : List Int) : (usV l).length = l.length := by simp [usV]
theorem usV_get (l : List Int) (k : Nat) (hk : k < (usV l).length) : (usV l)[k] = .int .u16 (l[k]'(by simpa [usV] using hk)) := by simp [usV]
theorem usV_one (l : List Int) : ∀ u ∈ usV l, u.oneCell' = true := by
  intro u hu
  obtain ⟨b, _, rfl⟩ := List.mem_map.mp hu
  rfl
theorem usV_append (a b : List Int) : usV (a ++ b) = usV a ++ usV b := by simp [usV]
theorem usV_set (l : List Int) (k : Nat) (n : Int) : (usV l).set k (.int .u16 n) = usV (l.set k n) := by simp [usV, List.map_set]
theorem usV_part (l : List Int) (a b : Nat) : ((usV l).drop a).take b = usV ((l.drop a).take b) := by simp [usV]
/-- The slice value '.slice A l.length c' reads as the samples l. -/
def Us (w : World) (B : Nat) (A : Option Addr) (l : List Int) : Prop := Vs w B A (usV l)
theorem Us.at_ {w : World} {B : Nat} {A : Option Addr} {l : List Int} {k : Nat} (h : Us w B A l) (hk : k < l.length) : ∃ ad, A = some ad ∧ ad.block < B ∧ w.cell? (ad.add k) = some (.int .u16 l[k]) := by
  obtain ⟨ad, e, hb, hc⟩ := Vs.at_ (k := k) h (by rw [usV_length]; exact hk)
  exact ⟨ad, e, hb, by rw [hc, usV_get]⟩
theorem urow_at {w : World} {base : Nat} {e : TypeId} {g n c : Nat} {l : List Int} (h : w.ownsRow base e 1 (.slice (some ⟨g, 0, none⟩) n c) n (usV l)) (k : Nat) (hk : k < l.length) : w.cell? ⟨g, k, none⟩ = some (.int .u16 l[k]) := by
  have hl := own_len h
  rw [usV_length] at hl
  rw [h.cellAt k (by omega), List.getElem?_eq_getElem (by rw [usV_length]; exact hk), usV_get]
theorem urow_set {w : World} {base : Nat} {e : TypeId} {g n c : Nat} {l : List Int} (h : w.ownsRow base e 1 (.slice (some ⟨g, 0, none⟩) n c) n (usV l)) (k : Nat) (x : Int) : (w.setCell ⟨g, k, none⟩ (.int .u16 x)).ownsRow base e 1 (.slice (some ⟨g, 0, none⟩) n c) n (usV (l.set k x)) := by
  rw [← usV_set]
  exact (h.stored k _).1
theorem info_u16 : (Try.prog.info? 28).map (fun i => (i.zero, i.size, i.bytes)) = some (some (.int .u16 0), 1, 2) := by kernel_rfl
abbrev imgV (W H : Int) (A : Option Addr) (n c : Nat) : Value := .agg #[.int .i64 W, .int .i64 H, .slice A n c]
abbrev imgC (W H : Int) (A : Option Addr) (n c : Nat) : Array Value := #[.int .i64 W, .int .i64 H, .slice A n c]

def sideB (n : Int) : Bool := decide (1 ≤ n) && decide (n ≤ 4096)
def mayB (w h : Int) : Bool := sideB w && sideB h && decide (w * h ≤ 65536)
theorem mayB_bd {x y : Int} (h : mayB x y = true) : 1 ≤ x ∧ x ≤ 4096 ∧ 1 ≤ y ∧ y ≤ 4096 ∧ x * y ≤ 65536 := by
  simp only [mayB, sideB, Bool.and_eq_true, decide_eq_true_eq] at h
  omega
theorem side_any (n : Int) (w : World) : Calls Try.prog 55 #[.int .i64 n] w fun e w' => e = .returned (.bool (sideB n)) ∧ w' = w := by
  go_enter Try.func55, Try.ntmps55
  by_cases h1 : (1 : Int) ≤ n
  · go_wp2_with fail
    go_ret
    exact ⟨ret_bl (by simp [sideB, h1]), rfl⟩
  · go_wp2_with fail
    go_ret
    exact ⟨ret_bl (by simp [sideB]; omega), rfl⟩
theorem mayBe_any (x y : Int) (w : World) : Calls Try.prog 39 #[.int .i64 x, .int .i64 y] w fun e w' => e = .returned (.bool (mayB x y)) ∧ w' = w := by
  go_enter Try.func39, Try.ntmps39
  go_wp2_with fail
  refine (side_any x w).mono ?_
  rintro e w1 ⟨rfl, rfl⟩
  cases hx : sideB x with
  | false =>
    go_wp2_with fail
    go_ret
    exact ⟨ret_bl (by simp [mayB, hx]), rfl⟩
  | true =>
    go_wp2_with fail
    refine (side_any y w1).mono ?_
    rintro e w2 ⟨rfl, rfl⟩
    cases hy : sideB y with
    | false =>
      go_wp2_with fail
      go_ret
      exact ⟨ret_bl (by simp [mayB, hx, hy]), rfl⟩
    | true =>
      have HE : Hid (mayB x y = decide (x * y ≤ 65536)) := Lib.hid (by simp [mayB, hx, hy])
      have b1 : 0 ≤ x * y ∧ x * y ≤ 16777216 := by
        simp only [sideB, Bool.and_eq_true, decide_eq_true_eq] at hx hy
        have := Int.mul_le_mul hx.2 hy.2 (by omega) (by omega)
        have := Int.mul_nonneg (show 0 ≤ x by omega) (show 0 ≤ y by omega)
        omega
      have hwr : wrap64 (x * y) = x * y := IntWalk.wrap64_in _ (by omega)
      go_wp2_with fail
      go_ret
      exact ⟨ret_bl HE.out.symm, rfl⟩
/-- Does a part lie within? -/
def inB (x y w h W H : Int) : Bool := decide (1 ≤ w) && decide (1 ≤ h) && decide (0 ≤ x) && decide (0 ≤ y) && decide (x ≤ W - w) && decide (y ≤ H - h)
theorem inB_bd {x y p q W H : Int} (h : inB x y p q W H = true) : 1 ≤ p ∧ 1 ≤ q ∧ 0 ≤ x ∧ 0 ≤ y ∧ x + p ≤ W ∧ y + q ≤ H := by
  simp only [inB, Bool.and_eq_true, decide_eq_true_eq] at h
  omega
end Go.Proofs.Ytkfomjdmdgddlaa
