/- Small functions of a grid: copies of rows, sizes that may be. -/
import Derived.Test.YtfjnlbjlapbilaaOp
import Derived.Test.YtfjnlbjlapbilaaAs
import Derived.Lib.Hide
import Derived.Lib.Walk
import Derived.WalkKit
import Derived.Handy
import Derived.Outline
import Derived.Lib.SliceRun
namespace Go.Proofs.Ytfjnlbjlapbilaa
open Go.ChangeShapes Go.WideShapes Go.ChangeAt Go.RowKit

theorem ret_bl {a b : Bool} (h : a = b) : Ending.returned (.bool a) = .returned (.bool b) := by rw [h]
theorem info_int : (Try.prog.info? 3).map (fun i => (i.zero, i.size, i.bytes)) = some (some (.int .i64 0), 1, 8) := by kernel_rfl
theorem info_str : (Try.prog.info? 9).map (fun i => (i.zero, i.size, i.bytes)) = some (some (.string ⟨#[]⟩), 1, 16) := by kernel_rfl

set_option maxRecDepth 100000 in
set_option maxHeartbeats 1000000 in
theorem cloneint_n (ad : Addr) (c n : Nat) (xs : List Value) (hn : xs.length = n) (hu : ∀ u ∈ xs, u.oneCell' = true) (B : Nat) (w : World) (h : Vs w B (some ad) xs) (hB : B ≤ w.heap.size) (h0 : 0 < n) (hl : n ≤ 1048576) :
    Calls Try.prog 47 #[.slice (some ad) n c] w fun e w' => ∃ g c', e = .returned (.slice (some ⟨g, 0, none⟩) n c') ∧
      w'.ownsRow w.heap.size 3 1 (.slice (some ⟨g, 0, none⟩) n c') n xs ∧ Below w.heap.size w w' := by
  subst hn
  have q22 : ∀ (w : World) (a : Option Addr) (n c n' c' : Nat), (binOp .eql 22 (.slice a n c) (.slice none n' c')).run Try.prog w = .ok (.bool a.isNone) w := fun w a n c n' c' => Lib.run_eql_slice_nil w _ _ a n c n' c' Try.underlying22
  obtain ⟨i0, hi, hz0, hz1, hz2⟩ := info_parts info_int
  go_enter Try.func47, Try.ntmps47
  go_wp2_with (at_builtin; refine wpList_append_vs _ rfl (.tmp 5) (.tmp 6) _ rfl w.heap.size 3 i0 (.int .i64 0) 8 Try.underlying22 hi hz0 hz1 hz2 rfl (.slice (some ⟨w.heap.size, 0, none⟩) 0 0) 0 [] rfl (World.ownsRow_made w #[] 0 (Nat.le_refl _) (by omega) rfl) B (some ad) xs.length c xs rfl rfl (Vs.alloc h hB _) hu (by unfold maxLen; omega) (by omega) (by simp) ?_; intro A1 c1 w1 o1 hg1 _; simp only [Nat.zero_add, List.nil_append] at o1 ⊢)
  go_ret
  obtain ⟨g, rfl, _⟩ := row_form o1 h0
  exact ⟨g, c1, rfl, o1, ((Below.refl _ _).alloc (Nat.le_refl _) _).grown hg1 (by simp) (by simp [Value.ownBlock])⟩

set_option maxRecDepth 100000 in
set_option maxHeartbeats 1000000 in
theorem clonestr_n (ad : Addr) (c n : Nat) (xs : List Value) (hn : xs.length = n) (hu : ∀ u ∈ xs, u.oneCell' = true) (B : Nat) (w : World) (h : Vs w B (some ad) xs) (hB : B ≤ w.heap.size) (h0 : 0 < n) (hl : n ≤ 1048576) :
    Calls Try.prog 50 #[.slice (some ad) n c] w fun e w' => ∃ g c', e = .returned (.slice (some ⟨g, 0, none⟩) n c') ∧
      w'.ownsRow w.heap.size 9 1 (.slice (some ⟨g, 0, none⟩) n c') n xs ∧ Below w.heap.size w w' := by
  subst hn
  have q22 : ∀ (w : World) (a : Option Addr) (n c n' c' : Nat), (binOp .eql 60 (.slice a n c) (.slice none n' c')).run Try.prog w = .ok (.bool a.isNone) w := fun w a n c n' c' => Lib.run_eql_slice_nil w _ _ a n c n' c' Try.underlying60
  obtain ⟨i0, hi, hz0, hz1, hz2⟩ := info_parts info_str
  go_enter Try.func50, Try.ntmps50
  go_wp2_with (at_builtin; refine wpList_append_vs _ rfl (.tmp 5) (.tmp 6) _ rfl w.heap.size 9 i0 (.string ⟨#[]⟩) 16 Try.underlying60 hi hz0 hz1 hz2 rfl (.slice (some ⟨w.heap.size, 0, none⟩) 0 0) 0 [] rfl (World.ownsRow_made w #[] 0 (Nat.le_refl _) (by omega) rfl) B (some ad) xs.length c xs rfl rfl (Vs.alloc h hB _) hu (by unfold maxLen; omega) (by omega) (by simp) ?_; intro A1 c1 w1 o1 hg1 _; simp only [Nat.zero_add, List.nil_append] at o1 ⊢)
  go_ret
  obtain ⟨g, rfl, _⟩ := row_form o1 h0
  exact ⟨g, c1, rfl, o1, ((Below.refl _ _).alloc (Nat.le_refl _) _).grown hg1 (by simp) (by simp [Value.ownBlock])⟩

def sideB (n : Int) : Bool := decide (1 ≤ n) && decide (n ≤ 4096)
def mayB (w h : Int) : Bool := sideB w && sideB h && decide (w * h ≤ 65536)
theorem side_any (n : Int) (w : World) : Calls Try.prog 57 #[.int .i64 n] w fun e w' => e = .returned (.bool (sideB n)) ∧ w' = w := by
  go_enter Try.func57, Try.ntmps57
  by_cases h1 : (1 : Int) ≤ n
  · go_wp2_with fail
    go_ret
    exact ⟨ret_bl (by simp [sideB, h1]), rfl⟩
  · go_wp2_with fail
    go_ret
    exact ⟨ret_bl (by simp [sideB]; omega), rfl⟩
theorem mayBe_any (x y : Int) (w : World) : Calls Try.prog 52 #[.int .i64 x, .int .i64 y] w fun e w' => e = .returned (.bool (mayB x y)) ∧ w' = w := by
  go_enter Try.func52, Try.ntmps52
  go_wp2_with fail
  refine (side_any x w).mono ?_
  rintro e w1 ⟨rfl, rfl⟩
  cases hx : sideB x with
  | false =>
    go_wp2_with fail
    go_ret
    exact ⟨ret_bl (by simp [mayB, hx]), rfl⟩
  | true =>
    go_wp2_with fail
    refine (side_any y w1).mono ?_
    rintro e w2 ⟨rfl, rfl⟩
    cases hy : sideB y with
    | false =>
      go_wp2_with fail
      go_ret
      exact ⟨ret_bl (by simp [mayB, hx, hy]), rfl⟩
    | true =>
      have HE : Hid (mayB x y = decide (x * y ≤ 65536)) := Lib.hid (by simp [mayB, hx, hy])
      have b1 : 0 ≤ x * y ∧ x * y ≤ 16777216 := by
        simp only [sideB, Bool.and_eq_true, decide_eq_true_eq] at hx hy
        have := Int.mul_le_mul hx.2 hy.2 (by omega) (by omega)
        have := Int.mul_nonneg (show 0 ≤ x by omega) (show 0 ≤ y by omega)
        omega
      have hwr : wrap64 (x * y) = x * y := IntWalk.wrap64_in _ (by omega)
      go_wp2_with fail
      go_ret
      exact ⟨ret_bl HE.out.symm, rfl⟩
end Go.Proofs.Ytfjnlbjlapbilaa
