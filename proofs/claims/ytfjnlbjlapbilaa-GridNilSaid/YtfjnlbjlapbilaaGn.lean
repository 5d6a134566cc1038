/- A nil grid of strings. -/
import Derived.Test.YtfjnlbjlapbilaaGf
import Derived.Test.YtfjnlbjlapbilaaSq
import Derived.Shelf.Abstract
import Derived.OwnWalkIn
import Derived.TacticsInMore
import Derived.LoopNIn
import Derived.LoopIn
namespace Go.Proofs.Ytfjnlbjlapbilaa
open Go.ChangeShapes Go.WideShapes Go.ChangeAt Go.RowKit Go.Shelf
attribute [local go_sem] Oper.semAt_some

theorem wS_nil (w : World) : Calls Try.prog 26 #[.pointer none] w fun e w' => e = .returned (.int .i64 0) ∧ w' = w := by
  go_enter Try.func26, Try.ntmps26
  go_wp2_with fail
  go_ret
  exact ⟨rfl, rfl⟩
theorem hS_nil (w : World) : Calls Try.prog 27 #[.pointer none] w fun e w' => e = .returned (.int .i64 0) ∧ w' = w := by
  go_enter Try.func27, Try.ntmps27
  go_wp2_with fail
  go_ret
  exact ⟨rfl, rfl⟩
theorem cellsS_nil (w : World) : Calls Try.prog 28 #[.pointer none] w fun e w' => e = .returned (.slice none 0 0) ∧ w' = w := by
  go_enter Try.func28, Try.ntmps28
  go_wp2_with fail
  go_ret
  exact ⟨rfl, rfl⟩
set_option maxRecDepth 100000 in
theorem holdsS_nil (w : World) (x y : Int) : Calls Try.prog 53 #[.pointer none, .int .i64 x, .int .i64 y, .int .i64 1, .int .i64 1] w fun e w' => e = .returned (.bool false) ∧ Below w.heap.size w w' := by
  have HS := sizesHolds_any 0 0 x y 1 1 (by omega) (by omega) (by omega) (by omega) w
  have hi : inB x y 1 1 0 0 = false := by
    cases h : inB x y 1 1 0 0 with
    | false => rfl
    | true => have := inB_bd h; omega
  rw [hi] at HS
  have HH := Lib.hid HS
  clear HS hi
  go_enter Try.func53, Try.ntmps53
  go_wp2_with fail
  refine (wS_nil w).mono ?_
  rintro e w2 ⟨rfl, rfl⟩
  go_wp2_with fail
  refine (hS_nil w2).mono ?_
  rintro e w3 ⟨rfl, rfl⟩
  go_wp2_with fail
  refine HH.out.mono ?_
  rintro e w4 ⟨rfl, hb⟩
  go_wp2_with fail
  go_ret
  exact ⟨rfl, hb⟩
theorem atS_nil (w : World) (x y : Int) : Calls Try.prog 32 #[.pointer none, .int .i64 x, .int .i64 y] w fun e w' => e = .returned (.tuple #[.string ⟨#[]⟩, .bool false]) ∧ Below w.heap.size w w' := by
  go_enter Try.func32, Try.ntmps32
  go_wp2_with fail
  refine (holdsS_nil w x y).mono ?_
  rintro e w2 ⟨rfl, hb⟩
  go_wp2_with fail
  go_ret2
  exact ⟨rfl, hb⟩
theorem setS_nil (w : World) (x y : Int) (v : Value) : Calls Try.prog 35 #[.pointer none, .int .i64 x, .int .i64 y, v] w fun e w' => e = .returned (.bool false) ∧ Below w.heap.size w w' := by
  go_enter Try.func35, Try.ntmps35
  go_wp2_with fail
  refine (holdsS_nil w x y).mono ?_
  rintro e w2 ⟨rfl, hb⟩
  go_wp2_with fail
  go_ret
  exact ⟨rfl, hb⟩
/-- The worlds that a world becomes where nothing of it is changed, each by a name. -/
theorem names_of (wr : World) : ∃ (U : Type) (Wf : U → World), (∃ u, wr.drew = Wf u) ∧ (∀ u, Upd No wr (Wf u)) ∧ ∀ u w', Below (Wf u).heap.size (Wf u) w' → ∃ u', w' = Wf u' :=
  ⟨{ w' : World // Upd No wr w' }, Subtype.val, ⟨⟨wr.drew, (Upd.refl No wr).drew⟩, rfl⟩, fun u => u.2, fun u w' h => ⟨⟨w', u.2.trans (Upd.of_fresh h)⟩, rfl⟩⟩
theorem same_below {w w' : World} (h : w' = w) : Below w.heap.size w w' := h ▸ Below.refl _ _
theorem cropS_nil (w : World) (x y p q : Int) : Calls Try.prog 33 #[.pointer none, .int .i64 x, .int .i64 y, .int .i64 p, .int .i64 q] w fun e w' => e = .returned (.tuple #[.pointer none, .int .i64 1]) ∧ w' = w := by
  go_enter Try.func33, Try.ntmps33
  go_wp2_with fail
  go_ret2
  exact ⟨rfl, rfl⟩
theorem pasteS_nil (w : World) (x y : Int) : Calls Try.prog 36 #[.pointer none, .int .i64 x, .int .i64 y, .pointer none] w fun e w' => e = .returned (.int .i64 1) ∧ w' = w := by
  go_enter Try.func36, Try.ntmps36
  go_wp2_with fail
  go_ret
  exact ⟨rfl, rfl⟩
theorem rowsS_nil (w : World) : Calls Try.prog 34 #[.pointer none] w fun e w' => e = .returned (.func (.func 55) #[] #[.pointer (some ⟨w.heap.size, 0, none⟩)]) ∧ w' = w.alloc (.cells #[.pointer none] 56) := by
  go_enter Try.func34, Try.ntmps34
  go_wp2_with fail
  go_ret
  exact ⟨rfl, rfl⟩
set_option maxRecDepth 100000 in
theorem rowsS1_nil (F : Fence) (n : Nat) (hf : F.fn 55) (hf2 : F.fn 27) (hro : F.round = none) (hn : 1 ≤ n) (l b : Nat) (J : Nat → World → Prop) (W : World) (hB : W.cell? ⟨b, 0, none⟩ = some (.pointer none)) (h0 : J 0 W)
    (hH : ∀ W, CallsIn F (n - 1) Try.prog 27 #[.pointer none] W fun e w' => e = .returned (.int .i64 0) ∧ w' = W) :
    CallsIn F n Try.prog 55 #[.func (.yield l) #[] #[], .pointer (some ⟨b, 0, none⟩)] W fun e W' => (∃ v, e = .returned v) ∧ J 0 W' := by
  refine callsIn_of_wp Try.func55 rfl hf ?_ hro
  simp only [Try.ntmps55, List.size_toArray, List.length_cons, List.length_nil, Nat.reduceAdd, Nat.reduceSub, Array.replicate_succ, Array.replicate_zero, List.push_toArray, List.append_toArray, List.nil_append, List.cons_append]
  gi_wp2_with fail
  refine (hH W).mono ?_
  rintro e W0 ⟨rfl, rfl⟩
  gi_wp2_with fail
  gi_loopw [6] (fun i wr => i = .int .i64 0 ∧ wr = W0) (fun _ _ => 0)
  case atStart => exact ⟨rfl, rfl⟩
  case round =>
    obtain ⟨rfl, rfl⟩ := hrel
    gi_wp2_with fail
    go_end0
    exact ⟨⟨_, rfl⟩, h0⟩
end Go.Proofs.Ytfjnlbjlapbilaa
