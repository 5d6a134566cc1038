/- The pixel at a place: the program's way and the document's. -/
import Derived.Test.YtnfjeeflcfmpbaaGreatDoorQg
namespace Go.Proofs.YtnfjeeflcfmpbaaGreatDoor
open Go.ChangeShapes Go.WideShapes Go.ChangeAt Go.RowKit

theorem goodB_nat {W H : Int} {n : Nat} (h : goodB W H n = true) : ∃ w h : Nat, W = (w : Int) ∧ H = (h : Int) ∧ n = 4 * (w * h) ∧ w * h ≤ 65536 ∧ 1 ≤ w ∧ w ≤ 4096 ∧ 1 ≤ h ∧ h ≤ 4096 := by
  simp only [goodB, Bool.and_eq_true, decide_eq_true_eq] at h
  obtain ⟨h1, h2⟩ := h
  obtain ⟨a1, a2, a3, a4, a5⟩ := mayB_bd h1
  obtain ⟨a, rfl⟩ : ∃ a : Nat, W = (a : Int) := ⟨W.toNat, by omega⟩
  obtain ⟨b, rfl⟩ : ∃ b : Nat, H = (b : Int) := ⟨H.toNat, by omega⟩
  rw [four_mul, ← Int.natCast_mul] at h2
  rw [← Int.natCast_mul] at a5
  exact ⟨a, b, rfl, rfl, by omega, by omega, by omega, by omega, by omega, by omega⟩
/-- The pixel at a place, or the zero colour. -/
def atOk (W H : Int) (n : Nat) (x y : Int) : Bool := goodB W H n && inB x y 1 1 W H
def atPx (W H : Int) (l : List Int) (x y : Int) : Col := if atOk W H l.length x y = true then pxAt l (4 * (y.toNat * W.toNat + x.toNat)) else col0
/-- A slice of samples: its room is enough. -/
theorem two_boxes (W H : Int) (A : Option Addr) (n c : Nat) (w : World) : ∃ W1, (w.alloc (.cells #[.int .i64 W, .int .i64 H, .slice A n c] 26)).alloc (.cells #[.int .u16 0, .int .u16 0, .int .u16 0, .int .u16 0] 49) = W1 ∧
    IB W1 w.heap.size (.int .i64 W) (.int .i64 H) (.slice A n c) ∧ CB W1 (w.heap.size + 1) col0 ∧ Below w.heap.size w W1 := by
  obtain ⟨h1, _, h2, h3⟩ := boxes2 w #[.int .i64 W, .int .i64 H, .slice A n c] #[.int .u16 0, .int .u16 0, .int .u16 0, .int .u16 0] 26 49
  exact ⟨_, rfl, IB.of h2, CB.of h3, h1⟩
/-- A colour's box that is written over. -/
theorem CB.put {w : World} {g : Nat} {x : Col} (h : CB w g x) (y : Col) (B : Nat) (hB : B ≤ g) : CB ((((w.setCell ⟨g, 0, none⟩ (.int .u16 y.r)).setCell ⟨g, 1, none⟩ (.int .u16 y.g)).setCell ⟨g, 2, none⟩ (.int .u16 y.b)).setCell ⟨g, 3, none⟩ (.int .u16 y.a)) g y ∧
    Below B w ((((w.setCell ⟨g, 0, none⟩ (.int .u16 y.r)).setCell ⟨g, 1, none⟩ (.int .u16 y.g)).setCell ⟨g, 2, none⟩ (.int .u16 y.b)).setCell ⟨g, 3, none⟩ (.int .u16 y.a)) :=
  ⟨CB.of (set4 h.blk _ _ _ _), (set4_upd w g _ _ _ _).below (by have := h.blk.lt; omega) (fun k hk e => by omega)⟩
theorem IB.call {w w' : World} {g : Nat} {x y z : Value} (h : IB w g x y z) (hb : Below w.heap.size w w') : IB w' g x y z := IB.of (h.blk.upd (Upd.of_fresh hb) id)
theorem CB.call {w w' : World} {g : Nat} {x : Col} (h : CB w g x) (hb : Below w.heap.size w w') : CB w' g x := CB.of (h.blk.upd (Upd.of_fresh hb) id)
end Go.Proofs.YtnfjeeflcfmpbaaGreatDoor
