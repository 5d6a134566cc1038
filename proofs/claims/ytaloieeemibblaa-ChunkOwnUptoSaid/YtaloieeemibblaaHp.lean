/- Small words for walks: blocks that are no cells, boxes, rounds of a range over a function. No program is named here. -/
import Derived.Test.YtaloieeemibblaaVs
import Derived.Test.YtaloieeemibblaaSu
import Derived.Test.YtaloieeemibblaaRo
import Derived.Shelf.Abstract
import Derived.Shelf.RegionOpen
import Derived.OwnWalkIn
import Derived.TacticsInMore
import Derived.LoopNIn
import Derived.LoopIn
set_option linter.unusedVariables false
set_option linter.unusedSimpArgs false
namespace Go.Proofs.Ytaloieeemibblaa
open Go.RowKit

theorem upd_putObj {S : Nat → Prop} (W : World) (l : Nat) (o' : Obj) (hS : S l) : Upd S W (W.putObj l o') := (Upd.of_grown (grownBy_putObj' W l o')).mono (fun k _ e => by injection e with e; subst e; exact hS)
theorem keeps_of_fresh {W W' : World} (h : Below W.heap.size W W') : KeepsOthers W W' := ⟨h.size, fun k _ hk _ => (h.block k (Array.getElem?_eq_some_iff.1 hk).1).trans hk⟩
/-- A row of cells is none of the blocks that are no cells. -/
theorem own_put {V : World} {base : Nat} {e : TypeId} {sz n : Nat} {v : Value} {xs : List Value} (h : V.ownsRow base e sz v n xs) {ll : Nat} {o : Obj} (ho : V.heap[ll]? = some o) (hoc : o.isCells = false) (o' : Obj) : (V.putObj ll o').ownsRow base e sz v n xs := by
  refine own_upd h (upd_putObj (S := (· = ll)) V ll o' rfl) (fun k hk e => ?_)
  subst e
  rcases h.2 with ⟨rfl, _⟩ | ⟨g, c, u, rfl, _, a, _⟩
  · cases hk
  · have e1 : g = k := by simpa [Value.ownBlock] using hk
    subst e1
    rw [ho] at a
    injection a with a
    subst a
    cases hoc
theorem yield_one {F : Fence} {m : Nat} {P : Program} {l : Nat} {fn : FuncId} {tmps : Array Value} {assign body : Code} {W : World} {T J : World → Prop}
    (h : RoundIn F m P l fn tmps assign body W fun e W' => (e = .returned (.bool true) ∧ T W') ∨ (e = .returned (.bool false) ∧ J W')) :
    RoundIn F m P l fn tmps assign body W fun e W' => ∃ b : Bool, e = .returned (.bool b) ∧ (b = true → T W') ∧ (b = false → J W') :=
  h.mono fun e W' hh => by
    rcases hh with ⟨rfl, h1⟩ | ⟨rfl, h1⟩
    · exact ⟨true, rfl, fun _ => h1, fun k => (by cases k)⟩
    · exact ⟨false, rfl, fun k => (by cases k), fun _ => h1⟩
theorem keeps_row {w w' : World} {base : Nat} {e : TypeId} {sz n : Nat} {v : Value} {xs : List Value} (h : w.ownsRow base e sz v n xs) (hg : w.grownBy w' v.ownBlock) : KeepsOthers w w' :=
  KeepsOthers.of_grownBy hg (fun j o hj ho => by
    rcases h.2 with ⟨rfl, _⟩ | ⟨g, c, u, rfl, _, a, _⟩
    · cases hj
    · have e1 : g = j := by simpa [Value.ownBlock] using hj
      subst e1
      rw [ho] at a
      injection a with a
      subst a
      rfl)
theorem blk_ne_obj {V : World} {b ll : Nat} {t : TypeId} {cs : Array Value} {o : Obj} (hb : Blk V b t cs) (ho : V.heap[ll]? = some o) (hoc : o.isCells = false) : ¬ b = ll := fun e => by
  subst e
  unfold Blk at hb
  rw [hb] at ho
  injection ho with ho
  subst ho
  cases hoc
theorem boxes2 (w : World) (a b : Array Value) (t u : TypeId) : Below w.heap.size w ((w.alloc (.cells a t)).alloc (.cells b u)) ∧ ((w.alloc (.cells a t)).alloc (.cells b u)).heap.size = w.heap.size + 1 + 1 ∧
    Blk ((w.alloc (.cells a t)).alloc (.cells b u)) w.heap.size t a ∧ Blk ((w.alloc (.cells a t)).alloc (.cells b u)) (w.heap.size + 1) u b := by
  have h1 := Blk.new w t a
  have h2 := Blk.new (w.alloc (.cells a t)) u b
  simp only [World.size_alloc] at h2
  exact ⟨((Below.refl _ w).alloc (Nat.le_refl _) _).alloc (by simp) _, by simp, h1.alloc _, h2⟩
theorem boxes3 (w : World) (a b c : Array Value) (t u v : TypeId) : Below w.heap.size w (((w.alloc (.cells a t)).alloc (.cells b u)).alloc (.cells c v)) ∧ (((w.alloc (.cells a t)).alloc (.cells b u)).alloc (.cells c v)).heap.size = w.heap.size + 1 + 1 + 1 ∧
    Blk (((w.alloc (.cells a t)).alloc (.cells b u)).alloc (.cells c v)) w.heap.size t a ∧ Blk (((w.alloc (.cells a t)).alloc (.cells b u)).alloc (.cells c v)) (w.heap.size + 1) u b ∧ Blk (((w.alloc (.cells a t)).alloc (.cells b u)).alloc (.cells c v)) (w.heap.size + 1 + 1) v c := by
  have h1 := Blk.new w t a
  have h2 := Blk.new (w.alloc (.cells a t)) u b
  have h3 := Blk.new ((w.alloc (.cells a t)).alloc (.cells b u)) v c
  simp only [World.size_alloc] at h2 h3
  exact ⟨(((Below.refl _ w).alloc (Nat.le_refl _) _).alloc (by simp) _).alloc (by simp; omega) _, by simp, (h1.alloc _).alloc _, h2.alloc _, h3⟩
theorem own_low {w : World} {base b : Nat} {e : TypeId} {s n : Nat} {v : Value} {xs : List Value} (h : w.ownsRow base e s v n xs) (hb : b ≤ base) : w.ownsRow b e s v n xs := by
  obtain ⟨q1, q2⟩ := h
  refine ⟨q1, ?_⟩
  rcases q2 with q | ⟨g', cap, cur, q1, q2, q3⟩
  · exact .inl q
  · exact .inr ⟨g', cap, cur, q1, by omega, q3⟩
theorem of_drew {B : Nat} {w w' : World} (h : Below B w.drew w') : Below B w w' := ⟨h.os, h.tape, h.output, h.size, h.block⟩
theorem of_drewN {B : Nat} {w w' : World} {n : Nat} (h : Below B (w.drewN n) w') : Below B w w' := ⟨h.os, h.tape, h.output, h.size, h.block⟩
theorem wp_append_run {P : Program} {o : Oper} {a : Act} {w w' : World} {K : Act → World → Prop} {Q : Exit → Act → World → Prop} (s x : Operand) (t : TypeId) (ho : o.op = .call { callee := .builtin .append, args := #[s, x], argTypes := #[t, t] }) {v1 v2 v : Value} (hs : a.eval s = v1) (hx : a.eval x = v2)
    (hrun : (Builtin.append_ #[t, t] o.type #[v1, v2]).run P w = .ok v w') (h : K (a.put o.dst v) w') : Oper.wp P o a w K Q := by
  unfold Oper.wp execOp
  simp only [ho, resolve, invoke, builtin, Sem.run_bind, Sem.run_pure, Result.andThen_ok, List.map_toArray, List.map_cons, List.map_nil, hs, hx, hrun]
  exact h
theorem bs_piece {w : World} {B : Nat} {ad : Addr} {lb : List UInt8} (h : Bs w B (some ad) lb) (j R : Nat) (hj : j ≤ lb.length) : Bs w B (some (ad.add j)) ((lb.drop j).take R) := by
  have := (h.drop (k := j) (cap := lb.length + 1) hj (by omega)).take R
  rw [if_neg (by omega)] at this
  exact this
end Go.Proofs.Ytaloieeemibblaa
