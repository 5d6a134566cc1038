/- Paste, the program's: a row of cells copied to its place; what a grid holds behind it. -/
import Derived.Test.YtfjnlbjlapbilaaGe
import Derived.Test.YtfjnlbjlapbilaaGs
import Derived.Test.YtfjnlbjlapbilaaTl
import Derived.Laws.CopyOwn
namespace Go.Proofs.Ytfjnlbjlapbilaa
open Go.ChangeShapes Go.WideShapes Go.ChangeAt Go.RowKit

section
variable {P : Program} {w w' : World} {ops : Array Oper} {rest : List Oper} {o : Oper} {a : Act} {Q : Exit → Act → World → Prop}
/-- copy as a step of the walk, its outcome given as an equation. -/
theorem wpList_copy_run (hgd : o.guard = none) (d s : Operand) (t : TypeId) (ho : o.op = .call { callee := .builtin .copy, args := #[d, s], argTypes := #[t, t] }) {v1 v2 v : Value} (hd : a.eval d = v1) (hs : a.eval s = v2)
    (hrun : (Builtin.copy_ #[t, t] o.type #[v1, v2]).run P w = .ok v w') (h : wpList P ops Q rest (a.put o.dst v) w') : wpList P ops Q (o :: rest) a w := by
  refine wpList_plain hgd fun K hK => ?_
  unfold Oper.wp execOp
  simp only [ho, resolve, invoke, builtin, Sem.run_bind, Sem.run_pure, Result.andThen_ok, List.map_toArray, List.map_cons, List.map_nil, hd, hs, hrun]
  exact hK _ _ h
end
theorem take_splice (cur cs : List Value) (F n : Nat) (h : F + cs.length ≤ n) (hn : n ≤ cur.length) : (cur.take F ++ cs ++ cur.drop (F + cs.length)).take n = splice (cur.take n) F cs := by
  unfold splice
  have e1 : (cur.take n).take F = cur.take F := by rw [List.take_take, Nat.min_eq_left (by omega)]
  have e2 : (cur.take n).drop (F + cs.length) = (cur.drop (F + cs.length)).take (n - (F + cs.length)) := by rw [List.drop_take]
  rw [e1, e2, List.append_assoc, List.take_append, List.take_append, List.length_take, Nat.min_eq_left (by omega)]
  rw [List.take_of_length_le (l := cur.take F) (by rw [List.length_take]; omega), List.take_of_length_le (l := cs) (by omega), Nat.sub_sub]
theorem setRow_upd (w : World) (g : Nat) (cs : Array Value) : Upd (· = g) w (w.setRow g cs) :=
  ⟨rfl, rfl, rfl, by simp [World.setRow], fun k _ hS => setRow_other w g k cs hS⟩
theorem info_int_size : (Try.prog.info? 3).map (·.size) = some 1 := by kernel_rfl
/-- A run of cells copied into a grid. -/
theorem copy_part {w : World} {base : Nat} {tg : TypeId} {g r c W H : Nat} {xs : List Value} (htg : 3 ≠ tg) (h : GridAt w base tg 3 g r c W H xs) (F P dc sc : Nat) (ad : Addr) (cs : List Value) (hn : cs.length = P)
    (hsrc : ∀ j v, cs[j]? = some v → w.cell? (ad.add j) = some v) (hfit : F + P ≤ W * H) (h1 : ∀ v ∈ cs, v.oneCell' = true) (ty : TypeId) :
    ∃ w', (Builtin.copy_ #[22, 22] ty #[.slice (some ⟨r, F, none⟩) P dc, .slice (some ad) P sc]).run Try.prog w = .ok (.int .i64 (P : Int)) w' ∧ GridAt w' base tg 3 g r c W H (splice xs F cs) ∧ Upd (· = r) w w' := by
  subst hn
  have hne := own_blk_ne h.row h.blk htg
  have hgr : ¬ g = r := fun e => hne (by subst e; rfl)
  rcases h.row.2 with ⟨h0, _⟩ | ⟨r', cap, cur, he, hb, hg, hnc, hm, hs, ht⟩
  · cases h0
  · injection he with he _ he2
    injection he with he
    injection he with he
    subst he he2
    have hcl : W * H ≤ cur.toList.length := by rw [Array.length_toList]; omega
    have hfit2 : F + cs.length ≤ cur.size := by rw [Array.length_toList] at hcl; omega
    have hrun := run_copy_row (P := Try.prog) w 22 22 ty 3 r F cs.length dc ad cs.length sc cur 3 cs Try.underlying22 info_int_size hg (by simp) hsrc hfit2 h1
    have hu := setRow_upd w r (cur.toList.take F ++ cs ++ cur.toList.drop (F + cs.length)).toArray
    refine ⟨_, hrun, ⟨h.blk.upd hu hgr, ⟨?_, .inr ⟨r, c, _, rfl, hb, setRow_heap w r _ _ _ _ hg, hnc, hm, ?_, ?_⟩⟩, h.fresh, h.w1, h.w2, h.h1, h.h2, h.few⟩, hu⟩
    · rw [length_splice _ _ _ (by rw [h.len]; exact hfit), h.len]; omega
    · rw [List.size_toArray, List.length_append, List.length_append, List.length_take, List.length_drop, Array.length_toList]; omega
    · rw [List.toList_toArray, take_splice _ _ _ _ (by omega) (by omega), ht]
/-- A list with others laid over it from a place on. -/
def spL (L : List Int) (F : Nat) (cs : List Int) : List Int := L.take F ++ (cs ++ L.drop (F + cs.length))
theorem splice_ints (L : List Int) (F : Nat) (cs : List Int) : splice (intsV L) F (intsV cs) = intsV (spL L F cs) := by
  simp [splice, spL, intsV, List.map_take, List.map_drop]
theorem spL_length (L : List Int) (F : Nat) (cs : List Int) (h : F + cs.length ≤ L.length) : (spL L F cs).length = L.length := by simp [spL]; omega
theorem spL_nil (L : List Int) (F : Nat) : spL L F [] = L := by simp [spL]
theorem spL_same (L : List Int) (F n : Nat) (h : F + n ≤ L.length) : spL L F ((L.drop F).take n) = L := by
  unfold spL
  rw [List.length_take, List.length_drop, Nat.min_eq_left (by omega), ← List.drop_drop, List.take_append_drop, List.take_append_drop]
theorem spL_snoc (L : List Int) (F : Nat) (cs : List Int) (v : Int) (h : F + cs.length < L.length) : (spL L F cs).set (F + cs.length) v = spL L F (cs ++ [v]) := by
  unfold spL
  have h1 : (L.take F).length = F := by rw [List.length_take]; omega
  rw [List.set_append_right _ _ (by rw [h1]; omega), h1, Nat.add_sub_cancel_left, List.set_append_right _ _ (Nat.le_refl _), Nat.sub_self]
  rw [List.drop_eq_getElem_cons h, List.set_cons_zero]
  simp [Nat.add_assoc]
/-- The first k rows of m (of width P) laid in at (X, Y). -/
def pasteL (l : List Int) (W X Y : Nat) (m : List Int) (P : Nat) : Nat → List Int
  | 0 => l
  | k + 1 => spL (pasteL l W X Y m P k) ((Y + k) * W + X) ((m.drop (k * P)).take P)
theorem pasteL_length {l m : List Int} {W H X Y P Q : Nat} (hl : l.length = W * H) (hm : m.length = P * Q) (hx : X + P ≤ W) (hy : Y + Q ≤ H) : ∀ k, k ≤ Q → (pasteL l W X Y m P k).length = W * H
  | 0, _ => hl
  | k + 1, hk => by
    have ih := pasteL_length hl hm hx hy k (by omega)
    have hp := place_lt (W := W) (H := H) (X := X) (Y := Y + k) (n := P) hx (by omega)
    have hq := place_lt (W := P) (H := Q) (X := 0) (Y := k) (n := P) (by omega) (by omega)
    rw [pasteL, spL_length _ _ _ (by rw [List.length_take, List.length_drop, hm, ih]; omega), ih]
theorem pasteL_self {l : List Int} {W H : Nat} (hl : l.length = W * H) : ∀ k, k ≤ H → pasteL l W 0 0 l W k = l
  | 0, _ => rfl
  | k + 1, hk => by
    have hp := place_lt (W := W) (H := H) (X := 0) (Y := k) (n := W) (by omega) (by omega)
    rw [pasteL, pasteL_self hl k (by omega), Nat.zero_add, Nat.add_zero]
    exact spL_same l (k * W) W (by rw [hl]; omega)
end Go.Proofs.Ytfjnlbjlapbilaa
