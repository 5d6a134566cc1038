/- Joined texts (a claim has at most 60 files): Hp St Qt. -/
import Derived.Test.YtfbokhdimffabaaGreatDoorAs
import Derived.Test.YtfbokhdimffabaaGreatDoorSu
import Derived.Test.YtfbokhdimffabaaGreatDoorRo
import Derived.Shelf.Abstract
import Derived.Shelf.RegionOpen
import Derived.OwnWalkIn
import Derived.TacticsInMore
import Derived.LoopNIn
import Derived.LoopIn
import Derived.RangeFuncNested
import Derived.RangeFuncBound
import Derived.RangeFuncCalls
import Derived.RangeFuncLeaves
import Derived.RangeFuncBox
import Derived.Test.YtfbokhdimffabaaGreatDoorCo
/- Small words for walks: blocks that are no cells, boxes, rounds of a range over a function. No program is named here. -/
set_option linter.unusedVariables false
set_option linter.unusedSimpArgs false
namespace Go.Proofs.YtfbokhdimffabaaGreatDoor
open Go.RowKit

/-- A row of cells is none of the blocks that are no cells. -/
theorem keeps_row {w w' : World} {base : Nat} {e : TypeId} {sz n : Nat} {v : Value} {xs : List Value} (h : w.ownsRow base e sz v n xs) (hg : w.grownBy w' v.ownBlock) : KeepsOthers w w' :=
  KeepsOthers.of_grownBy hg (fun j o hj ho => by
    rcases h.2 with ⟨rfl, _⟩ | ⟨g, c, u, rfl, _, a, _⟩
    · cases hj
    · have e1 : g = j := by simpa [Value.ownBlock] using hj
      subst e1
      rw [ho] at a
      injection a with a
      subst a
      rfl)
theorem blk_ne_obj {V : World} {b ll : Nat} {t : TypeId} {cs : Array Value} {o : Obj} (hb : Blk V b t cs) (ho : V.heap[ll]? = some o) (hoc : o.isCells = false) : ¬ b = ll := fun e => by
  subst e
  unfold Blk at hb
  rw [hb] at ho
  injection ho with ho
  subst ho
  cases hoc
theorem of_drew {B : Nat} {w w' : World} (h : Below B w.drew w') : Below B w w' := ⟨h.os, h.tape, h.output, h.size, h.block⟩
theorem of_drewN {B : Nat} {w w' : World} {n : Nat} (h : Below B (w.drewN n) w') : Below B w w' := ⟨h.os, h.tape, h.output, h.size, h.block⟩
theorem wp_append_run {P : Program} {o : Oper} {a : Act} {w w' : World} {K : Act → World → Prop} {Q : Exit → Act → World → Prop} (s x : Operand) (t : TypeId) (ho : o.op = .call { callee := .builtin .append, args := #[s, x], argTypes := #[t, t] }) {v1 v2 v : Value} (hs : a.eval s = v1) (hx : a.eval x = v2)
    (hrun : (Builtin.append_ #[t, t] o.type #[v1, v2]).run P w = .ok v w') (h : K (a.put o.dst v) w') : Oper.wp P o a w K Q := by
  unfold Oper.wp execOp
  simp only [ho, resolve, invoke, builtin, Sem.run_bind, Sem.run_pure, Result.andThen_ok, List.map_toArray, List.map_cons, List.map_nil, hs, hx, hrun]
  exact h
theorem bs_piece {w : World} {B : Nat} {ad : Addr} {lb : List UInt8} (h : Bs w B (some ad) lb) (j R : Nat) (hj : j ≤ lb.length) : Bs w B (some (ad.add j)) ((lb.drop j).take R) := by
  have := (h.drop (k := j) (cap := lb.length + 1) hj (by omega)).take R
  rw [if_neg (by omega)] at this
  exact this
end Go.Proofs.YtfbokhdimffabaaGreatDoor

/- A range over a function that may write memory which lay there before between two rounds; what stands ahead of a round and behind it are told apart; the body may leave. No program is named here. -/
namespace Go.Proofs.YtfbokhdimffabaaGreatDoor
open Go.RowKit

section
variable {P : Program} {F : Fence} {n : Nat}
/-- What a round leaves: all that is no cells as it was; it goes on, or leaves by a jump. -/
def StopsPP (Post : World → Prop) (Ix : Code → World → Prop) (W : World) (e : Exit) (_ : Act) (W' : World) : Prop := match e with
  | .normal => KeepsOthers W W' ∧ Post W'
  | .ret => KeepsOthers W W' ∧ Ix .ret W'
  | .exit id => KeepsOthers W W' ∧ Ix (.exit id) W'
  | .goto t => KeepsOthers W W' ∧ Ix (.goto t) W'
  | _ => False
theorem wpIn_range_pp {α : Type} {g : Operand} {ps : Array Tmp} {assign body : Code} {Q : Exit → Act → World → Prop} {a : Act} {w : World} (hro : F.round = none) (h1 : 1 ≤ n) {gf : Nat} {lb : Array Value} (hg : a.eval g = .func (.func gf) #[] lb) (hF : F.fn gf)
    (eg : ∀ args w, (callFunc gf args).run P w = .ok (.enter gf args) w) (encs : α → Array Value) (Ini Fin : World → Prop) (Pre Post : α → World → Prop) (Ix : Code → World → Prop)
    (hseq : ∀ (l : Nat) (R Jx : World → Prop) (W : World), (∀ A B, R A → KeepsOthers A B → R B) →
      (∀ x W1, R W1 → Pre x W1 → YieldAt F (n - 1 - 1) P l (encs x) W1 fun e W' => (e = .returned (.bool true) ∧ Post x W' ∧ R W') ∨ (e = .returned (.bool false) ∧ Jx W')) → Ini W → R W →
      CallsIn F (n - 1) P gf (#[.func (.yield l) #[] #[]] ++ lb) W fun e W' => (∃ v, e = .returned v) ∧ ((Fin W' ∧ R W') ∨ Jx W'))
    (hps : ∀ x, (encs x).size = ps.size) (hIa : ∀ W o, Ini W → Ini (W.alloc o)) (hFp : ∀ W l o o', w.heap.size ≤ l → W.heap[l]? = some o → o.isCells = false → Fin W → Fin (W.putObj l o'))
    (hEp : ∀ x W l o o', w.heap.size ≤ l → W.heap[l]? = some o → o.isCells = false → Pre x W → Pre x (W.putObj l o')) (hPp : ∀ x W l o o', w.heap.size ≤ l → W.heap[l]? = some o → o.isCells = false → Post x W → Post x (W.putObj l o'))
    (hXp : ∀ c W l o o', w.heap.size ≤ l → W.heap[l]? = some o → o.isCells = false → Ix c W → Ix c (W.putObj l o'))
    (h0 : Ini w) (a1 : α → Act)
    (hassign : ∀ (l : Nat) (x : α) (W : World) (K : Act → World → Prop), K (a1 x) W → assign.wpIn (F.inRound l) (n - 1 - 1) P (Exit.then K (fun _ _ _ => False)) { tmps := (ps.zip (encs x)).foldl (fun t (p, v) => t.setIfInBounds p v) a.tmps, defers := [] } W)
    (hbody : ∀ (l : Nat) (x : α) (W : World), Pre x W → body.wpIn (F.inRound l) (n - 1 - 1) P (StopsPP (Post x) Ix W) (a1 x) W)
    (hdone : ∀ (D : Nat) (W : World), w.heap.size ≤ D → Fin W → W.heap[D]? = some (.deferred (some [])) → Q .normal { a with defers := { target := .collected D, args := #[] } :: a.defers } W)
    (hstop : ∀ (D : Nat) (c : Code) (W : World), w.heap.size ≤ D → Ix c W → W.heap[D]? = some (.deferred (some [])) → c.wpIn F n P Q { a with defers := { target := .collected D, args := #[] } :: a.defers } W) :
    (Code.rangeFunc g ps assign body).wpIn F n P Q a w := by
  refine wpIn_rangeFunc fun fn hfn => ?_
  rw [hro]
  obtain ⟨rc, hrc⟩ : ∃ rc : LoopState → Option Code → Loop, rc = fun st pe => { state := st, pending := pe, fn, tmps := a.tmps, params := ps, assign, body, defers := w.heap.size } := ⟨_, rfl⟩
  obtain ⟨V, hV⟩ : ∃ V, (w.alloc (.deferred (some []))).alloc (.loop (rc .ready none)) = V := ⟨_, rfl⟩
  have sV : V.heap.size = w.heap.size + 2 := by rw [← hV]; simp
  have lV : V.heap[w.heap.size + 1]? = some (.loop (rc .ready none)) := by
    have := World.alloc_heap_new (w.alloc (.deferred (some []))) (.loop (rc .ready none))
    rw [World.size_alloc] at this
    rw [← hV]; exact this
  have dV : V.heap[w.heap.size]? = some (.deferred (some [])) := by
    rw [← hV]; exact (Below.heap_alloc _ _ _ (by simp)).trans (World.alloc_heap_new w _)
  have iV : Ini V := by rw [← hV]; exact hIa _ _ (hIa _ _ h0)
  refine ⟨w.heap.size + 1, [{ target := .collected w.heap.size, args := #[] }], V, { target := .fn (.func gf) lb, args := #[.func (.yield (w.heap.size + 1)) #[] #[]] }, V, gf, #[.func (.yield (w.heap.size + 1)) #[] #[]] ++ lb, V,
    by rw [← hV, hrc]; exact run_enterLoop_outer _ _ _ _ _, by simp only [resolve, hg]; simp [go_sem], fun f' hf' => by simp [Target.leads] at hf'; subst hf'; exact hF, by simp [invoke, go_sem, eg], fun _ => h1, ?_⟩
  refine (hseq (w.heap.size + 1) (fun W => W.heap[w.heap.size + 1]? = some (.loop (rc .ready none)) ∧ W.heap[w.heap.size]? = some (.deferred (some [])))
    (fun W => ∃ c, Ix c W ∧ W.heap[w.heap.size + 1]? = some (.loop (rc .done (some c))) ∧ W.heap[w.heap.size]? = some (.deferred (some []))) V ?_ ?_ iV ⟨lV, dV⟩).mono ?_
  · rintro A B ⟨hl, hd⟩ hb
    exact ⟨hb.same _ _ hl rfl, hb.same _ _ hd rfl⟩
  · rintro x W ⟨hl, hd⟩ hen
    have hlt : w.heap.size + 1 < W.heap.size := (Array.getElem?_eq_some_iff.1 hl).1
    have hy := run_yield (P := P) (args := encs x) hl (by rw [hrc]; exact hps x)
    rw [hrc] at hy
    have he2 := hEp x W _ _ (.loop { rc .ready none with state := .busy }) (by omega) hl rfl hen
    have hl2 : (W.putObj (w.heap.size + 1) (.loop { rc .ready none with state := .busy })).heap[w.heap.size + 1]? = some (.loop { rc .ready none with state := .busy }) := World.putObj_heap_same hlt
    have hd2 : (W.putObj (w.heap.size + 1) (.loop { rc .ready none with state := .busy })).heap[w.heap.size]? = some (.deferred (some [])) := (World.putObj_heap_other (by omega)).trans hd
    refine ⟨fn, _, assign, body, hy, roundIn_of_wpIn hfn (hassign _ x W _ ⟨_, run_beginRound hl (by rw [hrc]), wpIn_mono (hbody _ x _ he2) ?_⟩)⟩
    have fin : ∀ (jump : Option Code) (W3 : World), KeepsOthers (W.putObj (w.heap.size + 1) (.loop { rc .ready none with state := .busy })) W3 →
        (Instr.endRound (w.heap.size + 1) jump).run P W3 = .ok (.bool jump.isNone) (W3.putObj (w.heap.size + 1) (.loop (rc (if jump.isNone then .ready else .done) jump))) ∧
        W3.heap[w.heap.size + 1]? = some (.loop { rc .ready none with state := .busy }) ∧
        (W3.putObj (w.heap.size + 1) (.loop (rc (if jump.isNone then .ready else .done) jump))).heap[w.heap.size + 1]? = some (.loop (rc (if jump.isNone then .ready else .done) jump)) ∧
        (W3.putObj (w.heap.size + 1) (.loop (rc (if jump.isNone then .ready else .done) jump))).heap[w.heap.size]? = some (.deferred (some [])) := fun jump W3 hk3 => by
      have hl3 := hk3.same _ _ hl2 rfl
      have := run_endRound (P := P) jump hl3
      rw [hrc] at this ⊢
      exact ⟨this, by rw [hrc] at hl3; exact hl3, World.putObj_heap_same (Array.getElem?_eq_some_iff.1 hl3).1, (World.putObj_heap_other (by omega)).trans (hk3.same _ _ hd2 rfl)⟩
    rintro e a3 W3 hp
    cases e with
    | normal =>
      obtain ⟨hk3, hi3⟩ := hp
      obtain ⟨hr, hl3, hl4, hk4⟩ := fin none W3 hk3
      exact ⟨_, _, hr, .inl ⟨rfl, hPp x _ _ _ _ (by omega) hl3 rfl hi3, hl4, hk4⟩⟩
    | ret =>
      obtain ⟨hk3, hi3⟩ := hp
      obtain ⟨hr, hl3, hl4, hk4⟩ := fin (some .ret) W3 hk3
      exact ⟨_, _, hr, .inr ⟨rfl, .ret, hXp _ _ _ _ _ (by omega) hl3 rfl hi3, hl4, hk4⟩⟩
    | exit id =>
      obtain ⟨hk3, hi3⟩ := hp
      obtain ⟨hr, hl3, hl4, hk4⟩ := fin (some (.exit id)) W3 hk3
      exact ⟨_, _, hr, .inr ⟨rfl, .exit id, hXp _ _ _ _ _ (by omega) hl3 rfl hi3, hl4, hk4⟩⟩
    | goto t =>
      obtain ⟨hk3, hi3⟩ := hp
      obtain ⟨hr, hl3, hl4, hk4⟩ := fin (some (.goto t)) W3 hk3
      exact ⟨_, _, hr, .inr ⟨rfl, .goto t, hXp _ _ _ _ _ (by omega) hl3 rfl hi3, hl4, hk4⟩⟩
    | panic ch => exact hp.elim
    | outgrown => exact hp.elim
  · rintro e W2 ⟨⟨v, rfl⟩, (⟨hi, hl, hd⟩ | ⟨c, hi, hl, hd⟩)⟩
    · exact ⟨none, _, by have := run_endLoop (P := P) hl (by rw [hrc]; simp); rw [hrc] at this; exact this, hdone _ _ (Nat.le_refl _) (hFp _ _ _ _ (by omega) hl rfl hi) ((World.putObj_heap_other (by omega)).trans hd)⟩
    · exact ⟨some c, _, by have := run_endLoop (P := P) hl (by rw [hrc]; simp); rw [hrc] at this; exact this, hstop _ c _ (Nat.le_refl _) (hXp _ _ _ _ _ (by omega) hl rfl hi) ((World.putObj_heap_other (by omega)).trans hd)⟩
end
end Go.Proofs.YtfbokhdimffabaaGreatDoor

/- names_of, take_px. -/
namespace Go.Proofs.YtfbokhdimffabaaGreatDoor
open Go.RowKit
/-- The worlds that a world becomes where nothing of it is changed, each by a name. -/
theorem names_of (wr : World) : ∃ (U : Type) (Wf : U → World), (∃ u, wr.drew = Wf u) ∧ (∀ u, Upd No wr (Wf u)) ∧ ∀ u w', Below (Wf u).heap.size (Wf u) w' → ∃ u', w' = Wf u' :=
  ⟨{ w' : World // Upd No wr w' }, Subtype.val, ⟨⟨wr.drew, (Upd.refl No wr).drew⟩, rfl⟩, fun u => u.2, fun u w' h => ⟨⟨w', u.2.trans (Upd.of_fresh h)⟩, rfl⟩⟩
theorem take_px (l : List Int) (F i : Nat) (h : F + 4 * i + 4 ≤ l.length) : (l.drop F).take (4 * (i + 1)) = (l.drop F).take (4 * i) ++ colQ (pxAt l (F + 4 * i)) := by
  have e : 4 * (i + 1) = 4 * i + 4 := by omega
  rw [e, List.take_add, List.drop_drop]
  congr 1
  generalize F + 4 * i = k at h
  have h0 : k < l.length := by omega
  have h1 : k + 1 < l.length := by omega
  have h2 : k + 1 + 1 < l.length := by omega
  have h3 : k + 1 + 1 + 1 < l.length := by omega
  have e4 : (l.drop k).take 4 = [l[k], l[k + 1], l[k + 1 + 1], l[k + 1 + 1 + 1]] := by
    rw [List.drop_eq_getElem_cons h0, List.drop_eq_getElem_cons h1, List.drop_eq_getElem_cons h2, List.drop_eq_getElem_cons h3]
    rfl
  rw [e4]
  have g : ∀ j (hj : j < l.length), l.getD j 0 = l[j] := fun j hj => by simp [List.getD, hj]
  unfold colQ pxAt
  dsimp only
  rw [g k h0, g (k + 1) h1, g (k + 2) h2, g (k + 3) h3]
end Go.Proofs.YtfbokhdimffabaaGreatDoor
