/- Joined texts (a claim has at most 60 files): Sr Su. -/
import Derived.RangeFuncNested
import Derived.RangeFuncBound
import Derived.RangeFuncCalls
import Derived.RangeFuncLeaves
import Derived.RangeFuncBox
import Derived.Test.YtfbokhdimffabaaGreatDoorCo
/- A range over a function that calls its body for the places 0, 1, .. one behind the other, and whose body may leave; the values that come may hang on memory. No program is named here. -/
namespace Go.Proofs.YtfbokhdimffabaaGreatDoor
open Go.RowKit

section
variable {P : Program} {F : Fence} {n : Nat}
/-- What a round leaves: all that is no cells as it was; it goes on, or leaves by a jump. -/
def StopsOr (I : Nat → World → Prop) (Ix : Code → World → Prop) (k : Nat) (W : World) (e : Exit) (_ : Act) (W' : World) : Prop := match e with
  | .normal => KeepsOthers W W' ∧ I (k + 1) W'
  | .ret => KeepsOthers W W' ∧ Ix .ret W'
  | .exit id => KeepsOthers W W' ∧ Ix (.exit id) W'
  | .goto t => KeepsOthers W W' ∧ Ix (.goto t) W'
  | _ => False
theorem wpIn_range_stop {α : Type} {g : Operand} {ps : Array Tmp} {assign body : Code} {Q : Exit → Act → World → Prop} {a : Act} {w : World} (hro : F.round = none) (h1 : 1 ≤ n) {gf : Nat} {lb : Array Value} (hg : a.eval g = .func (.func gf) #[] lb) (hF : F.fn gf)
    (eg : ∀ args w, (callFunc gf args).run P w = .ok (.enter gf args) w) (encs : α → Array Value) (N : Nat) (I : Nat → World → Prop) (En : Nat → α → World → Prop) (Ix : Code → World → Prop)
    (hseq : ∀ (l : Nat) (R Jx : World → Prop) (W : World), (∀ A B, R A → Below A.heap.size A B → R B) →
      (∀ k x W1, k < N → I k W1 → R W1 → En k x W1 → YieldAt F (n - 1 - 1) P l (encs x) W1 fun e W' => (e = .returned (.bool true) ∧ I (k + 1) W' ∧ R W') ∨ (e = .returned (.bool false) ∧ Jx W')) → I 0 W → R W →
      CallsIn F (n - 1) P gf (#[.func (.yield l) #[] #[]] ++ lb) W fun e W' => (∃ v, e = .returned v) ∧ ((I N W' ∧ R W') ∨ Jx W'))
    (hps : ∀ x, (encs x).size = ps.size) (hIa : ∀ k W o, I k W → I k (W.alloc o)) (hIp : ∀ k W l o o', w.heap.size ≤ l → W.heap[l]? = some o → o.isCells = false → I k W → I k (W.putObj l o'))
    (hEp : ∀ k x W l o o', w.heap.size ≤ l → W.heap[l]? = some o → o.isCells = false → En k x W → En k x (W.putObj l o'))
    (hXp : ∀ c W l o o', w.heap.size ≤ l → W.heap[l]? = some o → o.isCells = false → Ix c W → Ix c (W.putObj l o'))
    (h0 : I 0 w) (a1 : α → Act)
    (hassign : ∀ (l : Nat) (x : α) (W : World) (K : Act → World → Prop), K (a1 x) W → assign.wpIn (F.inRound l) (n - 1 - 1) P (Exit.then K (fun _ _ _ => False)) { tmps := (ps.zip (encs x)).foldl (fun t (p, v) => t.setIfInBounds p v) a.tmps, defers := [] } W)
    (hbody : ∀ (l k : Nat) (x : α) (W : World), k < N → I k W → En k x W → body.wpIn (F.inRound l) (n - 1 - 1) P (StopsOr I Ix k W) (a1 x) W)
    (hdone : ∀ (D : Nat) (W : World), w.heap.size ≤ D → I N W → W.heap[D]? = some (.deferred (some [])) → Q .normal { a with defers := { target := .collected D, args := #[] } :: a.defers } W)
    (hstop : ∀ (D : Nat) (c : Code) (W : World), w.heap.size ≤ D → Ix c W → W.heap[D]? = some (.deferred (some [])) → c.wpIn F n P Q { a with defers := { target := .collected D, args := #[] } :: a.defers } W) :
    (Code.rangeFunc g ps assign body).wpIn F n P Q a w := by
  refine wpIn_rangeFunc fun fn hfn => ?_
  rw [hro]
  obtain ⟨rc, hrc⟩ : ∃ rc : LoopState → Option Code → Loop, rc = fun st pe => { state := st, pending := pe, fn, tmps := a.tmps, params := ps, assign, body, defers := w.heap.size } := ⟨_, rfl⟩
  obtain ⟨V, hV⟩ : ∃ V, (w.alloc (.deferred (some []))).alloc (.loop (rc .ready none)) = V := ⟨_, rfl⟩
  have sV : V.heap.size = w.heap.size + 2 := by rw [← hV]; simp
  have lV : V.heap[w.heap.size + 1]? = some (.loop (rc .ready none)) := by
    have := World.alloc_heap_new (w.alloc (.deferred (some []))) (.loop (rc .ready none))
    rw [World.size_alloc] at this
    rw [← hV]; exact this
  have dV : V.heap[w.heap.size]? = some (.deferred (some [])) := by
    rw [← hV]; exact (Below.heap_alloc _ _ _ (by simp)).trans (World.alloc_heap_new w _)
  have iV : I 0 V := by rw [← hV]; exact hIa _ _ _ (hIa _ _ _ h0)
  refine ⟨w.heap.size + 1, [{ target := .collected w.heap.size, args := #[] }], V, { target := .fn (.func gf) lb, args := #[.func (.yield (w.heap.size + 1)) #[] #[]] }, V, gf, #[.func (.yield (w.heap.size + 1)) #[] #[]] ++ lb, V,
    by rw [← hV, hrc]; exact run_enterLoop_outer _ _ _ _ _, by simp only [resolve, hg]; simp [go_sem], fun f' hf' => by simp [Target.leads] at hf'; subst hf'; exact hF, by simp [invoke, go_sem, eg], fun _ => h1, ?_⟩
  refine (hseq (w.heap.size + 1) (fun W => W.heap[w.heap.size + 1]? = some (.loop (rc .ready none)) ∧ W.heap[w.heap.size]? = some (.deferred (some [])))
    (fun W => ∃ c, Ix c W ∧ W.heap[w.heap.size + 1]? = some (.loop (rc .done (some c))) ∧ W.heap[w.heap.size]? = some (.deferred (some []))) V ?_ ?_ iV ⟨lV, dV⟩).mono ?_
  · rintro A B ⟨hl, hd⟩ hb
    exact ⟨(hb.block _ (Array.getElem?_eq_some_iff.1 hl).1).trans hl, (hb.block _ (Array.getElem?_eq_some_iff.1 hd).1).trans hd⟩
  · rintro k x W hk hi ⟨hl, hd⟩ hen
    have hlt : w.heap.size + 1 < W.heap.size := (Array.getElem?_eq_some_iff.1 hl).1
    have hy := run_yield (P := P) (args := encs x) hl (by rw [hrc]; exact hps x)
    rw [hrc] at hy
    have hi2 := hIp k W _ _ (.loop { rc .ready none with state := .busy }) (by omega) hl rfl hi
    have he2 := hEp k x W _ _ (.loop { rc .ready none with state := .busy }) (by omega) hl rfl hen
    have hl2 : (W.putObj (w.heap.size + 1) (.loop { rc .ready none with state := .busy })).heap[w.heap.size + 1]? = some (.loop { rc .ready none with state := .busy }) := World.putObj_heap_same hlt
    have hd2 : (W.putObj (w.heap.size + 1) (.loop { rc .ready none with state := .busy })).heap[w.heap.size]? = some (.deferred (some [])) := (World.putObj_heap_other (by omega)).trans hd
    refine ⟨fn, _, assign, body, hy, roundIn_of_wpIn hfn (hassign _ x W _ ⟨_, run_beginRound hl (by rw [hrc]), wpIn_mono (hbody _ k x _ hk hi2 he2) ?_⟩)⟩
    have fin : ∀ (jump : Option Code) (W3 : World), KeepsOthers (W.putObj (w.heap.size + 1) (.loop { rc .ready none with state := .busy })) W3 →
        (Instr.endRound (w.heap.size + 1) jump).run P W3 = .ok (.bool jump.isNone) (W3.putObj (w.heap.size + 1) (.loop (rc (if jump.isNone then .ready else .done) jump))) ∧
        W3.heap[w.heap.size + 1]? = some (.loop { rc .ready none with state := .busy }) ∧
        (W3.putObj (w.heap.size + 1) (.loop (rc (if jump.isNone then .ready else .done) jump))).heap[w.heap.size + 1]? = some (.loop (rc (if jump.isNone then .ready else .done) jump)) ∧
        (W3.putObj (w.heap.size + 1) (.loop (rc (if jump.isNone then .ready else .done) jump))).heap[w.heap.size]? = some (.deferred (some [])) := fun jump W3 hk3 => by
      have hl3 := hk3.same _ _ hl2 rfl
      have := run_endRound (P := P) jump hl3
      rw [hrc] at this ⊢
      exact ⟨this, by rw [hrc] at hl3; exact hl3, World.putObj_heap_same (Array.getElem?_eq_some_iff.1 hl3).1, (World.putObj_heap_other (by omega)).trans (hk3.same _ _ hd2 rfl)⟩
    rintro e a3 W3 hp
    cases e with
    | normal =>
      obtain ⟨hk3, hi3⟩ := hp
      obtain ⟨hr, hl3, hl4, hk4⟩ := fin none W3 hk3
      exact ⟨_, _, hr, .inl ⟨rfl, hIp _ _ _ _ _ (by omega) hl3 rfl hi3, hl4, hk4⟩⟩
    | ret =>
      obtain ⟨hk3, hi3⟩ := hp
      obtain ⟨hr, hl3, hl4, hk4⟩ := fin (some .ret) W3 hk3
      exact ⟨_, _, hr, .inr ⟨rfl, .ret, hXp _ _ _ _ _ (by omega) hl3 rfl hi3, hl4, hk4⟩⟩
    | exit id =>
      obtain ⟨hk3, hi3⟩ := hp
      obtain ⟨hr, hl3, hl4, hk4⟩ := fin (some (.exit id)) W3 hk3
      exact ⟨_, _, hr, .inr ⟨rfl, .exit id, hXp _ _ _ _ _ (by omega) hl3 rfl hi3, hl4, hk4⟩⟩
    | goto t =>
      obtain ⟨hk3, hi3⟩ := hp
      obtain ⟨hr, hl3, hl4, hk4⟩ := fin (some (.goto t)) W3 hk3
      exact ⟨_, _, hr, .inr ⟨rfl, .goto t, hXp _ _ _ _ _ (by omega) hl3 rfl hi3, hl4, hk4⟩⟩
    | panic ch => exact hp.elim
    | outgrown => exact hp.elim
  · rintro e W2 ⟨⟨v, rfl⟩, (⟨hi, hl, hd⟩ | ⟨c, hi, hl, hd⟩)⟩
    · exact ⟨none, _, by have := run_endLoop (P := P) hl (by rw [hrc]; simp); rw [hrc] at this; exact this, hdone _ _ (Nat.le_refl _) (hIp _ _ _ _ _ (by omega) hl rfl hi) ((World.putObj_heap_other (by omega)).trans hd)⟩
    · exact ⟨some c, _, by have := run_endLoop (P := P) hl (by rw [hrc]; simp); rw [hrc] at this; exact this, hstop _ c _ (Nat.le_refl _) (hXp _ _ _ _ _ (by omega) hl rfl hi) ((World.putObj_heap_other (by omega)).trans hd)⟩
end
end Go.Proofs.YtfbokhdimffabaaGreatDoor

/- As Sr, where the loop's own variable lies in a box that each round makes. No program is named here. -/
namespace Go.Proofs.YtfbokhdimffabaaGreatDoor
open Go.RowKit

section
variable {P : Program} {F : Fence} {n : Nat}
theorem wpIn_range_box {α : Type} {g : Operand} {ps : Array Tmp} {assign body : Code} {Q : Exit → Act → World → Prop} {a : Act} {w : World} (hro : F.round = none) (h1 : 1 ≤ n) {gf : Nat} {lb : Array Value} (hg : a.eval g = .func (.func gf) #[] lb) (hF : F.fn gf)
    (eg : ∀ args w, (callFunc gf args).run P w = .ok (.enter gf args) w) (encs : α → Array Value) (N : Nat) (I : Nat → World → Prop) (En : Nat → α → World → Prop) (Ix : Code → World → Prop)
    (hseq : ∀ (l : Nat) (R Jx : World → Prop) (W : World), (∀ A B, R A → Below A.heap.size A B → R B) →
      (∀ k x W1, k < N → I k W1 → R W1 → En k x W1 → YieldAt F (n - 1 - 1) P l (encs x) W1 fun e W' => (e = .returned (.bool true) ∧ I (k + 1) W' ∧ R W') ∨ (e = .returned (.bool false) ∧ Jx W')) → I 0 W → R W →
      CallsIn F (n - 1) P gf (#[.func (.yield l) #[] #[]] ++ lb) W fun e W' => (∃ v, e = .returned v) ∧ ((I N W' ∧ R W') ∨ Jx W'))
    (hps : ∀ x, (encs x).size = ps.size) (hIa : ∀ k W o, I k W → I k (W.alloc o)) (hIp : ∀ k W l o o', w.heap.size ≤ l → W.heap[l]? = some o → o.isCells = false → I k W → I k (W.putObj l o'))
    (hEp : ∀ k x W l o o', w.heap.size ≤ l → W.heap[l]? = some o → o.isCells = false → En k x W → En k x (W.putObj l o'))
    (hXp : ∀ c W l o o', w.heap.size ≤ l → W.heap[l]? = some o → o.isCells = false → Ix c W → Ix c (W.putObj l o'))
    (Ax : Nat → α → Act → World → Prop) (hAp : ∀ k x a' W l o o', w.heap.size ≤ l → W.heap[l]? = some o → o.isCells = false → Ax k x a' W → Ax k x a' (W.putObj l o')) (h0 : I 0 w)
    (hassign : ∀ (l k : Nat) (x : α) (W : World) (K : Act → World → Prop), k < N → I k W → En k x W → w.heap.size ≤ W.heap.size → (∀ a' W', KeepsOthers W W' → I k W' → En k x W' → Ax k x a' W' → K a' W') → assign.wpIn (F.inRound l) (n - 1 - 1) P (Exit.then K (fun _ _ _ => False)) { tmps := (ps.zip (encs x)).foldl (fun t (p, v) => t.setIfInBounds p v) a.tmps, defers := [] } W)
    (hbody : ∀ (l k : Nat) (x : α) (W : World) (a' : Act), k < N → I k W → En k x W → Ax k x a' W → body.wpIn (F.inRound l) (n - 1 - 1) P (StopsOr I Ix k W) a' W)
    (hdone : ∀ (D : Nat) (W : World), w.heap.size ≤ D → I N W → W.heap[D]? = some (.deferred (some [])) → Q .normal { a with defers := { target := .collected D, args := #[] } :: a.defers } W)
    (hstop : ∀ (D : Nat) (c : Code) (W : World), w.heap.size ≤ D → Ix c W → W.heap[D]? = some (.deferred (some [])) → c.wpIn F n P Q { a with defers := { target := .collected D, args := #[] } :: a.defers } W) :
    (Code.rangeFunc g ps assign body).wpIn F n P Q a w := by
  refine wpIn_rangeFunc fun fn hfn => ?_
  rw [hro]
  obtain ⟨rc, hrc⟩ : ∃ rc : LoopState → Option Code → Loop, rc = fun st pe => { state := st, pending := pe, fn, tmps := a.tmps, params := ps, assign, body, defers := w.heap.size } := ⟨_, rfl⟩
  obtain ⟨V, hV⟩ : ∃ V, (w.alloc (.deferred (some []))).alloc (.loop (rc .ready none)) = V := ⟨_, rfl⟩
  have sV : V.heap.size = w.heap.size + 2 := by rw [← hV]; simp
  have lV : V.heap[w.heap.size + 1]? = some (.loop (rc .ready none)) := by
    have := World.alloc_heap_new (w.alloc (.deferred (some []))) (.loop (rc .ready none))
    rw [World.size_alloc] at this
    rw [← hV]; exact this
  have dV : V.heap[w.heap.size]? = some (.deferred (some [])) := by
    rw [← hV]; exact (Below.heap_alloc _ _ _ (by simp)).trans (World.alloc_heap_new w _)
  have iV : I 0 V := by rw [← hV]; exact hIa _ _ _ (hIa _ _ _ h0)
  refine ⟨w.heap.size + 1, [{ target := .collected w.heap.size, args := #[] }], V, { target := .fn (.func gf) lb, args := #[.func (.yield (w.heap.size + 1)) #[] #[]] }, V, gf, #[.func (.yield (w.heap.size + 1)) #[] #[]] ++ lb, V,
    by rw [← hV, hrc]; exact run_enterLoop_outer _ _ _ _ _, by simp only [resolve, hg]; simp [go_sem], fun f' hf' => by simp [Target.leads] at hf'; subst hf'; exact hF, by simp [invoke, go_sem, eg], fun _ => h1, ?_⟩
  refine (hseq (w.heap.size + 1) (fun W => W.heap[w.heap.size + 1]? = some (.loop (rc .ready none)) ∧ W.heap[w.heap.size]? = some (.deferred (some [])))
    (fun W => ∃ c, Ix c W ∧ W.heap[w.heap.size + 1]? = some (.loop (rc .done (some c))) ∧ W.heap[w.heap.size]? = some (.deferred (some []))) V ?_ ?_ iV ⟨lV, dV⟩).mono ?_
  · rintro A B ⟨hl, hd⟩ hb
    exact ⟨(hb.block _ (Array.getElem?_eq_some_iff.1 hl).1).trans hl, (hb.block _ (Array.getElem?_eq_some_iff.1 hd).1).trans hd⟩
  · rintro k x W hk hi ⟨hl, hd⟩ hen
    have hlt : w.heap.size + 1 < W.heap.size := (Array.getElem?_eq_some_iff.1 hl).1
    have hy := run_yield (P := P) (args := encs x) hl (by rw [hrc]; exact hps x)
    rw [hrc] at hy
    refine ⟨fn, _, assign, body, hy, roundIn_of_wpIn hfn (hassign _ k x W _ hk hi hen (by omega) ?_)⟩
    clear hy
    intro a' Wa hka hia hea haa
    replace hl := hka.same _ _ hl rfl
    replace hd := hka.same _ _ hd rfl
    clear hka hi hen hlt
    revert hl hd hia hea haa
    generalize Wa = W1
    clear W
    intro hi hen haa hl hd
    obtain ⟨W, rfl⟩ : ∃ W, W = W1 := ⟨_, rfl⟩
    have hlt : w.heap.size + 1 < W.heap.size := (Array.getElem?_eq_some_iff.1 hl).1
    have hi2 := hIp k W _ _ (.loop { rc .ready none with state := .busy }) (by omega) hl rfl hi
    have he2 := hEp k x W _ _ (.loop { rc .ready none with state := .busy }) (by omega) hl rfl hen
    have ha2 := hAp k x a' W _ _ (.loop { rc .ready none with state := .busy }) (by omega) hl rfl haa
    have hl2 : (W.putObj (w.heap.size + 1) (.loop { rc .ready none with state := .busy })).heap[w.heap.size + 1]? = some (.loop { rc .ready none with state := .busy }) := World.putObj_heap_same hlt
    have hd2 : (W.putObj (w.heap.size + 1) (.loop { rc .ready none with state := .busy })).heap[w.heap.size]? = some (.deferred (some [])) := (World.putObj_heap_other (by omega)).trans hd
    refine ⟨_, run_beginRound hl (by rw [hrc]), wpIn_mono (hbody _ k x _ a' hk hi2 he2 ha2) ?_⟩
    have fin : ∀ (jump : Option Code) (W3 : World), KeepsOthers (W.putObj (w.heap.size + 1) (.loop { rc .ready none with state := .busy })) W3 →
        (Instr.endRound (w.heap.size + 1) jump).run P W3 = .ok (.bool jump.isNone) (W3.putObj (w.heap.size + 1) (.loop (rc (if jump.isNone then .ready else .done) jump))) ∧
        W3.heap[w.heap.size + 1]? = some (.loop { rc .ready none with state := .busy }) ∧
        (W3.putObj (w.heap.size + 1) (.loop (rc (if jump.isNone then .ready else .done) jump))).heap[w.heap.size + 1]? = some (.loop (rc (if jump.isNone then .ready else .done) jump)) ∧
        (W3.putObj (w.heap.size + 1) (.loop (rc (if jump.isNone then .ready else .done) jump))).heap[w.heap.size]? = some (.deferred (some [])) := fun jump W3 hk3 => by
      have hl3 := hk3.same _ _ hl2 rfl
      have := run_endRound (P := P) jump hl3
      rw [hrc] at this ⊢
      exact ⟨this, by rw [hrc] at hl3; exact hl3, World.putObj_heap_same (Array.getElem?_eq_some_iff.1 hl3).1, (World.putObj_heap_other (by omega)).trans (hk3.same _ _ hd2 rfl)⟩
    rintro e a3 W3 hp
    cases e with
    | normal =>
      obtain ⟨hk3, hi3⟩ := hp
      obtain ⟨hr, hl3, hl4, hk4⟩ := fin none W3 hk3
      exact ⟨_, _, hr, .inl ⟨rfl, hIp _ _ _ _ _ (by omega) hl3 rfl hi3, hl4, hk4⟩⟩
    | ret =>
      obtain ⟨hk3, hi3⟩ := hp
      obtain ⟨hr, hl3, hl4, hk4⟩ := fin (some .ret) W3 hk3
      exact ⟨_, _, hr, .inr ⟨rfl, .ret, hXp _ _ _ _ _ (by omega) hl3 rfl hi3, hl4, hk4⟩⟩
    | exit id =>
      obtain ⟨hk3, hi3⟩ := hp
      obtain ⟨hr, hl3, hl4, hk4⟩ := fin (some (.exit id)) W3 hk3
      exact ⟨_, _, hr, .inr ⟨rfl, .exit id, hXp _ _ _ _ _ (by omega) hl3 rfl hi3, hl4, hk4⟩⟩
    | goto t =>
      obtain ⟨hk3, hi3⟩ := hp
      obtain ⟨hr, hl3, hl4, hk4⟩ := fin (some (.goto t)) W3 hk3
      exact ⟨_, _, hr, .inr ⟨rfl, .goto t, hXp _ _ _ _ _ (by omega) hl3 rfl hi3, hl4, hk4⟩⟩
    | panic ch => exact hp.elim
    | outgrown => exact hp.elim
  · rintro e W2 ⟨⟨v, rfl⟩, (⟨hi, hl, hd⟩ | ⟨c, hi, hl, hd⟩)⟩
    · exact ⟨none, _, by have := run_endLoop (P := P) hl (by rw [hrc]; simp); rw [hrc] at this; exact this, hdone _ _ (Nat.le_refl _) (hIp _ _ _ _ _ (by omega) hl rfl hi) ((World.putObj_heap_other (by omega)).trans hd)⟩
    · exact ⟨some c, _, by have := run_endLoop (P := P) hl (by rw [hrc]; simp); rw [hrc] at this; exact this, hstop _ c _ (Nat.le_refl _) (hXp _ _ _ _ _ (by omega) hl rfl hi) ((World.putObj_heap_other (by omega)).trans hd)⟩
/-- The same, where each round lays one box, for the loop's first variable. -/
theorem wpIn_range_box1 {α : Type} {g : Operand} {ps : Array Tmp} {assign body : Code} {Q : Exit → Act → World → Prop} {a : Act} {w : World} (hro : F.round = none) (h1 : 1 ≤ n) {gf : Nat} {lb : Array Value} (hg : a.eval g = .func (.func gf) #[] lb) (hF : F.fn gf)
    (eg : ∀ args w, (callFunc gf args).run P w = .ok (.enter gf args) w) (encs : α → Array Value) (N : Nat) (I : Nat → World → Prop) (En : Nat → α → World → Prop) (Ix : Code → World → Prop)
    (hseq : ∀ (l : Nat) (R Jx : World → Prop) (W : World), (∀ A B, R A → Below A.heap.size A B → R B) →
      (∀ k x W1, k < N → I k W1 → R W1 → En k x W1 → YieldAt F (n - 1 - 1) P l (encs x) W1 fun e W' => (e = .returned (.bool true) ∧ I (k + 1) W' ∧ R W') ∨ (e = .returned (.bool false) ∧ Jx W')) → I 0 W → R W →
      CallsIn F (n - 1) P gf (#[.func (.yield l) #[] #[]] ++ lb) W fun e W' => (∃ v, e = .returned v) ∧ ((I N W' ∧ R W') ∨ Jx W'))
    (hps : ∀ x, (encs x).size = ps.size) (hIa : ∀ k W o, I k W → I k (W.alloc o)) (hIp : ∀ k W l o o', w.heap.size ≤ l → W.heap[l]? = some o → o.isCells = false → I k W → I k (W.putObj l o'))
    (hEa : ∀ k x W o, En k x W → En k x (W.alloc o)) (hEp : ∀ k x W l o o', w.heap.size ≤ l → W.heap[l]? = some o → o.isCells = false → En k x W → En k x (W.putObj l o'))
    (hXp : ∀ c W l o o', w.heap.size ≤ l → W.heap[l]? = some o → o.isCells = false → Ix c W → Ix c (W.putObj l o')) (h0 : I 0 w)
    (hIs : ∀ k W, I k W → w.heap.size ≤ W.heap.size) (tb : TypeId) (bc : α → Array Value) (Fa : Nat → α → Act)
    (hassign : ∀ (l : Nat) (x : α) (W : World) (Bx : Nat) (K : Act → World → Prop), W.heap.size = Bx → K (Fa Bx x) (W.alloc (.cells (bc x) tb)) → assign.wpIn (F.inRound l) (n - 1 - 1) P (Exit.then K (fun _ _ _ => False)) { tmps := (ps.zip (encs x)).foldl (fun t (p, v) => t.setIfInBounds p v) a.tmps, defers := [] } W)
    (hbody : ∀ (l k : Nat) (x : α) (W : World) (Bx : Nat), k < N → I k W → En k x W → w.heap.size ≤ Bx → Blk W Bx tb (bc x) → body.wpIn (F.inRound l) (n - 1 - 1) P (StopsOr I Ix k W) (Fa Bx x) W)
    (hdone : ∀ (D : Nat) (W : World), w.heap.size ≤ D → I N W → W.heap[D]? = some (.deferred (some [])) → Q .normal { a with defers := { target := .collected D, args := #[] } :: a.defers } W)
    (hstop : ∀ (D : Nat) (c : Code) (W : World), w.heap.size ≤ D → Ix c W → W.heap[D]? = some (.deferred (some [])) → c.wpIn F n P Q { a with defers := { target := .collected D, args := #[] } :: a.defers } W) :
    (Code.rangeFunc g ps assign body).wpIn F n P Q a w := by
  refine wpIn_range_box hro h1 hg hF eg encs N I En Ix hseq hps hIa hIp hEp hXp (fun _ x a' V => ∃ Bx, w.heap.size ≤ Bx ∧ Blk V Bx tb (bc x) ∧ a' = Fa Bx x) ?_ h0 ?_ ?_ hdone hstop
  · rintro k x a' V ll o o' hll ho hoc ⟨Bx, h1, h2, h3⟩
    refine ⟨Bx, h1, ?_, h3⟩
    have hne : ll ≠ Bx := by
      rintro rfl
      unfold Blk at h2
      rw [ho] at h2
      injection h2 with h2
      subst h2
      cases hoc
    unfold Blk at h2 ⊢
    exact (World.putObj_heap_other (Ne.symm hne)).trans h2
  · intro l k x W K hk hi he hW hK
    exact hassign l x W _ K rfl (hK _ _ (KeepsOthers.alloc _ _) (hIa _ _ _ hi) (hEa _ _ _ _ he) ⟨_, hIs _ _ hi, Blk.new _ _ _, rfl⟩)
  · rintro l k x W a' hk hi he ⟨Bx, hb, hbl, rfl⟩
    exact hbody l k x W Bx hk hi he hb hbl
end
end Go.Proofs.YtfbokhdimffabaaGreatDoor
