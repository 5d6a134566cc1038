/- Joined texts (a claim has at most 60 files): Sw Qp. -/
import Derived.Test.YtfbokhdimffabaaGreatDoorSu
import Derived.RangeFuncWrites
import Derived.Test.YtfbokhdimffabaaGreatDoorRo
/- A range over a function, place by place, each round laying a box for the loop's first variable, whose body may write to whatever lay there before the range (a map, say). No program is named here. -/
namespace Go.Proofs.YtfbokhdimffabaaGreatDoor
open Go.RowKit

/-- What a round leaves: all that is no cells, from block B on, as it was; it goes on, or leaves by a jump. -/
def StopsFrom (B : Nat) (I : Nat → World → Prop) (Ix : Code → World → Prop) (k : Nat) (W : World) (e : Exit) (_ : Act) (W' : World) : Prop := match e with
  | .normal => KeepsFrom B W W' ∧ I (k + 1) W'
  | .ret => KeepsFrom B W W' ∧ Ix .ret W'
  | .exit id => KeepsFrom B W W' ∧ Ix (.exit id) W'
  | .goto t => KeepsFrom B W W' ∧ Ix (.goto t) W'
  | _ => False
section
variable {P : Program} {F : Fence} {n : Nat}
theorem wpIn_range_boxw {α : Type} {g : Operand} {ps : Array Tmp} {assign body : Code} {Q : Exit → Act → World → Prop} {a : Act} {w : World} (hro : F.round = none) (h1 : 1 ≤ n) {gf : Nat} {lb : Array Value} (hg : a.eval g = .func (.func gf) #[] lb) (hF : F.fn gf)
    (eg : ∀ args w, (callFunc gf args).run P w = .ok (.enter gf args) w) (encs : α → Array Value) (N : Nat) (I : Nat → World → Prop) (En : Nat → α → World → Prop) (Ix : Code → World → Prop)
    (hseq : ∀ (l : Nat) (R Jx : World → Prop) (W : World), (∀ A B, R A → Below A.heap.size A B → R B) →
      (∀ k x W1, k < N → I k W1 → R W1 → En k x W1 → YieldAt F (n - 1 - 1) P l (encs x) W1 fun e W' => (e = .returned (.bool true) ∧ I (k + 1) W' ∧ R W') ∨ (e = .returned (.bool false) ∧ Jx W')) → I 0 W → R W →
      CallsIn F (n - 1) P gf (#[.func (.yield l) #[] #[]] ++ lb) W fun e W' => (∃ v, e = .returned v) ∧ ((I N W' ∧ R W') ∨ Jx W'))
    (hps : ∀ x, (encs x).size = ps.size) (hIa : ∀ k W o, I k W → I k (W.alloc o)) (hIp : ∀ k W l o o', w.heap.size ≤ l → W.heap[l]? = some o → o.isCells = false → I k W → I k (W.putObj l o'))
    (hEp : ∀ k x W l o o', w.heap.size ≤ l → W.heap[l]? = some o → o.isCells = false → En k x W → En k x (W.putObj l o'))
    (hXp : ∀ c W l o o', w.heap.size ≤ l → W.heap[l]? = some o → o.isCells = false → Ix c W → Ix c (W.putObj l o'))
    (Ax : Nat → α → Act → World → Prop) (hAp : ∀ k x a' W l o o', w.heap.size ≤ l → W.heap[l]? = some o → o.isCells = false → Ax k x a' W → Ax k x a' (W.putObj l o')) (h0 : I 0 w)
    (hassign : ∀ (l k : Nat) (x : α) (W : World) (K : Act → World → Prop), k < N → I k W → En k x W → w.heap.size ≤ W.heap.size → (∀ a' W', KeepsOthers W W' → I k W' → En k x W' → Ax k x a' W' → K a' W') → assign.wpIn (F.inRound l) (n - 1 - 1) P (Exit.then K (fun _ _ _ => False)) { tmps := (ps.zip (encs x)).foldl (fun t (p, v) => t.setIfInBounds p v) a.tmps, defers := [] } W)
    (hbody : ∀ (l k : Nat) (x : α) (W : World) (a' : Act), k < N → I k W → En k x W → Ax k x a' W → body.wpIn (F.inRound l) (n - 1 - 1) P (StopsFrom w.heap.size I Ix k W) a' W)
    (hdone : ∀ (D : Nat) (W : World), w.heap.size ≤ D → I N W → W.heap[D]? = some (.deferred (some [])) → Q .normal { a with defers := { target := .collected D, args := #[] } :: a.defers } W)
    (hstop : ∀ (D : Nat) (c : Code) (W : World), w.heap.size ≤ D → Ix c W → W.heap[D]? = some (.deferred (some [])) → c.wpIn F n P Q { a with defers := { target := .collected D, args := #[] } :: a.defers } W) :
    (Code.rangeFunc g ps assign body).wpIn F n P Q a w := by
  refine wpIn_rangeFunc fun fn hfn => ?_
  rw [hro]
  obtain ⟨rc, hrc⟩ : ∃ rc : LoopState → Option Code → Loop, rc = fun st pe => { state := st, pending := pe, fn, tmps := a.tmps, params := ps, assign, body, defers := w.heap.size } := ⟨_, rfl⟩
  obtain ⟨V, hV⟩ : ∃ V, (w.alloc (.deferred (some []))).alloc (.loop (rc .ready none)) = V := ⟨_, rfl⟩
  have sV : V.heap.size = w.heap.size + 2 := by rw [← hV]; simp
  have lV : V.heap[w.heap.size + 1]? = some (.loop (rc .ready none)) := by
    have := World.alloc_heap_new (w.alloc (.deferred (some []))) (.loop (rc .ready none))
    rw [World.size_alloc] at this
    rw [← hV]; exact this
  have dV : V.heap[w.heap.size]? = some (.deferred (some [])) := by
    rw [← hV]; exact (Below.heap_alloc _ _ _ (by simp)).trans (World.alloc_heap_new w _)
  have iV : I 0 V := by rw [← hV]; exact hIa _ _ _ (hIa _ _ _ h0)
  refine ⟨w.heap.size + 1, [{ target := .collected w.heap.size, args := #[] }], V, { target := .fn (.func gf) lb, args := #[.func (.yield (w.heap.size + 1)) #[] #[]] }, V, gf, #[.func (.yield (w.heap.size + 1)) #[] #[]] ++ lb, V,
    by rw [← hV, hrc]; exact run_enterLoop_outer _ _ _ _ _, by simp only [resolve, hg]; simp [go_sem], fun f' hf' => by simp [Target.leads] at hf'; subst hf'; exact hF, by simp [invoke, go_sem, eg], fun _ => h1, ?_⟩
  refine (hseq (w.heap.size + 1) (fun W => W.heap[w.heap.size + 1]? = some (.loop (rc .ready none)) ∧ W.heap[w.heap.size]? = some (.deferred (some [])))
    (fun W => ∃ c, Ix c W ∧ W.heap[w.heap.size + 1]? = some (.loop (rc .done (some c))) ∧ W.heap[w.heap.size]? = some (.deferred (some []))) V ?_ ?_ iV ⟨lV, dV⟩).mono ?_
  · rintro A B ⟨hl, hd⟩ hb
    exact ⟨(hb.block _ (Array.getElem?_eq_some_iff.1 hl).1).trans hl, (hb.block _ (Array.getElem?_eq_some_iff.1 hd).1).trans hd⟩
  · rintro k x W hk hi ⟨hl, hd⟩ hen
    have hlt : w.heap.size + 1 < W.heap.size := (Array.getElem?_eq_some_iff.1 hl).1
    have hy := run_yield (P := P) (args := encs x) hl (by rw [hrc]; exact hps x)
    rw [hrc] at hy
    refine ⟨fn, _, assign, body, hy, roundIn_of_wpIn hfn (hassign _ k x W _ hk hi hen (by omega) ?_)⟩
    clear hy
    intro a' Wa hka hia hea haa
    replace hl := hka.same _ _ hl rfl
    replace hd := hka.same _ _ hd rfl
    clear hka hi hen hlt
    revert hl hd hia hea haa
    generalize Wa = W1
    clear W
    intro hi hen haa hl hd
    obtain ⟨W, rfl⟩ : ∃ W, W = W1 := ⟨_, rfl⟩
    have hlt : w.heap.size + 1 < W.heap.size := (Array.getElem?_eq_some_iff.1 hl).1
    have hi2 := hIp k W _ _ (.loop { rc .ready none with state := .busy }) (by omega) hl rfl hi
    have he2 := hEp k x W _ _ (.loop { rc .ready none with state := .busy }) (by omega) hl rfl hen
    have ha2 := hAp k x a' W _ _ (.loop { rc .ready none with state := .busy }) (by omega) hl rfl haa
    have hl2 : (W.putObj (w.heap.size + 1) (.loop { rc .ready none with state := .busy })).heap[w.heap.size + 1]? = some (.loop { rc .ready none with state := .busy }) := World.putObj_heap_same hlt
    have hd2 : (W.putObj (w.heap.size + 1) (.loop { rc .ready none with state := .busy })).heap[w.heap.size]? = some (.deferred (some [])) := (World.putObj_heap_other (by omega)).trans hd
    refine ⟨_, run_beginRound hl (by rw [hrc]), wpIn_mono (hbody _ k x _ a' hk hi2 he2 ha2) ?_⟩
    have fin : ∀ (jump : Option Code) (W3 : World), KeepsFrom w.heap.size (W.putObj (w.heap.size + 1) (.loop { rc .ready none with state := .busy })) W3 →
        (Instr.endRound (w.heap.size + 1) jump).run P W3 = .ok (.bool jump.isNone) (W3.putObj (w.heap.size + 1) (.loop (rc (if jump.isNone then .ready else .done) jump))) ∧
        W3.heap[w.heap.size + 1]? = some (.loop { rc .ready none with state := .busy }) ∧
        (W3.putObj (w.heap.size + 1) (.loop (rc (if jump.isNone then .ready else .done) jump))).heap[w.heap.size + 1]? = some (.loop (rc (if jump.isNone then .ready else .done) jump)) ∧
        (W3.putObj (w.heap.size + 1) (.loop (rc (if jump.isNone then .ready else .done) jump))).heap[w.heap.size]? = some (.deferred (some [])) := fun jump W3 hk3 => by
      have hl3 := hk3.same _ _ (by omega) hl2 rfl
      have := run_endRound (P := P) jump hl3
      rw [hrc] at this ⊢
      exact ⟨this, by rw [hrc] at hl3; exact hl3, World.putObj_heap_same (Array.getElem?_eq_some_iff.1 hl3).1, (World.putObj_heap_other (by omega)).trans (hk3.same _ _ (Nat.le_refl _) hd2 rfl)⟩
    rintro e a3 W3 hp
    cases e with
    | normal =>
      obtain ⟨hk3, hi3⟩ := hp
      obtain ⟨hr, hl3, hl4, hk4⟩ := fin none W3 hk3
      exact ⟨_, _, hr, .inl ⟨rfl, hIp _ _ _ _ _ (by omega) hl3 rfl hi3, hl4, hk4⟩⟩
    | ret =>
      obtain ⟨hk3, hi3⟩ := hp
      obtain ⟨hr, hl3, hl4, hk4⟩ := fin (some .ret) W3 hk3
      exact ⟨_, _, hr, .inr ⟨rfl, .ret, hXp _ _ _ _ _ (by omega) hl3 rfl hi3, hl4, hk4⟩⟩
    | exit id =>
      obtain ⟨hk3, hi3⟩ := hp
      obtain ⟨hr, hl3, hl4, hk4⟩ := fin (some (.exit id)) W3 hk3
      exact ⟨_, _, hr, .inr ⟨rfl, .exit id, hXp _ _ _ _ _ (by omega) hl3 rfl hi3, hl4, hk4⟩⟩
    | goto t =>
      obtain ⟨hk3, hi3⟩ := hp
      obtain ⟨hr, hl3, hl4, hk4⟩ := fin (some (.goto t)) W3 hk3
      exact ⟨_, _, hr, .inr ⟨rfl, .goto t, hXp _ _ _ _ _ (by omega) hl3 rfl hi3, hl4, hk4⟩⟩
    | panic ch => exact hp.elim
    | outgrown => exact hp.elim
  · rintro e W2 ⟨⟨v, rfl⟩, (⟨hi, hl, hd⟩ | ⟨c, hi, hl, hd⟩)⟩
    · exact ⟨none, _, by have := run_endLoop (P := P) hl (by rw [hrc]; simp); rw [hrc] at this; exact this, hdone _ _ (Nat.le_refl _) (hIp _ _ _ _ _ (by omega) hl rfl hi) ((World.putObj_heap_other (by omega)).trans hd)⟩
    · exact ⟨some c, _, by have := run_endLoop (P := P) hl (by rw [hrc]; simp); rw [hrc] at this; exact this, hstop _ c _ (Nat.le_refl _) (hXp _ _ _ _ _ (by omega) hl rfl hi) ((World.putObj_heap_other (by omega)).trans hd)⟩
/-- The same, where each round lays one box, for the loop's first variable. -/
theorem wpIn_range_box1w {α : Type} {g : Operand} {ps : Array Tmp} {assign body : Code} {Q : Exit → Act → World → Prop} {a : Act} {w : World} (hro : F.round = none) (h1 : 1 ≤ n) {gf : Nat} {lb : Array Value} (hg : a.eval g = .func (.func gf) #[] lb) (hF : F.fn gf)
    (eg : ∀ args w, (callFunc gf args).run P w = .ok (.enter gf args) w) (encs : α → Array Value) (N : Nat) (I : Nat → World → Prop) (En : Nat → α → World → Prop) (Ix : Code → World → Prop)
    (hseq : ∀ (l : Nat) (R Jx : World → Prop) (W : World), (∀ A B, R A → Below A.heap.size A B → R B) →
      (∀ k x W1, k < N → I k W1 → R W1 → En k x W1 → YieldAt F (n - 1 - 1) P l (encs x) W1 fun e W' => (e = .returned (.bool true) ∧ I (k + 1) W' ∧ R W') ∨ (e = .returned (.bool false) ∧ Jx W')) → I 0 W → R W →
      CallsIn F (n - 1) P gf (#[.func (.yield l) #[] #[]] ++ lb) W fun e W' => (∃ v, e = .returned v) ∧ ((I N W' ∧ R W') ∨ Jx W'))
    (hps : ∀ x, (encs x).size = ps.size) (hIa : ∀ k W o, I k W → I k (W.alloc o)) (hIp : ∀ k W l o o', w.heap.size ≤ l → W.heap[l]? = some o → o.isCells = false → I k W → I k (W.putObj l o'))
    (hEa : ∀ k x W o, En k x W → En k x (W.alloc o)) (hEp : ∀ k x W l o o', w.heap.size ≤ l → W.heap[l]? = some o → o.isCells = false → En k x W → En k x (W.putObj l o'))
    (hXp : ∀ c W l o o', w.heap.size ≤ l → W.heap[l]? = some o → o.isCells = false → Ix c W → Ix c (W.putObj l o')) (h0 : I 0 w)
    (hIs : ∀ k W, I k W → w.heap.size ≤ W.heap.size) (tb : TypeId) (bc : α → Array Value) (Fa : Nat → α → Act)
    (hassign : ∀ (l : Nat) (x : α) (W : World) (Bx : Nat) (K : Act → World → Prop), W.heap.size = Bx → K (Fa Bx x) (W.alloc (.cells (bc x) tb)) → assign.wpIn (F.inRound l) (n - 1 - 1) P (Exit.then K (fun _ _ _ => False)) { tmps := (ps.zip (encs x)).foldl (fun t (p, v) => t.setIfInBounds p v) a.tmps, defers := [] } W)
    (hbody : ∀ (l k : Nat) (x : α) (W : World) (Bx : Nat), k < N → I k W → En k x W → w.heap.size ≤ Bx → Blk W Bx tb (bc x) → body.wpIn (F.inRound l) (n - 1 - 1) P (StopsFrom w.heap.size I Ix k W) (Fa Bx x) W)
    (hdone : ∀ (D : Nat) (W : World), w.heap.size ≤ D → I N W → W.heap[D]? = some (.deferred (some [])) → Q .normal { a with defers := { target := .collected D, args := #[] } :: a.defers } W)
    (hstop : ∀ (D : Nat) (c : Code) (W : World), w.heap.size ≤ D → Ix c W → W.heap[D]? = some (.deferred (some [])) → c.wpIn F n P Q { a with defers := { target := .collected D, args := #[] } :: a.defers } W) :
    (Code.rangeFunc g ps assign body).wpIn F n P Q a w := by
  refine wpIn_range_boxw hro h1 hg hF eg encs N I En Ix hseq hps hIa hIp hEp hXp (fun _ x a' V => ∃ Bx, w.heap.size ≤ Bx ∧ Blk V Bx tb (bc x) ∧ a' = Fa Bx x) ?_ h0 ?_ ?_ hdone hstop
  · rintro k x a' V ll o o' hll ho hoc ⟨Bx, h1, h2, h3⟩
    refine ⟨Bx, h1, ?_, h3⟩
    have hne : ll ≠ Bx := by
      rintro rfl
      unfold Blk at h2
      rw [ho] at h2
      injection h2 with h2
      subst h2
      cases hoc
    unfold Blk at h2 ⊢
    exact (World.putObj_heap_other (Ne.symm hne)).trans h2
  · intro l k x W K hk hi he hW hK
    exact hassign l x W _ K rfl (hK _ _ (KeepsOthers.alloc _ _) (hIa _ _ _ hi) (hEa _ _ _ _ he) ⟨_, hIs _ _ hi, Blk.new _ _ _, rfl⟩)
  · rintro l k x W a' hk hi he ⟨Bx, hb, hbl, rfl⟩
    exact hbody l k x W Bx hk hi he hb hbl
end
end Go.Proofs.YtfbokhdimffabaaGreatDoor

/- For seats that have no rectangles and no map of colours: what raster's Qn to Qp hold of colours and rows. -/
namespace Go.Proofs.YtfbokhdimffabaaGreatDoor
open Go.ChangeShapes Go.WideShapes Go.ChangeAt Go.RowKit Go.Shelf
attribute [local go_sem] Oper.semAt_some
theorem cells_color : Tryz.prog.cellsOf 70 = 4 := by kernel_rfl
theorem cells_u16 : Tryz.prog.cellsOf 42 = 1 := by kernel_rfl
/-- A colour whose samples are samples. -/
def ColB (x : Col) : Prop := (0 ≤ x.r ∧ x.r ≤ 65535) ∧ (0 ≤ x.g ∧ x.g ≤ 65535) ∧ (0 ≤ x.b ∧ x.b ≤ 65535) ∧ (0 ≤ x.a ∧ x.a ≤ 65535)
theorem eql_col (x y : Col) (w : World) : (binOp .eql 70 (colV x) (colV y)).run Tryz.prog w = .ok (.bool (decide (x = y))) w := by
  have hd : decide (x = y) = (decide (x.r = y.r) && (decide (x.g = y.g) && (decide (x.b = y.b) && decide (x.a = y.a)))) := by
    rw [← Bool.decide_and, ← Bool.decide_and, ← Bool.decide_and]
    exact decide_eq_decide.2 ⟨fun e => by subst e; exact ⟨rfl, rfl, rfl, rfl⟩, fun ⟨h1, h2, h3, h4⟩ => Col.ext_ h1 h2 h3 h4⟩
  rw [hd]
  by_cases h1 : x.r = y.r
  · by_cases h2 : x.g = y.g
    · by_cases h3 : x.b = y.b
      · by_cases h4 : x.a = y.a
        · simp [go_sem, h1, h2, h3, h4, Tryz.underlying70]
        · simp [go_sem, h1, h2, h3, h4, Tryz.underlying70]
      · simp [go_sem, h1, h2, h3]
    · simp [go_sem, h1, h2]
  · simp [go_sem, h1]
theorem wp_extract {P : Program} {o : Oper} {a : Act} {w : World} {K : Act → World → Prop} {Q : Exit → Act → World → Prop} (t : Operand) (i : Nat) (ho : o.op = .extract t i) {vs : Array Value} (hm : a.eval t = .tuple vs) (hi : i < vs.size := by decide) (h : K (a.put o.dst vs[i]) w) : Oper.wp P o a w K Q := by
  unfold Oper.wp
  simp [execOp, ho, hm, Instr.extract, hi]
  exact h
theorem keeps_row {w w' : World} {base : Nat} {e : TypeId} {sz n : Nat} {v : Value} {xs : List Value} (h : w.ownsRow base e sz v n xs) (hg : w.grownBy w' v.ownBlock) : KeepsOthers w w' :=
  KeepsOthers.of_grownBy hg (fun j o hj ho => by
    rcases h.2 with ⟨rfl, _⟩ | ⟨g, c, u, rfl, _, a, _⟩
    · cases hj
    · have e1 : g = j := by simpa [Value.ownBlock] using hj
      subst e1
      rw [ho] at a
      injection a with a
      subst a
      rfl)
theorem cs_lit (w : World) (x : Col) : Cs (w.alloc (.cells #[.int .u16 x.r, .int .u16 x.g, .int .u16 x.b, .int .u16 x.a] 70)) (w.heap.size + 1) (some ⟨w.heap.size, 0, none⟩) [x] := fun _ => by
  refine ⟨w.heap.size, 0, rfl, by omega, fun j hj => ?_⟩
  obtain rfl : j = 0 := by simpa using hj
  have hb := CB.of (x := x) (Blk.new w 70 #[.int .u16 x.r, .int .u16 x.g, .int .u16 x.b, .int .u16 x.a])
  exact ⟨hb.c0, hb.c1, hb.c2, hb.c3⟩
theorem pxAt_bd {l : List Int} (h : ∀ v ∈ l, 0 ≤ v ∧ v ≤ 65535) (k : Nat) : ColB (pxAt l k) := by
  have q : ∀ i, 0 ≤ l.getD i 0 ∧ l.getD i 0 ≤ 65535 := fun i => by
    by_cases hi : i < l.length
    · have : l.getD i 0 = l[i] := by simp [List.getD, hi]
      rw [this]; exact h _ (List.getElem_mem hi)
    · have : l.getD i 0 = 0 := by simp [List.getD, Nat.not_lt.1 hi]
      rw [this]; omega
  exact ⟨q k, q (k + 1), q (k + 2), q (k + 3)⟩
/-- A row's room. -/
theorem row_room {w : World} {base : Nat} {e : TypeId} {s : Nat} {A : Option Addr} {n c : Nat} {xs : List Value} (h : w.ownsRow base e s (.slice A n c) n xs) : n ≤ c ∧ c ≤ maxLen := by
  rcases h.2 with ⟨h1, rfl⟩ | ⟨g, cap, cur, h1, _, _, h2, h3, _⟩
  · injection h1 with _ _ h1
    subst h1
    exact ⟨Nat.le_refl _, Nat.zero_le _⟩
  · injection h1 with _ _ h1
    subst h1
    exact ⟨h2, h3⟩
end Go.Proofs.YtfbokhdimffabaaGreatDoor
