/- Joined texts (a claim has at most 60 files): Tr Qm Ro. -/
import Derived.Test.YtfbokhdimffabaaGreatDoorTl
import Derived.OrdersIn
import Derived.Still
import Derived.TacticsIn
import Derived.RangeFuncCalls
import Derived.Test.YtfbokhdimffabaaGreatDoorCt
import Derived.Test.YtfbokhdimffabaaGreatDoorSu
import Derived.Shelf.Abstract
import Derived.Shelf.RegionOpen
import Derived.OwnWalkIn
import Derived.TacticsInMore
import Derived.LoopNIn
import Derived.LoopIn
import Derived.Test.YtfbokhdimffabaaGreatDoorCo
import Derived.OrdersHeld
import Derived.Deep.RegionHeld3
/- A region that draws its order, in a round of a range over a function: one that only reads. No program is named here. -/
namespace Go.Proofs.YtfbokhdimffabaaGreatDoor
open Go.RowKit

section
variable {P : Program} {n ll : Nat} {ops : Array Oper}
/-- No statement that defers. -/
def noDefer (ops : Array Oper) : Bool := ops.all fun o => match o.op with
  | .defer _ => false
  | _ => true
theorem noDefer_at {i : Nat} {o : Oper} (h : noDefer ops = true) (hi : ops[i]? = some o) : ∀ c, o.op ≠ .defer c := by
  intro c e
  obtain ⟨hlt, rfl⟩ := Array.getElem?_eq_some_iff.1 hi
  have h1 := (Array.all_eq_true.1 h) i hlt
  rw [e] at h1
  cases h1
theorem operRound_of_still {o : Oper} {a : Act} {w : World} {K : Act → Prop} {K' : Act → World → Prop} {Q : Exit → Act → World → Prop} (hnd : ∀ c, o.op ≠ .defer c) (h : ∀ a, K a → K' a w) (hh : o.still P a w K) : o.wpIn (Fence.wide.inRound ll) n P a w K' Q := by
  unfold Oper.still at hh
  unfold Oper.wpIn
  refine ⟨fun _ _ => trivial, ?_⟩
  rw [Oper.semAt_eq _ _ _ hnd]
  generalize (execOp a.eval o).run P w = r at *
  cases r with
  | ok x w' =>
    cases x <;> simp only [Oper.stillUpon, Oper.uponIn] at hh ⊢
    case value v => obtain ⟨rfl, hk⟩ := hh; exact h _ hk
    case skip => obtain ⟨rfl, hk⟩ := hh; exact h _ hk
    case enter f args =>
      obtain ⟨rfl, v, hc, hk⟩ := hh
      exact ⟨fun k => (by cases k), (CallsIn.inRound ll (callsIn_wide.2 hc)).mono (fun e w'' he => by obtain ⟨rfl, rfl⟩ := he; exact h _ hk)⟩
  | halt x w' => simp only [Oper.stillUpon] at hh
theorem opRound_of_stOp {i : Nat} {a : Act} {w : World} {K : Act → Prop} {K' : Act → World → Prop} {Q : Exit → Act → World → Prop} (hnd : noDefer ops = true) (h : ∀ a, K a → K' a w) (hh : stOp P ops w i K a) : wpOpIn (Fence.wide.inRound ll) n P ops Q i K' a w := by
  unfold stOp at hh
  unfold wpOpIn
  cases ho : ops[i]? with
  | none => simp only [ho] at hh ⊢; exact h _ hh
  | some o =>
    simp only [ho] at hh ⊢
    by_cases hw : Region.wanted o (yielded ops a.tmps) = true
    · simp only [hw, if_true] at hh ⊢
      exact operRound_of_still (noDefer_at hnd ho) h hh
    · simp only [hw] at hh ⊢
      exact ⟨fun _ _ => trivial, h _ hh⟩
theorem anyRound_of_still {md : Region.Mode} {w : World} {Q : Act → Prop} {Q' : Exit → Act → World → Prop} (hnd : noDefer ops = true) (hQ : ∀ a, Q a → Q' .normal a w) : ∀ (fuel : Nat) (listed : Array Bool) (a : Act),
    wpAnyS P md ops w Q fuel listed a → wpAnyIn (Fence.wide.inRound ll) n P md ops Q' fuel listed a w
  | 0, _, _, h => ⟨h.1, hQ _ h.2⟩
  | fuel + 1, _, _, h => ⟨fun h0 => hQ _ (h.1 h0), fun i hi => opRound_of_stOp hnd (fun a' => anyRound_of_still hnd hQ fuel _ a') (h.2 i hi)⟩
/-- A region of a round that draws its order and only reads. -/
theorem wpRound_region_still {id : Nat} {Q : Exit → Act → World → Prop} {a : Act} {w : World} {l : List Oper} (hm : P.follows .mixedOrders = true) (hB : Region.lexB .any l.toArray = true) (hnd : noDefer l.toArray = true)
    (h : wpQuiet P l.toArray (fun w' => w' = w.drew) (fun a' => Q .normal a' w.drew) l a) : (Code.region id l.toArray true).wpIn (Fence.wide.inRound ll) n P Q a w := by
  have h' := still_of_quiet _ _ h
  simp only [Region.lexB, Bool.and_eq_true] at hB
  refine wpIn_region_any hm (anyRound_of_still (Q := fun a' => Q .normal a' w.drew) hnd (fun _ h => h) _ _ _ ?_)
  have := wpAnyS_lex (md := .any) hB.1 l.toArray.toList 0 (Array.replicate l.toArray.size false) a (by simp) (by simpa using hB.2) (by simpa using h')
  simpa using this
end
end Go.Proofs.YtfbokhdimffabaaGreatDoor

/- The iterator over an image's pixels. -/
namespace Go.Proofs.YtfbokhdimffabaaGreatDoor
open Go.ChangeShapes Go.WideShapes Go.ChangeAt Go.RowKit Go.Shelf
attribute [local go_sem] Oper.semAt_some

theorem upd_putObj {S : Nat → Prop} (W : World) (l : Nat) (o' : Obj) (hS : S l) : Upd S W (W.putObj l o') := (Upd.of_grown (grownBy_putObj' W l o')).mono (fun k _ e => by injection e with e; subst e; exact hS)
theorem keeps_of_fresh {W W' : World} (h : Below W.heap.size W W') : KeepsOthers W W' := ⟨h.size, fun k _ hk _ => (h.block k (Array.getElem?_eq_some_iff.1 hk).1).trans hk⟩
/-- A row of cells is none of the blocks that are no cells. -/
theorem own_put {V : World} {base : Nat} {e : TypeId} {sz n : Nat} {v : Value} {xs : List Value} (h : V.ownsRow base e sz v n xs) {ll : Nat} {o : Obj} (ho : V.heap[ll]? = some o) (hoc : o.isCells = false) (o' : Obj) : (V.putObj ll o').ownsRow base e sz v n xs := by
  refine own_upd h (upd_putObj (S := (· = ll)) V ll o' rfl) (fun k hk e => ?_)
  subst e
  rcases h.2 with ⟨rfl, _⟩ | ⟨g, c, u, rfl, _, a, _⟩
  · cases hk
  · have e1 : g = k := by simpa [Value.ownBlock] using hk
    subst e1
    rw [ho] at a
    injection a with a
    subst a
    cases hoc
theorem yield_one {F : Fence} {m : Nat} {P : Program} {l : Nat} {fn : FuncId} {tmps : Array Value} {assign body : Code} {W : World} {T J : World → Prop}
    (h : RoundIn F m P l fn tmps assign body W fun e W' => (e = .returned (.bool true) ∧ T W') ∨ (e = .returned (.bool false) ∧ J W')) :
    RoundIn F m P l fn tmps assign body W fun e W' => ∃ b : Bool, e = .returned (.bool b) ∧ (b = true → T W') ∧ (b = false → J W') :=
  h.mono fun e W' hh => by
    rcases hh with ⟨rfl, h1⟩ | ⟨rfl, h1⟩
    · exact ⟨true, rfl, fun _ => h1, fun k => (by cases k)⟩
    · exact ⟨false, rfl, fun k => (by cases k), fun _ => h1⟩
theorem pixels_any (w : World) (W H : Int) (A : Option Addr) (n c : Nat) : Calls Tryz.prog 54 #[imgV W H A n c] w fun e w' => e = .returned (.func (.func 76) #[] #[.pointer (some ⟨w.heap.size, 0, none⟩)]) ∧ w' = w.alloc (.cells #[.int .i64 W, .int .i64 H, .slice A n c] 26) := by
  go_enter Tryz.func54, Tryz.ntmps54
  go_wp2_with fail
  go_ret
  exact ⟨rfl, rfl⟩
/-- What the iterator gives: a colour. -/
def colEnc (x : Col) : Array Value := #[.agg #[.int .u16 x.r, .int .u16 x.g, .int .u16 x.b, .int .u16 x.a]]
set_option maxRecDepth 100000 in
set_option maxHeartbeats 4000000 in
theorem pix1_in (n : Nat) (_ : 1 ≤ n) (l b r o c N M : Nat) (L : List Int) (hL : L.length = N) (hNM : N = 4 * M) (hNs : N ≤ 262144) (hc : N ≤ c) (I : Nat → World → Prop) (R Jx : World → Prop)
    (hI : ∀ k V, I k V → V.cell? ⟨b, 2, none⟩ = some (.slice (some ⟨r, o, none⟩) N c) ∧ Smp V r o L)
    (hIb : ∀ k V V', I k V → Below V.heap.size V V' → I k V') (hRb : ∀ V V', R V → Below V.heap.size V V' → R V')
    (hY : ∀ k x V, k < M → I k V → R V → x = pxAt L (4 * k) → YieldAt Fence.wide (n - 1) Tryz.prog l (colEnc x) V fun e V' => (e = .returned (.bool true) ∧ I (k + 1) V' ∧ R V') ∨ (e = .returned (.bool false) ∧ Jx V'))
    (V : World) (h0 : I 0 V) (hR : R V) :
    CallsIn Fence.wide n Tryz.prog 76 #[.func (.yield l) #[] #[], .pointer (some ⟨b, 0, none⟩)] V fun e V' => (∃ v, e = .returned v) ∧ ((I M V' ∧ R V') ∨ Jx V') := by
  refine callsIn_of_wp Tryz.func76 rfl trivial ?_ rfl
  simp only [Tryz.ntmps76, List.size_toArray, List.length_cons, List.length_nil, Nat.reduceAdd, Nat.reduceSub, Array.replicate_succ, Array.replicate_zero, List.push_toArray, List.append_toArray, List.nil_append, List.cons_append]
  gi_wp2
  gi_loopw [3] (fun i wr => ∃ j : Nat, j ≤ M ∧ i = .int .i64 ((4 * j : Nat) : Int) ∧ I j wr ∧ R wr) (fun i _ => N - (intOf i).toNat)
  case atStart => exact ⟨0, Nat.zero_le _, rfl, h0, hR⟩
  case round =>
    obtain ⟨j, hj, rfl, hIj, hRj⟩ := hrel
    obtain ⟨kb, hs⟩ := hI _ wr hIj
    obtain ⟨i, hi⟩ : ∃ i, 4 * j = i := ⟨_, rfl⟩
    have HIJ := Lib.hid hIj; have HRJ := Lib.hid hRj
    have HNM := Lib.hid hNM
    clear hIj hRj hNM
    by_cases hlt : j < M
    · have hiN : i + 4 ≤ N := by have := HNM.out; omega
      obtain ⟨p0, p1, p2, p3⟩ := hs.px (k := i) (by rw [hL]; exact hiN)
      have HC := Lib.hid (color_any r (o + i) (N - i) (c - i) (pxAt L i) (by omega) wr p0 p1 p2 p3)
      have hic : ¬ c = i := by omega
      rw [hi]
      have hi2 : (i : Int) ≤ (N : Int) := by omega
      have hi3 : (i : Int) < (N : Int) := by omega
      have hcn : (N : Int) ≤ (c : Int) := by omega
      have HI4 := Lib.hid hi
      clear hi p0 p1 p2 p3 hs
      generalize hx : pxAt L i = x at HC
      have HX := Lib.hid hx
      clear hx
      gi_wp2_with (refine ⟨trivial, ?_⟩; gi_at_call 77; refine (callsIn_wide.2 HC.out).mono ?_; rintro e w2 ⟨rfl, hb2⟩; obtain ⟨fn, tmps, assign, body, hy, hRd⟩ := hY j x w2 hlt (hIb _ _ _ HIJ.out hb2) (hRb _ _ HRJ.out hb2) (by rw [HI4.out]; exact HX.out.symm); dsimp only [colEnc] at hy; have HYD := Lib.hid (yield_one hRd); clear hRd hb2)
      refine RoundIn.mono HYD.out ?_
      rintro e w4 ⟨bb, rfl, hb1, hb2⟩
      have HB1 := Lib.hid hb1; have HB2 := Lib.hid hb2
      clear hb1 hb2
      cases bb with
      | true =>
        gi_wp2
        go_roundw
        case rel => exact ⟨j + 1, by omega, by have := HI4.out; rw [show 4 * (j + 1) = i + 4 by omega]; go_num, (HB1.out (by trivial)).1, (HB1.out (by trivial)).2⟩
        case measure => simp [intOf]; omega
      | false =>
        gi_wp2
        refine bodyPost_ret (results_none rfl _ _ _) rfl ?_
        exact ⟨⟨_, rfl⟩, .inr (HB2.out (by trivial))⟩
    · obtain rfl : j = M := by omega
      obtain rfl : i = N := by have := HNM.out; omega
      rw [hi]
      clear hi hs
      gi_wp2
      go_end0
      exact ⟨⟨_, rfl⟩, .inl ⟨HIJ.out, HRJ.out⟩⟩
end Go.Proofs.YtfbokhdimffabaaGreatDoor

/- Regions that draw their order: one in a round of a range over a function is walked as one that stands alone; one whose last operation alone breaks what the others lean on. No program is named here. -/
namespace Go.Proofs.YtfbokhdimffabaaGreatDoor
open Go.RowKit

section
variable {P : Program} {n ll : Nat} {ops : Array Oper}
theorem rowsRound {row : String} {args : Array Value} {w : World} {R : Value → World → Prop} (h : Rows P row args w R) : RowsIn (Fence.wide.inRound ll) n P row args w R :=
  fun c cs _ => let ⟨v, w', r, s⟩ := h c cs; ⟨v, w', r, stepsIn_wide.2 s⟩
theorem operRound_of_wp {o : Oper} {a : Act} {w : World} {K K' : Act → World → Prop} {Q : Exit → Act → World → Prop} (hnd : ∀ c, o.op ≠ .defer c) (h : ∀ a w, K a w → K' a w) (hh : o.wp P a w K Q) : o.wpIn (Fence.wide.inRound ll) n P a w K' Q := by
  unfold Oper.wp at hh
  unfold Oper.wpIn
  refine ⟨fun _ _ => trivial, ?_⟩
  rw [Oper.semAt_eq _ _ _ hnd]
  generalize (execOp a.eval o).run P w = r at *
  cases r with
  | ok x w' =>
    cases x <;> simp only [Oper.upon, Oper.uponIn] at hh ⊢
    case value v => exact h _ _ hh
    case skip => exact h _ _ hh
    case defer d => exact h _ _ hh
    case enter f args =>
      exact ⟨fun k => (by cases k), (CallsIn.inRound ll (callsIn_wide.2 hh)).mono (fun e w'' he => by
        cases e with
        | returned v => exact h _ _ he
        | panicked ch => exact he
        | outgrown => exact he)⟩
    case row r args => exact ⟨fun k => (by cases k), (rowsRound hh).mono (fun v w'' he => h _ _ he)⟩
  | halt x w' =>
    cases x <;> simp only [Oper.upon, Oper.uponIn] at hh ⊢
    exact hh
theorem opRound_of_op {i : Nat} {a : Act} {w : World} {K K' : Act → World → Prop} {Q : Exit → Act → World → Prop} (hnd : noDefer ops = true) (hLO : ¬ LetsOut Q) (h : ∀ a w, K a w → K' a w) (hh : wpOp P ops Q i K a w) : wpOpIn (Fence.wide.inRound ll) n P ops Q i K' a w := by
  unfold wpOp at hh
  unfold wpOpIn
  cases ho : ops[i]? with
  | none => simp only [ho] at hh ⊢; exact h _ _ hh
  | some o =>
    simp only [ho] at hh ⊢
    by_cases hw : Region.wanted o (yielded ops a.tmps) = true
    · simp only [hw, if_true] at hh ⊢
      rcases hh with hh | hh
      · exact operRound_of_wp (noDefer_at hnd ho) h hh
      · exact absurd hh.2 hLO
    · simp only [hw] at hh ⊢
      exact ⟨fun _ _ => trivial, h _ _ hh⟩
theorem anyRound_of_any {md : Region.Mode} {Q : Exit → Act → World → Prop} (hnd : noDefer ops = true) (hLO : ¬ LetsOut Q) : ∀ (fuel : Nat) (listed : Array Bool) (a : Act) (w : World),
    wpAny P md ops Q fuel listed a w → wpAnyIn (Fence.wide.inRound ll) n P md ops Q fuel listed a w
  | 0, _, _, _, h => h
  | fuel + 1, _, _, _, h => ⟨h.1, fun i hi => opRound_of_op hnd hLO (fun a' w' => anyRound_of_any hnd hLO fuel _ a' w') (h.2 i hi)⟩
end
section
variable {P : Program} {md : Region.Mode} {ops : Array Oper} {Q : Exit → Act → World → Prop} {S : World → Prop} {z : Nat}
/-- Whatever order is picked; S holds behind each operation but number z. -/
def wpAnyT (P : Program) (md : Region.Mode) (ops : Array Oper) (Q : Exit → Act → World → Prop) (S : World → Prop) (z : Nat) : Nat → Array Bool → Act → World → Prop
  | 0, listed, a, w => Region.ready md ops listed = [] ∧ Q .normal a w
  | fuel + 1, listed, a, w => (Region.ready md ops listed = [] → Q .normal a w) ∧
    ∀ i ∈ Region.ready md ops listed, wpOp P ops Q i (fun a' w' => (i ≠ z → S w') ∧ wpAnyT P md ops Q S z fuel (listed.setIfInBounds i true) a' w') a w
theorem wpAny_of_T (fuel : Nat) : ∀ (listed : Array Bool) (a : Act) (w : World), wpAnyT P md ops Q S z fuel listed a w → wpAny P md ops Q fuel listed a w := by
  induction fuel with
  | zero => exact fun _ _ _ h => h
  | succ fuel ih => exact fun listed a w h => ⟨h.1, fun i hi => wpOp_mono (fun a' w' h' => ih _ a' w' h'.2) (h.2 i hi)⟩
/-- One that yields its value in every world that meets S may be taken first, if number z waits for it. -/
theorem wpAnyT_first {i : Nat} {oi : Oper} {v : Value} (hi : ops[i]? = some oi) (hsel : ∀ (j : Nat) (o : Oper) cs b, ops[j]? = some o → o.op ≠ .select cs b) (hQ : ∀ c a w, Q (.panic c) (a.put oi.dst v) w → Q (.panic c) a w) (hz : Region.waitsFor md ops z i = true) (fuel : Nat) : ∀ (listed : Array Bool) (a : Act) (w : World),
      (∀ j oj, ops[j]? = some oj → j ≠ i → listed.getD j true = false → (∀ e ∈ oj.after, Region.binds md e = true → e.on ≠ i) → oi.apart ops oj = true) →
      i ∈ Region.ready md ops listed → YieldsIf P ops S oi v a → S w →
      wpAnyT P md ops Q S z fuel (listed.setIfInBounds i true) (a.put oi.dst v) w → wpAnyT P md ops Q S z (fuel + 1) listed a w := by
  have go : ∀ (fuel : Nat) (listed : Array Bool) (a : Act) (w : World), i ∈ Region.ready md ops listed → YieldsIf P ops S oi v a → S w → wpAnyT P md ops Q S z fuel (listed.setIfInBounds i true) (a.put oi.dst v) w →
      wpOp P ops Q i (fun a' w' => (i ≠ z → S w') ∧ wpAnyT P md ops Q S z fuel (listed.setIfInBounds i true) a' w') a w := fun fuel listed a w _ hy hS H => hy.wpOp hi hS ⟨fun _ => hS, H⟩
  induction fuel with
  | zero =>
    intro listed a w _ hr hy hS H
    refine ⟨fun h => (by rw [h] at hr; cases hr), fun j hj => ?_⟩
    rcases Nat.decEq j i with hji | hji
    · have := ready_mono hj hji
      rw [H.1] at this
      cases this
    · subst hji; exact go _ _ _ _ hr hy hS H
  | succ fuel ih =>
    intro listed a w hfree hr hy hS H
    have hun := (mem_ready.1 hr).1
    refine ⟨fun h => (by rw [h] at hr; cases hr), fun j hj => ?_⟩
    rcases Nat.decEq j i with hji | hji
    · obtain ⟨hjun, oj, hoj, hall⟩ := mem_ready.1 hj
      have hnot : ∀ e ∈ oj.after, Region.binds md e = true → e.on ≠ i := fun e he hb heq => by
        have := hall e he hb
        rw [heq, getD_both hun] at this
        cases this
      have hjz : j ≠ z := fun e => by
        subst e
        obtain ⟨o', ho', e, he, hb, hon⟩ := Region.waitsFor_spec hz
        obtain rfl := Option.some.inj (ho'.symm.trans hoj)
        exact hnot e he hb hon
      refine wpOp_mono (fun a' w' h3 => ⟨fun _ => h3.2.1 hjz, ih _ a' w' (fun k ok hk hki hk0 hno => hfree k ok hk hki ?_ hno) (ready_mono hr (Ne.symm hji)) h3.1 (h3.2.1 hjz) ?_⟩) (wpOp_putIf hoj (hfree j oj hoj hji hjun hnot) (fun cs b => hsel i oi cs b hi) (fun cs b => hsel j oj cs b hoj) hQ hy (H.2 j (ready_mono hj hji)))
      · rcases Nat.decEq j k with h | h
        · rwa [getD_set_ne true h] at hk0
        · subst h; exact hjun
      · rw [Array.setIfInBounds_comm _ _ hji]; exact h3.2.2
    · subst hji; exact go _ _ _ _ hr hy hS H
theorem wpAnyT_take {i : Nat} {oi : Oper} {v : Value} {fuel : Nat} {listed : Array Bool} {a : Act} {w : World} (hi : ops[i]? = some oi) (hs : Region.noSelect ops = true) (hf : Region.free md ops listed i = true) (hr : (Region.ready md ops listed).contains i = true) (hz : Region.waitsFor md ops z i = true)
    (hQ : ∀ c a w, Q (.panic c) (a.put oi.dst v) w → Q (.panic c) a w) (hy : YieldsIf P ops S oi v a) (hS : S w) (h : wpAnyT P md ops Q S z fuel (listed.setIfInBounds i true) (a.put oi.dst v) w) : wpAnyT P md ops Q S z (fuel + 1) listed a w :=
  wpAnyT_first hi (Region.noSelect_spec hs) hQ hz fuel listed a w (Region.free_spec hi hf) (by simpa using hr) hy hS h
/-- One alone may come up. -/
theorem wpAnyT_one {i : Nat} {oi : Oper} {fuel : Nat} {listed : Array Bool} {a : Act} {w : World} (hi : ops[i]? = some oi) (hr : Region.ready md ops listed = [i]) (hw : Region.wanted oi (yielded ops a.tmps) = true)
    (h : Oper.wp P oi a w (fun a' w' => (i ≠ z → S w') ∧ wpAnyT P md ops Q S z fuel (listed.setIfInBounds i true) a' w') Q) : wpAnyT P md ops Q S z (fuel + 1) listed a w := by
  refine ⟨fun h0 => (by rw [hr] at h0; cases h0), fun j hj => ?_⟩
  rw [hr] at hj
  obtain rfl : j = i := by simpa using hj
  unfold wpOp
  simp only [hi, hw, if_true]
  exact .inl h
theorem wpAnyT_done {listed : Array Bool} {a : Act} {w : World} (hr : Region.ready md ops listed = []) (h : Q .normal a w) : wpAnyT P md ops Q S z 0 listed a w := ⟨hr, h⟩
theorem wpRound_region_T {ll n id : Nat} {a : Act} {w : World} {l : List Oper} (S : World → Prop) (z : Nat) (hm : P.follows .mixedOrders = true) (hnd : noDefer l.toArray = true) (hLO : ¬ LetsOut Q) (fuel : Nat) (hfu : l.toArray.size = fuel)
    (h : wpAnyT P .any l.toArray Q S z fuel (Array.replicate fuel false) a w.drew) : (Code.region id l.toArray true).wpIn (Fence.wide.inRound ll) n P Q a w := by
  subst hfu
  exact wpIn_region_any hm (anyRound_of_any hnd hLO _ _ _ _ (wpAny_of_T _ _ _ _ h))
end
end Go.Proofs.YtfbokhdimffabaaGreatDoor
