/- The iterator over an image's pixels. -/
import Derived.Test.YtkfomjdmdgddlaaQl
import Derived.Test.YtkfomjdmdgddlaaSu
import Derived.Test.YtkfomjdmdgddlaaTr
import Derived.Shelf.Abstract
import Derived.Shelf.RegionOpen
import Derived.OwnWalkIn
import Derived.TacticsInMore
import Derived.LoopNIn
import Derived.LoopIn
namespace Go.Proofs.Ytkfomjdmdgddlaa
open Go.ChangeShapes Go.WideShapes Go.ChangeAt Go.RowKit Go.Shelf
attribute [local go_sem] Oper.semAt_some

theorem upd_putObj {S : Nat → Prop} (W : World) (l : Nat) (o' : Obj) (hS : S l) : Upd S W (W.putObj l o') := (Upd.of_grown (grownBy_putObj' W l o')).mono (fun k _ e => by injection e with e; subst e; exact hS)
theorem keeps_of_fresh {W W' : World} (h : Below W.heap.size W W') : KeepsOthers W W' := ⟨h.size, fun k _ hk _ => (h.block k (Array.getElem?_eq_some_iff.1 hk).1).trans hk⟩
/-- A row of cells is none of the blocks that are no cells. -/
theorem own_put {V : World} {base : Nat} {e : TypeId} {sz n : Nat} {v : Value} {xs : List Value} (h : V.ownsRow base e sz v n xs) {ll : Nat} {o : Obj} (ho : V.heap[ll]? = some o) (hoc : o.isCells = false) (o' : Obj) : (V.putObj ll o').ownsRow base e sz v n xs := by
  refine own_upd h (upd_putObj (S := (· = ll)) V ll o' rfl) (fun k hk e => ?_)
  subst e
  rcases h.2 with ⟨rfl, _⟩ | ⟨g, c, u, rfl, _, a, _⟩
  · cases hk
  · have e1 : g = k := by simpa [Value.ownBlock] using hk
    subst e1
    rw [ho] at a
    injection a with a
    subst a
    cases hoc
theorem yield_one {F : Fence} {m : Nat} {P : Program} {l : Nat} {fn : FuncId} {tmps : Array Value} {assign body : Code} {W : World} {T J : World → Prop}
    (h : RoundIn F m P l fn tmps assign body W fun e W' => (e = .returned (.bool true) ∧ T W') ∨ (e = .returned (.bool false) ∧ J W')) :
    RoundIn F m P l fn tmps assign body W fun e W' => ∃ b : Bool, e = .returned (.bool b) ∧ (b = true → T W') ∧ (b = false → J W') :=
  h.mono fun e W' hh => by
    rcases hh with ⟨rfl, h1⟩ | ⟨rfl, h1⟩
    · exact ⟨true, rfl, fun _ => h1, fun k => (by cases k)⟩
    · exact ⟨false, rfl, fun k => (by cases k), fun _ => h1⟩
theorem pixels_any (w : World) (W H : Int) (A : Option Addr) (n c : Nat) : Calls Try.prog 48 #[imgV W H A n c] w fun e w' => e = .returned (.func (.func 57) #[] #[.pointer (some ⟨w.heap.size, 0, none⟩)]) ∧ w' = w.alloc (.cells #[.int .i64 W, .int .i64 H, .slice A n c] 24) := by
  go_enter Try.func48, Try.ntmps48
  go_wp2_with fail
  go_ret
  exact ⟨rfl, rfl⟩
/-- What the iterator gives: a colour. -/
def colEnc (x : Col) : Array Value := #[.agg #[.int .u16 x.r, .int .u16 x.g, .int .u16 x.b, .int .u16 x.a]]
set_option maxRecDepth 100000 in
set_option maxHeartbeats 4000000 in
theorem pix1_in (n : Nat) (_ : 1 ≤ n) (l b r o c N M : Nat) (L : List Int) (hL : L.length = N) (hNM : N = 4 * M) (hNs : N ≤ 262144) (hc : N ≤ c) (I : Nat → World → Prop) (R Jx : World → Prop)
    (hI : ∀ k V, I k V → V.cell? ⟨b, 2, none⟩ = some (.slice (some ⟨r, o, none⟩) N c) ∧ Smp V r o L)
    (hIb : ∀ k V V', I k V → Below V.heap.size V V' → I k V') (hRb : ∀ V V', R V → Below V.heap.size V V' → R V')
    (hY : ∀ k x V, k < M → I k V → R V → x = pxAt L (4 * k) → YieldAt Fence.wide (n - 1) Try.prog l (colEnc x) V fun e V' => (e = .returned (.bool true) ∧ I (k + 1) V' ∧ R V') ∨ (e = .returned (.bool false) ∧ Jx V'))
    (V : World) (h0 : I 0 V) (hR : R V) :
    CallsIn Fence.wide n Try.prog 57 #[.func (.yield l) #[] #[], .pointer (some ⟨b, 0, none⟩)] V fun e V' => (∃ v, e = .returned v) ∧ ((I M V' ∧ R V') ∨ Jx V') := by
  refine callsIn_of_wp Try.func57 rfl trivial ?_ rfl
  simp only [Try.ntmps57, List.size_toArray, List.length_cons, List.length_nil, Nat.reduceAdd, Nat.reduceSub, Array.replicate_succ, Array.replicate_zero, List.push_toArray, List.append_toArray, List.nil_append, List.cons_append]
  gi_wp2
  gi_loopw [3] (fun i wr => ∃ j : Nat, j ≤ M ∧ i = .int .i64 ((4 * j : Nat) : Int) ∧ I j wr ∧ R wr) (fun i _ => N - (intOf i).toNat)
  case atStart => exact ⟨0, Nat.zero_le _, rfl, h0, hR⟩
  case round =>
    obtain ⟨j, hj, rfl, hIj, hRj⟩ := hrel
    obtain ⟨kb, hs⟩ := hI _ wr hIj
    obtain ⟨i, hi⟩ : ∃ i, 4 * j = i := ⟨_, rfl⟩
    have HIJ := Lib.hid hIj; have HRJ := Lib.hid hRj
    have HNM := Lib.hid hNM
    clear hIj hRj hNM
    by_cases hlt : j < M
    · have hiN : i + 4 ≤ N := by have := HNM.out; omega
      obtain ⟨p0, p1, p2, p3⟩ := hs.px (k := i) (by rw [hL]; exact hiN)
      have HC := Lib.hid (color_any r (o + i) (N - i) (c - i) (pxAt L i) (by omega) wr p0 p1 p2 p3)
      have hic : ¬ c = i := by omega
      rw [hi]
      have hi2 : (i : Int) ≤ (N : Int) := by omega
      have hi3 : (i : Int) < (N : Int) := by omega
      have hcn : (N : Int) ≤ (c : Int) := by omega
      have HI4 := Lib.hid hi
      clear hi p0 p1 p2 p3 hs
      generalize hx : pxAt L i = x at HC
      have HX := Lib.hid hx
      clear hx
      gi_wp2_with (refine ⟨trivial, ?_⟩; gi_at_call 36; refine (callsIn_wide.2 HC.out).mono ?_; rintro e w2 ⟨rfl, hb2⟩; obtain ⟨fn, tmps, assign, body, hy, hRd⟩ := hY j x w2 hlt (hIb _ _ _ HIJ.out hb2) (hRb _ _ HRJ.out hb2) (by rw [HI4.out]; exact HX.out.symm); dsimp only [colEnc] at hy; have HYD := Lib.hid (yield_one hRd); clear hRd hb2)
      refine RoundIn.mono HYD.out ?_
      rintro e w4 ⟨bb, rfl, hb1, hb2⟩
      have HB1 := Lib.hid hb1; have HB2 := Lib.hid hb2
      clear hb1 hb2
      cases bb with
      | true =>
        gi_wp2
        go_roundw
        case rel => exact ⟨j + 1, by omega, by have := HI4.out; rw [show 4 * (j + 1) = i + 4 by omega]; go_num, (HB1.out (by trivial)).1, (HB1.out (by trivial)).2⟩
        case measure => simp [intOf]; omega
      | false =>
        gi_wp2
        refine bodyPost_ret (results_none rfl _ _ _) rfl ?_
        exact ⟨⟨_, rfl⟩, .inr (HB2.out (by trivial))⟩
    · obtain rfl : j = M := by omega
      obtain rfl : i = N := by have := HNM.out; omega
      rw [hi]
      clear hi hs
      gi_wp2
      go_end0
      exact ⟨⟨_, rfl⟩, .inl ⟨HIJ.out, HRJ.out⟩⟩
end Go.Proofs.Ytkfomjdmdgddlaa
