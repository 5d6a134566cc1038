/- Joined texts (a claim has at most 60 files): Qd An Ar. -/
import Derived.Test.YtfbokhdimffabaaGreatDoorQc
import Derived.Test.YtfbokhdimffabaaGreatDoorAs
import Derived.Maps.AppendAt
import Derived.OwnWalkIn
/- Two images compared: the program's way and the document's. -/
namespace Go.Proofs.YtfbokhdimffabaaGreatDoor
open Go.ChangeShapes Go.WideShapes Go.ChangeAt Go.RowKit

theorem take_eq_nextI (a b : List Int) (k : Nat) (h : a.take k = b.take k) (ha : k < a.length) (hb : k < b.length) (e : a[k] = b[k]) : a.take (k + 1) = b.take (k + 1) := by
  rw [List.take_succ_eq_append_getElem ha, List.take_succ_eq_append_getElem hb, h, e]
/-- Are two images alike? -/
def sameB (W H : Int) (a : List Int) (W' H' : Int) (b : List Int) : Bool := decide (W = W') && decide (H = H') && (a == b)
theorem sameB_self (W H : Int) (a : List Int) : sameB W H a W H a = true := by simp [sameB]
theorem boxes2 (w : World) (a b : Array Value) (t u : TypeId) : Below w.heap.size w ((w.alloc (.cells a t)).alloc (.cells b u)) ∧ ((w.alloc (.cells a t)).alloc (.cells b u)).heap.size = w.heap.size + 1 + 1 ∧
    Blk ((w.alloc (.cells a t)).alloc (.cells b u)) w.heap.size t a ∧ Blk ((w.alloc (.cells a t)).alloc (.cells b u)) (w.heap.size + 1) u b := by
  have h1 := Blk.new w t a
  have h2 := Blk.new (w.alloc (.cells a t)) u b
  simp only [World.size_alloc] at h2
  exact ⟨((Below.refl _ w).alloc (Nat.le_refl _) _).alloc (by simp) _, by simp, h1.alloc _, h2⟩
theorem same_start (W H : Int) (A : Option Addr) (n c : Nat) (W' H' : Int) (A' : Option Addr) (n' c' : Nat) (w : World) : ∃ W1, (w.alloc (.cells #[.int .i64 W, .int .i64 H, .slice A n c] 26)).alloc (.cells #[.int .i64 W', .int .i64 H', .slice A' n' c'] 26) = W1 ∧
    IB W1 w.heap.size (.int .i64 W) (.int .i64 H) (.slice A n c) ∧ IB W1 (w.heap.size + 1) (.int .i64 W') (.int .i64 H') (.slice A' n' c') ∧ Below w.heap.size w W1 := by
  obtain ⟨h1, _, h2, h3⟩ := boxes2 w (imgC W H A n c) (imgC W' H' A' n' c') 26 26
  exact ⟨_, rfl, IB.of h2, IB.of h3, h1⟩
theorem below_drewN {B : Nat} {w w' : World} (h : Below B w w') (n : Nat) : Below B w (w'.drewN n) := ⟨h.os, h.tape, h.output, h.size, h.block⟩
set_option maxRecDepth 100000 in
set_option maxHeartbeats 1000000 in
theorem refSame_any (W H : Int) (A : Option Addr) (n c : Nat) (a : List Int) (W' H' : Int) (A' : Option Addr) (n' c' : Nat) (b : List Int) (hn : a.length = n) (hn' : b.length = n') (B : Nat) (w : World) (h : Us w B A a) (h' : Us w B A' b) (hB : B ≤ w.heap.size) (hl : n ≤ maxLen) :
    Calls Tryz.prog 10 #[imgV W H A n c, imgV W' H' A' n' c'] w fun e w' => e = .returned (.bool (sameB W H a W' H' b)) ∧ Below w.heap.size w w' := by
  unfold maxLen at hl
  obtain ⟨W1, hW1, ⟨_, x0, x1, x2, _, _, _⟩, ⟨_, y0, y1, y2, _, _, _⟩, hb⟩ := same_start W H A n c W' H' A' n' c' w
  go_enter Tryz.func10, Tryz.ntmps10
  have HW1 := Lib.hid hW1
  clear hW1
  go_upto_region 1 with (fail)
  rw [HW1.out]
  clear HW1
  have HB := Lib.hid hb
  have h1v := Vs.below h (hb.mono hB)
  have h2v := Vs.below h' (hb.mono hB)
  clear hb h h'
  by_cases h1 : W = W'
  case neg =>
    have HE : Hid (sameB W H a W' H' b = false) := Lib.hid (by simp [sameB, h1])
    have d1 : (W != W') = true := by simp [h1]
    go_wp2_with fail
    go_ret
    exact ⟨ret_bl HE.out.symm, HB.out⟩
  subst h1
  by_cases h2 : H = H'
  case neg =>
    have HE : Hid (sameB W H a W H' b = false) := Lib.hid (by simp [sameB, h2])
    have d1 : (H != H') = true := by simp [h2]
    go_wp2_with fail
    go_ret
    exact ⟨ret_bl HE.out.symm, HB.out⟩
  subst h2
  have HE : Hid (sameB W H a W H b = (a == b)) := Lib.hid (by simp [sameB])
  by_cases hlen : n = n'
  case neg =>
    have hne : ((n : Int) != n') = true := by simp; omega
    have HD : Hid ((a == b) = false) := Lib.hid (by simp; intro e; subst e; omega)
    clear hlen
    go_wp2_with fail
    go_ret
    exact ⟨ret_bl (by rw [HE.out, HD.out]), HB.out⟩
  subst hlen
  go_wp2_with fail
  go_loopw [5] (fun i wr => ∃ k : Nat, k ≤ n ∧ i = .int .i64 k ∧ Hid (a.take k = b.take k) ∧ ∃ m, wr = W1.drewN m) (fun i _ => n - (intOf i).toNat)
  case atStart => exact ⟨0, by omega, rfl, Lib.hid (by simp), 0, rfl⟩
  case round =>
    obtain ⟨k, hk, rfl, HK, m, rfl⟩ := hrel
    by_cases hlt : k < n
    · have ha : k < a.length := by omega
      have hb : k < b.length := by omega
      obtain ⟨ad1, rfl, _, hc1⟩ := Us.at_ h1v ha
      obtain ⟨ad2, rfl, _, hc2⟩ := Us.at_ h2v hb
      have HN := Lib.hid (take_eq_nextI a b k HK.out ha hb)
      have HD : Hid (a[k] ≠ b[k] → a ≠ b) := Lib.hid fun h e => by subst e; exact h rfl
      generalize a[k] = x at hc1 HN HD
      generalize b[k] = y at hc2 HN HD
      clear ha hb hn hn' HK h1v h2v
      by_cases hxy : x = y
      · have d1 : (x != y) = false := by simp [hxy]
        have HXY := Lib.hid hxy; clear hxy
        go_wp2_with fail
        go_quiet (fail)
        go_wp2_with fail
        go_roundw
        case rel => exact ⟨k + 1, by omega, by go_num, Lib.hid (HN.out HXY.out), m + nq, rfl⟩
        case measure => simp [intOf]; omega
      · have d1 : (x != y) = true := by simp [hxy]
        have HXY := Lib.hid hxy; clear hxy
        go_wp2_with fail
        go_quiet (fail)
        go_wp2_with fail
        go_ret
        exact ⟨ret_bl (by rw [HE.out]; simp [HD.out HXY.out]), below_drewN (below_drewN HB.out m) nq⟩
    · obtain rfl : k = n := by omega
      go_wp2_with fail
      go_ret
      have h3 := HK.out
      rw [List.take_of_length_le (by omega), List.take_of_length_le (by omega)] at h3
      exact ⟨ret_bl (by rw [HE.out]; simp [h3]), below_drewN HB.out m⟩
end Go.Proofs.YtfbokhdimffabaaGreatDoor

/- append to a row of the call's own whose elements have several cells each. No program is named here. -/
namespace Go.Proofs.YtfbokhdimffabaaGreatDoor
open Go.RowKit

section
variable {P : Program} (w : World)
theorem run_append_vn (base : Nat) (t ty e : TypeId) (i : TypeInfo) (z : Value) (size bytes : Nat) (ht : P.underlying t = some (.slice e)) (hi : P.info? e = some i) (hz : i.zero = some z)
    (hsize : i.size = size) (hby : i.bytes = bytes) (hzs : z.cells.size = size) (hs0 : 0 < size) (v : Value) (n : Nat) (xs : List Value) (hown : w.ownsRow base e size v n xs)
    (B : Nat) (ad : Addr) (m c : Nat) (ys : List Value) (hm : ys.length = m * size) (hr : Vs w B (some ad) ys) (h1 : ∀ u ∈ ys, u.oneCell' = true) (h63 : n + m ≤ maxLen) (h47 : (n + m) * bytes ≤ 140737488355328) (hbase : base ≤ w.heap.size) :
    ∃ A' c' w', (Builtin.append_ #[t, t] ty #[v, .slice (some ad) m c]).run P w = .ok (.slice A' (n + m) c') w' ∧
      w'.ownsRow base e size (.slice A' (n + m) c') (n + m) (xs ++ ys) ∧ w.grownBy w' v.ownBlock ∧
      ((Value.slice A' (n + m) c').ownBlock = v.ownBlock ∨ (Value.slice A' (n + m) c').ownBlock = some w.heap.size) := by
  have hcells : ∀ j u, ys[j]? = some u → w.cell? (ad.add j) = some u := by
    intro j u hu
    obtain ⟨hj, hu⟩ := List.getElem?_eq_some_iff.mp hu
    obtain ⟨ad', he, _, hc⟩ := hr (by omega)
    injection he with he
    subst he
    rw [hc j hj, hu]
  obtain ⟨v', w', hrun, h2, h3, _, h5⟩ := run_append_own_at (P := P) w base t ty e i z size bytes ht hi hz hsize hby hzs hs0 v n xs hown ad m c ys hm hcells h1 h63 h47 hbase
  have hf : ∃ A' c', v' = .slice A' (n + m) c' := by
    rcases h2.2 with ⟨rfl, h0⟩ | ⟨g, cap, cur, rfl, _⟩
    · exact ⟨none, 0, by rw [h0]⟩
    · exact ⟨_, _, rfl⟩
  obtain ⟨A', c', rfl⟩ := hf
  exact ⟨_, _, w', hrun, h2, h3, h5⟩
theorem wp_append_vn {o : Oper} {a : Act} {K : Act → World → Prop} {Q : Exit → Act → World → Prop} (s x : Operand) (t : TypeId)
    (ho : o.op = .call { callee := .builtin .append, args := #[s, x], argTypes := #[t, t] })
    (base : Nat) (e : TypeId) (i : TypeInfo) (z : Value) (size bytes : Nat) (ht : P.underlying t = some (.slice e)) (hi : P.info? e = some i) (hz : i.zero = some z)
    (hsize : i.size = size) (hby : i.bytes = bytes) (hzs : z.cells.size = size) (hs0 : 0 < size) (v : Value) (n : Nat) (xs : List Value) (hs : a.eval s = v) (hown : w.ownsRow base e size v n xs)
    (B : Nat) (ad : Addr) (m c : Nat) (ys : List Value) (hm : ys.length = m * size) (hx : a.eval x = .slice (some ad) m c) (hr : Vs w B (some ad) ys) (h1 : ∀ u ∈ ys, u.oneCell' = true) (h63 : n + m ≤ maxLen) (h47 : (n + m) * bytes ≤ 140737488355328) (hbase : base ≤ w.heap.size)
    (h : ∀ A' c' w', w'.ownsRow base e size (.slice A' (n + m) c') (n + m) (xs ++ ys) → w.grownBy w' v.ownBlock →
      ((Value.slice A' (n + m) c').ownBlock = v.ownBlock ∨ (Value.slice A' (n + m) c').ownBlock = some w.heap.size) → K (a.put o.dst (.slice A' (n + m) c')) w') : o.wp P a w K Q := by
  obtain ⟨A', c', w', hrun, h2, h3, h4⟩ := run_append_vn (P := P) w base t o.type e i z size bytes ht hi hz hsize hby hzs hs0 v n xs hown B ad m c ys hm hr h1 h63 h47 hbase
  unfold Oper.wp execOp
  simp only [ho, resolve, invoke, builtin, Sem.run_bind, Sem.run_pure, Result.andThen_ok, List.map_toArray, List.map_cons, List.map_nil, hs, hx, hrun]
  exact h A' c' w' h2 h3 h4
theorem step_append_vn {ops : Array Oper} {o : Oper} {a : Act} {K : Act → World → Prop} {Q : Exit → Act → World → Prop} {E : Prop} (hgd : o.guard = none) (s x : Operand) (t : TypeId)
    (ho : o.op = .call { callee := .builtin .append, args := #[s, x], argTypes := #[t, t] })
    (base : Nat) (e : TypeId) (i : TypeInfo) (z : Value) (size bytes : Nat) (ht : P.underlying t = some (.slice e)) (hi : P.info? e = some i) (hz : i.zero = some z)
    (hsize : i.size = size) (hby : i.bytes = bytes) (hzs : z.cells.size = size) (hs0 : 0 < size) (v : Value) (n : Nat) (xs : List Value) (hs : a.eval s = v) (hown : w.ownsRow base e size v n xs)
    (B : Nat) (ad : Addr) (m c : Nat) (ys : List Value) (hm : ys.length = m * size) (hx : a.eval x = .slice (some ad) m c) (hr : Vs w B (some ad) ys) (h1 : ∀ u ∈ ys, u.oneCell' = true) (h63 : n + m ≤ maxLen) (h47 : (n + m) * bytes ≤ 140737488355328) (hbase : base ≤ w.heap.size)
    (h : ∀ A' c' w', w'.ownsRow base e size (.slice A' (n + m) c') (n + m) (xs ++ ys) → w.grownBy w' v.ownBlock →
      ((Value.slice A' (n + m) c').ownBlock = v.ownBlock ∨ (Value.slice A' (n + m) c').ownBlock = some w.heap.size) → K (a.put o.dst (.slice A' (n + m) c')) w') :
    if Region.wanted o (yielded ops a.tmps) = true then Oper.wp P o a w K Q else E := by
  have hw : Region.wanted o (yielded ops a.tmps) = true := by simp [Region.wanted, hgd]
  rw [if_pos hw]
  exact wp_append_vn w s x t ho base e i z size bytes ht hi hz hsize hby hzs hs0 v n xs hs hown B ad m c ys hm hx hr h1 h63 h47 hbase h
end
/-- Two rows of other types lie in other blocks. -/
theorem own_own_ne {w : World} {b1 b2 : Nat} {e1 e2 : TypeId} {s1 s2 n1 n2 : Nat} {v1 v2 : Value} {x1 x2 : List Value} (h1 : w.ownsRow b1 e1 s1 v1 n1 x1) (h2 : w.ownsRow b2 e2 s2 v2 n2 x2) (hne : e1 ≠ e2) : ∀ k, v1.ownBlock = some k → v2.ownBlock ≠ some k := by
  intro k hk hk2
  rcases h1.2 with ⟨rfl, _⟩ | ⟨g1, c1, u1, rfl, _, a1, _⟩
  · cases hk
  · rcases h2.2 with ⟨rfl, _⟩ | ⟨g2, c2, u2, rfl, _, a2, _⟩
    · cases hk2
    · have e1 : g1 = k := by simpa [Value.ownBlock] using hk
      have e2 : g2 = k := by simpa [Value.ownBlock] using hk2
      subst e1
      subst e2
      rw [a1] at a2
      injection a2 with a2
      injection a2 with _ a2
      exact hne a2
end Go.Proofs.YtfbokhdimffabaaGreatDoor

/- append as a step of the walk, its outcome given as an equation. No program is named here. -/
namespace Go.Proofs.YtfbokhdimffabaaGreatDoor
open Go.RowKit

section
variable {P : Program} {w w' : World} {ops : Array Oper} {rest : List Oper} {o : Oper} {a : Act} {Q : Exit → Act → World → Prop}
theorem wpList_append_run (hgd : o.guard = none) (s x : Operand) (t : TypeId) (ho : o.op = .call { callee := .builtin .append, args := #[s, x], argTypes := #[t, t] }) {v1 v2 v : Value} (hs : a.eval s = v1) (hx : a.eval x = v2)
    (hrun : (Builtin.append_ #[t, t] o.type #[v1, v2]).run P w = .ok v w') (h : wpList P ops Q rest (a.put o.dst v) w') : wpList P ops Q (o :: rest) a w := by
  refine wpList_plain hgd fun K hK => ?_
  unfold Oper.wp execOp
  simp only [ho, resolve, invoke, builtin, Sem.run_bind, Sem.run_pure, Result.andThen_ok, List.map_toArray, List.map_cons, List.map_nil, hs, hx, hrun]
  exact hK _ _ h
theorem wpListIn_append_run {F : Fence} {n : Nat} (hgd : o.guard = none) (s x : Operand) (t : TypeId) (ho : o.op = .call { callee := .builtin .append, args := #[s, x], argTypes := #[t, t] }) {v1 v2 v : Value} (hs : a.eval s = v1) (hx : a.eval x = v2)
    (hrun : (Builtin.append_ #[t, t] o.type #[v1, v2]).run P w = .ok v w') (h : wpListIn F n P ops Q rest (a.put o.dst v) w') : wpListIn F n P ops Q (o :: rest) a w := by
  refine wpListIn_plain hgd fun K hK => ?_
  unfold Oper.wpIn
  refine ⟨?_, ?_⟩
  · simp [Oper.about, ho, resolve, Target.leads, Sem.run_pure]
  · rw [Oper.semAt_plain F _ _ (by rw [ho]; intro c hc'; cases hc')]
    simp [execOp, ho, resolve, invoke, builtin, hs, hx, hrun, Result.andThen]
    exact hK _ _ h
theorem step_append_run {K : Act → World → Prop} {E : Prop} (hgd : o.guard = none) (s x : Operand) (t : TypeId) (ho : o.op = .call { callee := .builtin .append, args := #[s, x], argTypes := #[t, t] }) {v1 v2 v : Value} (hs : a.eval s = v1) (hx : a.eval x = v2)
    (hrun : (Builtin.append_ #[t, t] o.type #[v1, v2]).run P w = .ok v w') (h : K (a.put o.dst v) w') : if Region.wanted o (yielded ops a.tmps) = true then Oper.wp P o a w K Q else E := by
  have hw : Region.wanted o (yielded ops a.tmps) = true := by simp [Region.wanted, hgd]
  rw [if_pos hw]
  unfold Oper.wp execOp
  simp only [ho, resolve, invoke, builtin, Sem.run_bind, Sem.run_pure, Result.andThen_ok, List.map_toArray, List.map_cons, List.map_nil, hs, hx, hrun]
  exact h
end
end Go.Proofs.YtfbokhdimffabaaGreatDoor
