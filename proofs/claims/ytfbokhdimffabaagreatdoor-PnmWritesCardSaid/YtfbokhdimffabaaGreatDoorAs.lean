/- Joined texts (a claim has at most 60 files): Vs Op As. -/
import Derived.Test.YtfbokhdimffabaaGreatDoorCo
import Derived.Test.YtfbokhdimffabaaGreatDoorRows
import Derived.ProofKit
import Derived.OpenShut
import Derived.ChangeOld
import Derived.SizedLaws
import Derived.JoinedCond
import Derived.Test.YtfbokhdimffabaaGreatDoorTl
import Derived.RegionTactic
import Derived.Deep.RegionLaw
/- Plain words for memory: a slice that reads as a list of values of one cell each (numbers, say). No program is named here. -/
namespace Go.Proofs.YtfbokhdimffabaaGreatDoor
open Go.RowKit

/-- The slice value '.slice A xs.length c' reads as the values xs, and lies below block B. -/
def Vs (w : World) (B : Nat) (A : Option Addr) (xs : List Value) : Prop :=
  0 < xs.length → ∃ ad, A = some ad ∧ ad.block < B ∧ ∀ (j : Nat) (hj : j < xs.length), w.cell? (ad.add j) = some xs[j]

section
variable {w w' : World} {B B' : Nat} {A : Option Addr} {xs : List Value}
theorem Vs.at_ {k : Nat} (h : Vs w B A xs) (hk : k < xs.length) : ∃ ad, A = some ad ∧ ad.block < B ∧ w.cell? (ad.add k) = some xs[k] := by
  obtain ⟨ad, e, hb, hc⟩ := h (by omega)
  exact ⟨ad, e, hb, hc k hk⟩
theorem Vs.keep (h : Vs w B A xs) (hk : ∀ p : Addr, p.block < B → w'.cell? p = w.cell? p) : Vs w' B A xs := fun hn => by
  obtain ⟨ad, e, hb, hc⟩ := h hn
  exact ⟨ad, e, hb, fun j hj => (hk _ (by rw [block_of_add]; exact hb)).trans (hc j hj)⟩
theorem Vs.more (h : Vs w B A xs) (hB : B ≤ B') : Vs w B' A xs := fun hn => by
  obtain ⟨ad, e, hb, hc⟩ := h hn
  exact ⟨ad, e, by omega, hc⟩
theorem Vs.below (h : Vs w B A xs) (hb : Below B w w') : Vs w' B A xs := h.keep fun _ hp => hb.cell hp
theorem Vs.drew (h : Vs w B A xs) : Vs w.drew B A xs := h
theorem Vs.drewN (h : Vs w B A xs) (k : Nat) : Vs (w.drewN k) B A xs := h
theorem Vs.alloc (h : Vs w B A xs) (hB : B ≤ w.heap.size) (o : Obj) : Vs (w.alloc o) B A xs := h.keep fun p hp => World.cell?_alloc_lt w o p (by omega)
theorem Vs.setCell (h : Vs w B A xs) {p : Addr} (hB : B ≤ p.block) (u : Value) : Vs (w.setCell p u) B A xs :=
  h.keep fun q hq => World.cell?_setCell_other w p q u (fun e => by subst e; omega)
theorem Vs.grown (h : Vs w B A xs) {row : Option Nat} (hg : w.grownBy w' row) (hB : B ≤ w.heap.size) (hr : ∀ g, row = some g → B ≤ g) : Vs w' B A xs :=
  h.keep fun p hp => World.cell?_of_block (hg.block p.block (by omega) (fun e => by have := hr _ e.symm; omega))
theorem Vs.nil_ : Vs w B A [] := fun h => absurd h (by simp)
theorem Vs.upd {S : Nat → Prop} (h : Vs w B A xs) (hu : Upd S w w') (hB : B ≤ w.heap.size) (hS : ∀ ad, A = some ad → ad.block < B → ¬ S ad.block) : Vs w' B A xs := fun hn => by
  obtain ⟨ad, e, hb, hc⟩ := h hn
  exact ⟨ad, e, hb, fun j hj => (World.cell?_of_block (hu.block _ (by rw [block_of_add]; omega) (by rw [block_of_add]; exact hS ad e hb))).trans (hc j hj)⟩
theorem Vs.of_own {base : Nat} {e : TypeId} {n c : Nat} (h : w.ownsRow base e 1 (.slice A n c) n xs) : Vs w w.heap.size A xs := fun hn => by
  have hl := h.1
  obtain ⟨g, cap, hv, _, hlt⟩ := h.form (by omega)
  have hA : A = some ⟨g, 0, none⟩ := by injection hv
  subst hA
  exact ⟨_, rfl, hlt, fun j hj => h.cells (g := g) rfl j _ (List.getElem?_eq_getElem hj)⟩
theorem Vs.drop (h : Vs w B A xs) {k cap : Nat} (hk : k ≤ xs.length) (hc : xs.length ≤ cap) : Vs w B (if cap = k then A else A.map (·.add k)) (xs.drop k) := fun hn => by
  rw [List.length_drop] at hn
  obtain ⟨ad, rfl, hb, hcell⟩ := h (by omega)
  rw [if_neg (by omega)]
  refine ⟨ad.add k, rfl, by rw [block_of_add]; exact hb, fun j hj => ?_⟩
  rw [List.length_drop] at hj
  rw [add_of_add, hcell (k + j) (by omega)]
  simp
theorem Vs.take (h : Vs w B A xs) (k : Nat) : Vs w B A (xs.take k) := fun hn => by
  rw [List.length_take] at hn
  obtain ⟨ad, rfl, hb, hcell⟩ := h (by omega)
  refine ⟨ad, rfl, hb, fun j hj => ?_⟩
  rw [List.length_take] at hj
  rw [hcell j (by omega)]
  simp
end
/-- A composite literal is a row of the call's own. -/
theorem vs_lit (w : World) (t : TypeId) (xs : List Value) (B : Nat) (hB : w.heap.size < B) : Vs (w.alloc (.cells xs.toArray t)) B (some ⟨w.heap.size, 0, none⟩) xs := fun _ => by
  refine ⟨_, rfl, hB, fun j hj => ?_⟩
  have e : (⟨w.heap.size, 0, none⟩ : Addr).add j = ⟨w.heap.size, j, none⟩ := by unfold Addr.add; split <;> simp_all
  rw [e, (Blk.new w t _).cell j]
  simp [hj]
theorem own_len {w : World} {base : Nat} {e : TypeId} {A : Option Addr} {n c : Nat} {xs : List Value} (h : w.ownsRow base e 1 (.slice A n c) n xs) : xs.length = n := by
  have := h.1; omega
theorem own_block_sl (A : Option Addr) (n c : Nat) : (Value.slice A n c).ownBlock = A.map (·.block) := by cases A <;> rfl
theorem row_lt {w : World} {base : Nat} {e : TypeId} {A : Option Addr} {n c : Nat} {xs : List Value} (h : w.ownsRow base e 1 (.slice A n c) n xs) : ∀ k, A.map (·.block) = some k → base ≤ k ∧ k < w.heap.size := fun k hk => h.lt k (by rw [own_block_sl]; exact hk)
theorem row_keep {w w' : World} {S : Nat → Prop} {base : Nat} {e : TypeId} {A : Option Addr} {n c : Nat} {xs : List Value} (h : w.ownsRow base e 1 (.slice A n c) n xs) (u : Upd S w w') (hd : ∀ k, A.map (·.block) = some k → ¬ S k) : w'.ownsRow base e 1 (.slice A n c) n xs := own_upd h u (fun k hk => hd k (by rw [← own_block_sl A n c]; exact hk))
/-- A row of the call's own that isn't empty: its address, its room. -/
theorem row_form {w : World} {base : Nat} {e : TypeId} {A : Option Addr} {n c : Nat} {xs : List Value} (h : w.ownsRow base e 1 (.slice A n c) n xs) (hn : 0 < n) : ∃ g, A = some ⟨g, 0, none⟩ ∧ n ≤ c ∧ c ≤ maxLen ∧ base ≤ g ∧ g < w.heap.size := by
  have hc : n ≤ c ∧ c ≤ maxLen := by
    rcases h.2 with ⟨h1, rfl⟩ | ⟨g, cap, cur, h1, _, _, h2, h3, _⟩
    · omega
    · injection h1 with _ _ h; subst h; exact ⟨h2, h3⟩
  obtain ⟨g, cap, hv, h3, h4⟩ := h.form hn
  injection hv with hA _ _
  exact ⟨g, hA, hc.1, hc.2, h3, h4⟩

section
variable {P : Program} (w : World)
/-- append of values, from whatever slice, to a row of the call's own. -/
theorem run_append_vs (base : Nat) (t ty e : TypeId) (i : TypeInfo) (z : Value) (bytes : Nat) (ht : P.underlying t = some (.slice e)) (hi : P.info? e = some i) (hz : i.zero = some z)
    (hsize : i.size = 1) (hby : i.bytes = bytes) (hzs : z.cells.size = 1) (v : Value) (n : Nat) (xs : List Value) (hown : w.ownsRow base e 1 v n xs)
    (B : Nat) (A : Option Addr) (m c : Nat) (ys : List Value) (hm : ys.length = m) (hr : Vs w B A ys) (h1 : ∀ u ∈ ys, u.oneCell' = true) (h63 : n + m ≤ maxLen) (h47 : (n + m) * bytes ≤ 140737488355328) (hbase : base ≤ w.heap.size) :
    ∃ A' c' w', (Builtin.append_ #[t, t] ty #[v, .slice A m c]).run P w = .ok (.slice A' (n + m) c') w' ∧
      w'.ownsRow base e 1 (.slice A' (n + m) c') (n + m) (xs ++ ys) ∧ w.grownBy w' v.ownBlock ∧
      ((Value.slice A' (n + m) c').ownBlock = v.ownBlock ∨ (Value.slice A' (n + m) c').ownBlock = some w.heap.size) := by
  subst hm
  have hform : ∀ (v' : Value) (m : Nat) (w' : World) (ys : List Value), w'.ownsRow base e 1 v' m ys → ∃ A' c', v' = .slice A' m c' := by
    intro v' m w' ys hh
    rcases hh.2 with ⟨rfl, h0⟩ | ⟨g, cap, cur, rfl, _⟩
    · exact ⟨none, 0, by rw [h0]⟩
    · exact ⟨_, _, rfl⟩
  rcases A with _ | ad
  · have h0 : ys = [] := by
      rcases Nat.eq_zero_or_pos ys.length with h0 | h0
      · exact List.eq_nil_of_length_eq_zero h0
      · obtain ⟨ad, h, _⟩ := hr h0
        cases h
    subst h0
    have hrun : (Builtin.append_ #[t, t] ty #[v, .slice none 0 c]).run P w = .ok v w := by
      rcases hown.2 with ⟨rfl, rfl⟩ | ⟨g, cap, cur, rfl, _, _, hnc, _⟩
      · simp [Builtin.append_, run_underlying ht, sizeOf, typeInfo, hi, Builtin.lenOf, Builtin.firstCells]
      · simp [Builtin.append_, run_underlying ht, sizeOf, typeInfo, hi, Builtin.lenOf, Builtin.firstCells, hnc, storeCells]
    obtain ⟨A', c', rfl⟩ := hform v n w xs hown
    exact ⟨A', c', w, hrun, by simpa using hown, World.grownBy.refl w _, .inl rfl⟩
  · have hcells : ∀ j u, ys[j]? = some u → w.cell? (ad.add j) = some u := by
      intro j u hu
      obtain ⟨hj, hu⟩ := List.getElem?_eq_some_iff.mp hu
      obtain ⟨ad', he, _, hc⟩ := hr (by omega)
      injection he with he
      subst he
      rw [hc j hj, hu]
    obtain ⟨v', w', hrun, h2, h3, _, h5⟩ := run_append_own_at (P := P) w base t ty e i z 1 bytes ht hi hz hsize hby hzs (by omega) v n xs hown ad ys.length c ys
      (by omega) hcells h1 h63 h47 hbase
    obtain ⟨A', c', rfl⟩ := hform v' _ w' _ h2
    exact ⟨_, _, w', hrun, h2, h3, h5⟩
theorem wp_append_vs {o : Oper} {a : Act} {K : Act → World → Prop} {Q : Exit → Act → World → Prop} (s x : Operand) (t : TypeId)
    (ho : o.op = .call { callee := .builtin .append, args := #[s, x], argTypes := #[t, t] })
    (base : Nat) (e : TypeId) (i : TypeInfo) (z : Value) (bytes : Nat) (ht : P.underlying t = some (.slice e)) (hi : P.info? e = some i) (hz : i.zero = some z)
    (hsize : i.size = 1) (hby : i.bytes = bytes) (hzs : z.cells.size = 1) (v : Value) (n : Nat) (xs : List Value) (hs : a.eval s = v) (hown : w.ownsRow base e 1 v n xs)
    (B : Nat) (A : Option Addr) (m c : Nat) (ys : List Value) (hm : ys.length = m) (hx : a.eval x = .slice A m c) (hr : Vs w B A ys) (h1 : ∀ u ∈ ys, u.oneCell' = true) (h63 : n + m ≤ maxLen) (h47 : (n + m) * bytes ≤ 140737488355328) (hbase : base ≤ w.heap.size)
    (h : ∀ A' c' w', w'.ownsRow base e 1 (.slice A' (n + m) c') (n + m) (xs ++ ys) → w.grownBy w' v.ownBlock →
      ((Value.slice A' (n + m) c').ownBlock = v.ownBlock ∨ (Value.slice A' (n + m) c').ownBlock = some w.heap.size) → K (a.put o.dst (.slice A' (n + m) c')) w') : o.wp P a w K Q := by
  obtain ⟨A', c', w', hrun, h2, h3, h4⟩ := run_append_vs (P := P) w base t o.type e i z bytes ht hi hz hsize hby hzs v n xs hown B A m c ys hm hr h1 h63 h47 hbase
  unfold Oper.wp execOp
  simp only [ho, resolve, invoke, builtin, Sem.run_bind, Sem.run_pure, Result.andThen_ok, List.map_toArray, List.map_cons, List.map_nil, hs, hx, hrun]
  exact h A' c' w' h2 h3 h4
theorem wpList_append_vs {ops : Array Oper} {rest : List Oper} {o : Oper} {a : Act} {Q : Exit → Act → World → Prop} (hgd : o.guard = none) (s x : Operand) (t : TypeId)
    (ho : o.op = .call { callee := .builtin .append, args := #[s, x], argTypes := #[t, t] })
    (base : Nat) (e : TypeId) (i : TypeInfo) (z : Value) (bytes : Nat) (ht : P.underlying t = some (.slice e)) (hi : P.info? e = some i) (hz : i.zero = some z)
    (hsize : i.size = 1) (hby : i.bytes = bytes) (hzs : z.cells.size = 1) (v : Value) (n : Nat) (xs : List Value) (hs : a.eval s = v) (hown : w.ownsRow base e 1 v n xs)
    (B : Nat) (A : Option Addr) (m c : Nat) (ys : List Value) (hm : ys.length = m) (hx : a.eval x = .slice A m c) (hr : Vs w B A ys) (h1 : ∀ u ∈ ys, u.oneCell' = true) (h63 : n + m ≤ maxLen) (h47 : (n + m) * bytes ≤ 140737488355328) (hbase : base ≤ w.heap.size)
    (h : ∀ A' c' w', w'.ownsRow base e 1 (.slice A' (n + m) c') (n + m) (xs ++ ys) → w.grownBy w' v.ownBlock →
      ((Value.slice A' (n + m) c').ownBlock = v.ownBlock ∨ (Value.slice A' (n + m) c').ownBlock = some w.heap.size) → wpList P ops Q rest (a.put o.dst (.slice A' (n + m) c')) w') :
    wpList P ops Q (o :: rest) a w :=
  wpList_plain hgd fun _ hK => wp_append_vs w s x t ho base e i z bytes ht hi hz hsize hby hzs v n xs hs hown B A m c ys hm hx hr h1 h63 h47 hbase fun A' c' w' h2 h3 h4 => hK _ _ (h A' c' w' h2 h3 h4)
end

/-- Numbers of type int, as values. -/
def intsV (l : List Int) : List Value := l.map fun n => .int .i64 n
theorem intsV_length (l : List Int) : (intsV l).length = l.length := by simp [intsV]
theorem intsV_get (l : List Int) (k : Nat) (hk : k < (intsV l).length) : (intsV l)[k] = .int .i64 (l[k]'(by simpa [intsV] using hk)) := by simp [intsV]
theorem intsV_one (l : List Int) : ∀ u ∈ intsV l, u.oneCell' = true := by
  intro u hu
  obtain ⟨b, _, rfl⟩ := List.mem_map.mp hu
  rfl
theorem intsV_append (a b : List Int) : intsV (a ++ b) = intsV a ++ intsV b := by simp [intsV]
theorem intsV_set (l : List Int) (k : Nat) (n : Int) : (intsV l).set k (.int .i64 n) = intsV (l.set k n) := by simp [intsV, List.map_set]
/-- The slice value '.slice A l.length c' reads as the numbers l. -/
def Is (w : World) (B : Nat) (A : Option Addr) (l : List Int) : Prop := Vs w B A (intsV l)
theorem Is.at_ {w : World} {B : Nat} {A : Option Addr} {l : List Int} {k : Nat} (h : Is w B A l) (hk : k < l.length) : ∃ ad, A = some ad ∧ ad.block < B ∧ w.cell? (ad.add k) = some (.int .i64 l[k]) := by
  obtain ⟨ad, e, hb, hc⟩ := Vs.at_ (k := k) h (by rw [intsV_length]; exact hk)
  exact ⟨ad, e, hb, by rw [hc, intsV_get]⟩
theorem row_at {w : World} {base : Nat} {e : TypeId} {g n c : Nat} {l : List Int} (h : w.ownsRow base e 1 (.slice (some ⟨g, 0, none⟩) n c) n (intsV l)) (k : Nat) (hk : k < l.length) : w.cell? ⟨g, k, none⟩ = some (.int .i64 l[k]) := by
  have hl := own_len h
  rw [intsV_length] at hl
  rw [h.cellAt k (by omega), List.getElem?_eq_getElem (by rw [intsV_length]; exact hk), intsV_get]
theorem row_set {w : World} {base : Nat} {e : TypeId} {g n c : Nat} {l : List Int} (h : w.ownsRow base e 1 (.slice (some ⟨g, 0, none⟩) n c) n (intsV l)) (k : Nat) (x : Int) : (w.setCell ⟨g, k, none⟩ (.int .i64 x)).ownsRow base e 1 (.slice (some ⟨g, 0, none⟩) n c) n (intsV (l.set k x)) := by
  rw [← intsV_set]
  exact (h.stored k _).1
end Go.Proofs.YtfbokhdimffabaaGreatDoor

/- How an argument that is a list of numbers or of bytes is opened (as wip/prefix Oi; the bytes' room besides); what the second form's bound says of a list's length. -/
namespace Go.Proofs.YtfbokhdimffabaaGreatDoor
open Go.ChangeShapes Go.WideShapes Go.ChangeAt Go.RowKit

theorem prog_own : ownKnob Tryz.prog.godebug = none := by kernel_rfl
theorem prog_laid : laidOutB Tryz.prog = true := by kernel_rfl
theorem cells_int : Tryz.prog.cellsOf 3 = 1 := by kernel_rfl
theorem bytes_int : Tryz.prog.bytesOf 3 = 8 := by kernel_rfl
theorem cells_u8 : Tryz.prog.cellsOf 5 = 1 := by kernel_rfl
theorem bytes_u8 : Tryz.prog.bytesOf 5 = 1 := by kernel_rfl
section
variable {H : Type} {enc : TypeId × Value → H} {W : World} {base : Nat} {v : Value} {d : DataW H} {p : List MemPlace}
set_option maxRecDepth 100000 in
theorem open_numbers (hv : Value.okWide Tryz.prog W .any base 62 v) (hj : DataW.Trod enc Tryz.prog W 0 (fun _ => true) true 62 v d p) :
    ∃ A l c, v = .slice A l.length c ∧ Is W W.heap.size A l ∧ (∀ x ∈ l, -9223372036854775808 ≤ x ∧ x ≤ 9223372036854775807) ∧ ((d = .nil ∧ l = []) ∨ ∃ e s, d = .slice e s ∧ l.length ≤ e.length + s.length) := by
  obtain ⟨a0, len0, cap0, rfl⟩ := okWide_slice Tryz.underlying62 hv
  obtain ⟨fuel, hf⟩ := hj
  rcases open_ints Tryz.underlying62 Tryz.underlying3 cells_int hf with ⟨hcs, hx⟩ | ⟨x, l, c, zs, hcs, _, hl, hm, hz, hx, hcell, hwz⟩
  · simp [Value.cells] at hcs
    obtain ⟨rfl, rfl, rfl⟩ := hcs
    simp only [Prod.mk.injEq] at hx
    exact ⟨none, [], 0, rfl, Vs.nil_, by simp, .inl ⟨hx.1, rfl⟩⟩
  · simp [Value.cells] at hcs
    obtain ⟨rfl, rfl, rfl⟩ := hcs
    simp only [Prod.mk.injEq] at hx
    have hzl : zs.length = cap0 := by simpa using hz
    have hlen : (zs.take len0).length = len0 := by simp; omega
    refine ⟨some x, zs.take len0, cap0, by rw [hlen], ?_, fun y hy => bounds_i64 (hwz y (List.mem_of_mem_take hy)), .inr ⟨_, _, hx.1, ?_⟩⟩
    · intro hpos
      rw [intsV_length, hlen] at hpos
      refine ⟨x, rfl, ?_, fun j hj => ?_⟩
      · have h0 := hcell 0 (by omega)
        have := block_lt_of_cell h0
        rwa [block_of_add] at this
      · have hj' : j < len0 := by rw [intsV_length, hlen] at hj; exact hj
        rw [hcell j (by omega), intsV_get]
        have hjz : j < zs.length := by omega
        have e : zs.getD j 0 = zs[j] := by simp [List.getD, hjz]
        rw [e]
        simp
    · rw [hlen]
      simp [lits]
      omega
set_option maxRecDepth 100000 in
theorem open_bytes (hv : Value.okWide Tryz.prog W .any base 22 v) (hj : DataW.Trod enc Tryz.prog W 0 (fun _ => true) true 22 v d p) :
    ∃ A l c, v = .slice A l.length c ∧ Bs W W.heap.size A l ∧ l.length ≤ c ∧ ((d = .nil ∧ l = []) ∨ ∃ e s, d = .slice e s ∧ l.length ≤ e.length + s.length) := by
  obtain ⟨a0, len0, cap0, rfl⟩ := okWide_slice Tryz.underlying22 hv
  obtain ⟨fuel, hf⟩ := hj
  rcases open_ints Tryz.underlying22 Tryz.underlying5 cells_u8 hf with ⟨hcs, hx⟩ | ⟨x, l, c, zs, hcs, _, hl, hm, hz, hx, hcell, hwz⟩
  · simp [Value.cells] at hcs
    obtain ⟨rfl, rfl, rfl⟩ := hcs
    simp only [Prod.mk.injEq] at hx
    exact ⟨none, [], 0, rfl, Bs.nil_, Nat.le_refl _, .inl ⟨hx.1, rfl⟩⟩
  · simp [Value.cells] at hcs
    obtain ⟨rfl, rfl, rfl⟩ := hcs
    simp only [Prod.mk.injEq] at hx
    have hzl : zs.length = cap0 := by simpa using hz
    have hlen : ((zs.take len0).map fun n => UInt8.ofNat n.toNat).length = len0 := by simp; omega
    refine ⟨some x, (zs.take len0).map fun n => UInt8.ofNat n.toNat, cap0, by rw [hlen], ?_, by rw [hlen]; omega, .inr ⟨_, _, hx.1, ?_⟩⟩
    · intro hpos
      rw [hlen] at hpos
      refine ⟨x, rfl, ?_, fun j hj => ?_⟩
      · have h0 := hcell 0 (by omega)
        have := block_lt_of_cell h0
        rwa [block_of_add] at this
      · have hj' : j < len0 := by rw [hlen] at hj; exact hj
        rw [hcell j (by omega)]
        have hjz : j < zs.length := by omega
        have hb := bounds_u8 (hwz zs[j] (List.getElem_mem hjz))
        have e : zs.getD j 0 = zs[j] := by simp [List.getD, hjz]
        rw [e]
        congr 2
        simp only [List.getElem_map, List.getElem_take]
        rw [UInt8.toNat_ofNat']
        omega
    · rw [hlen]
      simp [lits]
      omega
end
theorem bulk_pos {H : Type} (d : DataW H) : 0 < Rows.uptoBulk d := by
  cases d with
  | lit l => cases l <;> simp [Rows.uptoBulk]
  | _ => simp [Rows.uptoBulk]
theorem bulk_len {H : Type} : ∀ l : List (DataW H), l.length ≤ Rows.uptoBulkAll l
  | [] => by simp [Rows.uptoBulkAll]
  | d :: r => by have h1 := bulk_pos d; have h2 := bulk_len r; simp only [Rows.uptoBulkAll, List.length_cons]; omega
theorem bulk_slice {H : Type} (e s : List (DataW H)) (rest : List (DataW H)) : e.length + s.length ≤ Rows.uptoBulkAll (.slice e s :: rest) := by
  have h1 := bulk_len e
  have h2 := bulk_len s
  simp only [Rows.uptoBulkAll, Rows.uptoBulk]
  omega
theorem bulk_tail {H : Type} (d : DataW H) (rest : List (DataW H)) : Rows.uptoBulkAll rest ≤ Rows.uptoBulkAll (d :: rest) := by
  simp only [Rows.uptoBulkAll]; omega
theorem bulk_le {H : Type} {l : List (DataW H)} (hk : Rows.uptoSmall H l = true) : Rows.uptoBulkAll l ≤ 1048576 := of_decide_eq_true hk
end Go.Proofs.YtfbokhdimffabaaGreatDoor

/- append to a row of the call's own, as one step of a region that draws its order. No program is named here. -/
namespace Go.Proofs.YtfbokhdimffabaaGreatDoor
open Go.RowKit

theorem step_append_vs {P : Program} (w : World) {ops : Array Oper} {o : Oper} {a : Act} {K : Act → World → Prop} {Q : Exit → Act → World → Prop} {E : Prop} (hgd : o.guard = none) (s x : Operand) (t : TypeId)
    (ho : o.op = .call { callee := .builtin .append, args := #[s, x], argTypes := #[t, t] })
    (base : Nat) (e : TypeId) (i : TypeInfo) (z : Value) (bytes : Nat) (ht : P.underlying t = some (.slice e)) (hi : P.info? e = some i) (hz : i.zero = some z)
    (hsize : i.size = 1) (hby : i.bytes = bytes) (hzs : z.cells.size = 1) (v : Value) (n : Nat) (xs : List Value) (hs : a.eval s = v) (hown : w.ownsRow base e 1 v n xs)
    (B : Nat) (A : Option Addr) (m c : Nat) (ys : List Value) (hm : ys.length = m) (hx : a.eval x = .slice A m c) (hr : Vs w B A ys) (h1 : ∀ u ∈ ys, u.oneCell' = true) (h63 : n + m ≤ maxLen) (h47 : (n + m) * bytes ≤ 140737488355328) (hbase : base ≤ w.heap.size)
    (h : ∀ A' c' w', w'.ownsRow base e 1 (.slice A' (n + m) c') (n + m) (xs ++ ys) → w.grownBy w' v.ownBlock →
      ((Value.slice A' (n + m) c').ownBlock = v.ownBlock ∨ (Value.slice A' (n + m) c').ownBlock = some w.heap.size) → K (a.put o.dst (.slice A' (n + m) c')) w') :
    if Region.wanted o (yielded ops a.tmps) = true then Oper.wp P o a w K Q else E := by
  have hw : Region.wanted o (yielded ops a.tmps) = true := by simp [Region.wanted, hgd]
  rw [if_pos hw]
  exact wp_append_vs w s x t ho base e i z bytes ht hi hz hsize hby hzs v n xs hs hown B A m c ys hm hx hr h1 h63 h47 hbase h
end Go.Proofs.YtfbokhdimffabaaGreatDoor
