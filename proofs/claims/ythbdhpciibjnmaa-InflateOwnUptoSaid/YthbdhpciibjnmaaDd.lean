/- Joined texts (a claim has at most 60 files). -/
import Derived.Test.YthbdhpciibjnmaaIt
import Derived.Test.YthbdhpciibjnmaaRy
import Derived.Test.YthbdhpciibjnmaaI
import Derived.Test.YthbdhpciibjnmaaNx
import Derived.Deep.MidRow
import Derived.Deep.LoopGhost
import Derived.Deep.CutBlock
/- The document's reader of deflated bytes, first part: its state by value, take, next. -/
namespace Go.Proofs.Ythbdhpciibjnmaa
open Go.ChangeShapes Go.WideShapes Go.ChangeAt Go.RowKit

/-- The document's state: the reader at place p of n bytes, m bytes written, the most, the error. -/
def stA (A : Option Addr) (n c p : Nat) (Ao : Option Addr) (m co most E : Nat) : Array Value := #[.slice A n c, .bool false, .int .i64 (p : Int), .slice Ao m co, .int .i64 (most : Int), .int .i64 (E : Int)]
def st0 : Array Value := #[.slice none 0 0, .bool false, .int .i64 0, .slice none 0 0, .int .i64 0, .int .i64 0]
def rd0 : Array Value := #[.slice none 0 0, .bool false, .int .i64 0]
theorem st_info : (Try.prog.info? 53).map (·.size) = some 6 := by kernel_rfl
/-- A function's frame: its state's box, its answer's, and what is below is as it was. -/
structure FrS (w : World) (g z : Nat) (S Z : Array Value) (w' : World) : Prop where
  box : Blk w' g 53 S
  res : Blk w' z 53 Z
  ne : g ≠ z
  lo : w.heap.size ≤ g
  lo2 : w.heap.size ≤ z
  bel : Below w.heap.size w w'
theorem blk_range {w : World} {g : Nat} {t : TypeId} {cs : Array Value} (h : Blk w g t cs) (n : Nat) : w.rangeAt g 0 (cs.toList.take n) := fun j v hv => by
  have hj : j < n := by
    have := (List.getElem?_eq_some_iff.mp hv).1
    rw [List.length_take] at this
    omega
  rw [List.getElem?_take_of_lt hj] at hv
  rw [Nat.zero_add, h.cell j, ← hv]
  simp
section
variable {w w1 : World} {g z : Nat} {S Z : Array Value} {ops : Array Oper} {rest : List Oper} {o : Oper} {a : Act} {Q : Exit → Act → World → Prop}
theorem FrS.call (h : FrS w g z S Z w1) {w2 : World} (hb : Below w1.heap.size w1 w2) : FrS w g z S Z w2 :=
  ⟨h.box.upd (Upd.of_fresh hb) id, h.res.upd (Upd.of_fresh hb) id, h.ne, h.lo, h.lo2, h.bel.trans (hb.mono h.bel.size)⟩
theorem FrS.upd_ (h : FrS w g z S Z w1) {k : Nat} {w2 : World} (hu : Upd (· = k) w1 w2) (h1 : k ≠ g) (h2 : k ≠ z) (h3 : w.heap.size ≤ k) : FrS w g z S Z w2 :=
  ⟨h.box.upd hu (fun e => h1 e.symm), h.res.upd hu (fun e => h2 e.symm), h.ne, h.lo, h.lo2, h.bel.trans (hu.below h.bel.size (fun j hj e => by subst e; omega))⟩
theorem FrS.alloc (h : FrS w g z S Z w1) (o : Obj) : FrS w g z S Z (w1.alloc o) := h.call ((Below.refl _ _).alloc (Nat.le_refl _) o)
theorem FrS.set_ (h : FrS w g z S Z w1) (i : Nat) (v : Value) : FrS w g z (S.setIfInBounds i v) Z (w1.setCell ⟨g, i, none⟩ v) :=
  ⟨h.box.set_ i v, h.res.upd ((Upd.refl (· = g) w1).setCell (p := ⟨g, i, none⟩) (fun _ => rfl) v) (fun e => h.ne e.symm), h.ne, h.lo, h.lo2, h.bel.setCell (p := ⟨g, i, none⟩) h.lo v⟩
theorem FrS.ld (h : FrS w g z S Z w1) (hs : S.size = 6) (hgd : o.guard = none) (x : Operand) (ho : o.op = .load 53 x) (hx : a.eval x = .pointer (some ⟨g, 0, none⟩))
    (k : wpList Try.prog ops Q rest (a.put o.dst (.agg S)) w1) : wpList Try.prog ops Q (o :: rest) a w1 :=
  wpList_load_row hgd 53 x ho g hx 53 S (0, 0) _ h.box Try.underlying53 rfl (by rw [hs]; exact st_info) k
theorem FrS.ldR {r0 r1 r2 a3 a4 a5 : Value} (h : FrS w g z #[r0, r1, r2, a3, a4, a5] Z w1) (hgd : o.guard = none) (x : Operand) (ho : o.op = .load 51 x) (hx : a.eval x = .pointer (some ⟨g, 0, none⟩))
    (k : wpList Try.prog ops Q rest (a.put o.dst (.agg #[r0, r1, r2])) w1) : wpList Try.prog ops Q (o :: rest) a w1 :=
  wpList_load_mid hgd 51 x ho g 0 hx [r0, r1, r2] _ (blk_range h.box 3) Try.underlying51 rfl rdr_info k
theorem wpB_store (hgd : o.guard = none) (ty : TypeId) (x y : Operand) (ho : o.op = .store ty x y) (g : Nat) (cells : Array Value) (hx : a.eval x = .pointer (some ⟨g, 0, none⟩)) (hy : a.eval y = .agg cells)
    (t : TypeId) (old : Array Value) (hg : Blk w1 g t old) (hi : (Try.prog.info? ty).map (·.size) = some cells.size) (hold : old.size = cells.size) (h1 : cells.all (·.oneCell') = true)
    (k : ∀ w2, Blk w2 g t cells → Upd (· = g) w1 w2 → wpList Try.prog ops Q rest (a.put o.dst undef) w2) : wpList Try.prog ops Q (o :: rest) a w1 :=
  wpList_store_row hgd ty x y ho g cells hx hy t old hg hi hold h1 (k _ (setRow_heap _ _ _ _ _ _ hg) (upd_setRow _ _ _))
theorem FrS.st (h : FrS w g z S Z w1) (hs : S.size = 6) (hgd : o.guard = none) (x y : Operand) (ho : o.op = .store 53 x y) (hx : a.eval x = .pointer (some ⟨g, 0, none⟩)) {S' : Array Value} (hy : a.eval y = .agg S')
    (hs' : S'.size = 6) (h1 : S'.all (·.oneCell') = true) (k : ∀ w2, FrS w g z S' Z w2 → Upd (· = g) w1 w2 → wpList Try.prog ops Q rest (a.put o.dst undef) w2) : wpList Try.prog ops Q (o :: rest) a w1 :=
  wpB_store hgd 53 x y ho g S' hx hy 53 S h.box (by rw [hs']; exact st_info) (by rw [hs, hs']) h1 fun w2 hb hu =>
    k w2 ⟨hb, h.res.upd hu (fun e => h.ne e.symm), h.ne, h.lo, h.lo2, h.bel.trans (hu.below h.bel.size (fun j hj e => by have := h.lo; omega))⟩ hu
theorem FrS.stZ (h : FrS w g z S Z w1) (hs : Z.size = 6) (hgd : o.guard = none) (x y : Operand) (ho : o.op = .store 53 x y) (hx : a.eval x = .pointer (some ⟨z, 0, none⟩)) {S' : Array Value} (hy : a.eval y = .agg S')
    (hs' : S'.size = 6) (h1 : S'.all (·.oneCell') = true) (k : ∀ w2, FrS w g z S S' w2 → wpList Try.prog ops Q rest (a.put o.dst undef) w2) : wpList Try.prog ops Q (o :: rest) a w1 :=
  wpB_store hgd 53 x y ho z S' hx hy 53 Z h.res (by rw [hs']; exact st_info) (by rw [hs, hs']) h1 fun w2 hb hu =>
    k w2 ⟨h.box.upd hu (fun e => h.ne e), hb, h.ne, h.lo, h.lo2, h.bel.trans (hu.below h.bel.size (fun j hj e => by have := h.lo2; omega))⟩
theorem FrS.stR {r0 r1 r2 a3 a4 a5 q0 q1 q2 : Value} (h : FrS w g z #[r0, r1, r2, a3, a4, a5] Z w1) (hgd : o.guard = none) (x y : Operand) (ho : o.op = .store 51 x y) (hx : a.eval x = .pointer (some ⟨g, 0, none⟩)) (hy : a.eval y = .agg #[q0, q1, q2])
    (h1 : (#[q0, q1, q2] : Array Value).all (·.oneCell') = true) (k : ∀ w2, FrS w g z #[q0, q1, q2, a3, a4, a5] Z w2 → Upd (· = g) w1 w2 → wpList Try.prog ops Q rest (a.put o.dst undef) w2) : wpList Try.prog ops Q (o :: rest) a w1 := by
  refine wpList_store_mid hgd 51 x y ho g 0 #[q0, q1, q2] hx hy (fun j hj => ?_) rdr_info h1 ?_
  · have hj3 : j < 3 := hj
    refine ⟨?_, h.box.frozen _⟩
    rw [Nat.zero_add, h.box.cell j]
    match j, hj3 with
    | 0, _ => rfl
    | 1, _ => rfl
    | 2, _ => rfl
  · have h2 := ((h.set_ 0 q0).set_ 1 q1).set_ 2 q2
    refine k _ h2 ?_
    exact (((Upd.refl (· = g) w1).setCell (p := ⟨g, 0, none⟩) (fun _ => rfl) q0).setCell (p := ⟨g, 1, none⟩) (fun _ => rfl) q1).setCell (p := ⟨g, 2, none⟩) (fun _ => rfl) q2
end
theorem FrS.start (w : World) (S : Array Value) : FrS w w.heap.size (w.heap.size + 1) S st0 ((w.alloc (.cells S 53)).alloc (.cells st0 53)) :=
  ⟨(Blk.new w _ _).alloc _, blk_second w _ _ _, by omega, Nat.le_refl _, Nat.le_succ _, ((Below.refl _ _).alloc (Nat.le_refl _) _).alloc (by simp) _⟩
theorem results_cell1 {P : Program} {fn : Func} {p a : Tmp} {ty : TypeId} (h : fn.results = #[.cell p ty, .tmp a]) (tmps : Array Value) (w : World) (g : Nat) (t : TypeId) (cs : Array Value) (d : TypeDesc) (u : Value)
    (hp : tmps.getD p undef = .pointer (some ⟨g, 0, none⟩)) (ha : tmps.getD a undef = u) (hg : Blk w g t cs)
    (hu : P.underlying ty = some d) (hd : (match d with | .struct _ | .array _ _ => true | _ => false) = true) (hi : (P.info? ty).map (·.size) = some cs.size) :
    (results fn tmps).run P w = .ok (.tuple #[.agg cs, u]) w := by
  have hp' : tmps[p]?.getD undef = .pointer (some ⟨g, 0, none⟩) := by simpa using hp
  have ha' : tmps[a]?.getD undef = u := by simpa using ha
  have hr := run_loadVar_row (P := P) w g t ty cs (0, 0) d hg hu hd hi
  simp [results, h, hp', ha', asAddr, hr]
theorem rd_one (A : Option Addr) (n c : Nat) (x : Bool) (p : Int) : (#[.slice A n c, .bool x, .int .i64 p] : Array Value).all (·.oneCell') = true := by kernel_rfl
theorem st_one (A : Option Addr) (n c : Nat) (x : Bool) (p : Int) (Ao : Option Addr) (m co : Nat) (y z : Int) : (#[.slice A n c, .bool x, .int .i64 p, .slice Ao m co, .int .i64 y, .int .i64 z] : Array Value).all (·.oneCell') = true := by kernel_rfl
/-- A number, or an error, as the document's functions answer. -/
def DNum (w : World) (A : Option Addr) (n c : Nat) (Ao : Option Addr) (m co most : Nat) (x : Except Nat (Nat × Nat)) (e : Ending) (w' : World) : Prop :=
  match x with
  | .error k => (∃ p, e = .returned (.tuple #[.agg (stA A n c p Ao m co most k), .int .i64 0])) ∧ Below w.heap.size w w'
  | .ok (v, q) => e = .returned (.tuple #[.agg (stA A n c q Ao m co most 0), .int .i64 (v : Int)]) ∧ Below w.heap.size w w'

set_option maxHeartbeats 4000000 in
set_option maxRecDepth 100000 in
theorem dTake (w : World) (A : Option Addr) (c : Nat) (b : List UInt8) (p : Nat) (Ao : Option Addr) (m co most : Nat) (hbs : Bs w w.heap.size A b) (hbl : b.length ≤ 140737488355328) (hp : p ≤ 8 * b.length) (n : Nat) (hn : n ≤ 32) :
    Calls Try.prog 21 #[.agg (stA A b.length c p Ao m co most 0), .int .i64 (n : Int)] w (DNum w A b.length c Ao m co most (takeM b p n)) := by
  have hlt : numAt b p n < 4294967296 := Nat.lt_of_lt_of_le (numAt_lt b p n) (Nat.pow_le_pow_right (n := 2) (by omega) hn)
  have HN : Hid (num false (fun i => bitAt b false (p + i)) n = numAt b p n) := Lib.hid rfl
  obtain ⟨V, HV⟩ : ∃ V, Hid (numAt b p n = V) := ⟨_, Lib.hid rfl⟩
  rw [HV.out] at hlt HN
  have HF0 := Lib.hid (FrS.start w (stA A b.length c p Ao m co most 0))
  have HBS := Lib.hid ((hbs.below HF0.out.bel).more HF0.out.bel.size)
  clear hbs
  by_cases hl : p + n ≤ 8 * b.length
  · have e : takeM b p n = .ok (V, p + n) := by unfold takeM; rw [if_pos hl, HV.out]
    rw [e]
    have HT := Lib.hid (refTake_ok A c b false p n _ HBS.out hbl hn hl)
    rw [HN.out] at HT
    go_enter Try.func21, Try.ntmps21
    go_wp2_with (refine HF0.out.ldR rfl (.tmp 10) rfl rfl ?_)
    refine HT.out.mono ?_
    rintro e w1 ⟨rfl, hb1⟩
    obtain ⟨pn, hpn⟩ : ∃ x, ((p + n : Nat) : Int) = x := ⟨_, rfl⟩
    rw [hpn]
    have HPN := Lib.hid hpn
    clear hpn
    have HF2 := Lib.hid ((HF0.out.call hb1).alloc (.cells #[.slice A b.length c, .bool false, .int .i64 pn] 51))
    have hz1 : w.heap.size + 2 ≤ w1.heap.size := by have h1 := hb1.size; simp at h1; omega
    clear hb1 HT HBS HF0 e HN
    go_wp2_with (first
      | (refine FrS.stR HF2.out rfl (.tmp 22) (.tmp 21) rfl rfl rfl (rd_one _ _ _ _ _) ?_; intro w3 hF3 _; have HF3 := Lib.hid hF3; clear hF3)
      | (refine HF3.out.ld rfl rfl (.tmp 2) rfl rfl ?_)
      | (refine HF3.out.stZ rfl rfl (.tmp 4) (.tmp 23) rfl rfl rfl rfl (st_one _ _ _ _ _ _ _ _ _ _) ?_; intro w4 hF4; have HF4 := Lib.hid hF4; clear hF4))
    refine bodyPost_ret (v := .tuple #[.agg _, .int .i64 (V : Int)]) (results_cell1 rfl _ _ (w.heap.size + 1) 53 _ _ _ rfl rfl HF4.out.res Try.underlying53 rfl st_info) rfl ⟨?_, HF4.out.bel⟩
    unfold stA
    rw [HPN.out]
    rfl
  · have e : takeM b p n = .error 5 := by unfold takeM; rw [if_neg hl]
    rw [e]
    have HT := Lib.hid (refTake_end A b.length c false p (n : Int) ((w.alloc (.cells (stA A b.length c p Ao m co most 0) 53)).alloc (.cells st0 53)) hp hbl (by omega) (by omega) (by omega))
    go_enter Try.func21, Try.ntmps21
    go_wp2_with (refine HF0.out.ldR rfl (.tmp 10) rfl rfl ?_)
    refine HT.out.mono ?_
    rintro e w1 ⟨rfl, hb1⟩
    have HF2 := Lib.hid ((HF0.out.call hb1).alloc (.cells #[.slice A b.length c, .bool false, .int .i64 (p : Int)] 51))
    have HF3 := Lib.hid (HF2.out.set_ 5 (.int .i64 5))
    have c5 := (HF2.out.box.cell 5).trans rfl
    have f5 := HF2.out.box.frozen 5
    clear hb1 HT HBS HF0 e HN
    go_wp2_with (first
      | (refine HF3.out.ld rfl rfl (.tmp 2) rfl rfl ?_)
      | (refine HF3.out.stZ rfl rfl (.tmp 4) (.tmp 20) rfl rfl rfl rfl (st_one _ _ _ _ _ _ _ _ _ _) ?_; intro w4 hF4; have HF4 := Lib.hid hF4; clear hF4))
    exact bodyPost_ret (v := .tuple #[.agg _, .int .i64 0]) (results_cell1 rfl _ _ (w.heap.size + 1) 53 _ _ _ rfl rfl HF4.out.res Try.underlying53 rfl st_info) rfl ⟨⟨p, rfl⟩, HF4.out.bel⟩
theorem TblV.more {w : World} {B B' : Nat} {l : List Int} {cs : List Value} (h : TblV w B l cs) (hB : B ≤ B') : TblV w B' l cs := by
  obtain ⟨h1, h2, h3, h4⟩ := h
  refine ⟨h1, h2, fun k hk => ?_, h4⟩
  obtain ⟨A, c, a1, a2⟩ := h3 k hk
  exact ⟨A, c, a1, a2.more hB⟩
theorem FrS.start2 (w : World) (S T : Array Value) : FrS w w.heap.size (w.heap.size + 1 + 1) S st0 (((w.alloc (.cells S 53)).alloc (.cells T 63)).alloc (.cells st0 53)) :=
  ⟨((Blk.new w _ _).alloc _).alloc _, blk_third w _ _ _ _, by omega, Nat.le_refl _, by omega, (((Below.refl _ _).alloc (Nat.le_refl _) _).alloc (by simp) _).alloc (by simp; omega) _⟩
set_option maxHeartbeats 4000000 in
set_option maxRecDepth 100000 in
theorem dNext (w : World) (A : Option Addr) (c : Nat) (b : List UInt8) (p : Nat) (Ao : Option Addr) (m co most : Nat) (l : List Int) (cs : List Value) (hT : TblV w w.heap.size l cs) (hl : l.length ≤ 4096) (hro : 0 ≤ roomOf l) (hbs : Bs w w.heap.size A b) (hbl : b.length ≤ 140737488355328) (hp : p ≤ 8 * b.length) :
    Calls Try.prog 42 #[.agg (stA A b.length c p Ao m co most 0), .agg cs.toArray] w (DNum w A b.length c Ao m co most (nextM b l p)) := by
  have HF0 := Lib.hid (FrS.start2 w (stA A b.length c p Ao m co most 0) cs.toArray)
  have HTB : Hid (Blk (((w.alloc (.cells (stA A b.length c p Ao m co most 0) 53)).alloc (.cells cs.toArray 63)).alloc (.cells st0 53)) (w.heap.size + 1) 63 cs.toArray) := Lib.hid ((blk_second w _ _ _).alloc _)
  have hsz : (Try.prog.info? 63).map (·.size) = some cs.toArray.size := by rw [List.size_toArray, hT.1]; exact tbl_info
  have HT := Lib.hid (refNext_any l cs A c b false p _ ((hT.below HF0.out.bel).more HF0.out.bel.size) hl hro ((hbs.below HF0.out.bel).more HF0.out.bel.size) hbl hp)
  have HX : Hid (nextM b l p = if (nextOf l (fun i => bitAt b false (p + i)) (8 * b.length - p)).2.2 = 0 then .ok ((nextOf l (fun i => bitAt b false (p + i)) (8 * b.length - p)).2.1, p + (nextOf l (fun i => bitAt b false (p + i)) (8 * b.length - p)).1) else .error (nextOf l (fun i => bitAt b false (p + i)) (8 * b.length - p)).2.2) := Lib.hid rfl
  rw [HX.out]
  generalize nextOf l (fun i => bitAt b false (p + i)) (8 * b.length - p) = x at *
  obtain ⟨u, s, er⟩ := x
  dsimp only
  clear HX hT hl hro hbs
  by_cases h0 : er = 0
  · subst h0
    rw [if_pos rfl]
    go_enter Try.func42, Try.ntmps42
    go_wp2_with (first
      | (refine wpList_load_row rfl 63 (.tmp 3) rfl (w.heap.size + 1) rfl 63 cs.toArray (0, 0) _ HTB.out Try.underlying63 rfl hsz ?_)
      | (refine HF0.out.ldR rfl (.tmp 11) rfl rfl ?_))
    refine HT.out.mono ?_
    rintro e w1 ⟨rfl, hb1⟩
    unfold rdV
    dsimp only
    obtain ⟨pn, hpn⟩ : ∃ x, ((p + u : Nat) : Int) = x := ⟨_, rfl⟩
    rw [hpn]
    have HPN := Lib.hid hpn
    have HF2 := Lib.hid ((HF0.out.call hb1).alloc (.cells #[.slice A b.length c, .bool false, .int .i64 pn] 51))
    clear hb1 HT HF0 HTB hpn hsz
    go_wp2_with (first
      | (refine FrS.stR HF2.out rfl (.tmp 18) (.tmp 17) rfl rfl rfl (rd_one _ _ _ _ _) ?_; intro w3 hF3 _; have HF3 := Lib.hid hF3; clear hF3)
      | (refine HF3.out.ld rfl rfl (.tmp 2) rfl rfl ?_)
      | (refine HF3.out.stZ rfl rfl (.tmp 4) (.tmp 24) rfl rfl rfl rfl (st_one _ _ _ _ _ _ _ _ _ _) ?_; intro w4 hF4; have HF4 := Lib.hid hF4; clear hF4))
    refine bodyPost_ret (v := .tuple #[.agg _, .int .i64 (s : Int)]) (results_cell1 rfl _ _ (w.heap.size + 1 + 1) 53 _ _ _ rfl rfl HF4.out.res Try.underlying53 rfl st_info) rfl ⟨?_, HF4.out.bel⟩
    unfold stA
    rw [HPN.out]
    rfl
  · rw [if_neg h0]
    have d1 : ((er : Int) != 0) = true := by rw [bne_iff_ne]; omega
    clear h0
    go_enter Try.func42, Try.ntmps42
    go_wp2_with (first
      | (refine wpList_load_row rfl 63 (.tmp 3) rfl (w.heap.size + 1) rfl 63 cs.toArray (0, 0) _ HTB.out Try.underlying63 rfl hsz ?_)
      | (refine HF0.out.ldR rfl (.tmp 11) rfl rfl ?_))
    refine HT.out.mono ?_
    rintro e w1 ⟨rfl, hb1⟩
    unfold rdV
    dsimp only
    obtain ⟨pn, hpn⟩ : ∃ x, ((p + u : Nat) : Int) = x := ⟨_, rfl⟩
    rw [hpn]
    have HPN := Lib.hid hpn
    have HF2 := Lib.hid ((HF0.out.call hb1).alloc (.cells #[.slice A b.length c, .bool false, .int .i64 pn] 51))
    clear hb1 HT HF0 HTB hpn hsz
    go_wp2_with (first
      | (refine FrS.stR HF2.out rfl (.tmp 18) (.tmp 17) rfl rfl rfl (rd_one _ _ _ _ _) ?_; intro w3 hF3 _; have HF3 := Lib.hid hF3; have HF5 := Lib.hid (hF3.set_ 5 (.int .i64 (er : Int))); have c5 := (hF3.box.cell 5).trans rfl; have f5 := hF3.box.frozen 5; clear hF3)
      | (refine HF5.out.ld rfl rfl (.tmp 2) rfl rfl ?_)
      | (refine HF5.out.stZ rfl rfl (.tmp 4) (.tmp 23) rfl rfl rfl rfl (st_one _ _ _ _ _ _ _ _ _ _) ?_; intro w4 hF4; have HF4 := Lib.hid hF4; clear hF4))
    refine bodyPost_ret (v := .tuple #[.agg _, .int .i64 0]) (results_cell1 rfl _ _ (w.heap.size + 1 + 1) 53 _ _ _ rfl rfl HF4.out.res Try.underlying53 rfl st_info) rfl ⟨⟨p + u, ?_⟩, HF4.out.bel⟩
    unfold stA
    rw [HPN.out]
    rfl
end Go.Proofs.Ythbdhpciibjnmaa

/- The document's reader of deflated bytes, second part: which codes may be, the fixed lengths, where a group's symbols begin. -/
namespace Go.Proofs.Ythbdhpciibjnmaa
open Go.ChangeShapes Go.WideShapes Go.ChangeAt Go.RowKit

def posN (l : List Int) : Nat := (l.filter fun x => decide (0 < x)).length
def oneN (l : List Int) : Nat := (l.filter fun x => decide (x = 1)).length
theorem posN_cons (x : Int) (r : List Int) : posN (x :: r) = (if 0 < x then 1 else 0) + posN r := by
  unfold posN
  by_cases h : 0 < x <;> simp [h] <;> omega
theorem oneN_cons (x : Int) (r : List Int) : oneN (x :: r) = (if x = 1 then 1 else 0) + oneN r := by
  unfold oneN
  by_cases h : x = 1 <;> simp [h] <;> omega
theorem may_sum (l : List Int) (hg : l.any badLen = false) : oneN l ≤ posN l ∧ 0 ≤ l.sum ∧ (l.sum = 0 ↔ posN l = 0) ∧ (l.sum = 1 ↔ posN l = 1 ∧ oneN l = 1) := by
  induction l with
  | nil => simp [posN, oneN]
  | cons x r ih =>
    rw [List.any_cons, Bool.or_eq_false_iff] at hg
    have h1 := hg.1
    unfold badLen at h1
    rw [Bool.or_eq_false_iff] at h1
    have h2 : ¬ x < 0 := of_decide_eq_false h1.1
    obtain ⟨a1, a2, a3, a4⟩ := ih hg.2
    rw [posN_cons, oneN_cons, List.sum_cons]
    by_cases c0 : 0 < x
    · by_cases c1 : x = 1
      · subst c1
        simp only [if_true, show (0 : Int) < 1 by omega]
        omega
      · rw [if_pos c0, if_neg c1]
        omega
    · rw [if_neg c0, if_neg (by omega)]
      omega
theorem mayM_count (l : List Int) (hg : l.any badLen = false) (none_ : Bool) : mayM l none_ = (decide (roomOf l = 0) || (decide (posN l = 1) && decide (oneN l = 1)) || (none_ && decide (posN l = 0))) := by
  obtain ⟨_, _, a3, a4⟩ := may_sum l hg
  unfold mayM
  rw [← Bool.decide_and, decide_eq_decide.mpr a3, decide_eq_decide.mpr a4]
theorem posN_succ (l : List Int) (k : Nat) (hk : k < l.length) : posN (l.take (k + 1)) = posN (l.take k) + if 0 < l[k] then 1 else 0 := by
  unfold posN
  rw [List.take_succ_eq_append_getElem hk, List.filter_append, List.length_append]
  by_cases h : 0 < l[k] <;> simp [h]
theorem oneN_succ (l : List Int) (k : Nat) (hk : k < l.length) : oneN (l.take (k + 1)) = oneN (l.take k) + if l[k] = 1 then 1 else 0 := by
  unfold oneN
  rw [List.take_succ_eq_append_getElem hk, List.filter_append, List.length_append]
  by_cases h : l[k] = 1 <;> simp [h]
theorem posN_le (l : List Int) : posN l ≤ l.length := List.length_filter_le _ _
theorem oneN_le (l : List Int) : oneN l ≤ l.length := List.length_filter_le _ _
set_option maxHeartbeats 2000000 in
theorem dMay (Ai : Option Addr) (ci n : Nat) (l : List Int) (none_ : Bool) (w : World) (B : Nat) (hn : l.length = n) (hbs : Is w B Ai l) (hl : l.length ≤ 4096) (hg : l.any badLen = false) :
    Calls Try.prog 44 #[.slice Ai n ci, .bool none_] w fun e w' => e = .returned (.bool (mayM l none_)) ∧ w = w' := by
  subst hn
  have hr := refRoom_any Ai ci l B w hbs (by unfold maxLen; omega)
  have he : roomErr l = 0 := by unfold roomErr; rw [if_neg (by omega), hg]; rfl
  have ha : roomAns l = roomOf l := by unfold roomAns; rw [if_pos he]
  rw [he, ha] at hr
  have HR := Lib.hid hr
  obtain ⟨X, HX⟩ : ∃ X, Hid (mayM l none_ = X) := ⟨_, Lib.hid rfl⟩
  rw [HX.out]
  rw [mayM_count l hg none_] at HX
  generalize roomOf l = R at *
  clear hg hr he ha
  go_enter Try.func44, Try.ntmps44
  go_wp2_with fail
  go_loop [5, 6, 7] (fun a o i => ∃ (k pn on : Nat), k ≤ l.length ∧ pn ≤ k ∧ on ≤ k ∧ i = .int .i64 (k : Int) ∧ a = .int .i64 (pn : Int) ∧ o = .int .i64 (on : Int) ∧ Hid (pn = posN (l.take k)) ∧ Hid (on = oneN (l.take k))) (fun _ _ i => l.length - (intOf i).toNat)
  case atStart => exact ⟨0, 0, 0, by omega, by omega, by omega, rfl, rfl, rfl, Lib.hid rfl, Lib.hid rfl⟩
  case round =>
    obtain ⟨k, pn, on, hk, hpn, hon, rfl, rfl, rfl, HP, HO⟩ := hrel
    by_cases hlt : k < l.length
    · obtain ⟨ad, rfl, _, hcx⟩ := Is.at_ hbs hlt
      have HP2 := Lib.hid (posN_succ l k hlt)
      have HO2 := Lib.hid (oneN_succ l k hlt)
      generalize l[k] = x at *
      by_cases c0 : 0 < x
      · have d0 : decide (0 < x) = true := by simp; omega
        have HP3 : Hid (pn + 1 = posN (l.take (k + 1))) := Lib.hid (by rw [HP2.out, if_pos c0, HP.out])
        clear HP2
        by_cases c1 : x = 1
        · subst c1
          have HO3 : Hid (on + 1 = oneN (l.take (k + 1))) := Lib.hid (by rw [HO2.out, if_pos rfl, HO.out])
          clear HO2 c0
          go_wp2_with fail
          go_round
          case rel => exact ⟨k + 1, pn + 1, on + 1, by omega, by omega, by omega, by go_num, by go_num, by go_num, HP3, HO3⟩
          case measure => simp [intOf]; omega
        · have d1 : (x == 1) = false := by rw [beq_eq_false_iff_ne]; exact c1
          have HO3 : Hid (on = oneN (l.take (k + 1))) := Lib.hid (by rw [HO2.out, if_neg c1, HO.out, Nat.add_zero])
          clear HO2 c0 c1
          go_wp2_with fail
          go_round
          case rel => exact ⟨k + 1, pn + 1, on, by omega, by omega, by omega, by go_num, by go_num, rfl, HP3, HO3⟩
          case measure => simp [intOf]; omega
      · have d0 : decide (0 < x) = false := by simp; omega
        have d1 : (x == 1) = false := by rw [beq_eq_false_iff_ne]; omega
        have HP3 : Hid (pn = posN (l.take (k + 1))) := Lib.hid (by rw [HP2.out, if_neg c0, HP.out, Nat.add_zero])
        have HO3 : Hid (on = oneN (l.take (k + 1))) := Lib.hid (by rw [HO2.out, if_neg (by omega), HO.out, Nat.add_zero])
        clear HP2 HO2 c0
        go_wp2_with fail
        go_round
        case rel => exact ⟨k + 1, pn, on, by omega, by omega, by omega, by go_num, rfl, rfl, HP3, HO3⟩
        case measure => simp [intOf]; omega
    · obtain rfl : k = l.length := by omega
      have hp := HP.out
      have ho := HO.out
      rw [List.take_length] at hp ho
      rw [← hp, ← ho] at HX
      clear hp ho HP HO
      go_wp2_with fail
      refine HR.out.mono ?_
      rintro e w1 ⟨rfl, rfl⟩
      by_cases c1 : R = 0
      · have d1 : (R == 0) = true := by rw [beq_iff_eq]; exact c1
        have HX2 : Hid (X = true) := Lib.hid (by rw [← HX.out]; simp [c1])
        clear c1
        go_wp2_with fail
        go_ret
        exact ⟨ret_bl HX2.out.symm, rfl⟩
      · have d1 : (R == 0) = false := by rw [beq_eq_false_iff_ne]; exact c1
        by_cases c2 : pn = 1
        · subst c2
          by_cases c3 : on = 1
          · subst c3
            have HX2 : Hid (X = true) := Lib.hid (by rw [← HX.out]; simp)
            clear c1
            go_wp2_with fail
            go_ret
            exact ⟨ret_bl HX2.out.symm, rfl⟩
          · have d3 : ((on : Int) == 1) = false := by rw [beq_eq_false_iff_ne]; omega
            have HX2 : Hid (X = false) := Lib.hid (by rw [← HX.out]; simp [c1, c3])
            clear c1 c3
            cases none_
            all_goals
              go_wp2_with fail
              go_ret
              exact ⟨ret_bl HX2.out.symm, rfl⟩
        · have d2 : ((pn : Int) == 1) = false := by rw [beq_eq_false_iff_ne]; omega
          by_cases c3 : pn = 0
          · subst c3
            have HX2 : Hid (X = none_) := Lib.hid (by rw [← HX.out]; simp [c1])
            clear c1 c2
            cases none_
            all_goals
              go_wp2_with fail
              go_ret
              exact ⟨ret_bl HX2.out.symm, rfl⟩
          · have d3 : ((pn : Int) == 0) = false := by rw [beq_eq_false_iff_ne]; omega
            have HX2 : Hid (X = false) := Lib.hid (by rw [← HX.out]; simp [c1, c2, c3])
            clear c1 c2 c3
            cases none_
            all_goals
              go_wp2_with fail
              go_ret
              exact ⟨ret_bl HX2.out.symm, rfl⟩
/-- Where the symbols of groups of g begin. -/
def baseN (g : Nat) : Nat → Nat
  | 0 => 0
  | i + 1 => baseN g i + 2 ^ (if 2 * g ≤ i then i / g - 1 else 0)
def baseL (k g : Nat) : Nat × Nat := if k < 2 * g then (k, 0) else ((g + k % g) * 2 ^ (k / g - 1), k / g - 1)
theorem baseN_L : ∀ g, g < 5 → 2 ≤ g → ∀ k, k < 32 → ¬ k < 2 * g → baseN g k = (g + k % g) * 2 ^ (k / g - 1) := by decide +kernel
theorem baseN_le : ∀ g, g < 5 → 2 ≤ g → ∀ k, k < 33 → baseN g k ≤ 200000 := by decide +kernel
theorem steppedM_B (b : List UInt8) (k g p : Nat) (hp : p ≤ 8 * b.length) : steppedM b k g p = match takeM b p (baseL k g).2 with
    | .error e => .error e
    | .ok (x, q) => .ok ((baseL k g).1 + x, q) := by
  unfold steppedM baseL
  by_cases h1 : k < 2 * g
  · rw [if_pos h1, if_pos h1]
    dsimp only
    rw [takeM_zero b p hp]
    rfl
  · rw [if_neg h1, if_neg h1]
    rfl
theorem baseL_le (k g : Nat) (hg : 2 ≤ g) (hg2 : g ≤ 4) (hk : k ≤ 31) : (baseL k g).1 ≤ 200000 ∧ (baseL k g).2 ≤ 14 := by
  unfold baseL
  split
  · dsimp only; omega
  · rename_i h
    rw [← baseN_L g (by omega) hg k (by omega) h]
    refine ⟨baseN_le g (by omega) hg k (by omega), ?_⟩
    have h1 : k / g ≤ k / 2 := Nat.div_le_div_left hg (by omega)
    dsimp only
    omega
set_option maxHeartbeats 2000000 in
theorem dBase (w : World) (k g from_ : Nat) (hg : 2 ≤ g) (hg2 : g ≤ 4) (hk : k ≤ 31) (hf : from_ ≤ 10) :
    Calls Try.prog 69 #[.int .i64 (k : Int), .int .i64 (g : Int), .int .i64 (from_ : Int)] w fun e w' => e = .returned (.tuple #[.int .i64 ((from_ + (baseL k g).1 : Nat) : Int), .int .i64 ((baseL k g).2 : Int)]) ∧ ∃ m, w' = w.drewN m := by
  obtain ⟨X, HX⟩ : ∃ X, Hid (baseL k g = X) := ⟨_, Lib.hid rfl⟩
  rw [HX.out]
  unfold baseL at HX
  by_cases hkg : k < 2 * g
  · rw [if_pos hkg] at HX
    rw [← HX.out]
    clear HX
    have d1 : decide ((k : Int) < 2 * (g : Int)) = true := by simp; omega
    go_enter Try.func69, Try.ntmps69
    go_wp2_with fail
    go_ret2
    exact ⟨ret_two (by omega) rfl, 0, rfl⟩
  · rw [if_neg hkg, ← baseN_L g (by omega) hg k (by omega) hkg] at HX
    rw [← HX.out]
    clear HX
    have d1 : decide ((k : Int) < 2 * (g : Int)) = false := by simp; omega
    obtain ⟨M, hM⟩ : ∃ M, k / g - 1 = M := ⟨_, rfl⟩
    have hm2 : ((k : Int) / (g : Int)) - 1 = (M : Int) := by
      have h1 : 1 ≤ k / g := (Nat.le_div_iff_mul_le (by omega)).mpr (by omega)
      have h2 : ((k / g : Nat) : Int) = (k : Int) / (g : Int) := by simp
      omega
    rw [hM]
    have HM : Hid (wrap64 (wrap64 ((k : Int) / (g : Int)) - 1) = (M : Int)) := Lib.hid (by
      have h0 : 0 ≤ (k : Int) / (g : Int) := by omega
      have h1 : (k : Int) / (g : Int) ≤ 40 := by
        have h2 : k / g ≤ k := Nat.div_le_self k g
        have h3 : ((k / g : Nat) : Int) = (k : Int) / (g : Int) := by simp
        omega
      rw [IntWalk.wrap64_in ((k : Int) / (g : Int)) (by omega), IntWalk.wrap64_in _ (by omega)]
      exact hm2)
    have hg0 : ¬ g = 0 := by omega
    have HKG := Lib.hid hkg
    clear hM hkg
    go_enter Try.func69, Try.ntmps69
    go_wp2_with fail
    go_loopw [9, 10] (fun v i wr => ∃ (j s : Nat), j ≤ k ∧ i = .int .i64 (j : Int) ∧ v = .int .i64 (s : Int) ∧ s ≤ 200010 ∧ Hid (s = from_ + baseN g j) ∧ ∃ n, wr = w.drewN n) (fun _ i _ => k - (intOf i).toNat)
    case atStart => exact ⟨0, from_, by omega, rfl, rfl, by omega, Lib.hid rfl, 0, rfl⟩
    case round =>
      obtain ⟨j, s, hj, rfl, rfl, hs, HS, n, rfl⟩ := hrel
      by_cases hlt : j < k
      · have hb1 := baseN_le g (by omega) hg (j + 1) (by omega)
        by_cases hjg : 2 * g ≤ j
        · have d2 : decide (2 * (g : Int) ≤ (j : Int)) = true := by simp; omega
          obtain ⟨m, hm⟩ : ∃ m, j / g - 1 = m := ⟨_, rfl⟩
          have hm3 : ((j : Int) / (g : Int)) - 1 = (m : Int) := by
            have h1 : 1 ≤ j / g := (Nat.le_div_iff_mul_le (by omega)).mpr (by omega)
            have h2 : ((j / g : Nat) : Int) = (j : Int) / (g : Int) := by simp
            omega
          have hm15 : m ≤ 14 := by
            have h1 : j / g ≤ j / 2 := Nat.div_le_div_left hg (by omega)
            omega
          have e1 : baseN g (j + 1) = baseN g j + 2 ^ m := by rw [baseN, if_pos hjg, hm]
          have hpw : Hid (wrap64 (2 ^ m) = ((2 ^ m : Nat) : Int)) := Lib.hid (by
            have h1 : 2 ^ m ≤ 16384 := Nat.le_trans (Nat.pow_le_pow_right (n := 2) (by omega) hm15) (by decide)
            have e : (2 : Int) ^ m = ((2 ^ m : Nat) : Int) := by simp
            rw [e]
            generalize 2 ^ m = q at *
            rw [IntWalk.wrap64_in (q : Int) (by omega)])
          have HS2 : Hid (s + 2 ^ m = from_ + baseN g (j + 1)) := Lib.hid (by rw [e1, HS.out]; omega)
          have hq : 2 ^ m ≤ 16384 := Nat.le_trans (Nat.pow_le_pow_right (n := 2) (by omega) hm15) (by decide)
          obtain ⟨q, hq2⟩ : ∃ q, 2 ^ m = q := ⟨_, rfl⟩
          rw [hq2] at hpw HS2 hq
          have hb2 : s + q ≤ 200010 := by rw [HS2.out]; omega
          have HQ := Lib.hid hq2
          clear hm e1 hb1 hq2
          go_wp2_with fail
          rw [hpw.out, IntWalk.wrap64_in ((s : Int) + (q : Int)) (by omega)]
          go_roundw
          case rel => exact ⟨j + 1, s + q, by omega, by go_num, by go_num, hb2, HS2, _, rfl⟩
          case measure => simp [intOf]; omega
        · have d2 : decide (2 * (g : Int) ≤ (j : Int)) = false := by simp; omega
          have HS2 : Hid (s + 1 = from_ + baseN g (j + 1)) := Lib.hid (by rw [baseN, if_neg hjg, HS.out]; omega)
          have hb2 : s + 1 ≤ 200010 := by rw [HS2.out]; omega
          clear hb1
          go_wp2_with fail
          go_roundw
          case rel => exact ⟨j + 1, s + 1, by omega, by go_num, by go_num, hb2, HS2, _, rfl⟩
          case measure => simp [intOf]; omega
      · obtain rfl : j = k := by omega
        go_wp2_with fail
        go_ret2
        exact ⟨ret_two (by rw [HS.out]) HM.out, _, rfl⟩
end Go.Proofs.Ythbdhpciibjnmaa

/- The document's reader of deflated bytes, third part: the fixed lengths, the row of lengths. -/
namespace Go.Proofs.Ythbdhpciibjnmaa
open Go.ChangeShapes Go.WideShapes Go.ChangeAt Go.RowKit

/-- A row of numbers of the call's own. -/
def RwI (w : World) (A : Option Addr) (n c : Nat) (l : List Int) (wr : World) : Prop := wr.ownsRow w.heap.size 3 1 (.slice A n c) n (intsV l) ∧ Below w.heap.size w wr
theorem RwI.add {w wr w9 : World} {A A9 : Option Addr} {n c c9 : Nat} {l : List Int} {z : Int} {o : Obj} (h : RwI w A n c l wr) (h9 : w9.ownsRow w.heap.size 3 1 (.slice A9 (n + 1) c9) (n + 1) (intsV l ++ [.int .i64 z])) (hg : (wr.alloc o).grownBy w9 (Value.slice A n c).ownBlock) : RwI w A9 (n + 1) c9 (l ++ [z]) w9 :=
  ⟨by rw [intsV_append]; exact h9, (h.2.alloc h.2.size o).grown hg (by have := h.2.size; simp; omega) (fun k hk => (h.1.lt k hk).1)⟩
theorem fixedL_take (k : Nat) (z : Int) (hk : k < 288) (hz : (if k ≤ 143 then (8 : Int) else if k ≤ 255 then 9 else if k ≤ 279 then 7 else 8) = z) : fixedL.take k ++ [z] = fixedL.take (k + 1) := by
  have h1 := fixedL_get k hk
  rw [hz] at h1
  obtain ⟨h2, h3⟩ := List.getElem?_eq_some_iff.mp h1
  rw [List.take_succ_eq_append_getElem h2, h3]
set_option maxHeartbeats 4000000 in
set_option maxRecDepth 100000 in
theorem dFixed (w : World) :
    Calls Try.prog 23 #[] w fun e w' => ∃ A1 c1 A2 c2, e = .returned (.tuple #[.slice A1 288 c1, .slice A2 30 c2]) ∧ Is w' w'.heap.size A1 fixedL ∧ Is w' w'.heap.size A2 fixedD ∧ Below w.heap.size w w' := by
  obtain ⟨i0, hi, hz0, hz1, hz2⟩ := info_parts info_int
  go_enter Try.func23, Try.ntmps23
  go_wp2_with fail
  go_loopw [2, 4] (fun v i wr => ∃ (k m c1 : Nat) (A1 : Option Addr), k ≤ 288 ∧ m = k ∧ i = .int .i64 (k : Int) ∧ v = .slice A1 m c1 ∧ Hid (RwI w A1 m c1 (fixedL.take k) wr)) (fun _ i _ => 288 - (intOf i).toNat)
  case atStart => exact ⟨0, 0, 0, none, by omega, rfl, rfl, rfl, Lib.hid ⟨World.ownsRow_nil _ _ _ _, Below.refl _ _⟩⟩
  case round =>
    obtain ⟨k, m, c1, A1, hk, hmk, rfl, rfl, HR⟩ := hrel
    have HM := Lib.hid hmk
    by_cases hlt : k < 288
    · have hm63 : m + 1 ≤ maxLen := by unfold maxLen; omega
      have hm47 : (m + 1) * 8 ≤ 140737488355328 := by omega
      have hsz : w.heap.size ≤ (wr.alloc (.cells #[.int .i64 0] 3)).heap.size := by have := HR.out.2.size; simp; omega
      have hc4 : k ≤ 143 ∨ (144 ≤ k ∧ k ≤ 255) ∨ (256 ≤ k ∧ k ≤ 279) ∨ 280 ≤ k := by omega
      clear hmk
      rcases hc4 with h1 | h1 | h1 | h1
      · have HZ := fun z hz => Lib.hid (fixedL_take k z hlt hz)
        have HZ8 := HZ 8 (if_pos h1)
        clear HZ
        have d1 : decide ((144 : Int) ≤ (k : Int)) = false := by simp; omega
        have d3 : decide ((256 : Int) ≤ (k : Int)) = false := by simp; omega
        go_wp2_with (at_builtin; refine wpList_append_vs _ rfl (.tmp 23) (.tmp 25) _ rfl w.heap.size 3 i0 (.int .i64 0) 8 Try.underlying36 hi hz0 hz1 hz2 rfl (.slice A1 m c1) m (intsV (fixedL.take k)) rfl (HR.out.1.alloc _) (wr.heap.size + 1) (some ⟨wr.heap.size, 0, none⟩) 1 1 [.int .i64 8] rfl rfl (vs_lit1 wr 3 _) (by simp [Value.oneCell']) hm63 hm47 (by simp at hsz ⊢; exact hsz) ?_; intro A9 c9 w9 o9 hg9 _; have HR9 := Lib.hid (HR.out.add o9 hg9); rw [HZ8.out] at HR9; clear o9 hg9)
        go_roundw
        case rel => exact ⟨k + 1, m + 1, c9, A9, by omega, by have := HM.out; omega, by go_num, rfl, HR9⟩
        case measure => simp [intOf]; omega
      · have HZ := fun z hz => Lib.hid (fixedL_take k z hlt hz)
        have HZ8 := HZ 9 (by rw [if_neg (by omega), if_pos h1.2])
        clear HZ
        have d1 : decide ((144 : Int) ≤ (k : Int)) = true := by simp; omega
        have d2 : decide ((k : Int) < (256 : Int)) = true := by simp; omega
        have d3 : decide ((256 : Int) ≤ (k : Int)) = false := by simp; omega
        go_wp2_with (at_builtin; refine wpList_append_vs _ rfl (.tmp 23) (.tmp 25) _ rfl w.heap.size 3 i0 (.int .i64 0) 8 Try.underlying36 hi hz0 hz1 hz2 rfl (.slice A1 m c1) m (intsV (fixedL.take k)) rfl (HR.out.1.alloc _) (wr.heap.size + 1) (some ⟨wr.heap.size, 0, none⟩) 1 1 [.int .i64 9] rfl rfl (vs_lit1 wr 3 _) (by simp [Value.oneCell']) hm63 hm47 (by simp at hsz ⊢; exact hsz) ?_; intro A9 c9 w9 o9 hg9 _; have HR9 := Lib.hid (HR.out.add o9 hg9); rw [HZ8.out] at HR9; clear o9 hg9)
        go_roundw
        case rel => exact ⟨k + 1, m + 1, c9, A9, by omega, by have := HM.out; omega, by go_num, rfl, HR9⟩
        case measure => simp [intOf]; omega
      · have HZ := fun z hz => Lib.hid (fixedL_take k z hlt hz)
        have HZ8 := HZ 7 (by rw [if_neg (by omega), if_neg (by omega), if_pos h1.2])
        clear HZ
        have d1 : decide ((144 : Int) ≤ (k : Int)) = true := by simp; omega
        have d2 : decide ((k : Int) < (256 : Int)) = false := by simp; omega
        have d3 : decide ((256 : Int) ≤ (k : Int)) = true := by simp; omega
        have d4 : decide ((k : Int) < (280 : Int)) = true := by simp; omega
        go_wp2_with (at_builtin; refine wpList_append_vs _ rfl (.tmp 23) (.tmp 25) _ rfl w.heap.size 3 i0 (.int .i64 0) 8 Try.underlying36 hi hz0 hz1 hz2 rfl (.slice A1 m c1) m (intsV (fixedL.take k)) rfl (HR.out.1.alloc _) (wr.heap.size + 1) (some ⟨wr.heap.size, 0, none⟩) 1 1 [.int .i64 7] rfl rfl (vs_lit1 wr 3 _) (by simp [Value.oneCell']) hm63 hm47 (by simp at hsz ⊢; exact hsz) ?_; intro A9 c9 w9 o9 hg9 _; have HR9 := Lib.hid (HR.out.add o9 hg9); rw [HZ8.out] at HR9; clear o9 hg9)
        go_roundw
        case rel => exact ⟨k + 1, m + 1, c9, A9, by omega, by have := HM.out; omega, by go_num, rfl, HR9⟩
        case measure => simp [intOf]; omega
      · have HZ := fun z hz => Lib.hid (fixedL_take k z hlt hz)
        have HZ8 := HZ 8 (by rw [if_neg (by omega), if_neg (by omega), if_neg (by omega)])
        clear HZ
        have d1 : decide ((144 : Int) ≤ (k : Int)) = true := by simp; omega
        have d2 : decide ((k : Int) < (256 : Int)) = false := by simp; omega
        have d3 : decide ((256 : Int) ≤ (k : Int)) = true := by simp; omega
        have d4 : decide ((k : Int) < (280 : Int)) = false := by simp; omega
        go_wp2_with (at_builtin; refine wpList_append_vs _ rfl (.tmp 23) (.tmp 25) _ rfl w.heap.size 3 i0 (.int .i64 0) 8 Try.underlying36 hi hz0 hz1 hz2 rfl (.slice A1 m c1) m (intsV (fixedL.take k)) rfl (HR.out.1.alloc _) (wr.heap.size + 1) (some ⟨wr.heap.size, 0, none⟩) 1 1 [.int .i64 8] rfl rfl (vs_lit1 wr 3 _) (by simp [Value.oneCell']) hm63 hm47 (by simp at hsz ⊢; exact hsz) ?_; intro A9 c9 w9 o9 hg9 _; have HR9 := Lib.hid (HR.out.add o9 hg9); rw [HZ8.out] at HR9; clear o9 hg9)
        go_roundw
        case rel => exact ⟨k + 1, m + 1, c9, A9, by omega, by have := HM.out; omega, by go_num, rfl, HR9⟩
        case measure => simp [intOf]; omega
    · obtain rfl : k = 288 := by omega
      have hR := HR.out
      rw [show fixedL.take 288 = fixedL from List.take_of_length_le (by rw [fixedL_length]; omega)] at hR
      obtain rfl : m = 288 := HM.out
      have HI := Lib.hid (Vs.of_own hR.1)
      have HB := Lib.hid hR.2
      have hsw := hR.2.size
      clear hR HR hmk
      obtain ⟨w5, rfl⟩ : ∃ x, x = wr := ⟨_, rfl⟩
      go_wp2_with fail
      go_loopw [3, 6] (fun v i wx => ∃ (j m c2 : Nat) (A2 : Option Addr), j ≤ 30 ∧ m = j ∧ i = .int .i64 (j : Int) ∧ v = .slice A2 m c2 ∧ Hid (RwI w5 A2 m c2 (List.replicate j 5) wx)) (fun _ i _ => 30 - (intOf i).toNat)
      case atStart => exact ⟨0, 0, 0, none, by omega, rfl, rfl, rfl, Lib.hid ⟨World.ownsRow_nil _ _ _ _, Below.refl _ _⟩⟩
      case round =>
        obtain ⟨j, m, c2, A2, hj, hmj, rfl, rfl, HQ⟩ := hrel
        have HM2 := Lib.hid hmj
        by_cases hlt : j < 30
        · have hm63 : m + 1 ≤ maxLen := by unfold maxLen; omega
          have hm47 : (m + 1) * 8 ≤ 140737488355328 := by omega
          have hsz : w5.heap.size ≤ (wr.alloc (.cells #[.int .i64 0] 3)).heap.size := by have := HQ.out.2.size; simp; omega
          have HZ : Hid (List.replicate j (5 : Int) ++ [5] = List.replicate (j + 1) 5) := Lib.hid List.replicate_succ'.symm
          clear hmj
          go_wp2_with (at_builtin; refine wpList_append_vs _ rfl (.tmp 31) (.tmp 32) _ rfl w5.heap.size 3 i0 (.int .i64 0) 8 Try.underlying36 hi hz0 hz1 hz2 rfl (.slice A2 m c2) m (intsV (List.replicate j 5)) rfl (HQ.out.1.alloc _) (wr.heap.size + 1) (some ⟨wr.heap.size, 0, none⟩) 1 1 [.int .i64 5] rfl rfl (vs_lit1 wr 3 _) (by simp [Value.oneCell']) hm63 hm47 (by simp at hsz ⊢; exact hsz) ?_; intro A9 c9 w9 o9 hg9 _; have HR9 := Lib.hid (HQ.out.add o9 hg9); rw [HZ.out] at HR9; clear o9 hg9)
          go_roundw
          case rel => exact ⟨j + 1, m + 1, c9, A9, by omega, by have := HM2.out; omega, by go_num, rfl, HR9⟩
          case measure => simp [intOf]; omega
        · obtain rfl : j = 30 := by omega
          obtain rfl : m = 30 := HM2.out
          have hQ := HQ.out
          clear hmj
          go_wp2_with fail
          go_ret2
          exact ⟨A1, c1, A2, ⟨c2, rfl⟩, (HI.out.below hQ.2).more hQ.2.size, Vs.of_own hQ.1, HB.out.trans (hQ.2.mono hsw)⟩
def DRow (w : World) (A : Option Addr) (n c : Nat) (Ao : Option Addr) (m co most : Nat) (x : Except Nat (Nat × List Int)) (e : Ending) (w' : World) : Prop :=
  match x with
  | .error k => (∃ p, e = .returned (.tuple #[.agg (stA A n c p Ao m co most k), .slice none 0 0])) ∧ Below w.heap.size w w'
  | .ok (q, l) => ∃ Ar nr cr, e = .returned (.tuple #[.agg (stA A n c q Ao m co most 0), .slice Ar nr cr]) ∧ w'.ownsRow w.heap.size 3 1 (.slice Ar nr cr) nr (intsV l) ∧ Below w.heap.size w w'
/-- The frame of a call that has a table besides. -/
structure FrT (w : World) (T : Array Value) (S Z : Array Value) (w' : World) : Prop where
  fr : FrS w w.heap.size (w.heap.size + 1 + 1) S Z w'
  tb : Blk w' (w.heap.size + 1) 63 T
section
variable {w w1 w2 : World} {T S Z : Array Value} {ops : Array Oper} {rest : List Oper} {o : Oper} {a : Act} {Q : Exit → Act → World → Prop}
theorem FrT.start (w : World) (S T : Array Value) : FrT w T S st0 (((w.alloc (.cells S 53)).alloc (.cells T 63)).alloc (.cells st0 53)) := ⟨FrS.start2 w S T, (blk_second w _ _ _).alloc _⟩
theorem FrT.call (h : FrT w T S Z w1) (hb : Below w1.heap.size w1 w2) : FrT w T S Z w2 := ⟨h.fr.call hb, h.tb.upd (Upd.of_fresh hb) id⟩
theorem FrT.alloc (h : FrT w T S Z w1) (o : Obj) : FrT w T S Z (w1.alloc o) := h.call ((Below.refl _ _).alloc (Nat.le_refl _) o)
theorem FrT.set_ (h : FrT w T S Z w1) (i : Nat) (v : Value) : FrT w T (S.setIfInBounds i v) Z (w1.setCell ⟨w.heap.size, i, none⟩ v) :=
  ⟨h.fr.set_ i v, h.tb.upd ((Upd.refl (· = w.heap.size) w1).setCell (p := ⟨w.heap.size, i, none⟩) (fun _ => rfl) v) (by omega)⟩
/-- A row of numbers of the call's own grows. -/
theorem FrT.grow {v : Value} {n : Nat} {xs : List Value} {o : Obj} (h : FrT w T S Z w1) (hO : w1.ownsRow w.heap.size 3 1 v n xs) (hg : (w1.alloc o).grownBy w2 v.ownBlock) : FrT w T S Z w2 := by
  have hu : Upd (fun k => some k = v.ownBlock) w1 w2 := ((Upd.refl _ w1).alloc _).trans (Upd.of_grown hg)
  refine ⟨⟨h.fr.box.upd hu (fun e => own_blk_ne hO h.fr.box (by decide) e.symm), h.fr.res.upd hu (fun e => own_blk_ne hO h.fr.res (by decide) e.symm), h.fr.ne, h.fr.lo, h.fr.lo2, h.fr.bel.trans (hu.below h.fr.bel.size (fun k hk e => ?_))⟩, h.tb.upd hu (fun e => own_blk_ne hO h.tb (by decide) e.symm)⟩
  have := (hO.lt k e.symm).1
  omega
theorem FrT.ld (h : FrT w T S Z w1) (hs : S.size = 6) (hgd : o.guard = none) (x : Operand) (ho : o.op = .load 53 x) (hx : a.eval x = .pointer (some ⟨w.heap.size, 0, none⟩))
    (k : wpList Try.prog ops Q rest (a.put o.dst (.agg S)) w1) : wpList Try.prog ops Q (o :: rest) a w1 := h.fr.ld hs hgd x ho hx k
theorem FrT.ldT (h : FrT w T S Z w1) (hs : T.size = 37) (hgd : o.guard = none) (x : Operand) (ho : o.op = .load 63 x) (hx : a.eval x = .pointer (some ⟨w.heap.size + 1, 0, none⟩))
    (k : wpList Try.prog ops Q rest (a.put o.dst (.agg T)) w1) : wpList Try.prog ops Q (o :: rest) a w1 :=
  wpList_load_row hgd 63 x ho (w.heap.size + 1) hx 63 T (0, 0) _ h.tb Try.underlying63 rfl (by rw [hs]; exact tbl_info) k
theorem FrT.st (h : FrT w T S Z w1) (hs : S.size = 6) (hgd : o.guard = none) (x y : Operand) (ho : o.op = .store 53 x y) (hx : a.eval x = .pointer (some ⟨w.heap.size, 0, none⟩)) {S' : Array Value} (hy : a.eval y = .agg S')
    (hs' : S'.size = 6) (h1 : S'.all (·.oneCell') = true) (k : ∀ w2, FrT w T S' Z w2 → Upd (· = w.heap.size) w1 w2 → wpList Try.prog ops Q rest (a.put o.dst undef) w2) : wpList Try.prog ops Q (o :: rest) a w1 :=
  h.fr.st hs hgd x y ho hx hy hs' h1 fun w2 hf hu => k w2 ⟨hf, h.tb.upd hu (by omega)⟩ hu
theorem FrT.stZ (h : FrT w T S Z w1) (hs : Z.size = 6) (hgd : o.guard = none) (x y : Operand) (ho : o.op = .store 53 x y) (hx : a.eval x = .pointer (some ⟨w.heap.size + 1 + 1, 0, none⟩)) {S' : Array Value} (hy : a.eval y = .agg S')
    (hs' : S'.size = 6) (h1 : S'.all (·.oneCell') = true) (k : ∀ w2, FrS w w.heap.size (w.heap.size + 1 + 1) S S' w2 → Upd (· = w.heap.size + 1 + 1) w1 w2 → wpList Try.prog ops Q rest (a.put o.dst undef) w2) : wpList Try.prog ops Q (o :: rest) a w1 :=
  wpB_store hgd 53 x y ho (w.heap.size + 1 + 1) S' hx hy 53 Z h.fr.res (by rw [hs']; exact st_info) (by rw [hs, hs']) h1 fun w2 hb hu =>
    k w2 ⟨h.fr.box.upd hu (by omega), hb, h.fr.ne, h.fr.lo, h.fr.lo2, h.fr.bel.trans (hu.below h.fr.bel.size (fun j hj e => by have := h.fr.lo2; omega))⟩ hu
end
theorem st_oneA (A : Option Addr) (n c p : Nat) (Ao : Option Addr) (m co most E : Nat) : (stA A n c p Ao m co most E).all (·.oneCell') = true := st_one _ _ _ _ _ _ _ _ _ _
end Go.Proofs.Ythbdhpciibjnmaa

/- The document's reader of deflated bytes, fourth part: the row of lengths. -/
namespace Go.Proofs.Ythbdhpciibjnmaa
open Go.ChangeShapes Go.WideShapes Go.ChangeAt Go.RowKit

theorem FrS.err {w w1 : World} {g z : Nat} {A : Option Addr} {n c p : Nat} {Ao : Option Addr} {m co most E : Nat} {Z : Array Value} (h : FrS w g z (stA A n c p Ao m co most E) Z w1) : w1.cell? ⟨g, 5, none⟩ = some (.int .i64 (E : Int)) := h.box.cell 5
theorem FrT.err {w w1 : World} {T : Array Value} {A : Option Addr} {n c p : Nat} {Ao : Option Addr} {m co most E : Nat} {Z : Array Value} (h : FrT w T (stA A n c p Ao m co most E) Z w1) : w1.cell? ⟨w.heap.size, 5, none⟩ = some (.int .i64 (E : Int)) := h.fr.err
theorem FrS.setE {w w1 : World} {g z : Nat} {A : Option Addr} {n c p : Nat} {Ao : Option Addr} {m co most E : Nat} {Z : Array Value} (h : FrS w g z (stA A n c p Ao m co most E) Z w1) (k : Nat) : FrS w g z (stA A n c p Ao m co most k) Z (w1.setCell ⟨g, 5, none⟩ (.int .i64 (k : Int))) := h.set_ 5 (.int .i64 (k : Int))
theorem FrT.setE {w w1 : World} {T : Array Value} {A : Option Addr} {n c p : Nat} {Ao : Option Addr} {m co most E : Nat} {Z : Array Value} (h : FrT w T (stA A n c p Ao m co most E) Z w1) (k : Nat) : FrT w T (stA A n c p Ao m co most k) Z (w1.setCell ⟨w.heap.size, 5, none⟩ (.int .i64 (k : Int))) := h.set_ 5 (.int .i64 (k : Int))
theorem at_st (ty : TypeId) (x y : Tmp) {P : Program} {ops : Array Oper} {rest : List Oper} {a : Act} {w : World} {Q : Exit → Act → World → Prop} {d : Option Tmp} {t : TypeId} {pos : String} {af : Array Edge} {g : Option (Nat × Bool)} (k : wpList P ops Q (⟨d, .store ty (.tmp x) (.tmp y), t, pos, af, g⟩ :: rest) a w) : wpList P ops Q (⟨d, .store ty (.tmp x) (.tmp y), t, pos, af, g⟩ :: rest) a w := k
theorem at_ld (ty : TypeId) (x : Tmp) {P : Program} {ops : Array Oper} {rest : List Oper} {a : Act} {w : World} {Q : Exit → Act → World → Prop} {d : Option Tmp} {t : TypeId} {pos : String} {af : Array Edge} {g : Option (Nat × Bool)} (k : wpList P ops Q (⟨d, .load ty (.tmp x), t, pos, af, g⟩ :: rest) a w) : wpList P ops Q (⟨d, .load ty (.tmp x), t, pos, af, g⟩ :: rest) a w := k
set_option maxHeartbeats 8000000 in
set_option maxRecDepth 100000 in
theorem dRow (w : World) (A : Option Addr) (c : Nat) (b : List UInt8) (p : Nat) (Ao : Option Addr) (mo co most : Nat) (lc : List Int) (cs : List Value) (hT : TblV w w.heap.size lc cs) (hlc : lc.length = 19) (hro : 0 ≤ roomOf lc) (hbs : Bs w w.heap.size A b) (hbl : b.length ≤ 140737488355328) (hp : p ≤ 8 * b.length) (n : Nat) (hn : n ≤ 400) :
    Calls Try.prog 45 #[.agg (stA A b.length c p Ao mo co most 0), .agg cs.toArray, .int .i64 (n : Int)] w (DRow w A b.length c Ao mo co most (rowM b lc n p [])) := by
  obtain ⟨i0, hi, hz0, hz1, hz2⟩ := info_parts info_int
  obtain ⟨X, HX⟩ : ∃ X, Hid (rowM b lc n p [] = X) := ⟨_, Lib.hid rfl⟩
  rw [HX.out]
  have HF0 := Lib.hid (FrT.start w (stA A b.length c p Ao mo co most 0) cs.toArray)
  have HCL : Hid (cs.toArray.size = 37) := Lib.hid (by rw [List.size_toArray]; exact hT.1)
  have HTB := Lib.hid hT
  have HBS := Lib.hid hbs
  have HRO := Lib.hid hro
  have HLC := Lib.hid hlc
  clear hT hlc hro hbs
  go_enter Try.func45, Try.ntmps45
  go_wp2_with fail
  go_loopg [8] (8 * b.length - p) (fun gk v wr => ∃ (q m cr : Nat) (Ar : Option Addr) (row : List Int), gk = 8 * b.length - q ∧ q ≤ 8 * b.length ∧ m ≤ n ∧ v = .slice Ar m cr ∧ Hid (wr.ownsRow w.heap.size 3 1 (.slice Ar m cr) m (intsV row)) ∧ Hid (FrT w cs.toArray (stA A b.length c q Ao mo co most 0) st0 wr) ∧ Hid (rowM b lc n q row = X))
  case atStart => exact ⟨p, 0, 0, none, [], rfl, hp, by omega, rfl, Lib.hid (World.ownsRow_nil _ _ _ _), HF0, HX⟩
  case round =>
    obtain ⟨q, m, cr, Ar, row, rfl, hq, hm, rfl, HO, HF, HXq⟩ := hrel
    have hrl := own_len HO.out
    rw [intsV_length] at hrl
    by_cases hlt : m < n
    · have hx1 := HXq.out
      rw [rowM_next hq (by omega)] at hx1
      have HN := Lib.hid (dNext wr A c b q Ao mo co most lc cs ((HTB.out.below HF.out.fr.bel).more HF.out.fr.bel.size) (by rw [HLC.out]; omega) HRO.out ((HBS.out.below HF.out.fr.bel).more HF.out.fr.bel.size) hbl hq)
      rcases hx : nextM b lc q with ke | ⟨v, q2⟩
      · rw [hx] at HN hx1
        have hke := nextM_err hx
        have HXE : Hid (X = .error ke) := Lib.hid hx1.symm
        have d1 : ((ke : Int) != 0) = true := by rw [bne_iff_ne]; omega
        clear hx hx1 hrl hke
        go_wp2_with (first
          | ((with_reducible refine at_ld 53 3 ?_); refine HF.out.ld rfl rfl (.tmp 3) rfl rfl ?_)
          | ((with_reducible refine at_ld 63 4 ?_); refine HF.out.ldT HCL.out rfl (.tmp 4) rfl rfl ?_))
        refine HN.out.mono ?_
        rintro e w3 ⟨⟨p3, rfl⟩, hb3⟩
        have HF3 := Lib.hid (HF.out.call hb3)
        clear hb3 HN
        go_wp2_with (first
          | ((with_reducible refine at_st 53 3 23 ?_); refine HF3.out.st rfl rfl (.tmp 3) (.tmp 23) rfl rfl rfl rfl (st_oneA _ _ _ _ _ _ _ _ _) ?_; intro w4 hF4 _; have HF4 := Lib.hid hF4; have c5 := hF4.err; clear hF4)
          | ((with_reducible refine at_ld 53 3 ?_); refine HF4.out.ld rfl rfl (.tmp 3) rfl rfl ?_)
          | ((with_reducible refine at_st 53 6 28 ?_); refine HF4.out.stZ rfl rfl (.tmp 6) (.tmp 28) rfl rfl rfl rfl (st_oneA _ _ _ _ _ _ _ _ _) ?_; intro w5 hF5 _; have HF5 := Lib.hid hF5; clear hF5))
        rw [HXE.out]
        exact bodyPost_ret (v := .tuple #[.agg _, .slice none 0 0]) (results_cell1 rfl _ _ (w.heap.size + 1 + 1) 53 _ _ _ rfl rfl HF5.out.res Try.underlying53 rfl st_info) rfl ⟨⟨p3, rfl⟩, HF5.out.bel⟩
      · rw [hx] at HN hx1
        dsimp only at hx1
        obtain ⟨hv19, hq2, hq2l⟩ := nextM_ok hx
        rw [HLC.out] at hv19
        clear hx
        go_wp2_with (first
          | ((with_reducible refine at_ld 53 3 ?_); refine HF.out.ld rfl rfl (.tmp 3) rfl rfl ?_)
          | ((with_reducible refine at_ld 63 4 ?_); refine HF.out.ldT HCL.out rfl (.tmp 4) rfl rfl ?_))
        refine HN.out.mono ?_
        rintro e w3 ⟨rfl, hb3⟩
        have HF3 := Lib.hid (HF.out.call hb3)
        have HO3 : Hid (w3.ownsRow w.heap.size 3 1 (.slice Ar m cr) m (intsV row)) := Lib.hid (own_upd HO.out (Upd.of_fresh hb3) (fun _ _ => id))
        clear hb3 HN
        rw [hrl] at hx1
        by_cases c16 : v = 16
        · subst c16
          rcases Nat.eq_zero_or_pos m with h0 | h0
          · have hr0 : row = [] := List.eq_nil_of_length_eq_zero (by omega)
            have hxr : runM b 16 row q2 = .error 41 := by rw [hr0]; rfl
            rw [hxr] at hx1
            have HXE : Hid (X = .error 41) := Lib.hid hx1.symm
            have d0 : ((m : Int) == 0) = true := by rw [h0]; rfl
            have HM0 := Lib.hid h0
            clear hx1 hxr hr0 hrl h0
            go_wp2_with (first
              | ((with_reducible refine at_st 53 3 23 ?_); refine HF3.out.st rfl rfl (.tmp 3) (.tmp 23) rfl rfl rfl rfl (st_oneA _ _ _ _ _ _ _ _ _) ?_; intro w4 hF4 hu4; have HF4 := Lib.hid hF4; have c5 := hF4.err; have c5f := hF4.fr.box.frozen 5; have HO4 : Hid (w4.ownsRow w.heap.size 3 1 (.slice Ar m cr) m (intsV row)) := Lib.hid (own_upd HO3.out hu4 (fun k hk e => own_blk_ne HO3.out HF3.out.fr.box (by decide) (by rw [hk, e]))); have HF7 := Lib.hid (hF4.setE 41); clear hF4 hu4)
              | ((with_reducible refine at_ld 53 3 ?_); refine HF7.out.ld rfl rfl (.tmp 3) rfl rfl ?_)
              | ((with_reducible refine at_st 53 6 44 ?_); refine HF7.out.stZ rfl rfl (.tmp 6) (.tmp 44) rfl rfl rfl rfl (st_oneA _ _ _ _ _ _ _ _ _) ?_; intro w8 hF8 _; have HF8 := Lib.hid hF8; clear hF8))
            rw [HXE.out]
            exact bodyPost_ret (v := .tuple #[.agg _, .slice none 0 0]) (results_cell1 rfl _ _ (w.heap.size + 1 + 1) 53 _ _ _ rfl rfl HF8.out.res Try.underlying53 rfl st_info) rfl ⟨⟨_, rfl⟩, HF8.out.bel⟩
          · have hml : m - 1 < row.length := by omega
            have hlast : row.getLast? = some (row[m - 1]'hml) := by
              rw [List.getLast?_eq_getElem?, show row.length - 1 = m - 1 by omega, List.getElem?_eq_getElem hml]
            obtain ⟨z, hz⟩ : ∃ z, row[m - 1]'hml = z := ⟨_, rfl⟩
            rw [hz] at hlast
            have HZ := Lib.hid hz
            have HRUN : Hid (runM b 16 row q2 = match takeM b q2 2 with | .error e => .error e | .ok (k, q) => .ok ((z, 3 + k), q)) := Lib.hid (by unfold runM; rw [if_pos rfl, hlast]; cases takeM b q2 2 <;> rfl)
            obtain ⟨ga, rfl, _, _, _, _⟩ := row_form HO3.out h0
            have d0 : ((m : Int) == 0) = false := by rw [beq_eq_false_iff_ne]; omega
            have s1 : IntKind.i64.wrap ((m : Int) - 1) = (m : Int) - 1 := IntWalk.i64_in _ (by omega)
            have s2 : 0 ≤ (m : Int) - 1 := by omega
            have s3 : ((m : Int) - 1).toNat = m - 1 := by omega
            have s4 : (m : Int) - 1 < (m : Int) := by omega
            have s5 : 1 ≤ m := by omega
            have s6 : (1 : Int) ≤ (m : Int) := by omega
            clear hlast hz hrl
            go_wp2_with (first
              | ((with_reducible refine at_st 53 3 23 ?_); refine HF3.out.st rfl rfl (.tmp 3) (.tmp 23) rfl rfl rfl rfl (st_oneA _ _ _ _ _ _ _ _ _) ?_; intro w4 hF4 hu4; have HF4 := Lib.hid hF4; have c5 := hF4.err; have c5f := hF4.fr.box.frozen 5; have HO4 : Hid (w4.ownsRow w.heap.size 3 1 (.slice (some ⟨ga, 0, none⟩) m cr) m (intsV row)) := Lib.hid (own_upd HO3.out hu4 (fun k hk e => own_blk_ne HO3.out HF3.out.fr.box (by decide) (by rw [hk, e]))); clear hF4 hu4)
              | ((with_reducible refine at_ld 53 3 ?_); refine HF4.out.ld rfl rfl (.tmp 3) rfl rfl ?_))
            have HBS4 := Lib.hid ((HBS.out.below HF4.out.fr.bel).more HF4.out.fr.bel.size)
            have HRT := Lib.hid (dTake w4 A c b q2 Ao mo co most HBS4.out hbl hq2l 2 (by omega))
            rcases hy2 : takeM b q2 2 with ke | ⟨k, q3⟩
            · have hxr : runM b 16 row q2 = .error ke := by rw [HRUN.out, hy2]
              rw [hxr] at hx1
              rw [hy2] at HRT
              have HXE : Hid (X = .error ke) := Lib.hid hx1.symm
              have hke := takeM_err hy2
              have d9 : ((ke : Int) != 0) = true := by rw [bne_iff_ne]; omega
              clear hy2 hx1 hke hxr
              refine HRT.out.mono ?_
              rintro e w5 ⟨⟨p5, rfl⟩, hb5⟩
              have HF5 := Lib.hid (HF4.out.call hb5)
              have HO5 : Hid (w5.ownsRow w.heap.size 3 1 (.slice (some ⟨ga, 0, none⟩) m cr) m (intsV row)) := Lib.hid (own_upd HO4.out (Upd.of_fresh hb5) (fun _ _ => id))
              clear hb5 HRT c5 c5f
              go_wp2_with (first
                | ((with_reducible refine at_st 53 3 49 ?_); refine HF5.out.st rfl rfl (.tmp 3) (.tmp 49) rfl rfl rfl rfl (st_oneA _ _ _ _ _ _ _ _ _) ?_; intro w6 hF6 hu6; have HF6 := Lib.hid hF6; have e5 := hF6.err; have e5f := hF6.fr.box.frozen 5; have HO6 : Hid (w6.ownsRow w.heap.size 3 1 (.slice (some ⟨ga, 0, none⟩) m cr) m (intsV row)) := Lib.hid (own_upd HO5.out hu6 (fun k hk e => own_blk_ne HO5.out HF5.out.fr.box (by decide) (by rw [hk, e]))); have hc6 := row_at HO6.out (m - 1) hml; rw [HZ.out] at hc6; clear hF6 hu6)
                | ((with_reducible refine at_ld 53 3 ?_); refine HF6.out.ld rfl rfl (.tmp 3) rfl rfl ?_)
                | ((with_reducible refine at_st 53 6 54 ?_); refine HF6.out.stZ rfl rfl (.tmp 6) (.tmp 54) rfl rfl rfl rfl (st_oneA _ _ _ _ _ _ _ _ _) ?_; intro w8 hF8 _; have HF8 := Lib.hid hF8; clear hF8))
              rw [HXE.out]
              exact bodyPost_ret (v := .tuple #[.agg _, .slice none 0 0]) (results_cell1 rfl _ _ (w.heap.size + 1 + 1) 53 _ _ _ rfl rfl HF8.out.res Try.underlying53 rfl st_info) rfl ⟨⟨_, rfl⟩, HF8.out.bel⟩
            · have hxr : runM b 16 row q2 = .ok ((z, 3 + k), q3) := by rw [HRUN.out, hy2]
              rw [hxr] at hx1
              rw [hy2] at HRT
              dsimp only at hx1
              obtain ⟨hkb, hq3e, hq3l⟩ := takeM_ok hy2
              have hq23 : q2 ≤ q3 := by omega
              clear hq3e
              clear hy2 hxr
              refine HRT.out.mono ?_
              rintro e w5 ⟨rfl, hb5⟩
              have HF5 := Lib.hid (HF4.out.call hb5)
              have HO5 : Hid (w5.ownsRow w.heap.size 3 1 (.slice (some ⟨ga, 0, none⟩) m cr) m (intsV row)) := Lib.hid (own_upd HO4.out (Upd.of_fresh hb5) (fun _ _ => id))
              clear hb5 HRT c5 c5f
              by_cases hk : n - m < (3 + k)
              · rw [if_pos hk] at hx1
                have HXE : Hid (X = .error 41) := Lib.hid hx1.symm
                clear hx1
                have d1 : decide ((n : Int) - (m : Int) < 3 + (k : Int)) = true := by simp; omega
                go_wp2_with (first
                  | ((with_reducible refine at_st 53 3 49 ?_); refine HF5.out.st rfl rfl (.tmp 3) (.tmp 49) rfl rfl rfl rfl (st_oneA _ _ _ _ _ _ _ _ _) ?_; intro w6 hF6 hu6; have HF6 := Lib.hid hF6; have e5 := hF6.err; have e5f := hF6.fr.box.frozen 5; have HO6 : Hid (w6.ownsRow w.heap.size 3 1 (.slice (some ⟨ga, 0, none⟩) m cr) m (intsV row)) := Lib.hid (own_upd HO5.out hu6 (fun k hk e => own_blk_ne HO5.out HF5.out.fr.box (by decide) (by rw [hk, e]))); have hc6 := row_at HO6.out (m - 1) hml; rw [HZ.out] at hc6; have HF7 := Lib.hid (hF6.setE 41); clear hF6 hu6)
                  | ((with_reducible refine at_ld 53 3 ?_); refine HF7.out.ld rfl rfl (.tmp 3) rfl rfl ?_)
                  | ((with_reducible refine at_st 53 6 76 ?_); refine HF7.out.stZ rfl rfl (.tmp 6) (.tmp 76) rfl rfl rfl rfl (st_oneA _ _ _ _ _ _ _ _ _) ?_; intro w8 hF8 _; have HF8 := Lib.hid hF8; clear hF8))
                rw [HXE.out]
                exact bodyPost_ret (v := .tuple #[.agg _, .slice none 0 0]) (results_cell1 rfl _ _ (w.heap.size + 1 + 1) 53 _ _ _ rfl rfl HF8.out.res Try.underlying53 rfl st_info) rfl ⟨⟨_, rfl⟩, HF8.out.bel⟩
              · rw [if_neg hk] at hx1
                have HXN := Lib.hid hx1
                clear hx1
                have d1 : decide ((n : Int) - (m : Int) < 3 + (k : Int)) = false := by simp; omega
                go_wp2_with (first
                  | ((with_reducible refine at_st 53 3 49 ?_); refine HF5.out.st rfl rfl (.tmp 3) (.tmp 49) rfl rfl rfl rfl (st_oneA _ _ _ _ _ _ _ _ _) ?_; intro w6 hF6 hu6; have HF6 := Lib.hid hF6; have e5 := hF6.err; have e5f := hF6.fr.box.frozen 5; have HO6 : Hid (w6.ownsRow w.heap.size 3 1 (.slice (some ⟨ga, 0, none⟩) m cr) m (intsV row)) := Lib.hid (own_upd HO5.out hu6 (fun k hk e => own_blk_ne HO5.out HF5.out.fr.box (by decide) (by rw [hk, e]))); have hc6 := row_at HO6.out (m - 1) hml; rw [HZ.out] at hc6; clear hF6 hu6))
                go_loopw [8, 14] (fun ov i wx => ∃ (j m2 cx : Nat) (Ax : Option Addr), j ≤ (3 + k) ∧ i = .int .i64 (j : Int) ∧ m2 = m + j ∧ ov = .slice Ax m2 cx ∧ Hid (wx.ownsRow w.heap.size 3 1 (.slice Ax m2 cx) m2 (intsV (row ++ List.replicate j z))) ∧ Hid (FrT w cs.toArray (stA A b.length c q3 Ao mo co most 0) st0 wx)) (fun _ i _ => (3 + k) - (intOf i).toNat)
                case atStart => exact ⟨0, m, cr, (some ⟨ga, 0, none⟩), by omega, rfl, rfl, rfl, Lib.hid (by rw [List.replicate_zero, List.append_nil]; exact HO6.out), HF6⟩
                case round =>
                  obtain ⟨j, m2, cx, Ax, hj, rfl, hm2, rfl, HOx, HFx⟩ := hrel
                  have HM2 := Lib.hid hm2
                  by_cases hjt : j < (3 + k)
                  · have dj : decide ((j : Int) < 3 + (k : Int)) = true := by simp; omega
                    have hszw := HFx.out.fr.bel.size
                    have hm2b : m2 + 1 ≤ 1000 := by omega
                    clear hm2
                    go_wp2_with (at_builtin; refine wpList_append_vs _ rfl (.tmp 82) (.tmp 84) _ rfl w.heap.size 3 i0 (.int .i64 0) 8 Try.underlying36 hi hz0 hz1 hz2 rfl (.slice Ax m2 cx) m2 (intsV (row ++ List.replicate j z)) rfl (HOx.out.alloc _) (wr.heap.size + 1) (some ⟨wr.heap.size, 0, none⟩) 1 1 [.int .i64 z] rfl rfl (vs_lit1 wr 3 _) (by simp [Value.oneCell']) (by unfold maxLen; omega) (by omega) (by simp; omega) ?_; intro A9 c9 w9 o9 hg9 _; have HF9 := Lib.hid (HFx.out.grow HOx.out hg9); have HO9 : Hid (w9.ownsRow w.heap.size 3 1 (.slice A9 (m2 + 1) c9) (m2 + 1) (intsV (row ++ List.replicate (j + 1) z))) := Lib.hid (by rw [List.replicate_succ', ← List.append_assoc, intsV_append]; exact o9); clear o9 hg9)
                    go_roundw
                    case rel => exact ⟨j + 1, m2 + 1, c9, A9, by omega, by go_num, by have := HM2.out; omega, rfl, HO9, HF9⟩
                    case measure => simp [intOf]; omega
                  · have dj : decide ((j : Int) < 3 + (k : Int)) = false := by simp; omega
                    obtain rfl : j = (3 + k) := by omega
                    have hm2n : m2 ≤ n := by omega
                    clear hm2
                    go_wp2_with fail
                    go_roundg (8 * b.length - q3)
                    case measure => omega
                    case rel => exact ⟨q3, m2, cx, Ax, _, rfl, hq3l, hm2n, rfl, HOx, HFx, HXN⟩
        · by_cases c17 : v = 17
          · subst c17
            have HRUN : Hid (runM b 17 row q2 = match takeM b q2 3 with | .error e => .error e | .ok (k, q) => .ok ((0, 3 + k), q)) := Lib.hid (by unfold runM; rw [if_neg (by omega), if_pos rfl]; cases takeM b q2 3 <;> rfl)
            clear c16 hrl
            go_wp2_with (first
              | ((with_reducible refine at_st 53 3 23 ?_); refine HF3.out.st rfl rfl (.tmp 3) (.tmp 23) rfl rfl rfl rfl (st_oneA _ _ _ _ _ _ _ _ _) ?_; intro w4 hF4 hu4; have HF4 := Lib.hid hF4; have c5 := hF4.err; have c5f := hF4.fr.box.frozen 5; have HO4 : Hid (w4.ownsRow w.heap.size 3 1 (.slice Ar m cr) m (intsV row)) := Lib.hid (own_upd HO3.out hu4 (fun k hk e => own_blk_ne HO3.out HF3.out.fr.box (by decide) (by rw [hk, e]))); clear hF4 hu4)
              | ((with_reducible refine at_ld 53 3 ?_); refine HF4.out.ld rfl rfl (.tmp 3) rfl rfl ?_))
            have HBS4 := Lib.hid ((HBS.out.below HF4.out.fr.bel).more HF4.out.fr.bel.size)
            have HRT := Lib.hid (dTake w4 A c b q2 Ao mo co most HBS4.out hbl hq2l 3 (by omega))
            rcases hy2 : takeM b q2 3 with ke | ⟨k, q3⟩
            · have hxr : runM b 17 row q2 = .error ke := by rw [HRUN.out, hy2]
              rw [hxr] at hx1
              rw [hy2] at HRT
              have HXE : Hid (X = .error ke) := Lib.hid hx1.symm
              have hke := takeM_err hy2
              have d9 : ((ke : Int) != 0) = true := by rw [bne_iff_ne]; omega
              clear hy2 hx1 hke hxr
              refine HRT.out.mono ?_
              rintro e w5 ⟨⟨p5, rfl⟩, hb5⟩
              have HF5 := Lib.hid (HF4.out.call hb5)
              have HO5 : Hid (w5.ownsRow w.heap.size 3 1 (.slice Ar m cr) m (intsV row)) := Lib.hid (own_upd HO4.out (Upd.of_fresh hb5) (fun _ _ => id))
              clear hb5 HRT c5 c5f
              go_wp2_with (first
                | ((with_reducible refine at_st 53 3 49 ?_); refine HF5.out.st rfl rfl (.tmp 3) (.tmp 49) rfl rfl rfl rfl (st_oneA _ _ _ _ _ _ _ _ _) ?_; intro w6 hF6 hu6; have HF6 := Lib.hid hF6; have e5 := hF6.err; have e5f := hF6.fr.box.frozen 5; have HO6 : Hid (w6.ownsRow w.heap.size 3 1 (.slice Ar m cr) m (intsV row)) := Lib.hid (own_upd HO5.out hu6 (fun k hk e => own_blk_ne HO5.out HF5.out.fr.box (by decide) (by rw [hk, e]))); clear hF6 hu6)
                | ((with_reducible refine at_ld 53 3 ?_); refine HF6.out.ld rfl rfl (.tmp 3) rfl rfl ?_)
                | ((with_reducible refine at_st 53 6 54 ?_); refine HF6.out.stZ rfl rfl (.tmp 6) (.tmp 54) rfl rfl rfl rfl (st_oneA _ _ _ _ _ _ _ _ _) ?_; intro w8 hF8 _; have HF8 := Lib.hid hF8; clear hF8))
              rw [HXE.out]
              exact bodyPost_ret (v := .tuple #[.agg _, .slice none 0 0]) (results_cell1 rfl _ _ (w.heap.size + 1 + 1) 53 _ _ _ rfl rfl HF8.out.res Try.underlying53 rfl st_info) rfl ⟨⟨_, rfl⟩, HF8.out.bel⟩
            · have hxr : runM b 17 row q2 = .ok ((0, 3 + k), q3) := by rw [HRUN.out, hy2]
              rw [hxr] at hx1
              rw [hy2] at HRT
              dsimp only at hx1
              obtain ⟨hkb, hq3e, hq3l⟩ := takeM_ok hy2
              have hq23 : q2 ≤ q3 := by omega
              clear hq3e
              clear hy2 hxr
              refine HRT.out.mono ?_
              rintro e w5 ⟨rfl, hb5⟩
              have HF5 := Lib.hid (HF4.out.call hb5)
              have HO5 : Hid (w5.ownsRow w.heap.size 3 1 (.slice Ar m cr) m (intsV row)) := Lib.hid (own_upd HO4.out (Upd.of_fresh hb5) (fun _ _ => id))
              clear hb5 HRT c5 c5f
              by_cases hk : n - m < (3 + k)
              · rw [if_pos hk] at hx1
                have HXE : Hid (X = .error 41) := Lib.hid hx1.symm
                clear hx1
                have d1 : decide ((n : Int) - (m : Int) < 3 + (k : Int)) = true := by simp; omega
                go_wp2_with (first
                  | ((with_reducible refine at_st 53 3 49 ?_); refine HF5.out.st rfl rfl (.tmp 3) (.tmp 49) rfl rfl rfl rfl (st_oneA _ _ _ _ _ _ _ _ _) ?_; intro w6 hF6 hu6; have HF6 := Lib.hid hF6; have e5 := hF6.err; have e5f := hF6.fr.box.frozen 5; have HO6 : Hid (w6.ownsRow w.heap.size 3 1 (.slice Ar m cr) m (intsV row)) := Lib.hid (own_upd HO5.out hu6 (fun k hk e => own_blk_ne HO5.out HF5.out.fr.box (by decide) (by rw [hk, e]))); have HF7 := Lib.hid (hF6.setE 41); clear hF6 hu6)
                  | ((with_reducible refine at_ld 53 3 ?_); refine HF7.out.ld rfl rfl (.tmp 3) rfl rfl ?_)
                  | ((with_reducible refine at_st 53 6 76 ?_); refine HF7.out.stZ rfl rfl (.tmp 6) (.tmp 76) rfl rfl rfl rfl (st_oneA _ _ _ _ _ _ _ _ _) ?_; intro w8 hF8 _; have HF8 := Lib.hid hF8; clear hF8))
                rw [HXE.out]
                exact bodyPost_ret (v := .tuple #[.agg _, .slice none 0 0]) (results_cell1 rfl _ _ (w.heap.size + 1 + 1) 53 _ _ _ rfl rfl HF8.out.res Try.underlying53 rfl st_info) rfl ⟨⟨_, rfl⟩, HF8.out.bel⟩
              · rw [if_neg hk] at hx1
                have HXN := Lib.hid hx1
                clear hx1
                have d1 : decide ((n : Int) - (m : Int) < 3 + (k : Int)) = false := by simp; omega
                go_wp2_with (first
                  | ((with_reducible refine at_st 53 3 49 ?_); refine HF5.out.st rfl rfl (.tmp 3) (.tmp 49) rfl rfl rfl rfl (st_oneA _ _ _ _ _ _ _ _ _) ?_; intro w6 hF6 hu6; have HF6 := Lib.hid hF6; have e5 := hF6.err; have e5f := hF6.fr.box.frozen 5; have HO6 : Hid (w6.ownsRow w.heap.size 3 1 (.slice Ar m cr) m (intsV row)) := Lib.hid (own_upd HO5.out hu6 (fun k hk e => own_blk_ne HO5.out HF5.out.fr.box (by decide) (by rw [hk, e]))); clear hF6 hu6))
                go_loopw [8, 14] (fun ov i wx => ∃ (j m2 cx : Nat) (Ax : Option Addr), j ≤ (3 + k) ∧ i = .int .i64 (j : Int) ∧ m2 = m + j ∧ ov = .slice Ax m2 cx ∧ Hid (wx.ownsRow w.heap.size 3 1 (.slice Ax m2 cx) m2 (intsV (row ++ List.replicate j 0))) ∧ Hid (FrT w cs.toArray (stA A b.length c q3 Ao mo co most 0) st0 wx)) (fun _ i _ => (3 + k) - (intOf i).toNat)
                case atStart => exact ⟨0, m, cr, Ar, by omega, rfl, rfl, rfl, Lib.hid (by rw [List.replicate_zero, List.append_nil]; exact HO6.out), HF6⟩
                case round =>
                  obtain ⟨j, m2, cx, Ax, hj, rfl, hm2, rfl, HOx, HFx⟩ := hrel
                  have HM2 := Lib.hid hm2
                  by_cases hjt : j < (3 + k)
                  · have dj : decide ((j : Int) < 3 + (k : Int)) = true := by simp; omega
                    have hszw := HFx.out.fr.bel.size
                    have hm2b : m2 + 1 ≤ 1000 := by omega
                    clear hm2
                    go_wp2_with (at_builtin; refine wpList_append_vs _ rfl (.tmp 82) (.tmp 84) _ rfl w.heap.size 3 i0 (.int .i64 0) 8 Try.underlying36 hi hz0 hz1 hz2 rfl (.slice Ax m2 cx) m2 (intsV (row ++ List.replicate j 0)) rfl (HOx.out.alloc _) (wr.heap.size + 1) (some ⟨wr.heap.size, 0, none⟩) 1 1 [.int .i64 0] rfl rfl (vs_lit1 wr 3 _) (by simp [Value.oneCell']) (by unfold maxLen; omega) (by omega) (by simp; omega) ?_; intro A9 c9 w9 o9 hg9 _; have HF9 := Lib.hid (HFx.out.grow HOx.out hg9); have HO9 : Hid (w9.ownsRow w.heap.size 3 1 (.slice A9 (m2 + 1) c9) (m2 + 1) (intsV (row ++ List.replicate (j + 1) 0))) := Lib.hid (by rw [List.replicate_succ', ← List.append_assoc, intsV_append]; exact o9); clear o9 hg9)
                    go_roundw
                    case rel => exact ⟨j + 1, m2 + 1, c9, A9, by omega, by go_num, by have := HM2.out; omega, rfl, HO9, HF9⟩
                    case measure => simp [intOf]; omega
                  · have dj : decide ((j : Int) < 3 + (k : Int)) = false := by simp; omega
                    obtain rfl : j = (3 + k) := by omega
                    have hm2n : m2 ≤ n := by omega
                    clear hm2
                    go_wp2_with fail
                    go_roundg (8 * b.length - q3)
                    case measure => omega
                    case rel => exact ⟨q3, m2, cx, Ax, _, rfl, hq3l, hm2n, rfl, HOx, HFx, HXN⟩
          · by_cases c18 : v = 18
            · subst c18
              have HRUN : Hid (runM b 18 row q2 = match takeM b q2 7 with | .error e => .error e | .ok (k, q) => .ok ((0, 11 + k), q)) := Lib.hid (by unfold runM; rw [if_neg (by omega), if_neg (by omega), if_pos rfl]; cases takeM b q2 7 <;> rfl)
              clear c16 c17 hrl
              go_wp2_with (first
                | ((with_reducible refine at_st 53 3 23 ?_); refine HF3.out.st rfl rfl (.tmp 3) (.tmp 23) rfl rfl rfl rfl (st_oneA _ _ _ _ _ _ _ _ _) ?_; intro w4 hF4 hu4; have HF4 := Lib.hid hF4; have c5 := hF4.err; have c5f := hF4.fr.box.frozen 5; have HO4 : Hid (w4.ownsRow w.heap.size 3 1 (.slice Ar m cr) m (intsV row)) := Lib.hid (own_upd HO3.out hu4 (fun k hk e => own_blk_ne HO3.out HF3.out.fr.box (by decide) (by rw [hk, e]))); clear hF4 hu4)
                | ((with_reducible refine at_ld 53 3 ?_); refine HF4.out.ld rfl rfl (.tmp 3) rfl rfl ?_))
              have HBS4 := Lib.hid ((HBS.out.below HF4.out.fr.bel).more HF4.out.fr.bel.size)
              have HRT := Lib.hid (dTake w4 A c b q2 Ao mo co most HBS4.out hbl hq2l 7 (by omega))
              rcases hy2 : takeM b q2 7 with ke | ⟨k, q3⟩
              · have hxr : runM b 18 row q2 = .error ke := by rw [HRUN.out, hy2]
                rw [hxr] at hx1
                rw [hy2] at HRT
                have HXE : Hid (X = .error ke) := Lib.hid hx1.symm
                have hke := takeM_err hy2
                have d9 : ((ke : Int) != 0) = true := by rw [bne_iff_ne]; omega
                clear hy2 hx1 hke hxr
                refine HRT.out.mono ?_
                rintro e w5 ⟨⟨p5, rfl⟩, hb5⟩
                have HF5 := Lib.hid (HF4.out.call hb5)
                have HO5 : Hid (w5.ownsRow w.heap.size 3 1 (.slice Ar m cr) m (intsV row)) := Lib.hid (own_upd HO4.out (Upd.of_fresh hb5) (fun _ _ => id))
                clear hb5 HRT c5 c5f
                go_wp2_with (first
                  | ((with_reducible refine at_st 53 3 49 ?_); refine HF5.out.st rfl rfl (.tmp 3) (.tmp 49) rfl rfl rfl rfl (st_oneA _ _ _ _ _ _ _ _ _) ?_; intro w6 hF6 hu6; have HF6 := Lib.hid hF6; have e5 := hF6.err; have e5f := hF6.fr.box.frozen 5; have HO6 : Hid (w6.ownsRow w.heap.size 3 1 (.slice Ar m cr) m (intsV row)) := Lib.hid (own_upd HO5.out hu6 (fun k hk e => own_blk_ne HO5.out HF5.out.fr.box (by decide) (by rw [hk, e]))); clear hF6 hu6)
                  | ((with_reducible refine at_ld 53 3 ?_); refine HF6.out.ld rfl rfl (.tmp 3) rfl rfl ?_)
                  | ((with_reducible refine at_st 53 6 54 ?_); refine HF6.out.stZ rfl rfl (.tmp 6) (.tmp 54) rfl rfl rfl rfl (st_oneA _ _ _ _ _ _ _ _ _) ?_; intro w8 hF8 _; have HF8 := Lib.hid hF8; clear hF8))
                rw [HXE.out]
                exact bodyPost_ret (v := .tuple #[.agg _, .slice none 0 0]) (results_cell1 rfl _ _ (w.heap.size + 1 + 1) 53 _ _ _ rfl rfl HF8.out.res Try.underlying53 rfl st_info) rfl ⟨⟨_, rfl⟩, HF8.out.bel⟩
              · have hxr : runM b 18 row q2 = .ok ((0, 11 + k), q3) := by rw [HRUN.out, hy2]
                rw [hxr] at hx1
                rw [hy2] at HRT
                dsimp only at hx1
                obtain ⟨hkb, hq3e, hq3l⟩ := takeM_ok hy2
                have hq23 : q2 ≤ q3 := by omega
                clear hq3e
                clear hy2 hxr
                refine HRT.out.mono ?_
                rintro e w5 ⟨rfl, hb5⟩
                have HF5 := Lib.hid (HF4.out.call hb5)
                have HO5 : Hid (w5.ownsRow w.heap.size 3 1 (.slice Ar m cr) m (intsV row)) := Lib.hid (own_upd HO4.out (Upd.of_fresh hb5) (fun _ _ => id))
                clear hb5 HRT c5 c5f
                by_cases hk : n - m < (11 + k)
                · rw [if_pos hk] at hx1
                  have HXE : Hid (X = .error 41) := Lib.hid hx1.symm
                  clear hx1
                  have d1 : decide ((n : Int) - (m : Int) < 11 + (k : Int)) = true := by simp; omega
                  go_wp2_with (first
                    | ((with_reducible refine at_st 53 3 49 ?_); refine HF5.out.st rfl rfl (.tmp 3) (.tmp 49) rfl rfl rfl rfl (st_oneA _ _ _ _ _ _ _ _ _) ?_; intro w6 hF6 hu6; have HF6 := Lib.hid hF6; have e5 := hF6.err; have e5f := hF6.fr.box.frozen 5; have HO6 : Hid (w6.ownsRow w.heap.size 3 1 (.slice Ar m cr) m (intsV row)) := Lib.hid (own_upd HO5.out hu6 (fun k hk e => own_blk_ne HO5.out HF5.out.fr.box (by decide) (by rw [hk, e]))); have HF7 := Lib.hid (hF6.setE 41); clear hF6 hu6)
                    | ((with_reducible refine at_ld 53 3 ?_); refine HF7.out.ld rfl rfl (.tmp 3) rfl rfl ?_)
                    | ((with_reducible refine at_st 53 6 76 ?_); refine HF7.out.stZ rfl rfl (.tmp 6) (.tmp 76) rfl rfl rfl rfl (st_oneA _ _ _ _ _ _ _ _ _) ?_; intro w8 hF8 _; have HF8 := Lib.hid hF8; clear hF8))
                  rw [HXE.out]
                  exact bodyPost_ret (v := .tuple #[.agg _, .slice none 0 0]) (results_cell1 rfl _ _ (w.heap.size + 1 + 1) 53 _ _ _ rfl rfl HF8.out.res Try.underlying53 rfl st_info) rfl ⟨⟨_, rfl⟩, HF8.out.bel⟩
                · rw [if_neg hk] at hx1
                  have HXN := Lib.hid hx1
                  clear hx1
                  have d1 : decide ((n : Int) - (m : Int) < 11 + (k : Int)) = false := by simp; omega
                  go_wp2_with (first
                    | ((with_reducible refine at_st 53 3 49 ?_); refine HF5.out.st rfl rfl (.tmp 3) (.tmp 49) rfl rfl rfl rfl (st_oneA _ _ _ _ _ _ _ _ _) ?_; intro w6 hF6 hu6; have HF6 := Lib.hid hF6; have e5 := hF6.err; have e5f := hF6.fr.box.frozen 5; have HO6 : Hid (w6.ownsRow w.heap.size 3 1 (.slice Ar m cr) m (intsV row)) := Lib.hid (own_upd HO5.out hu6 (fun k hk e => own_blk_ne HO5.out HF5.out.fr.box (by decide) (by rw [hk, e]))); clear hF6 hu6))
                  go_loopw [8, 14] (fun ov i wx => ∃ (j m2 cx : Nat) (Ax : Option Addr), j ≤ (11 + k) ∧ i = .int .i64 (j : Int) ∧ m2 = m + j ∧ ov = .slice Ax m2 cx ∧ Hid (wx.ownsRow w.heap.size 3 1 (.slice Ax m2 cx) m2 (intsV (row ++ List.replicate j 0))) ∧ Hid (FrT w cs.toArray (stA A b.length c q3 Ao mo co most 0) st0 wx)) (fun _ i _ => (11 + k) - (intOf i).toNat)
                  case atStart => exact ⟨0, m, cr, Ar, by omega, rfl, rfl, rfl, Lib.hid (by rw [List.replicate_zero, List.append_nil]; exact HO6.out), HF6⟩
                  case round =>
                    obtain ⟨j, m2, cx, Ax, hj, rfl, hm2, rfl, HOx, HFx⟩ := hrel
                    have HM2 := Lib.hid hm2
                    by_cases hjt : j < (11 + k)
                    · have dj : decide ((j : Int) < 11 + (k : Int)) = true := by simp; omega
                      have hszw := HFx.out.fr.bel.size
                      have hm2b : m2 + 1 ≤ 1000 := by omega
                      clear hm2
                      go_wp2_with (at_builtin; refine wpList_append_vs _ rfl (.tmp 82) (.tmp 84) _ rfl w.heap.size 3 i0 (.int .i64 0) 8 Try.underlying36 hi hz0 hz1 hz2 rfl (.slice Ax m2 cx) m2 (intsV (row ++ List.replicate j 0)) rfl (HOx.out.alloc _) (wr.heap.size + 1) (some ⟨wr.heap.size, 0, none⟩) 1 1 [.int .i64 0] rfl rfl (vs_lit1 wr 3 _) (by simp [Value.oneCell']) (by unfold maxLen; omega) (by omega) (by simp; omega) ?_; intro A9 c9 w9 o9 hg9 _; have HF9 := Lib.hid (HFx.out.grow HOx.out hg9); have HO9 : Hid (w9.ownsRow w.heap.size 3 1 (.slice A9 (m2 + 1) c9) (m2 + 1) (intsV (row ++ List.replicate (j + 1) 0))) := Lib.hid (by rw [List.replicate_succ', ← List.append_assoc, intsV_append]; exact o9); clear o9 hg9)
                      go_roundw
                      case rel => exact ⟨j + 1, m2 + 1, c9, A9, by omega, by go_num, by have := HM2.out; omega, rfl, HO9, HF9⟩
                      case measure => simp [intOf]; omega
                    · have dj : decide ((j : Int) < 11 + (k : Int)) = false := by simp; omega
                      obtain rfl : j = (11 + k) := by omega
                      have hm2n : m2 ≤ n := by omega
                      clear hm2
                      go_wp2_with fail
                      go_roundg (8 * b.length - q3)
                      case measure => omega
                      case rel => exact ⟨q3, m2, cx, Ax, _, rfl, hq3l, hm2n, rfl, HOx, HFx, HXN⟩
            · have d16 : decide ((16 : Int) ≤ (v : Int)) = false := by simp; omega
              have hxr : runM b v row q2 = .ok (((v : Int), 1), q2) := by unfold runM; rw [if_neg (by omega), if_neg (by omega), if_neg (by omega)]
              rw [hxr] at hx1
              dsimp only at hx1
              have hq3l := hq2l
              clear hxr hrl
              by_cases hk : n - m < 1
              · omega
              · rw [if_neg hk] at hx1
                have HXN := Lib.hid hx1
                clear hx1
                have d1 : decide ((n : Int) - (m : Int) < 1) = false := by simp; omega
                go_wp2_with (first
                  | ((with_reducible refine at_st 53 3 23 ?_); refine HF3.out.st rfl rfl (.tmp 3) (.tmp 23) rfl rfl rfl rfl (st_oneA _ _ _ _ _ _ _ _ _) ?_; intro w4 hF4 hu4; have HF4 := Lib.hid hF4; have c5 := hF4.err; have c5f := hF4.fr.box.frozen 5; have HO4 : Hid (w4.ownsRow w.heap.size 3 1 (.slice Ar m cr) m (intsV row)) := Lib.hid (own_upd HO3.out hu4 (fun k hk e => own_blk_ne HO3.out HF3.out.fr.box (by decide) (by rw [hk, e]))); clear hF4 hu4))
                go_loopw [8, 14] (fun ov i wx => ∃ (j m2 cx : Nat) (Ax : Option Addr), j ≤ 1 ∧ i = .int .i64 (j : Int) ∧ m2 = m + j ∧ ov = .slice Ax m2 cx ∧ Hid (wx.ownsRow w.heap.size 3 1 (.slice Ax m2 cx) m2 (intsV (row ++ List.replicate j (v : Int)))) ∧ Hid (FrT w cs.toArray (stA A b.length c q2 Ao mo co most 0) st0 wx)) (fun _ i _ => 1 - (intOf i).toNat)
                case atStart => exact ⟨0, m, cr, Ar, by omega, rfl, rfl, rfl, Lib.hid (by rw [List.replicate_zero, List.append_nil]; exact HO4.out), HF4⟩
                case round =>
                  obtain ⟨j, m2, cx, Ax, hj, rfl, hm2, rfl, HOx, HFx⟩ := hrel
                  have HM2 := Lib.hid hm2
                  by_cases hjt : j < 1
                  · have dj : decide ((j : Int) < 1) = true := by simp; omega
                    have hszw := HFx.out.fr.bel.size
                    have hm2b : m2 + 1 ≤ 1000 := by omega
                    clear hm2
                    go_wp2_with (at_builtin; refine wpList_append_vs _ rfl (.tmp 82) (.tmp 84) _ rfl w.heap.size 3 i0 (.int .i64 0) 8 Try.underlying36 hi hz0 hz1 hz2 rfl (.slice Ax m2 cx) m2 (intsV (row ++ List.replicate j (v : Int))) rfl (HOx.out.alloc _) (wr.heap.size + 1) (some ⟨wr.heap.size, 0, none⟩) 1 1 [.int .i64 (v : Int)] rfl rfl (vs_lit1 wr 3 _) (by simp [Value.oneCell']) (by unfold maxLen; omega) (by omega) (by simp; omega) ?_; intro A9 c9 w9 o9 hg9 _; have HF9 := Lib.hid (HFx.out.grow HOx.out hg9); have HO9 : Hid (w9.ownsRow w.heap.size 3 1 (.slice A9 (m2 + 1) c9) (m2 + 1) (intsV (row ++ List.replicate (j + 1) (v : Int)))) := Lib.hid (by rw [List.replicate_succ', ← List.append_assoc, intsV_append]; exact o9); clear o9 hg9)
                    go_roundw
                    case rel => exact ⟨j + 1, m2 + 1, c9, A9, by omega, by go_num, by have := HM2.out; omega, rfl, HO9, HF9⟩
                    case measure => simp [intOf]; omega
                  · have dj : decide ((j : Int) < 1) = false := by simp; omega
                    obtain rfl : j = 1 := by omega
                    have hm2n : m2 ≤ n := by omega
                    clear hm2
                    go_wp2_with fail
                    go_roundg (8 * b.length - q2)
                    case measure => omega
                    case rel => exact ⟨q2, m2, cx, Ax, _, rfl, hq3l, hm2n, rfl, HOx, HFx, HXN⟩
    · obtain rfl : m = n := by omega
      have hx1 := HXq.out
      rw [rowM_end hq (by omega)] at hx1
      have HXE : Hid (X = .ok (q, row)) := Lib.hid hx1.symm
      clear hx1 hrl
      go_wp2_with (first
          | ((with_reducible refine at_ld 53 3 ?_); refine HF.out.ld rfl rfl (.tmp 3) rfl rfl ?_)
          | ((with_reducible refine at_st 53 6 86 ?_); refine HF.out.stZ rfl rfl (.tmp 6) (.tmp 86) rfl rfl rfl rfl (st_oneA _ _ _ _ _ _ _ _ _) ?_; intro w5 hF5 hu5; have HF5 := Lib.hid hF5; have HO5 : Hid (w5.ownsRow w.heap.size 3 1 (.slice Ar m cr) m (intsV row)) := Lib.hid (own_upd HO.out hu5 (fun k hk e => own_blk_ne HO.out HF.out.fr.res (by decide) (by rw [hk, e]))); clear hF5 hu5))
      rw [HXE.out]
      exact bodyPost_ret (v := .tuple #[.agg _, .slice Ar m cr]) (results_cell1 rfl _ _ (w.heap.size + 1 + 1) 53 _ _ _ rfl rfl HF5.out.res Try.underlying53 rfl st_info) rfl ⟨Ar, m, cr, rfl, HO5.out, HF5.out.bel⟩
end Go.Proofs.Ythbdhpciibjnmaa
