/- Joined texts (a claim has at most 60 files). -/
import Derived.Test.YthbdhpciibjnmaaCo
import Derived.Test.YthbdhpciibjnmaaL
import Derived.Test.YthbdhpciibjnmaaRows
import Derived.WalkKit
import Derived.ProofKit
import Derived.OpenShut
import Derived.ChangeOld
import Derived.Below
import Derived.Lib.Hide
import Derived.Outline
import Derived.BigQuiet
import Derived.Deep.QuietTactic
import Derived.Test.YthbdhpciibjnmaaVs
import Derived.SizedLaws
import Derived.JoinedCond
import Derived.Test.YthbdhpciibjnmaaDe
import Derived.Test.YthbdhpciibjnmaaDh
import Derived.Test.YthbdhpciibjnmaaIp
import Derived.Test.YthbdhpciibjnmaaIt
import Derived.Deep.CutBlock
/- The document's comparing of bytes (as wip/bits S, cut), for seats of later layers. -/
namespace Go.Proofs.Ythbdhpciibjnmaa
open Go.ChangeShapes Go.WideShapes Go.ChangeAt Go.RowKit

theorem ret_sameb {a b : Bool} (h : a = b) : Ending.returned (.bool a) = .returned (.bool b) := by rw [h]

set_option maxHeartbeats 400000 in
theorem same_any (A1 A2 : Option Addr) (c1 c2 : Nat) (a b : List UInt8) (B : Nat) (w : World) (h1 : Bs w B A1 a) (h2 : Bs w B A2 b) (hl : a.length ≤ maxLen) :
    Calls Try.prog 13 #[.slice A1 a.length c1, .slice A2 b.length c2] w fun e w' => e = .returned (.bool (a == b)) ∧ ∃ n, w' = w.drewN n := by
  unfold maxLen at hl
  by_cases hlen : a.length = b.length
  · have hne : ((a.length : Int) != b.length) = false := by simp [hlen]
    have H := Lib.hid hlen; clear hlen
    go_enter Try.func13, Try.ntmps13
    go_wp2
    go_loopw [5] (fun i wr => ∃ k : Nat, k ≤ a.length ∧ i = .int .i64 k ∧ a.take k = b.take k ∧ ∃ n, wr = w.drewN n) (fun i _ => a.length - (intOf i).toNat)
    case atStart => exact ⟨0, by omega, rfl, by simp, 0, rfl⟩
    case round =>
      obtain ⟨k, hk, rfl, hE, n, rfl⟩ := hrel
      have HE := Lib.hid hE; clear hE
      by_cases hlt : k < a.length
      · have hb : k < b.length := by have := H.out; omega
        obtain ⟨ad1, rfl, _, hc1⟩ := h1.at_ hlt
        obtain ⟨ad2, rfl, _, hc2⟩ := h2.at_ hb
        go_wp2
        go_quiet (fail)
        go_wp2
        · go_ret
          have hd : ((a[k].toNat : Int) != (b[k].toNat : Int)) = true := by assumption
          refine ⟨ret_sameb ?_, n + nq, by simp⟩
          have hn : a ≠ b := fun e => by subst e; simp at hd
          simp [hn]
        · go_roundw
          case rel =>
            have hd : ((a[k].toNat : Int) != (b[k].toNat : Int)) = false := by assumption
            have hd' : a[k] = b[k] := by
              have : a[k].toNat = b[k].toNat := by simp at hd; omega
              exact UInt8.toNat_inj.mp this
            exact ⟨k + 1, by omega, by go_num, take_eq_next a b k HE.out hlt hb hd', n + nq, rfl⟩
          case measure => simp [intOf]; omega
      · go_wp2
        go_ret
        have h0 : k = a.length := by omega
        subst h0
        have h3 := HE.out
        rw [List.take_length, H.out, List.take_length] at h3
        exact ⟨ret_sameb (by simp [h3]), n, rfl⟩
  · have hne : ((a.length : Int) != b.length) = true := by simp; omega
    have H : Hid (a ≠ b) := Lib.hid (fun e => hlen (by rw [e]))
    clear hlen
    go_enter Try.func13, Try.ntmps13
    go_wp2
    go_ret
    have h3 := H.out
    exact ⟨ret_sameb (by simp [h3]), 0, rfl⟩

end Go.Proofs.Ythbdhpciibjnmaa

/- How an argument that is a list of numbers or of bytes is opened (as wip/prefix Oi; the bytes' room besides); what the second form's bound says of a list's length. -/
namespace Go.Proofs.Ythbdhpciibjnmaa
open Go.ChangeShapes Go.WideShapes Go.ChangeAt Go.RowKit

theorem prog_own : ownKnob Try.prog.godebug = none := by kernel_rfl
theorem prog_laid : laidOutB Try.prog = true := by kernel_rfl
theorem cells_int : Try.prog.cellsOf 3 = 1 := by kernel_rfl
theorem bytes_int : Try.prog.bytesOf 3 = 8 := by kernel_rfl
theorem cells_u8 : Try.prog.cellsOf 5 = 1 := by kernel_rfl
theorem bytes_u8 : Try.prog.bytesOf 5 = 1 := by kernel_rfl
section
variable {H : Type} {enc : TypeId × Value → H} {W : World} {base : Nat} {v : Value} {d : DataW H} {p : List MemPlace}
set_option maxRecDepth 100000 in
theorem open_numbers (hv : Value.okWide Try.prog W .any base 36 v) (hj : DataW.Trod enc Try.prog W 0 (fun _ => true) true 36 v d p) :
    ∃ A l c, v = .slice A l.length c ∧ Is W W.heap.size A l ∧ (∀ x ∈ l, -9223372036854775808 ≤ x ∧ x ≤ 9223372036854775807) ∧ ((d = .nil ∧ l = []) ∨ ∃ e s, d = .slice e s ∧ l.length ≤ e.length + s.length) := by
  obtain ⟨a0, len0, cap0, rfl⟩ := okWide_slice Try.underlying36 hv
  obtain ⟨fuel, hf⟩ := hj
  rcases open_ints Try.underlying36 Try.underlying3 cells_int hf with ⟨hcs, hx⟩ | ⟨x, l, c, zs, hcs, _, hl, hm, hz, hx, hcell, hwz⟩
  · simp [Value.cells] at hcs
    obtain ⟨rfl, rfl, rfl⟩ := hcs
    simp only [Prod.mk.injEq] at hx
    exact ⟨none, [], 0, rfl, Vs.nil_, by simp, .inl ⟨hx.1, rfl⟩⟩
  · simp [Value.cells] at hcs
    obtain ⟨rfl, rfl, rfl⟩ := hcs
    simp only [Prod.mk.injEq] at hx
    have hzl : zs.length = cap0 := by simpa using hz
    have hlen : (zs.take len0).length = len0 := by simp; omega
    refine ⟨some x, zs.take len0, cap0, by rw [hlen], ?_, fun y hy => bounds_i64 (hwz y (List.mem_of_mem_take hy)), .inr ⟨_, _, hx.1, ?_⟩⟩
    · intro hpos
      rw [intsV_length, hlen] at hpos
      refine ⟨x, rfl, ?_, fun j hj => ?_⟩
      · have h0 := hcell 0 (by omega)
        have := block_lt_of_cell h0
        rwa [block_of_add] at this
      · have hj' : j < len0 := by rw [intsV_length, hlen] at hj; exact hj
        rw [hcell j (by omega), intsV_get]
        have hjz : j < zs.length := by omega
        have e : zs.getD j 0 = zs[j] := by simp [List.getD, hjz]
        rw [e]
        simp
    · rw [hlen]
      simp [lits]
      omega
set_option maxRecDepth 100000 in
theorem open_bytes (hv : Value.okWide Try.prog W .any base 22 v) (hj : DataW.Trod enc Try.prog W 0 (fun _ => true) true 22 v d p) :
    ∃ A l c, v = .slice A l.length c ∧ Bs W W.heap.size A l ∧ l.length ≤ c ∧ ((d = .nil ∧ l = []) ∨ ∃ e s, d = .slice e s ∧ l.length ≤ e.length + s.length) := by
  obtain ⟨a0, len0, cap0, rfl⟩ := okWide_slice Try.underlying22 hv
  obtain ⟨fuel, hf⟩ := hj
  rcases open_ints Try.underlying22 Try.underlying5 cells_u8 hf with ⟨hcs, hx⟩ | ⟨x, l, c, zs, hcs, _, hl, hm, hz, hx, hcell, hwz⟩
  · simp [Value.cells] at hcs
    obtain ⟨rfl, rfl, rfl⟩ := hcs
    simp only [Prod.mk.injEq] at hx
    exact ⟨none, [], 0, rfl, Bs.nil_, Nat.le_refl _, .inl ⟨hx.1, rfl⟩⟩
  · simp [Value.cells] at hcs
    obtain ⟨rfl, rfl, rfl⟩ := hcs
    simp only [Prod.mk.injEq] at hx
    have hzl : zs.length = cap0 := by simpa using hz
    have hlen : ((zs.take len0).map fun n => UInt8.ofNat n.toNat).length = len0 := by simp; omega
    refine ⟨some x, (zs.take len0).map fun n => UInt8.ofNat n.toNat, cap0, by rw [hlen], ?_, by rw [hlen]; omega, .inr ⟨_, _, hx.1, ?_⟩⟩
    · intro hpos
      rw [hlen] at hpos
      refine ⟨x, rfl, ?_, fun j hj => ?_⟩
      · have h0 := hcell 0 (by omega)
        have := block_lt_of_cell h0
        rwa [block_of_add] at this
      · have hj' : j < len0 := by rw [hlen] at hj; exact hj
        rw [hcell j (by omega)]
        have hjz : j < zs.length := by omega
        have hb := bounds_u8 (hwz zs[j] (List.getElem_mem hjz))
        have e : zs.getD j 0 = zs[j] := by simp [List.getD, hjz]
        rw [e]
        congr 2
        simp only [List.getElem_map, List.getElem_take]
        rw [UInt8.toNat_ofNat']
        omega
    · rw [hlen]
      simp [lits]
      omega
end
theorem bulk_pos {H : Type} (d : DataW H) : 0 < Rows.uptoBulk d := by
  cases d with
  | lit l => cases l <;> simp [Rows.uptoBulk]
  | _ => simp [Rows.uptoBulk]
theorem bulk_len {H : Type} : ∀ l : List (DataW H), l.length ≤ Rows.uptoBulkAll l
  | [] => by simp [Rows.uptoBulkAll]
  | d :: r => by have h1 := bulk_pos d; have h2 := bulk_len r; simp only [Rows.uptoBulkAll, List.length_cons]; omega
theorem bulk_slice {H : Type} (e s : List (DataW H)) (rest : List (DataW H)) : e.length + s.length ≤ Rows.uptoBulkAll (.slice e s :: rest) := by
  have h1 := bulk_len e
  have h2 := bulk_len s
  simp only [Rows.uptoBulkAll, Rows.uptoBulk]
  omega
theorem bulk_tail {H : Type} (d : DataW H) (rest : List (DataW H)) : Rows.uptoBulkAll rest ≤ Rows.uptoBulkAll (d :: rest) := by
  simp only [Rows.uptoBulkAll]; omega
theorem bulk_le {H : Type} {l : List (DataW H)} (hk : Rows.uptoSmall H l = true) : Rows.uptoBulkAll l ≤ 1048576 := of_decide_eq_true hk
end Go.Proofs.Ythbdhpciibjnmaa

/- The document's reader of deflated bytes, ninth part: the blocks. -/
namespace Go.Proofs.Ythbdhpciibjnmaa
open Go.ChangeShapes Go.WideShapes Go.ChangeAt Go.RowKit

/-- The frame of Raw: the state's box alone. -/
structure FrR (w : World) (S : Array Value) (w' : World) : Prop where
  box : Blk w' w.heap.size 53 S
  bel : Below w.heap.size w w'
section
variable {w w1 w2 : World} {S : Array Value} {ops : Array Oper} {rest : List Oper} {o : Oper} {a : Act} {Q : Exit → Act → World → Prop}
theorem FrR.start (w : World) (S : Array Value) : FrR w S (w.alloc (.cells S 53)) := ⟨Blk.new w _ _, (Below.refl _ _).alloc (Nat.le_refl _) _⟩
theorem FrR.call (h : FrR w S w1) (hb : Below w1.heap.size w1 w2) : FrR w S w2 := ⟨h.box.upd (Upd.of_fresh hb) id, h.bel.trans (hb.mono h.bel.size)⟩
theorem FrR.set_ (h : FrR w S w1) (i : Nat) (v : Value) : FrR w (S.setIfInBounds i v) (w1.setCell ⟨w.heap.size, i, none⟩ v) := ⟨h.box.set_ i v, h.bel.setCell (p := ⟨w.heap.size, i, none⟩) (Nat.le_refl _) v⟩
theorem FrR.row {n : Nat} {v : Value} {xs : List Value} (h : FrR w S w1) (hO : w1.ownsRow w.heap.size 5 1 v n xs) (hu : Upd (fun k => some k = v.ownBlock) w1 w2) : FrR w S w2 :=
  ⟨h.box.upd hu (fun e => own_blk_ne hO h.box (by decide) e.symm), h.bel.trans (hu.below h.bel.size (fun k hk e => by have := (hO.lt k e.symm).1; omega))⟩
theorem FrR.put {S' : Array Value} (h : FrR w S w1) (hb : Blk w2 w.heap.size 53 S') (hu : Upd (· = w.heap.size) w1 w2) : FrR w S' w2 := ⟨hb, h.bel.trans (hu.below h.bel.size (fun k hk e => by omega))⟩
theorem FrR.ld (h : FrR w S w1) (hs : S.size = 6) (hgd : o.guard = none) (x : Operand) (ho : o.op = .load 53 x) (hx : a.eval x = .pointer (some ⟨w.heap.size, 0, none⟩))
    (k : wpList Try.prog ops Q rest (a.put o.dst (.agg S)) w1) : wpList Try.prog ops Q (o :: rest) a w1 :=
  wpList_load_row hgd 53 x ho w.heap.size hx 53 S (0, 0) _ h.box Try.underlying53 rfl (by rw [hs]; exact st_info) k
theorem FrR.st (h : FrR w S w1) (hs : S.size = 6) (hgd : o.guard = none) (x y : Operand) (ho : o.op = .store 53 x y) (hx : a.eval x = .pointer (some ⟨w.heap.size, 0, none⟩)) {S' : Array Value} (hy : a.eval y = .agg S')
    (hs' : S'.size = 6) (h1 : S'.all (·.oneCell') = true) (k : ∀ w2, FrR w S' w2 → Upd (· = w.heap.size) w1 w2 → wpList Try.prog ops Q rest (a.put o.dst undef) w2) : wpList Try.prog ops Q (o :: rest) a w1 :=
  wpB_store hgd 53 x y ho w.heap.size S' hx hy 53 S h.box (by rw [hs']; exact st_info) (by rw [hs, hs']) h1 fun w2 hb hu => k w2 (h.put hb hu) hu
theorem FrR.drew_ (h : FrR w S w1) : FrR w S w1.drew := ⟨h.box, below_drewN h.bel 1⟩
theorem FrR.c5 {A : Option Addr} {n c p : Nat} {Ao : Option Addr} {m co most E : Nat} (h : FrR w (stA A n c p Ao m co most E) w1) : w1.cell? ⟨w.heap.size, 5, none⟩ = some (.int .i64 (E : Int)) := h.box.cell 5
theorem FrR.c23 {A : Option Addr} {n c p : Nat} {Ao : Option Addr} {m co most E : Nat} (h : FrR w (stA A n c p Ao m co most E) w1) : w1.cell? ⟨w.heap.size, 2, none⟩ = some (.int .i64 (p : Int)) ∧ w1.cell? ⟨w.heap.size, 3, none⟩ = some (.slice Ao m co) := ⟨h.box.cell 2, h.box.cell 3⟩
theorem FrR.setE {A : Option Addr} {n c p : Nat} {Ao : Option Addr} {m co most E : Nat} (h : FrR w (stA A n c p Ao m co most E) w1) (k : Nat) : FrR w (stA A n c p Ao m co most k) (w1.setCell ⟨w.heap.size, 5, none⟩ (.int .i64 (k : Int))) := h.set_ 5 (.int .i64 (k : Int))
theorem FrR.own {B n : Nat} {v : Value} {xs : List Value} (h : FrR w S w1) (hO : w1.ownsRow B 5 1 v n xs) (hu : Upd (· = w.heap.size) w1 w2) : w2.ownsRow B 5 1 v n xs := own_upd hO hu (fun k hk e => by subst e; exact own_blk_ne hO h.box (by decide) hk)
end
/-- What a block leaves. -/
def OutV (w : World) (A : Option Addr) (n c most : Nat) (R : Except Nat (Nat × List UInt8)) (S' : Array Value) (w' : World) : Prop :=
  match R with
  | .error k => ∃ p Ao m co, S' = stA A n c p Ao m co most k
  | .ok (q, out) => ∃ Ao m co, S' = stA A n c q Ao m co most 0 ∧ out.length = m ∧ w'.ownsRow w.heap.size 5 1 (.slice Ao m co) m (bytesV out)
theorem OutV.of {w w1 w' : World} {A : Option Addr} {n c most : Nat} {v : Value} {R : Except Nat (Nat × List UInt8)} {e : Ending} (h : DOut w1 w.heap.size A n c most v R e w') : ∃ S', e = .returned (.agg S') ∧ OutV w A n c most R S' w' ∧ Upd (fun k => some k = v.ownBlock) w1 w' := by
  rcases R with ke | ⟨q, o⟩
  · obtain ⟨⟨p, Ao, m, co, rfl⟩, hu⟩ := h
    exact ⟨_, rfl, ⟨p, Ao, m, co, rfl⟩, hu⟩
  · obtain ⟨Ao, m, co, rfl, h1, h2, _, hu⟩ := h
    exact ⟨_, rfl, ⟨Ao, m, co, rfl, h1, h2⟩, hu⟩
theorem OutV.one {w w' : World} {A : Option Addr} {n c most : Nat} {R : Except Nat (Nat × List UInt8)} {S' : Array Value} (h : OutV w A n c most R S' w') : S'.size = 6 ∧ S'.all (·.oneCell') = true := by
  rcases R with ke | ⟨q, o⟩
  · obtain ⟨p, Ao, m, co, rfl⟩ := h
    exact ⟨rfl, st_oneA _ _ _ _ _ _ _ _ _⟩
  · obtain ⟨Ao, m, co, rfl, _⟩ := h
    exact ⟨rfl, st_oneA _ _ _ _ _ _ _ _ _⟩
theorem OutV.put {w w1 w2 : World} {A : Option Addr} {n c most : Nat} {R : Except Nat (Nat × List UInt8)} {S S' : Array Value} (h : OutV w A n c most R S' w1) (hF : FrR w S w1) (hu : Upd (· = w.heap.size) w1 w2) : OutV w A n c most R S' w2 := by
  rcases R with ke | ⟨q, o⟩
  · exact h
  · obtain ⟨Ao, m, co, h1, h2, h3⟩ := h
    exact ⟨Ao, m, co, h1, h2, hF.own h3 hu⟩
def put17 (a : Act) (v : Nat → Value) : Act := (((((a.put (some 55) (v 0)).put (some 56) (v 1)).put (some 57) (v 2)).put (some 58) (v 3)).put (some 59) (v 4)).put (some 60) (v 5)
def put22 (a : Act) (v : Nat → Value) : Act := (((((a.put (some 72) (v 0)).put (some 73) (v 1)).put (some 74) (v 2)).put (some 75) (v 3)).put (some 76) (v 4)).put (some 77) (v 5)
def exR (S : Array Value) (v1 v2 : Value) (cs1 cs2 : List Value) (S' : Array Value) : Nat → Value
  | 0 => .agg S | 1 => v1 | 2 => .agg cs1.toArray | 3 => v2 | 4 => .agg cs2.toArray | 5 => .agg S' | _ => undef
theorem exR_1 {S : Array Value} {v1 v2 : Value} {cs1 cs1' cs2 : List Value} {S' : Array Value} : ∀ j, j ≠ 2 → exR S v1 v2 cs1 cs2 S' j = exR S v1 v2 cs1' cs2 S' j
  | 0, _ => rfl | 1, _ => rfl | 2, h => absurd rfl h | 3, _ => rfl | 4, _ => rfl | 5, _ => rfl | _ + 6, _ => rfl
theorem exR_2 {S : Array Value} {v1 v2 : Value} {cs1 cs2 cs2' : List Value} {S' : Array Value} : ∀ j, j ≠ 4 → exR S v1 v2 cs1 cs2 S' j = exR S v1 v2 cs1 cs2' S' j
  | 0, _ => rfl | 1, _ => rfl | 2, _ => rfl | 3, _ => rfl | 4, h => absurd rfl h | 5, _ => rfl | _ + 6, _ => rfl
theorem exR_5 {S : Array Value} {v1 v2 : Value} {cs1 cs2 : List Value} {S' S'' : Array Value} : ∀ j, j ≠ 5 → exR S v1 v2 cs1 cs2 S' j = exR S v1 v2 cs1 cs2 S'' j
  | 0, _ => rfl | 1, _ => rfl | 2, _ => rfl | 3, _ => rfl | 4, _ => rfl | 5, h => absurd rfl h | _ + 6, _ => rfl
/-- The world at each stage of a block of codes. -/
structure RawW (w : World) (S : Array Value) (m : Nat) (v : Value) (xs : List Value) (A1 A2 : Option Addr) (l1 l2 : List Int) (A : Option Addr) (n c most : Nat) (R : Except Nat (Nat × List UInt8)) (D : Nat → Prop) (cs1 cs2 : List Value) (S' : Array Value) (w' : World) : Prop where
  fr : ¬ D 6 → FrR w S w'
  row : ¬ D 5 → w'.ownsRow w.heap.size 5 1 v m xs
  i1 : ¬ D 5 → Is w' w'.heap.size A1 l1
  i2 : ¬ D 5 → Is w' w'.heap.size A2 l2
  t1 : D 2 → ¬ D 5 → TblO w' l1 cs1
  t2 : D 4 → ¬ D 5 → TblO w' l2 cs2
  s5 : D 5 → OutV w A n c most R S' w'
  f6 : D 6 → FrR w S' w'
theorem RawW.same {w : World} {S : Array Value} {m : Nat} {v : Value} {xs : List Value} {A1 A2 : Option Addr} {l1 l2 : List Int} {A : Option Addr} {n c most : Nat} {R : Except Nat (Nat × List UInt8)} {D D' : Nat → Prop} {cs1 cs2 : List Value} {S' : Array Value} {w' : World} (h : RawW w S m v xs A1 A2 l1 l2 A n c most R D cs1 cs2 S' w')
    (h2 : D' 2 ↔ D 2) (h4 : D' 4 ↔ D 4) (h5 : D' 5 ↔ D 5) (h6 : D' 6 ↔ D 6) : RawW w S m v xs A1 A2 l1 l2 A n c most R D' cs1 cs2 S' w' :=
  ⟨fun k => h.fr (fun d => k (h6.2 d)), fun k => h.row (fun d => k (h5.2 d)), fun k => h.i1 (fun d => k (h5.2 d)), fun k => h.i2 (fun d => k (h5.2 d)), fun k k' => h.t1 (h2.1 k) (fun d => k' (h5.2 d)), fun k k' => h.t2 (h4.1 k) (fun d => k' (h5.2 d)), fun k => h.s5 (h5.1 k), fun k => h.f6 (h6.1 k)⟩
def CutR (w : World) (A : Option Addr) (n c most : Nat) (R : Except Nat (Nat × List UInt8)) (wx : World) : Prop := ∃ S', OutV w A n c most R S' wx ∧ FrR w S' wx
def endM (l : Nat) (R : Except Nat (Nat × List UInt8)) : Except Nat (Nat × List UInt8 × Bool) := match R with
  | .error e => .error e
  | .ok (q, out) => .ok (q, out, decide (l = 1))
theorem is_put {w1 w2 : World} {A : Option Addr} {l : List Int} {g : Nat} (h : Is w1 w1.heap.size A l) (hu : Upd (· = g) w1 w2) (hne : ∀ ad, A = some ad → ad.block ≠ g) : Is w2 w2.heap.size A l :=
  (Vs.upd h hu (Nat.le_refl _) (fun ad e _ => hne ad e)).more hu.size
set_option maxHeartbeats 8000000 in
set_option maxRecDepth 100000 in
theorem dRaw (w : World) (A : Option Addr) (c : Nat) (b : List UInt8) (mo : Int) (hbs : Bs w w.heap.size A b) (hmo : -9223372036854775808 ≤ mo ∧ mo ≤ 9223372036854775807) (hL : b.length ≤ 60000000000) (hc : b.length ≤ c) (hcm : c ≤ maxLen) :
    Calls Try.prog 12 #[.slice A b.length c, .int .i64 mo] w (RawR w (rawM b mo.toNat)) := by
  obtain ⟨X, HX⟩ : ∃ X, Hid (rawM b mo.toNat = X) := ⟨_, Lib.hid rfl⟩
  rw [HX.out]
  have HBS := Lib.hid hbs
  have HC := Lib.hid hc
  have HCM := Lib.hid hcm
  have hbl : b.length ≤ 140737488355328 := by omega
  obtain ⟨mm, hm⟩ : ∃ m, mo.toNat = m := ⟨_, rfl⟩
  rw [hm] at HX
  have hmost : mm ≤ 9223372036854775807 := by omega
  obtain ⟨Y, HY⟩ : ∃ Y, Hid (blocksM b mm 0 [] = Y) := ⟨_, Lib.hid rfl⟩
  have HXY : Hid (finM Y = X) := Lib.hid (by rw [← HX.out, rawM_blocks, HY.out])
  have HM : Hid ((mo < 0 ∧ mm = 0) ∨ mo = (mm : Int)) := Lib.hid (by omega)
  have HF0 := Lib.hid (FrR.start w (stA A b.length c 0 none 0 0 mm 0))
  clear hm HX hbs hc hcm
  go_enter Try.func12, Try.ntmps12
  go_upto_if 15 with (fail)
  go_cut [1] (fun v wx => w = wx ∧ v = .int .i64 (mm : Int))
  case first =>
    rcases HM.out with ⟨h1, rfl⟩ | rfl
    · have d1 : decide (mo < 0) = true := by simp; omega
      go_wp2_with fail
      go_meet
      exact ⟨rfl, rfl⟩
    · have d1 : decide ((mm : Int) < 0) = false := by simp
      go_wp2_with fail
      go_meet
      exact ⟨rfl, rfl⟩
  case rest =>
    obtain ⟨rfl, rfl⟩ := hcut
    clear HM hmo
    go_wp2_with fail
    go_loopg [8] (8 * b.length + 1) (fun gk last wr => (∃ (q m co : Nat) (Ao : Option Addr) (o : List UInt8), gk = 8 * b.length + 1 - q ∧ last = .int .i64 0 ∧ q ≤ 8 * b.length ∧ m ≤ mm ∧ Hid (o.length = m) ∧ Hid (m + 258 * (8 * b.length + 1 - q) ≤ 140737488000000) ∧
        Hid (FrR w (stA A b.length c q Ao m co mm 0) wr) ∧ Hid (wr.ownsRow w.heap.size 5 1 (.slice Ao m co) m (bytesV o)) ∧ Hid (blocksM b mm q o = Y)) ∨
      (∃ (q m co : Nat) (Ao : Option Addr) (o : List UInt8), gk = 0 ∧ last = .int .i64 1 ∧ q ≤ 8 * b.length ∧ Hid (o.length = m) ∧
        Hid (FrR w (stA A b.length c q Ao m co mm 0) wr) ∧ Hid (wr.ownsRow w.heap.size 5 1 (.slice Ao m co) m (bytesV o)) ∧ Hid (X = .ok (o, (q + 7) / 8))) ∨
      (∃ (ke l q m co : Nat) (Ao : Option Addr), gk = 0 ∧ last = .int .i64 (l : Int) ∧ ke ≠ 0 ∧ Hid (FrR w (stA A b.length c q Ao m co mm ke) wr) ∧ Hid (X = .error ke)))
    case atStart => exact .inl ⟨0, 0, 0, none, [], rfl, rfl, Nat.zero_le _, Nat.zero_le _, Lib.hid rfl, Lib.hid (by omega), HF0, Lib.hid (World.ownsRow_nil _ _ _ _), HY⟩
    case round =>
      clear HF0 HY
      rcases hrel with ⟨q, m, co, Ao, o, rfl, rfl, hq, hmm, HOK, HSK, HF, HO, HYq⟩ | ⟨q, m, co, Ao, o, rfl, rfl, hq, HOK, HF, HO, HXE⟩ | ⟨ke, l, q, m, co, Ao, rfl, rfl, hke, HF, HXE⟩
      · have c5 := HF.out.c5
        have hy := HYq.out
        rw [blocksM_step hq (by rw [HOK.out]; exact hmm)] at hy
        have HT1 := Lib.hid (dTake wr A c b q Ao m co mm ((HBS.out.below HF.out.bel).more HF.out.bel.size) hbl hq 1 (by omega))
        rcases hx1 : takeM b q 1 with ke | ⟨l, q1⟩
        · rw [hx1] at HT1
          rw [blockM_1 hx1] at hy
          have hke := takeM_err hx1
          have HXE : Hid (X = .error ke) := Lib.hid (by rw [← HXY.out, ← hy]; rfl)
          have d1 : ((ke : Int) == 0) = false := by rw [beq_eq_false_iff_ne]; omega
          have d2 : ((ke : Int) != 0) = true := by rw [bne_iff_ne]; omega
          clear hx1 hy hke HYq
          go_wp2_with (first
            | ((with_reducible refine at_ld 53 7 ?_); refine HF.out.ld rfl rfl (.tmp 7) rfl rfl ?_))
          refine HT1.out.mono ?_
          rintro e wc ⟨⟨pe, rfl⟩, hb⟩
          have HF2 := Lib.hid (HF.out.call hb)
          clear hb HT1 c5
          go_wp2_with (first
            | ((with_reducible refine at_st 53 7 30 ?_); refine HF2.out.st rfl rfl (.tmp 7) (.tmp 30) rfl rfl rfl rfl (st_oneA _ _ _ _ _ _ _ _ _) ?_; intro w3 hF3 hu3; have HF3 := Lib.hid hF3; have c5 := hF3.c5; clear hF3 hu3))
          go_quiet (fail)
          go_wp2_with fail
          go_returns
          rw [HXE.out]
          exact ⟨rfl, below_drewN HF3.out.bel _⟩
        · rw [hx1] at HT1
          obtain ⟨hl2, hqe1, hq1⟩ := takeM_ok hx1
          have hlb : l < 2 := hl2
          have HX1 := Lib.hid hx1
          have HYY := Lib.hid hy
          clear hx1 hy hqe1 hl2
          go_wp2_with (first
            | ((with_reducible refine at_ld 53 7 ?_); refine HF.out.ld rfl rfl (.tmp 7) rfl rfl ?_))
          refine HT1.out.mono ?_
          rintro e wc ⟨rfl, hb⟩
          have HF2 := Lib.hid (HF.out.call hb)
          have HO2 := Lib.hid (own_upd HO.out (Upd.of_fresh hb) (fun _ _ => id))
          clear hb HT1 c5
          go_wp2_with (first
            | ((with_reducible refine at_st 53 7 30 ?_); refine HF2.out.st rfl rfl (.tmp 7) (.tmp 30) rfl rfl rfl rfl (st_oneA _ _ _ _ _ _ _ _ _) ?_; intro w3 hF3 hu3; have HF3 := Lib.hid hF3; have c5 := hF3.c5; have HO3 := Lib.hid (HF2.out.own HO2.out hu3); clear hF3 hu3)
            | ((with_reducible refine at_ld 53 7 ?_); refine HF3.out.ld rfl rfl (.tmp 7) rfl rfl ?_))
          have HT2 := Lib.hid (dTake w3 A c b q1 Ao m co mm ((HBS.out.below HF3.out.bel).more HF3.out.bel.size) hbl hq1 2 (by omega))
          have hy := HYY.out
          rcases hx2 : takeM b q1 2 with ke | ⟨kind, q2⟩
          · rw [hx2] at HT2
            rw [blockM_2 HX1.out hx2] at hy
            have hke := takeM_err hx2
            have HXE : Hid (X = .error ke) := Lib.hid (by rw [← HXY.out, ← hy]; rfl)
            have d1 : ((ke : Int) == 0) = false := by rw [beq_eq_false_iff_ne]; omega
            have d2 : ((ke : Int) != 0) = true := by rw [bne_iff_ne]; omega
            clear hx2 hy hke HYq HYY
            refine HT2.out.mono ?_
            rintro e wc ⟨⟨pe, rfl⟩, hb⟩
            have HF4 := Lib.hid (HF3.out.call hb)
            clear hb HT2 c5
            go_wp2_with (first
              | ((with_reducible refine at_st 53 7 38 ?_); refine HF4.out.st rfl rfl (.tmp 7) (.tmp 38) rfl rfl rfl rfl (st_oneA _ _ _ _ _ _ _ _ _) ?_; intro w5 hF5 hu5; have HF5 := Lib.hid hF5; have c5 := hF5.c5; clear hF5 hu5))
            go_quiet (fail)
            go_wp2_with fail
            go_returns
            rw [HXE.out]
            exact ⟨rfl, below_drewN HF5.out.bel _⟩
          · rw [hx2] at HT2
            skip
            obtain ⟨hk4, hqe2, hq2⟩ := takeM_ok hx2
            have hkb : kind < 4 := hk4
            have hqq : q2 = q + 3 := by have := (takeM_ok HX1.out).2.1; omega
            have HQQ := Lib.hid hqq
            have HYY := Lib.hid hy
            have HX2 := Lib.hid hx2
            have hsk0 := HSK.out
            have hsz2 : m + 258 * (8 * b.length + 1 - q2) ≤ 140737488000000 := by have := HQQ.out; omega
            have hm14 : m ≤ 140737488000000 := by omega
            clear hsk0
            clear hx2 hy hqe2 hk4 hqq
            refine HT2.out.mono ?_
            rintro e wc ⟨rfl, hb⟩
            have HF4 := Lib.hid (HF3.out.call hb)
            have HO4 := Lib.hid (own_upd HO3.out (Upd.of_fresh hb) (fun _ _ => id))
            clear hb HT2 c5
            have hk : kind = 0 ∨ kind = 1 ∨ kind = 2 ∨ kind = 3 := by omega
            clear hkb
            rcases hk with rfl | rfl | rfl | rfl
            · have HBK0 : Hid (blockM b mm q o = endM l (bodyM b mm q2 0 o)) := Lib.hid (blockM_3 HX1.out HX2.out)
              have hbody : bodyM b mm q2 0 o = storedM b mm q2 o := by unfold bodyM; rw [if_pos rfl]
              rw [hbody] at HBK0
              obtain ⟨R, hR⟩ : ∃ R, storedM b mm q2 o = R := ⟨_, rfl⟩
              have HBK : Hid (blockM b mm q o = endM l R) := Lib.hid (by rw [← hR]; exact HBK0.out)
              have HRR := Lib.hid hR
              clear hbody hR HBK0
              go_wp2_with (first
                | ((with_reducible refine at_st 53 7 38 ?_); refine HF4.out.st rfl rfl (.tmp 7) (.tmp 38) rfl rfl rfl rfl (st_oneA _ _ _ _ _ _ _ _ _) ?_; intro w5 hF5 hu5; have HF5 := Lib.hid hF5; have c5 := hF5.c5; have HO5 := Lib.hid (HF4.out.own HO4.out hu5); clear hF5 hu5)
                | ((with_reducible refine at_ld 53 7 ?_); refine HF5.out.ld rfl rfl (.tmp 7) rfl rfl ?_))
              refine (dStored w5 w.heap.size A c b q2 Ao m co mm o ((HBS.out.below HF5.out.bel).more HF5.out.bel.size) hbl HC.out HCM.out hq2 HF5.out.bel.size HOK.out HO5.out hmm hmost hm14).mono ?_
              intro e w6 h6
              rw [HRR.out] at h6
              obtain ⟨S6, rfl, hv6, hu6⟩ := OutV.of h6
              have HV6 := Lib.hid hv6
              have HF6 := Lib.hid (HF5.out.row HO5.out hu6)
              clear h6 hv6 hu6 c5
              go_wp2_with (first
                | ((with_reducible refine at_st 53 7 48 ?_); refine HF6.out.st rfl rfl (.tmp 7) (.tmp 48) rfl rfl rfl HV6.out.one.1 HV6.out.one.2 ?_; intro w7 hF7 hu7; have HF7 := Lib.hid hF7; have HV7 := Lib.hid (HV6.out.put HF6.out hu7); clear hF7 hu7))
              rcases R with ke | ⟨q3, o3⟩
              · have hbk : blockM b mm q o = .error ke := HBK.out
                have hy := HYY.out
                rw [hbk] at hy
                have hke : ke ≠ 0 := blockM_err (b := b) (most := mm) (p := q) (out := o) (by rw [HOK.out]; exact hmm) hbk
                have HXE : Hid (X = .error ke) := Lib.hid (by rw [← HXY.out, ← hy]; rfl)
                obtain ⟨p7, A7, m7, c7, rfl⟩ := HV7.out
                clear hbk hy HBK HYY
                go_roundg 0
                case measure => omega
                case rel => exact .inr (.inr ⟨ke, l, p7, m7, c7, A7, rfl, rfl, hke, HF7, HXE⟩)
              · have hbk : blockM b mm q o = .ok (q3, o3, decide (l = 1)) := HBK.out
                have hy := HYY.out
                rw [hbk] at hy
                obtain ⟨k1, k2, k3, k4⟩ := blockM_ok hbk (by rw [HOK.out]; exact hmm)
                obtain ⟨A7, m7, c7, rfl, hl7, ho7⟩ := HV7.out
                have HL7 := Lib.hid hl7
                have HO7 := Lib.hid ho7
                rw [hl7] at k3 k4
                rw [HOK.out] at k4
                have hsk := HSK.out
                have HS7 : Hid (m7 + 258 * (8 * b.length + 1 - q3) ≤ 140737488000000) := Lib.hid (by omega)
                have hl01 : l = 0 ∨ l = 1 := by omega
                rcases hl01 with rfl | rfl
                · have HYN : Hid (blocksM b mm q3 o3 = Y) := Lib.hid hy
                  clear hbk hy HBK HYY k4 hsk hl7 ho7
                  go_roundg (8 * b.length + 1 - q3)
                  case measure => omega
                  case rel => exact .inl ⟨q3, m7, c7, A7, o3, rfl, rfl, k2, k3, HL7, HS7, HF7, HO7, HYN⟩
                · have HXE : Hid (X = .ok (o3, (q3 + 7) / 8)) := Lib.hid (by rw [← HXY.out, ← hy]; rfl)
                  clear hbk hy HBK HYY k4 hsk hl7 ho7
                  go_roundg 0
                  case measure => omega
                  case rel => exact .inr (.inl ⟨q3, m7, c7, A7, o3, rfl, rfl, k2, HL7, HF7, HO7, HXE⟩)
            · have HBK0 : Hid (blockM b mm q o = endM l (bodyM b mm q2 1 o)) := Lib.hid (blockM_3 HX1.out HX2.out)
              have hbody : bodyM b mm q2 1 o = symsM b mm fixedL fixedD q2 o := by unfold bodyM; rw [if_neg (by omega), if_pos rfl]
              rw [hbody] at HBK0
              obtain ⟨R, hR⟩ : ∃ R, symsM b mm fixedL fixedD q2 o = R := ⟨_, rfl⟩
              have HBK : Hid (blockM b mm q o = endM l R) := Lib.hid (by rw [← hR]; exact HBK0.out)
              have HRR := Lib.hid hR
              clear hbody hR HBK0
              go_wp2_with (first
                | ((with_reducible refine at_st 53 7 38 ?_); refine HF4.out.st rfl rfl (.tmp 7) (.tmp 38) rfl rfl rfl rfl (st_oneA _ _ _ _ _ _ _ _ _) ?_; intro w5 hF5 hu5; have HF5 := Lib.hid hF5; have c5 := hF5.c5; have HO5 := Lib.hid (HF4.out.own HO4.out hu5); clear hF5 hu5))
              refine (dFixed w5).mono ?_
              rintro e w6 ⟨A1, c1, A2, c2, rfl, hi1, hi2, hb⟩
              have HF6 := Lib.hid (HF5.out.call hb)
              have HO6 := Lib.hid (own_upd HO5.out (Upd.of_fresh hb) (fun _ _ => id))
              have HI1 := Lib.hid hi1
              have HI2 := Lib.hid hi2
              have HN1 := Lib.hid fixedL_length
              have HN2 := Lib.hid fixedD_length
              have HCO := Lib.hid codesOk_fixed
              clear hi1 hi2 hb c5
              have HSY : Hid (∀ (w9 : World) (cs1 cs2 : List Value), TblO w9 fixedL cs1 → TblO w9 fixedD cs2 → FrR w (stA A b.length c q2 Ao m co mm 0) w9 → w9.ownsRow w.heap.size 5 1 (.slice Ao m co) m (bytesV o) → Calls Try.prog 24 #[.agg (stA A b.length c q2 Ao m co mm 0), .agg cs1.toArray, .agg cs2.toArray] w9 (DOut w9 w.heap.size A b.length c mm (.slice Ao m co) R)) := Lib.hid (fun w9 cs1 cs2 t1 t2 hF hO => by
                rw [← HRR.out]
                exact dSymbols w9 w.heap.size A c b q2 Ao m co mm o fixedL fixedD cs1 cs2 t1 t2 HCO.out.l2 HCO.out.d2 HCO.out.l3 HCO.out.d3 (HBS.out.below hF.bel) hbl hq2 hF.bel.size HOK.out hO hmm hmost hsz2)
              go_upto_region 17 with (fail)
              refine wp_region_stages (fun a0 D a w' => ∃ vals cs1 cs2 S', a = put17 a0 vals ∧ (∀ j, Did D j → vals j = exR (stA A b.length c q2 Ao m co mm 0) (.slice A1 288 c1) (.slice A2 30 c2) cs1 cs2 S' j) ∧ RawW w (stA A b.length c q2 Ao m co mm 0) m (Value.slice Ao m co) (bytesV o) A1 A2 fixedL fixedD A b.length c mm (R) (Did D) cs1 cs2 S' w') (by kernel_rfl) (by kernel_rfl) ?start ?done ?step
              case start =>
                have h0 : ∀ j, ¬ Did (Array.replicate 7 false) j := fun j h => by unfold Did at h; rw [getD_replicate_false] at h; cases h
                exact ⟨fun | 0 => u55 | 1 => u56 | 2 => u57 | 3 => u58 | 4 => u59 | _ => u60, [], [], #[], by unfold put17; simp only [Act.put, List.setIfInBounds_toArray, List.set_cons_succ, List.set_cons_zero], fun j h => absurd h (h0 j), ⟨fun _ => HF6.out.drew_, fun _ => HO6.out, fun _ => HI1.out, fun _ => HI2.out, fun h => absurd h (h0 _), fun h => absurd h (h0 _), fun h => absurd h (h0 _), fun h => absurd h (h0 _)⟩⟩
              case done =>
                rintro D a' w' hD ⟨vals, cs1, cs2, S', rfl, hv, hw⟩
                have hDi : ∀ i, i < 7 → Did D i := fun i hi => hD i (by simpa using hi)
                have HV8 := Lib.hid (hw.s5 (hDi 5 (by omega)))
                have HF8 := Lib.hid (hw.f6 (hDi 6 (by omega)))
                clear hw hv hD hDi
                unfold put17
                simp only [Act.put, List.setIfInBounds_toArray, List.set_cons_succ, List.set_cons_zero]
                go_wp2_with fail
                rcases R with ke | ⟨q3, o3⟩
                · have hbk : blockM b mm q o = .error ke := HBK.out
                  have hy := HYY.out
                  rw [hbk] at hy
                  have hke : ke ≠ 0 := blockM_err (b := b) (most := mm) (p := q) (out := o) (by rw [HOK.out]; exact hmm) hbk
                  have HXE : Hid (X = .error ke) := Lib.hid (by rw [← HXY.out, ← hy]; rfl)
                  obtain ⟨p7, A7, m7, c7, rfl⟩ := HV8.out
                  clear hbk hy HBK HYY
                  go_roundg 0
                  case measure => omega
                  case rel => exact .inr (.inr ⟨ke, l, p7, m7, c7, A7, rfl, rfl, hke, HF8, HXE⟩)
                · have hbk : blockM b mm q o = .ok (q3, o3, decide (l = 1)) := HBK.out
                  have hy := HYY.out
                  rw [hbk] at hy
                  obtain ⟨k1, k2, k3, k4⟩ := blockM_ok hbk (by rw [HOK.out]; exact hmm)
                  obtain ⟨A7, m7, c7, rfl, hl7, ho7⟩ := HV8.out
                  have HL7 := Lib.hid hl7
                  have HO7 := Lib.hid ho7
                  rw [hl7] at k3 k4
                  rw [HOK.out] at k4
                  have hsk := HSK.out
                  have HS7 : Hid (m7 + 258 * (8 * b.length + 1 - q3) ≤ 140737488000000) := Lib.hid (by omega)
                  have hl01 : l = 0 ∨ l = 1 := by omega
                  rcases hl01 with rfl | rfl
                  · have HYN : Hid (blocksM b mm q3 o3 = Y) := Lib.hid hy
                    clear hbk hy HBK HYY k4 hsk hl7 ho7
                    go_roundg (8 * b.length + 1 - q3)
                    case measure => omega
                    case rel => exact .inl ⟨q3, m7, c7, A7, o3, rfl, rfl, k2, k3, HL7, HS7, HF8, HO7, HYN⟩
                  · have HXE : Hid (X = .ok (o3, (q3 + 7) / 8)) := Lib.hid (by rw [← HXY.out, ← hy]; rfl)
                    clear hbk hy HBK HYY k4 hsk hl7 ho7
                    go_roundg 0
                    case measure => omega
                    case rel => exact .inr (.inl ⟨q3, m7, c7, A7, o3, rfl, rfl, k2, HL7, HF8, HO7, HXE⟩)
              case step =>
                intro i o9 hi D a' w' hs hni hall hcl hJ K hK
                have hi7 : i < 7 := by simpa using (Array.getElem?_eq_some_iff.1 hi).1
                have hs7 : i < D.size := by have e : D.size = 7 := (by simpa using hs); omega
                obtain ⟨vals, cs1, cs2, S', rfl, hv, hw⟩ := hJ
                have HD := Lib.hid (fun j (hj : j ≠ i) => (did_set hj : Did (D.setIfInBounds i true) j ↔ Did D j))
                have HN : Hid (Did (D.setIfInBounds i true) i) := Lib.hid (did_new hs7)
                have HK := Lib.hid hK
                have HNI := Lib.hid hni
                have HV := Lib.hid hv
                have HW := Lib.hid hw
                have D65 : Hid (Did D 6 → Did D 5) := Lib.hid (fun h => hcl 6 _ rfl h ⟨5, .data⟩ (by simp) rfl)
                have D50 : Hid (Did D 5 → Did D 0) := Lib.hid (fun h => hcl 5 _ rfl h ⟨0, .data⟩ (by simp) rfl)
                have D52 : Hid (Did D 5 → Did D 2) := Lib.hid (fun h => hcl 5 _ rfl h ⟨2, .data⟩ (by simp) rfl)
                have D54 : Hid (Did D 5 → Did D 4) := Lib.hid (fun h => hcl 5 _ rfl h ⟨4, .data⟩ (by simp) rfl)
                clear hK hs hni hv hw hs7 hcl
                rcases i with _ | _ | _ | _ | _ | _ | _ | i
                · injection hi with hi
                  subst hi
                  clear hall
                  have HF0 := Lib.hid (HW.out.fr (fun h => HNI.out (D50.out (D65.out h))))
                  unfold put17
                  simp only [Act.put, List.setIfInBounds_toArray, List.set_cons_succ, List.set_cons_zero]
                  refine HF0.out.ld rfl rfl (.tmp 7) rfl rfl ?_
                  refine HK.out _ _ ?_
                  exact ⟨fun j => if j = 0 then exR (stA A b.length c q2 Ao m co mm 0) (.slice A1 288 c1) (.slice A2 30 c2) cs1 cs2 S' 0 else vals j, cs1, cs2, S', by unfold put17; simp only [Act.put, List.setIfInBounds_toArray, List.set_cons_succ, List.set_cons_zero]; rfl, vals_next 0 HD.out HV.out, HW.out.same (HD.out 2 (by omega)) (HD.out 4 (by omega)) (HD.out 5 (by omega)) (HD.out 6 (by omega))⟩
                · injection hi with hi
                  subst hi
                  clear hall
                  unfold put17
                  simp only [Act.put, List.setIfInBounds_toArray, List.set_cons_succ, List.set_cons_zero]
                  go_wp2_with fail
                  refine HK.out _ _ ?_
                  exact ⟨fun j => if j = 1 then exR (stA A b.length c q2 Ao m co mm 0) (.slice A1 288 c1) (.slice A2 30 c2) cs1 cs2 S' 1 else vals j, cs1, cs2, S', by unfold put17; simp only [Act.put, List.setIfInBounds_toArray, List.set_cons_succ, List.set_cons_zero]; rfl, vals_next 1 HD.out HV.out, HW.out.same (HD.out 2 (by omega)) (HD.out 4 (by omega)) (HD.out 5 (by omega)) (HD.out 6 (by omega))⟩
                · injection hi with hi
                  subst hi
                  have g1 : Did D 1 := hall ⟨1, .data⟩ (by simp) rfl
                  have e1 := HV.out 1 g1
                  clear hall
                  have H5 : Hid (¬ Did D 5) := Lib.hid (fun h => HNI.out (D52.out h))
                  have HTb := Lib.hid (tabled_n A1 288 c1 fixedL w' HN1.out (HW.out.i1 H5.out) (by have := HCO.out.l2; have := HN1.out; omega) HCO.out.l1 HCO.out.l3)
                  clear g1
                  dsimp only [exR] at e1
                  unfold put17
                  simp only [Act.put, List.setIfInBounds_toArray, List.set_cons_succ, List.set_cons_zero]
                  simp only [e1]
                  go_wp2_with fail
                  refine HTb.out.mono ?_
                  intro e w9 h9
                  obtain ⟨cs9, rfl, hT9, hb9⟩ := TblO.of h9
                  have HT9 := Lib.hid hT9
                  have HB9 := Lib.hid hb9
                  clear h9 hT9 hb9
                  go_wp2_with fail
                  refine HK.out _ _ ?_
                  exact ⟨fun j => if j = 2 then exR (stA A b.length c q2 Ao m co mm 0) (.slice A1 288 c1) (.slice A2 30 c2) cs9 cs2 S' 2 else vals j, cs9, cs2, S', by unfold put17; simp only [Act.put, List.setIfInBounds_toArray, List.set_cons_succ, List.set_cons_zero]; simp only [e1]; rfl, vals_next 2 HD.out (fun j hj => (HV.out j hj).trans (exR_1 j (fun e => by subst e; exact HNI.out hj))), ⟨fun k => (HW.out.fr (fun h => H5.out (D65.out h))).call HB9.out, fun k => own_upd (HW.out.row H5.out) (Upd.of_fresh HB9.out) (fun _ _ => id), fun k => (Vs.below (HW.out.i1 H5.out) HB9.out).more HB9.out.size, fun k => (Vs.below (HW.out.i2 H5.out) HB9.out).more HB9.out.size, fun _ _ => HT9.out, fun k k5 => (HW.out.t2 ((HD.out 4 (by omega)).1 k) H5.out).call HB9.out, fun k => absurd ((HD.out 5 (by omega)).1 k) H5.out, fun k => absurd (D65.out ((HD.out 6 (by omega)).1 k)) H5.out⟩⟩
                · injection hi with hi
                  subst hi
                  clear hall
                  unfold put17
                  simp only [Act.put, List.setIfInBounds_toArray, List.set_cons_succ, List.set_cons_zero]
                  go_wp2_with fail
                  refine HK.out _ _ ?_
                  exact ⟨fun j => if j = 3 then exR (stA A b.length c q2 Ao m co mm 0) (.slice A1 288 c1) (.slice A2 30 c2) cs1 cs2 S' 3 else vals j, cs1, cs2, S', by unfold put17; simp only [Act.put, List.setIfInBounds_toArray, List.set_cons_succ, List.set_cons_zero]; rfl, vals_next 3 HD.out HV.out, HW.out.same (HD.out 2 (by omega)) (HD.out 4 (by omega)) (HD.out 5 (by omega)) (HD.out 6 (by omega))⟩
                · injection hi with hi
                  subst hi
                  have g3 : Did D 3 := hall ⟨3, .data⟩ (by simp) rfl
                  have e3 := HV.out 3 g3
                  clear hall
                  have H5 : Hid (¬ Did D 5) := Lib.hid (fun h => HNI.out (D54.out h))
                  have HTb := Lib.hid (tabled_n A2 30 c2 fixedD w' HN2.out (HW.out.i2 H5.out) (by have := HCO.out.d2; have := HN2.out; omega) HCO.out.d1 HCO.out.d3)
                  clear g3
                  dsimp only [exR] at e3
                  unfold put17
                  simp only [Act.put, List.setIfInBounds_toArray, List.set_cons_succ, List.set_cons_zero]
                  simp only [e3]
                  go_wp2_with fail
                  refine HTb.out.mono ?_
                  intro e w9 h9
                  obtain ⟨cs9, rfl, hT9, hb9⟩ := TblO.of h9
                  have HT9 := Lib.hid hT9
                  have HB9 := Lib.hid hb9
                  clear h9 hT9 hb9
                  go_wp2_with fail
                  refine HK.out _ _ ?_
                  exact ⟨fun j => if j = 4 then exR (stA A b.length c q2 Ao m co mm 0) (.slice A1 288 c1) (.slice A2 30 c2) cs1 cs9 S' 4 else vals j, cs1, cs9, S', by unfold put17; simp only [Act.put, List.setIfInBounds_toArray, List.set_cons_succ, List.set_cons_zero]; simp only [e3]; rfl, vals_next 4 HD.out (fun j hj => (HV.out j hj).trans (exR_2 j (fun e => by subst e; exact HNI.out hj))), ⟨fun k => (HW.out.fr (fun h => H5.out (D65.out h))).call HB9.out, fun k => own_upd (HW.out.row H5.out) (Upd.of_fresh HB9.out) (fun _ _ => id), fun k => (Vs.below (HW.out.i1 H5.out) HB9.out).more HB9.out.size, fun k => (Vs.below (HW.out.i2 H5.out) HB9.out).more HB9.out.size, fun k k5 => (HW.out.t1 ((HD.out 2 (by omega)).1 k) H5.out).call HB9.out, fun _ _ => HT9.out, fun k => absurd ((HD.out 5 (by omega)).1 k) H5.out, fun k => absurd (D65.out ((HD.out 6 (by omega)).1 k)) H5.out⟩⟩
                · injection hi with hi
                  subst hi
                  have g0 : Did D 0 := hall ⟨0, .data⟩ (by simp) rfl
                  have e0 := HV.out 0 g0
                  have g2 : Did D 2 := hall ⟨2, .data⟩ (by simp) rfl
                  have e2 := HV.out 2 g2
                  have g4 : Did D 4 := hall ⟨4, .data⟩ (by simp) rfl
                  have e4 := HV.out 4 g4
                  clear hall
                  have G2 := Lib.hid g2
                  have G4 := Lib.hid g4
                  have HF0 := Lib.hid (HW.out.fr (fun h => HNI.out (D65.out h)))
                  have HO0 := Lib.hid (HW.out.row HNI.out)
                  have HSy := HSY.out w' cs1 cs2 (HW.out.t1 g2 HNI.out) (HW.out.t2 g4 HNI.out) HF0.out HO0.out
                  have HSY2 := Lib.hid HSy
                  clear HSy
                  clear g0 g2 g4
                  dsimp only [exR] at e0 e2 e4
                  unfold put17
                  simp only [Act.put, List.setIfInBounds_toArray, List.set_cons_succ, List.set_cons_zero]
                  simp only [e0, e2, e4]
                  go_wp2_with fail
                  refine HSY2.out.mono ?_
                  intro e w10 h10
                  obtain ⟨S9, rfl, hv9, hu9⟩ := OutV.of h10
                  have HV9 := Lib.hid hv9
                  have HF9 := Lib.hid (HF0.out.row HO0.out hu9)
                  clear h10 hv9 hu9
                  go_wp2_with fail
                  refine HK.out _ _ ?_
                  exact ⟨fun j => if j = 5 then exR (stA A b.length c q2 Ao m co mm 0) (.slice A1 288 c1) (.slice A2 30 c2) cs1 cs2 S9 5 else vals j, cs1, cs2, S9, by unfold put17; simp only [Act.put, List.setIfInBounds_toArray, List.set_cons_succ, List.set_cons_zero]; simp only [e0, e2, e4]; rfl, vals_next 5 HD.out (fun j hj => (HV.out j hj).trans (exR_5 j (fun e => by subst e; exact HNI.out hj))), ⟨fun k => HF9.out, fun k => absurd HN.out k, fun k => absurd HN.out k, fun k => absurd HN.out k, fun _ k => absurd HN.out k, fun _ k => absurd HN.out k, fun _ => HV9.out, fun k => absurd (D65.out ((HD.out 6 (by omega)).1 k)) HNI.out⟩⟩
                · injection hi with hi
                  subst hi
                  have g5 : Did D 5 := hall ⟨5, .data⟩ (by simp) rfl
                  have e5 := HV.out 5 g5
                  clear hall
                  have G5 := Lib.hid g5
                  have HF0 := Lib.hid (HW.out.fr HNI.out)
                  have HV0 := Lib.hid (HW.out.s5 g5)
                  clear g5
                  dsimp only [exR] at e5
                  unfold put17
                  simp only [Act.put, List.setIfInBounds_toArray, List.set_cons_succ, List.set_cons_zero]
                  simp only [e5]
                  refine HF0.out.st rfl rfl (.tmp 7) (.tmp 60) rfl rfl rfl HV0.out.one.1 HV0.out.one.2 ?_
                  intro w2 hF2 hu2
                  have HF2 := Lib.hid hF2
                  have HV2 := Lib.hid (HV0.out.put HF0.out hu2)
                  clear hF2 hu2
                  refine HK.out _ _ ?_
                  exact ⟨fun j => if j = 6 then undef else vals j, cs1, cs2, S', by unfold put17; simp only [Act.put, List.setIfInBounds_toArray, List.set_cons_succ, List.set_cons_zero]; simp only [e5]; rfl, vals_next 6 HD.out HV.out, ⟨fun k => absurd HN.out k, fun k => absurd ((HD.out 5 (by omega)).2 G5.out) k, fun k => absurd ((HD.out 5 (by omega)).2 G5.out) k, fun k => absurd ((HD.out 5 (by omega)).2 G5.out) k, fun _ k => absurd ((HD.out 5 (by omega)).2 G5.out) k, fun _ k => absurd ((HD.out 5 (by omega)).2 G5.out) k, fun _ => HV2.out, fun _ => HF2.out⟩⟩
                · omega
            · have HBK0 : Hid (blockM b mm q o = endM l (bodyM b mm q2 2 o)) := Lib.hid (blockM_3 HX1.out HX2.out)
              go_wp2_with (first
                | ((with_reducible refine at_st 53 7 38 ?_); refine HF4.out.st rfl rfl (.tmp 7) (.tmp 38) rfl rfl rfl rfl (st_oneA _ _ _ _ _ _ _ _ _) ?_; intro w5 hF5 hu5; have HF5 := Lib.hid hF5; have c5 := hF5.c5; have HO5 := Lib.hid (HF4.out.own HO4.out hu5); clear hF5 hu5)
                | ((with_reducible refine at_ld 53 7 ?_); refine HF5.out.ld rfl rfl (.tmp 7) rfl rfl ?_))
              have HTT := Lib.hid (dTables w5 A c b q2 Ao m co mm ((HBS.out.below HF5.out.bel).more HF5.out.bel.size) hbl hq2)
              clear c5
              rcases ht : toldM b q2 with ke | ⟨q3, ll, ld⟩
              · rw [ht] at HTT
                have hbody : bodyM b mm q2 2 o = .error ke := by unfold bodyM; rw [if_neg (by omega), if_neg (by omega), if_pos rfl, ht]
                rw [hbody] at HBK0
                have hke : ke ≠ 0 := blockM_err (b := b) (most := mm) (p := q) (out := o) (by rw [HOK.out]; exact hmm) HBK0.out
                have hbk0 : blockM b mm q o = .error ke := HBK0.out
                have hy := HYY.out
                rw [hbk0] at hy
                have HXE : Hid (X = .error ke) := Lib.hid (by rw [← HXY.out, ← hy]; rfl)
                have d5 : ((ke : Int) == 0) = false := by rw [beq_eq_false_iff_ne]; omega
                clear hy hbody ht HBK0 hbk0
                refine HTT.out.mono ?_
                rintro e w6 ⟨⟨p6, v1, v2, rfl⟩, hb⟩
                have HF6 := Lib.hid (HF5.out.call hb)
                clear hb HTT
                go_wp2_with (first
                  | ((with_reducible refine at_st 53 7 66 ?_); refine HF6.out.st rfl rfl (.tmp 7) (.tmp 66) rfl rfl rfl rfl (st_oneA _ _ _ _ _ _ _ _ _) ?_; intro w7 hF7 hu7; have HF7 := Lib.hid hF7; have c5 := hF7.c5; clear hF7 hu7))
                go_roundg 0
                case measure => omega
                case rel => exact .inr (.inr ⟨ke, l, p6, m, co, Ao, rfl, rfl, hke, HF7, HXE⟩)
              · rw [ht] at HTT
                have hbody : bodyM b mm q2 2 o = symsM b mm ll ld q3 o := by unfold bodyM; rw [if_neg (by omega), if_neg (by omega), if_pos rfl, ht]
                rw [hbody] at HBK0
                obtain ⟨hco, hq23, hq3⟩ := toldM_ok ht
                have HCO := Lib.hid hco
                have hsz3 : m + 258 * (8 * b.length + 1 - q3) ≤ 140737488000000 := by omega
                obtain ⟨R, hR⟩ : ∃ R, symsM b mm ll ld q3 o = R := ⟨_, rfl⟩
                have HBK : Hid (blockM b mm q o = endM l R) := Lib.hid (by rw [← hR]; exact HBK0.out)
                have HRR := Lib.hid hR
                clear hbody hR HBK0 ht hco hq23
                refine HTT.out.mono ?_
                rintro e w6 ⟨A1, n1, c1, A2, n2, c2, rfl, hn1, hn2, hi1, hi2, ha1, ha2, hb⟩
                have HF6 := Lib.hid (HF5.out.call hb)
                have HO6 := Lib.hid (own_upd HO5.out (Upd.of_fresh hb) (fun _ _ => id))
                have HI1 := Lib.hid hi1
                have HI2 := Lib.hid hi2
                have HN1 := Lib.hid hn1
                have HN2 := Lib.hid hn2
                have HA1 : Hid (∀ ad, A1 = some ad → ad.block ≠ w.heap.size) := Lib.hid (fun ad e => by have := ha1 ad e; have := HF5.out.box.lt; omega)
                have HA2 : Hid (∀ ad, A2 = some ad → ad.block ≠ w.heap.size) := Lib.hid (fun ad e => by have := ha2 ad e; have := HF5.out.box.lt; omega)
                clear hi1 hi2 hb hn1 hn2 ha1 ha2 HTT
                go_wp2_with (first
                  | ((with_reducible refine at_st 53 7 66 ?_); refine HF6.out.st rfl rfl (.tmp 7) (.tmp 66) rfl rfl rfl rfl (st_oneA _ _ _ _ _ _ _ _ _) ?_; intro w7 hF7 hu7; have HF7 := Lib.hid hF7; have c5 := hF7.c5; have HO7 := Lib.hid (HF6.out.own HO6.out hu7); have HI17 := Lib.hid (is_put HI1.out hu7 HA1.out); have HI27 := Lib.hid (is_put HI2.out hu7 HA2.out); clear hF7 hu7))
                have HSY : Hid (∀ (w9 : World) (cs1 cs2 : List Value), TblO w9 ll cs1 → TblO w9 ld cs2 → FrR w (stA A b.length c q3 Ao m co mm 0) w9 → w9.ownsRow w.heap.size 5 1 (.slice Ao m co) m (bytesV o) → Calls Try.prog 24 #[.agg (stA A b.length c q3 Ao m co mm 0), .agg cs1.toArray, .agg cs2.toArray] w9 (DOut w9 w.heap.size A b.length c mm (.slice Ao m co) R)) := Lib.hid (fun w9 cs1 cs2 t1 t2 hF hO => by
                  rw [← HRR.out]
                  exact dSymbols w9 w.heap.size A c b q3 Ao m co mm o ll ld cs1 cs2 t1 t2 HCO.out.l2 HCO.out.d2 HCO.out.l3 HCO.out.d3 (HBS.out.below hF.bel) hbl hq3 hF.bel.size HOK.out hO hmm hmost hsz3)
                go_upto_region 22 with (fail)
                refine wp_region_stages (fun a0 D a w' => ∃ vals cs1 cs2 S', a = put22 a0 vals ∧ (∀ j, Did D j → vals j = exR (stA A b.length c q3 Ao m co mm 0) (.slice A1 n1 c1) (.slice A2 n2 c2) cs1 cs2 S' j) ∧ RawW w (stA A b.length c q3 Ao m co mm 0) m (Value.slice Ao m co) (bytesV o) A1 A2 ll ld A b.length c mm (R) (Did D) cs1 cs2 S' w') (by kernel_rfl) (by kernel_rfl) ?start ?done ?step
                case start =>
                  have h0 : ∀ j, ¬ Did (Array.replicate 7 false) j := fun j h => by unfold Did at h; rw [getD_replicate_false] at h; cases h
                  exact ⟨fun | 0 => u72 | 1 => u73 | 2 => u74 | 3 => u75 | 4 => u76 | _ => u77, [], [], #[], by unfold put22; simp only [Act.put, List.setIfInBounds_toArray, List.set_cons_succ, List.set_cons_zero], fun j h => absurd h (h0 j), ⟨fun _ => HF7.out.drew_, fun _ => HO7.out, fun _ => HI17.out, fun _ => HI27.out, fun h => absurd h (h0 _), fun h => absurd h (h0 _), fun h => absurd h (h0 _), fun h => absurd h (h0 _)⟩⟩
                case done =>
                  rintro D a' w' hD ⟨vals, cs1, cs2, S', rfl, hv, hw⟩
                  have hDi : ∀ i, i < 7 → Did D i := fun i hi => hD i (by simpa using hi)
                  have HV8 := Lib.hid (hw.s5 (hDi 5 (by omega)))
                  have HF8 := Lib.hid (hw.f6 (hDi 6 (by omega)))
                  clear hw hv hD hDi
                  unfold put22
                  simp only [Act.put, List.setIfInBounds_toArray, List.set_cons_succ, List.set_cons_zero]
                  go_wp2_with fail
                  rcases R with ke | ⟨q3, o3⟩
                  · have hbk : blockM b mm q o = .error ke := HBK.out
                    have hy := HYY.out
                    rw [hbk] at hy
                    have hke : ke ≠ 0 := blockM_err (b := b) (most := mm) (p := q) (out := o) (by rw [HOK.out]; exact hmm) hbk
                    have HXE : Hid (X = .error ke) := Lib.hid (by rw [← HXY.out, ← hy]; rfl)
                    obtain ⟨p7, A7, m7, c7, rfl⟩ := HV8.out
                    clear hbk hy HBK HYY
                    go_roundg 0
                    case measure => omega
                    case rel => exact .inr (.inr ⟨ke, l, p7, m7, c7, A7, rfl, rfl, hke, HF8, HXE⟩)
                  · have hbk : blockM b mm q o = .ok (q3, o3, decide (l = 1)) := HBK.out
                    have hy := HYY.out
                    rw [hbk] at hy
                    obtain ⟨k1, k2, k3, k4⟩ := blockM_ok hbk (by rw [HOK.out]; exact hmm)
                    obtain ⟨A7, m7, c7, rfl, hl7, ho7⟩ := HV8.out
                    have HL7 := Lib.hid hl7
                    have HO7 := Lib.hid ho7
                    rw [hl7] at k3 k4
                    rw [HOK.out] at k4
                    have hsk := HSK.out
                    have HS7 : Hid (m7 + 258 * (8 * b.length + 1 - q3) ≤ 140737488000000) := Lib.hid (by omega)
                    have hl01 : l = 0 ∨ l = 1 := by omega
                    rcases hl01 with rfl | rfl
                    · have HYN : Hid (blocksM b mm q3 o3 = Y) := Lib.hid hy
                      clear hbk hy HBK HYY k4 hsk hl7 ho7
                      go_roundg (8 * b.length + 1 - q3)
                      case measure => omega
                      case rel => exact .inl ⟨q3, m7, c7, A7, o3, rfl, rfl, k2, k3, HL7, HS7, HF8, HO7, HYN⟩
                    · have HXE : Hid (X = .ok (o3, (q3 + 7) / 8)) := Lib.hid (by rw [← HXY.out, ← hy]; rfl)
                      clear hbk hy HBK HYY k4 hsk hl7 ho7
                      go_roundg 0
                      case measure => omega
                      case rel => exact .inr (.inl ⟨q3, m7, c7, A7, o3, rfl, rfl, k2, HL7, HF8, HO7, HXE⟩)
                case step =>
                  intro i o9 hi D a' w' hs hni hall hcl hJ K hK
                  have hi7 : i < 7 := by simpa using (Array.getElem?_eq_some_iff.1 hi).1
                  have hs7 : i < D.size := by have e : D.size = 7 := (by simpa using hs); omega
                  obtain ⟨vals, cs1, cs2, S', rfl, hv, hw⟩ := hJ
                  have HD := Lib.hid (fun j (hj : j ≠ i) => (did_set hj : Did (D.setIfInBounds i true) j ↔ Did D j))
                  have HN : Hid (Did (D.setIfInBounds i true) i) := Lib.hid (did_new hs7)
                  have HK := Lib.hid hK
                  have HNI := Lib.hid hni
                  have HV := Lib.hid hv
                  have HW := Lib.hid hw
                  have D65 : Hid (Did D 6 → Did D 5) := Lib.hid (fun h => hcl 6 _ rfl h ⟨5, .data⟩ (by simp) rfl)
                  have D50 : Hid (Did D 5 → Did D 0) := Lib.hid (fun h => hcl 5 _ rfl h ⟨0, .data⟩ (by simp) rfl)
                  have D52 : Hid (Did D 5 → Did D 2) := Lib.hid (fun h => hcl 5 _ rfl h ⟨2, .data⟩ (by simp) rfl)
                  have D54 : Hid (Did D 5 → Did D 4) := Lib.hid (fun h => hcl 5 _ rfl h ⟨4, .data⟩ (by simp) rfl)
                  clear hK hs hni hv hw hs7 hcl
                  rcases i with _ | _ | _ | _ | _ | _ | _ | i
                  · injection hi with hi
                    subst hi
                    clear hall
                    have HF0 := Lib.hid (HW.out.fr (fun h => HNI.out (D50.out (D65.out h))))
                    unfold put22
                    simp only [Act.put, List.setIfInBounds_toArray, List.set_cons_succ, List.set_cons_zero]
                    refine HF0.out.ld rfl rfl (.tmp 7) rfl rfl ?_
                    refine HK.out _ _ ?_
                    exact ⟨fun j => if j = 0 then exR (stA A b.length c q3 Ao m co mm 0) (.slice A1 n1 c1) (.slice A2 n2 c2) cs1 cs2 S' 0 else vals j, cs1, cs2, S', by unfold put22; simp only [Act.put, List.setIfInBounds_toArray, List.set_cons_succ, List.set_cons_zero]; rfl, vals_next 0 HD.out HV.out, HW.out.same (HD.out 2 (by omega)) (HD.out 4 (by omega)) (HD.out 5 (by omega)) (HD.out 6 (by omega))⟩
                  · injection hi with hi
                    subst hi
                    clear hall
                    unfold put22
                    simp only [Act.put, List.setIfInBounds_toArray, List.set_cons_succ, List.set_cons_zero]
                    go_wp2_with fail
                    refine HK.out _ _ ?_
                    exact ⟨fun j => if j = 1 then exR (stA A b.length c q3 Ao m co mm 0) (.slice A1 n1 c1) (.slice A2 n2 c2) cs1 cs2 S' 1 else vals j, cs1, cs2, S', by unfold put22; simp only [Act.put, List.setIfInBounds_toArray, List.set_cons_succ, List.set_cons_zero]; rfl, vals_next 1 HD.out HV.out, HW.out.same (HD.out 2 (by omega)) (HD.out 4 (by omega)) (HD.out 5 (by omega)) (HD.out 6 (by omega))⟩
                  · injection hi with hi
                    subst hi
                    have g1 : Did D 1 := hall ⟨1, .data⟩ (by simp) rfl
                    have e1 := HV.out 1 g1
                    clear hall
                    have H5 : Hid (¬ Did D 5) := Lib.hid (fun h => HNI.out (D52.out h))
                    have HTb := Lib.hid (tabled_n A1 n1 c1 ll w' HN1.out (HW.out.i1 H5.out) (by have := HCO.out.l2; have := HN1.out; omega) HCO.out.l1 HCO.out.l3)
                    clear g1
                    dsimp only [exR] at e1
                    unfold put22
                    simp only [Act.put, List.setIfInBounds_toArray, List.set_cons_succ, List.set_cons_zero]
                    simp only [e1]
                    go_wp2_with fail
                    refine HTb.out.mono ?_
                    intro e w9 h9
                    obtain ⟨cs9, rfl, hT9, hb9⟩ := TblO.of h9
                    have HT9 := Lib.hid hT9
                    have HB9 := Lib.hid hb9
                    clear h9 hT9 hb9
                    go_wp2_with fail
                    refine HK.out _ _ ?_
                    exact ⟨fun j => if j = 2 then exR (stA A b.length c q3 Ao m co mm 0) (.slice A1 n1 c1) (.slice A2 n2 c2) cs9 cs2 S' 2 else vals j, cs9, cs2, S', by unfold put22; simp only [Act.put, List.setIfInBounds_toArray, List.set_cons_succ, List.set_cons_zero]; simp only [e1]; rfl, vals_next 2 HD.out (fun j hj => (HV.out j hj).trans (exR_1 j (fun e => by subst e; exact HNI.out hj))), ⟨fun k => (HW.out.fr (fun h => H5.out (D65.out h))).call HB9.out, fun k => own_upd (HW.out.row H5.out) (Upd.of_fresh HB9.out) (fun _ _ => id), fun k => (Vs.below (HW.out.i1 H5.out) HB9.out).more HB9.out.size, fun k => (Vs.below (HW.out.i2 H5.out) HB9.out).more HB9.out.size, fun _ _ => HT9.out, fun k k5 => (HW.out.t2 ((HD.out 4 (by omega)).1 k) H5.out).call HB9.out, fun k => absurd ((HD.out 5 (by omega)).1 k) H5.out, fun k => absurd (D65.out ((HD.out 6 (by omega)).1 k)) H5.out⟩⟩
                  · injection hi with hi
                    subst hi
                    clear hall
                    unfold put22
                    simp only [Act.put, List.setIfInBounds_toArray, List.set_cons_succ, List.set_cons_zero]
                    go_wp2_with fail
                    refine HK.out _ _ ?_
                    exact ⟨fun j => if j = 3 then exR (stA A b.length c q3 Ao m co mm 0) (.slice A1 n1 c1) (.slice A2 n2 c2) cs1 cs2 S' 3 else vals j, cs1, cs2, S', by unfold put22; simp only [Act.put, List.setIfInBounds_toArray, List.set_cons_succ, List.set_cons_zero]; rfl, vals_next 3 HD.out HV.out, HW.out.same (HD.out 2 (by omega)) (HD.out 4 (by omega)) (HD.out 5 (by omega)) (HD.out 6 (by omega))⟩
                  · injection hi with hi
                    subst hi
                    have g3 : Did D 3 := hall ⟨3, .data⟩ (by simp) rfl
                    have e3 := HV.out 3 g3
                    clear hall
                    have H5 : Hid (¬ Did D 5) := Lib.hid (fun h => HNI.out (D54.out h))
                    have HTb := Lib.hid (tabled_n A2 n2 c2 ld w' HN2.out (HW.out.i2 H5.out) (by have := HCO.out.d2; have := HN2.out; omega) HCO.out.d1 HCO.out.d3)
                    clear g3
                    dsimp only [exR] at e3
                    unfold put22
                    simp only [Act.put, List.setIfInBounds_toArray, List.set_cons_succ, List.set_cons_zero]
                    simp only [e3]
                    go_wp2_with fail
                    refine HTb.out.mono ?_
                    intro e w9 h9
                    obtain ⟨cs9, rfl, hT9, hb9⟩ := TblO.of h9
                    have HT9 := Lib.hid hT9
                    have HB9 := Lib.hid hb9
                    clear h9 hT9 hb9
                    go_wp2_with fail
                    refine HK.out _ _ ?_
                    exact ⟨fun j => if j = 4 then exR (stA A b.length c q3 Ao m co mm 0) (.slice A1 n1 c1) (.slice A2 n2 c2) cs1 cs9 S' 4 else vals j, cs1, cs9, S', by unfold put22; simp only [Act.put, List.setIfInBounds_toArray, List.set_cons_succ, List.set_cons_zero]; simp only [e3]; rfl, vals_next 4 HD.out (fun j hj => (HV.out j hj).trans (exR_2 j (fun e => by subst e; exact HNI.out hj))), ⟨fun k => (HW.out.fr (fun h => H5.out (D65.out h))).call HB9.out, fun k => own_upd (HW.out.row H5.out) (Upd.of_fresh HB9.out) (fun _ _ => id), fun k => (Vs.below (HW.out.i1 H5.out) HB9.out).more HB9.out.size, fun k => (Vs.below (HW.out.i2 H5.out) HB9.out).more HB9.out.size, fun k k5 => (HW.out.t1 ((HD.out 2 (by omega)).1 k) H5.out).call HB9.out, fun _ _ => HT9.out, fun k => absurd ((HD.out 5 (by omega)).1 k) H5.out, fun k => absurd (D65.out ((HD.out 6 (by omega)).1 k)) H5.out⟩⟩
                  · injection hi with hi
                    subst hi
                    have g0 : Did D 0 := hall ⟨0, .data⟩ (by simp) rfl
                    have e0 := HV.out 0 g0
                    have g2 : Did D 2 := hall ⟨2, .data⟩ (by simp) rfl
                    have e2 := HV.out 2 g2
                    have g4 : Did D 4 := hall ⟨4, .data⟩ (by simp) rfl
                    have e4 := HV.out 4 g4
                    clear hall
                    have G2 := Lib.hid g2
                    have G4 := Lib.hid g4
                    have HF0 := Lib.hid (HW.out.fr (fun h => HNI.out (D65.out h)))
                    have HO0 := Lib.hid (HW.out.row HNI.out)
                    have HSy := HSY.out w' cs1 cs2 (HW.out.t1 g2 HNI.out) (HW.out.t2 g4 HNI.out) HF0.out HO0.out
                    have HSY2 := Lib.hid HSy
                    clear HSy
                    clear g0 g2 g4
                    dsimp only [exR] at e0 e2 e4
                    unfold put22
                    simp only [Act.put, List.setIfInBounds_toArray, List.set_cons_succ, List.set_cons_zero]
                    simp only [e0, e2, e4]
                    go_wp2_with fail
                    refine HSY2.out.mono ?_
                    intro e w10 h10
                    obtain ⟨S9, rfl, hv9, hu9⟩ := OutV.of h10
                    have HV9 := Lib.hid hv9
                    have HF9 := Lib.hid (HF0.out.row HO0.out hu9)
                    clear h10 hv9 hu9
                    go_wp2_with fail
                    refine HK.out _ _ ?_
                    exact ⟨fun j => if j = 5 then exR (stA A b.length c q3 Ao m co mm 0) (.slice A1 n1 c1) (.slice A2 n2 c2) cs1 cs2 S9 5 else vals j, cs1, cs2, S9, by unfold put22; simp only [Act.put, List.setIfInBounds_toArray, List.set_cons_succ, List.set_cons_zero]; simp only [e0, e2, e4]; rfl, vals_next 5 HD.out (fun j hj => (HV.out j hj).trans (exR_5 j (fun e => by subst e; exact HNI.out hj))), ⟨fun k => HF9.out, fun k => absurd HN.out k, fun k => absurd HN.out k, fun k => absurd HN.out k, fun _ k => absurd HN.out k, fun _ k => absurd HN.out k, fun _ => HV9.out, fun k => absurd (D65.out ((HD.out 6 (by omega)).1 k)) HNI.out⟩⟩
                  · injection hi with hi
                    subst hi
                    have g5 : Did D 5 := hall ⟨5, .data⟩ (by simp) rfl
                    have e5 := HV.out 5 g5
                    clear hall
                    have G5 := Lib.hid g5
                    have HF0 := Lib.hid (HW.out.fr HNI.out)
                    have HV0 := Lib.hid (HW.out.s5 g5)
                    clear g5
                    dsimp only [exR] at e5
                    unfold put22
                    simp only [Act.put, List.setIfInBounds_toArray, List.set_cons_succ, List.set_cons_zero]
                    simp only [e5]
                    refine HF0.out.st rfl rfl (.tmp 7) (.tmp 77) rfl rfl rfl HV0.out.one.1 HV0.out.one.2 ?_
                    intro w2 hF2 hu2
                    have HF2 := Lib.hid hF2
                    have HV2 := Lib.hid (HV0.out.put HF0.out hu2)
                    clear hF2 hu2
                    refine HK.out _ _ ?_
                    exact ⟨fun j => if j = 6 then undef else vals j, cs1, cs2, S', by unfold put22; simp only [Act.put, List.setIfInBounds_toArray, List.set_cons_succ, List.set_cons_zero]; simp only [e5]; rfl, vals_next 6 HD.out HV.out, ⟨fun k => absurd HN.out k, fun k => absurd ((HD.out 5 (by omega)).2 G5.out) k, fun k => absurd ((HD.out 5 (by omega)).2 G5.out) k, fun k => absurd ((HD.out 5 (by omega)).2 G5.out) k, fun _ k => absurd ((HD.out 5 (by omega)).2 G5.out) k, fun _ k => absurd ((HD.out 5 (by omega)).2 G5.out) k, fun _ => HV2.out, fun _ => HF2.out⟩⟩
                  · omega
            · have hbody : bodyM b mm q2 3 o = .error 40 := by unfold bodyM; rw [if_neg (by omega), if_neg (by omega), if_neg (by omega)]
              have hbk := blockM_3 (b := b) (most := mm) (p := q) (out := o) HX1.out HX2.out
              rw [hbody] at hbk
              have hy := HYY.out
              rw [hbk] at hy
              have HXE : Hid (X = .error 40) := Lib.hid (by rw [← HXY.out, ← hy]; rfl)
              clear hy hbk hbody
              go_wp2_with (first
                | ((with_reducible refine at_st 53 7 38 ?_); refine HF4.out.st rfl rfl (.tmp 7) (.tmp 38) rfl rfl rfl rfl (st_oneA _ _ _ _ _ _ _ _ _) ?_; intro w5 hF5 hu5; have HF5 := Lib.hid hF5; have c5 := hF5.c5; have c5f := HF5.out.box.frozen 5; clear hF5 hu5))
              have HF6 := Lib.hid (HF5.out.setE 40)
              go_roundg 0
              case measure => omega
              case rel => exact .inr (.inr ⟨40, l, q2, m, co, Ao, rfl, rfl, by omega, HF6, HXE⟩)
      · have c5 := HF.out.c5
        obtain ⟨c2, c3⟩ := HF.out.c23
        have r1 : IntKind.i64.wrap ((q : Int) + 7) = (q : Int) + 7 := IntWalk.i64_in _ (by omega)
        go_wp2_with fail
        go_quiet (fail)
        go_wp2_with fail
        go_returns
        rw [HXE.out]
        have hOK := HOK.out
        subst hOK
        exact ⟨_, _, rfl, HO.out, below_drewN HF.out.bel _⟩
      · have c5 := HF.out.c5
        have d5 : ((ke : Int) == 0) = false := by rw [beq_eq_false_iff_ne]; omega
        have d6 : ((ke : Int) != 0) = true := by rw [bne_iff_ne]; omega
        rcases Nat.eq_zero_or_pos l with rfl | hl
        · go_wp2_with fail
          go_quiet (fail)
          go_wp2_with fail
          go_returns
          rw [HXE.out]
          exact ⟨rfl, below_drewN HF.out.bel _⟩
        · have d7 : ((l : Int) == 0) = false := by rw [beq_eq_false_iff_ne]; omega
          go_wp2_with fail
          go_quiet (fail)
          go_wp2_with fail
          go_returns
          rw [HXE.out]
          exact ⟨rfl, below_drewN HF.out.bel _⟩
end Go.Proofs.Ythbdhpciibjnmaa

/- Proved: bytes that are handed in stay; those that are answered are new memory: for every list of bytes whose reading is of bulk at most 1048576, and every number (the second form). -/
namespace Go.Proofs.Ythbdhpciibjnmaa
open Go.ChangeShapes Go.WideShapes Go.ChangeAt Go.RowKit
section
variable {H : Type} {enc : TypeId × Value → H} {W : World} {base : Nat} {v : Value} {d : DataW H} {p : List MemPlace}
theorem bytes_cap (hj : DataW.Trod enc Try.prog W 0 (fun _ => true) true 22 v d p) {A : Option Addr} {n c : Nat} (e : v = .slice A n c) : c ≤ maxLen := by
  subst e
  obtain ⟨fuel, hf⟩ := hj
  rcases open_ints Try.underlying22 Try.underlying5 cells_u8 hf with ⟨hcs, hx⟩ | ⟨x, l, c, zs, hcs, _, hl, hm, hz, hx, hcell, hwz⟩
  · simp [Value.cells] at hcs
    obtain ⟨rfl, rfl, rfl⟩ := hcs
    exact Nat.zero_le _
  · simp [Value.cells] at hcs
    obtain ⟨rfl, rfl, rfl⟩ := hcs
    exact hm
end
theorem zlib_n (w : World) (A : Option Addr) (c : Nat) (b : List UInt8) (n : Nat) (hn : b.length = n) (mo : Int) (hbs : Bs w w.heap.size A b) (hmo : -9223372036854775808 ≤ mo ∧ mo ≤ 9223372036854775807) (hcap : CapOk mo.toNat n) (hc : n ≤ c) :
    Calls Try.prog 14 #[.slice A n c, .int .i64 mo] w (ZlibR w (zlibM b mo.toNat)) := by
  subst hn
  exact zlib_any w A c b mo hbs hmo hcap hc
theorem dRaw_k (w : World) (A : Option Addr) (c : Nat) (b : List UInt8) (n : Nat) (hn : b.length = n) (mo : Int) (hbs : Bs w w.heap.size A b) (hmo : -9223372036854775808 ≤ mo ∧ mo ≤ 9223372036854775807) (hL : n ≤ 60000000000) (hc : n ≤ c) (hcm : c ≤ maxLen) :
    Calls Try.prog 12 #[.slice A n c, .int .i64 mo] w (RawR w (rawM b mo.toNat)) := by
  subst hn
  exact dRaw w A c b mo hbs hmo hL hc hcm
theorem cap_small {mo : Int} (hmo : mo ≤ 9223372036854775807) {n : Nat} (hl : n ≤ 3000000) : CapOk mo.toNat n := ⟨by omega, fun k _ h => by omega, by omega⟩
/-- What comes out, nothing at a fault. -/
def outR : Except Nat (List UInt8 × Nat) → List UInt8
  | .error _ => []
  | .ok (o, _) => o
theorem RawR.out_ {w w' : World} {X : Except Nat (List UInt8 × Nat)} {e : Ending} (h : RawR w X e w') : ∃ A c n k, e = .returned (.tuple #[.slice A (outR X).length c, .int .i64 n, .int .i64 k]) ∧ w'.ownsRow w.heap.size 5 1 (.slice A (outR X).length c) (outR X).length (bytesV (outR X)) ∧ Below w.heap.size w w' := by
  rcases X with k | ⟨o, n⟩
  · obtain ⟨h1, h2⟩ := h; exact ⟨none, 0, 0, k, h1, World.ownsRow_nil _ _ _ _, h2⟩
  · obtain ⟨A, c, h1, h2, h3⟩ := h; exact ⟨A, c, n, 0, h1, h2, h3⟩
theorem ZlibR.out_ {w w' : World} {X : Except Nat (List UInt8)} {e : Ending} (h : ZlibR w X e w') : ∃ v k, e = .returned (.tuple #[v, .int .i64 k]) ∧ Below w.heap.size w w' := by
  rcases X with k | o
  · obtain ⟨h1, h2⟩ := h; exact ⟨_, k, h1, h2⟩
  · obtain ⟨A, c, h1, h2, h3⟩ := h; exact ⟨_, 0, h1, h3⟩
theorem outR_len {b : List UInt8} {most : Nat} : (outR (rawM b most)).length ≤ 258 * (8 * b.length) := by
  rcases hx : rawM b most with k | ⟨o, n⟩
  · exact Nat.zero_le _
  · exact (rawM_used hx).2.2.2
theorem own_setI {w : World} {base gd n c : Nat} {l : List UInt8} (h : w.ownsRow base 5 1 (.slice (some ⟨gd, 0, none⟩) n c) n (bytesV l)) (q : Nat) (x : UInt8) :
    (w.setCell ⟨gd, q, none⟩ (.int .u8 (x.toNat : Int))).ownsRow base 5 1 (.slice (some ⟨gd, 0, none⟩) n c) n (bytesV (l.set q x)) := by
  have e : bytesV (l.set q x) = (bytesV l).set q (.int .u8 (x.toNat : Int)) := by simp [bytesV, bv, List.map_set]
  rw [e]
  exact (h.stored q _).1
theorem ownBlock_sl (A : Option Addr) (n c : Nat) : (Value.slice A n c).ownBlock = A.map (·.block) := by cases A <;> rfl
def SpS (A : Option Addr) : Nat → Prop := fun k => A.map (·.block) = some k
def SpAt (w : World) (base : Nat) (A : Option Addr) (n c : Nat) (wr : World) : Prop :=
  ∃ xs : List UInt8, wr.ownsRow base 5 1 (.slice A n c) n (bytesV xs) ∧ Upd (SpS A) w wr
def SpGr (w : World) (base : Nat) (A : Option Addr) (n m : Nat) (v : Value) (wr : World) : Prop :=
  ∃ (A' : Option Addr) (c' : Nat) (xs : List UInt8), v = .slice A' (n + m) c' ∧ wr.ownsRow base 5 1 (.slice A' (n + m) c') (n + m) (bytesV xs) ∧ Upd (SpS A) w wr ∧ (∀ k, A'.map (·.block) = some k → A.map (·.block) = some k ∨ w.heap.size ≤ k)
theorem bs_lit1 (w : World) (t : TypeId) (x : UInt8) : Bs (w.alloc (.cells #[.int .u8 (x.toNat : Int)] t)) (w.heap.size + 1) (some ⟨w.heap.size, 0, none⟩) [x] := fun _ => by
  refine ⟨_, rfl, Nat.lt_succ_self _, fun j hj => ?_⟩
  have hj0 : j = 0 := by simp at hj; omega
  subst hj0
  exact (Blk.new w t _).cell 0
theorem up_byte (x : Nat) : ∃ z : UInt8, ((x : Int) + 1) % 256 = (z.toNat : Int) := by
  refine ⟨UInt8.ofNat ((x + 1) % 256), ?_⟩
  rw [UInt8.toNat_ofNat']
  omega
theorem same_n (A1 A2 : Option Addr) (c1 c2 n1 n2 : Nat) (a b : List UInt8) (ha : a.length = n1) (hb : b.length = n2) (B : Nat) (w : World) (h1 : Bs w B A1 a) (h2 : Bs w B A2 b) (hl : n1 ≤ maxLen) :
    Calls Try.prog 13 #[.slice A1 n1 c1, .slice A2 n2 c2] w fun e w' => e = .returned (.bool (a == b)) ∧ ∃ n, w' = w.drewN n := by
  subst ha hb
  exact same_any A1 A2 c1 c2 a b B w h1 h2 hl
namespace InflateOwn

set_option maxHeartbeats 8000000 in
set_option maxRecDepth 100000 in
theorem walk (A0 : Option Addr) (c0 : Nat) (b : List UInt8) (a1 : Int) (w : World) (hb : Bs w w.heap.size A0 b) (hcb : b.length ≤ c0 ∧ c0 ≤ maxLen) (hl : b.length ≤ 1048576)
    (hmo : -9223372036854775808 ≤ a1 ∧ a1 ≤ 9223372036854775807) :
    Calls Try.prog 8 #[.slice A0 b.length c0, .int .i64 a1] w fun e w' => e = .returned (.bool true) ∧ Below w.heap.size w w' := by
  obtain ⟨i0, hi, hz0, hz1, hz2⟩ := info_parts info_u8
  have HCB := Lib.hid hcb
  clear hcb
  obtain ⟨n, hn⟩ : ∃ n, b.length = n := ⟨_, rfl⟩
  rw [hn] at hl HCB ⊢
  have HN := Lib.hid hn
  clear hn
  go_enter Try.func8, Try.ntmps8
  go_wp2_with fail
  refine (wakes_any w).mono ?_
  rintro e w1 ⟨rfl, hb1⟩
  have hs1 := hb1.size
  have HB1 := Lib.hid hb1
  clear hb1
  go_wp2_with fail
  refine (own_n A0 c0 n b HN.out w.heap.size w1 (hb.below HB1.out) (by omega) hs1).mono ?_
  rintro e w2 ⟨A3, c3, rfl, o3, hb2⟩
  have HB2 := Lib.hid (HB1.out.trans (hb2.mono hs1))
  have hs2 := HB2.out.size
  have hs12 := hb2.size
  have HO3 := Lib.hid o3
  clear o3 hb2
  have hm63 : n + 1 ≤ 140737488355328 := by omega
  go_wp2_with (at_builtin; refine wpList_append_bs _ rfl (.tmp 20) (.tmp 21) _ rfl w1.heap.size 5 i0 Try.underlying22 hi hz0 hz1 hz2 (.slice A3 n c3) n (bytesV b) rfl (HO3.out.alloc _) (w2.heap.size + 1) (some ⟨w2.heap.size, 0, none⟩) 1 [77] rfl (bs_lit1 w2 5 77) (by simp; omega) (by simp; omega) ?_; intro A5 c5 w5 o5 hg5 _; have HO5 : Hid (w5.ownsRow w1.heap.size 5 1 (.slice A5 (n + 1) c5) (n + 1) (bytesV (b ++ [77]))) := Lib.hid (by rw [bytesV_append]; exact o5); have HB5 := Lib.hid ((HB2.out.alloc hs2 (.cells #[.int .u8 77] 5)).grown hg5 (by simp; omega) (fun k hk => by have := (HO3.out.lt k hk).1; omega)); clear o5 hg5; obtain ⟨gi, rfl, hc5, hm5, _, _⟩ := row_form HO5.out (by omega); have s5 : (n : Int) ≤ (c5 : Int) := by omega)
  have hs5 := HB5.out.size
  have hgi : gi < w5.heap.size := (HO5.out.lt gi rfl).2
  have hIn : ∀ (wz : World), wz.ownsRow w1.heap.size 5 1 (.slice (some ⟨gi, 0, none⟩) (n + 1) c5) (n + 1) (bytesV (b ++ [77])) → Bs wz wz.heap.size (some ⟨gi, 0, none⟩) b := fun wz ho => by
    have h := (own_bs (l := b ++ [77]) (by rw [List.length_append, HN.out]; rfl) ho).take n
    rwa [List.take_left' HN.out] at h
  have HIn := Lib.hid hIn
  obtain ⟨R, hR⟩ : ∃ R, rawM b a1.toNat = R := ⟨_, rfl⟩
  have HRL : Hid ((outR R).length ≤ 258 * (8 * n)) := Lib.hid (by rw [← hR, ← HN.out]; exact outR_len)
  have H1 := raw_n w5 (some ⟨gi, 0, none⟩) c5 b n HN.out a1 (HIn.out w5 HO5.out) hmo (cap_small hmo.2 (by omega))
  rw [hR] at H1
  have HRR := Lib.hid hR
  have H1' := Lib.hid H1
  clear hIn H1 hR
  refine H1'.out.mono ?_
  intro e w6 h6
  obtain ⟨Ax, cx, nx, kx, rfl, ox, hb6⟩ := RawR.out_ h6
  have HB6 := Lib.hid (HB5.out.trans (hb6.mono hs5))
  have HX6 := Lib.hid ox
  have HO6 := Lib.hid (own_upd HO5.out (Upd.of_fresh hb6) (fun _ _ => id))
  have hs6 := HB6.out.size
  have hs56 := hb6.size
  clear h6 ox hb6 H1'
  go_wp2_with fail
  have H2 := raw_n w6 (some ⟨gi, 0, none⟩) c5 b n HN.out a1 (HIn.out w6 HO6.out) hmo (cap_small hmo.2 (by omega))
  rw [HRR.out] at H2
  refine H2.mono ?_
  clear H2
  intro e w7 h7
  obtain ⟨Ay, cy, ny, ky, rfl, oy, hb7⟩ := RawR.out_ h7
  obtain ⟨O, hO⟩ : ∃ O, outR R = O := ⟨_, rfl⟩
  rw [hO] at HX6 oy HRL
  have HOO := Lib.hid hO
  obtain ⟨m, hm⟩ : ∃ m, O.length = m := ⟨_, rfl⟩
  rw [hO]
  rw [hm] at HX6 oy HRL
  rw [hm]
  have HMM := Lib.hid hm
  have HB7 := Lib.hid (HB6.out.trans (hb7.mono hs6))
  have HX7 := Lib.hid (own_upd HX6.out (Upd.of_fresh hb7) (fun _ _ => id))
  have HY7 := Lib.hid oy
  have HO7 := Lib.hid (own_upd HO6.out (Upd.of_fresh hb7) (fun _ _ => id))
  have hs7 := HB7.out.size
  have hs67 := hb7.size
  clear h7 oy hb7 hO hm
  go_wp2_with fail
  have H3 := Lib.hid (zlib_n w7 (some ⟨gi, 0, none⟩) c5 b n HN.out a1 (HIn.out w7 HO7.out) hmo (cap_small hmo.2 (by omega)) (by omega))
  refine H3.out.mono ?_
  intro e w8 h8
  obtain ⟨vz, kz, rfl, hb8⟩ := ZlibR.out_ h8
  have HB8 := Lib.hid (HB7.out.trans (hb8.mono hs7))
  have HX8 := Lib.hid (own_upd HX7.out (Upd.of_fresh hb8) (fun _ _ => id))
  have HY8 := Lib.hid (own_upd HY7.out (Upd.of_fresh hb8) (fun _ _ => id))
  have HO8 := Lib.hid (own_upd HO7.out (Upd.of_fresh hb8) (fun _ _ => id))
  have hs8 := HB8.out.size
  have hs78 := hb8.size
  have hmb : m ≤ 3000000000 := by have := HRL.out; omega
  have hbx : w5.heap.size ≤ w8.heap.size := by omega
  clear h8 hb8 H3
  go_wp2_with fail
  go_loopw [51] (fun i wr => ∃ k : Nat, k ≤ m ∧ i = .int .i64 k ∧ SpAt w8 w5.heap.size Ax m cx wr) (fun i _ => m - (intOf i).toNat)
  case atStart => exact ⟨0, by omega, rfl, O, HX8.out, Upd.refl _ _⟩
  case round =>
    obtain ⟨k, hk, rfl, xs, hO, hU⟩ := hrel
    have HU := Lib.hid hU; clear hU
    by_cases hlt : k < m
    · obtain ⟨g, cap, hv, _, hgl⟩ := hO.form (by omega)
      obtain ⟨rfl, rfl⟩ : Ax = some ⟨g, 0, none⟩ ∧ cx = cap := by injection hv with h1 _ h2; exact ⟨h1, h2⟩
      clear hv
      have hxl : xs.length = m := by have := hO.1; rw [bytesV_length] at this; omega
      have hkx : k < xs.length := by omega
      have hcell := hO.cellAt k (by omega)
      rw [bytesV_get xs k hkx] at hcell
      have hfz := hO.frozenAt k
      obtain ⟨x, hx⟩ : ∃ x, x = xs[k].toNat := ⟨_, rfl⟩
      have hx2 : x < 256 := by have := byte_lt xs[k]; omega
      rw [← hx] at hcell
      obtain ⟨z, hz⟩ := up_byte x
      have hst := own_setI hO k z
      have HST := Lib.hid hst; clear hst
      have HO2 := Lib.hid hO; clear hO
      clear hx hxl hkx
      go_wp2_with fail
      go_roundw
      case rel => exact ⟨k + 1, by omega, by go_num, _, HST.out, HU.out.setCell (p := ⟨g, k, none⟩) (fun _ => rfl) _⟩
      case measure => simp [intOf]; omega
    · have HOx := Lib.hid hO; clear hO
      go_wp2_with fail
      go_loopw [6, 13] (fun v i wr => ∃ j : Nat, j ≤ 20 ∧ i = .int .i64 j ∧ SpGr w8 w5.heap.size Ax m j v wr) (fun _ i _ => 20 - (intOf i).toNat)
      case atStart => exact ⟨0, by omega, rfl, Ax, cx, xs, rfl, HOx.out, HU.out, fun k h => .inl h⟩
      case round =>
        obtain ⟨j, hj, rfl, A2, c2, ys, rfl, hO2, hU2, hat2⟩ := hrel
        have HO2 := Lib.hid hO2; clear hO2
        have HU2 := Lib.hid hU2; clear hU2
        have HA2 := Lib.hid hat2; clear hat2
        have hs2 := HU2.out.size
        by_cases hmt : j < 20
        · go_wp2_with (at_builtin; refine wpList_append_bs _ rfl (.tmp 67) (.tmp 68) _ rfl w5.heap.size 5 i0 Try.underlying22 hi hz0 hz1 hz2 (.slice A2 (m + j) c2) (m + j) (bytesV ys) rfl (HO2.out.alloc _) (wr.heap.size + 1) (some ⟨wr.heap.size, 0, none⟩) 1 [5] rfl (bs_lit1 wr 5 5) (by simp; omega) (by simp; omega) ?_; intro A3 c3 w3 hO3 hg3 hat3)
          have HA3 := Lib.hid hat3; clear hat3
          go_roundw
          case rel =>
            refine ⟨j + 1, by omega, by go_num, A3, c3, ys ++ [5], rfl, by rw [bytesV_append]; exact hO3, ?_, fun k hk => ?_⟩
            · have u1 : Upd (SpS Ax) w8 (wr.alloc (.cells #[.int .u8 5] 5)) := HU2.out.alloc _
              refine u1.then (Upd.of_grown hg3) (fun i hi e => ?_)
              rcases HA2.out i (by rw [← ownBlock_sl]; exact e.symm) with h | h
              · exact h
              · omega
            · rcases HA3.out with h | h
              · rw [ownBlock_sl, ownBlock_sl] at h
                exact HA2.out k (by rw [← h]; exact hk)
              · right
                rw [ownBlock_sl] at h
                rw [h] at hk
                injection hk with hk
                have e1 : (wr.alloc (.cells #[.int .u8 5] 5)).heap.size = wr.heap.size + 1 := by simp
                rw [← hk, e1]
                omega
          case measure => simp [intOf]; omega
        · have hIr := Lib.hid (own_upd HO8.out HU2.out (fun k hk e => by
            have h1 : gi = k := by simpa [Value.ownBlock] using hk
            have h2 := (HX6.out.lt k (by rw [ownBlock_sl]; exact e)).1
            omega))
          have hYr := Lib.hid (own_upd HY8.out HU2.out (fun k hk e => by
            have h1 := (HY7.out.lt k hk).1
            have h2 := (HX6.out.lt k (by rw [ownBlock_sl]; exact e)).2
            omega))
          have HBr := Lib.hid (HB8.out.trans (HU2.out.below hs8 (fun k hk e => by
            have h2 := (HX6.out.lt k (by rw [ownBlock_sl]; exact e)).1
            omega)))
          have hsr := HBr.out.size
          have HD := dRaw_k wr A0 c0 b n HN.out a1 ((hb.below HBr.out).more hsr) hmo (by omega) HCB.out.1 HCB.out.2
          rw [HRR.out] at HD
          have HD' := Lib.hid HD
          clear HD
          go_wp2_with fail
          refine HD'.out.mono ?_
          intro e w9 h9
          obtain ⟨Aw, cw, nw, kw, rfl, ow, hb9⟩ := RawR.out_ h9
          rw [HOO.out, HMM.out] at ow
          rw [HOO.out, HMM.out]
          have HI9 := Lib.hid (own_upd hIr.out (Upd.of_fresh hb9) (fun _ _ => id))
          have HY9 := Lib.hid (own_upd hYr.out (Upd.of_fresh hb9) (fun _ _ => id))
          have HW9 := Lib.hid ow
          have HB9 := Lib.hid (HBr.out.trans (hb9.mono hsr))
          have hc9 := HI9.out.cellAt n (by omega)
          have e77 : (bytesV (b ++ [77]))[n]? = some (.int .u8 77) := by
            rw [bytesV_append, List.getElem?_append_right (Nat.le_of_eq (by rw [bytesV_length, HN.out]))]
            rw [bytesV_length, HN.out, Nat.sub_self]
            rfl
          rw [e77] at hc9
          have s6 : (n : Int) < (n : Int) + 1 := by omega
          clear h9 ow hb9 e77
          go_wp2_with fail
          refine (same_n (some ⟨gi, 0, none⟩) A0 c5 c0 n n b b HN.out HN.out w9.heap.size w9 (HIn.out w9 HI9.out) ((hb.below HB9.out).more HB9.out.size) (by unfold maxLen; omega)).mono ?_
          rintro e w10 ⟨rfl, n10, rfl⟩
          rw [beq_self_eq_true]
          go_wp2_with fail
          refine (same_n Ay Aw cy cw m m O O HMM.out HMM.out w9.heap.size (w9.drewN n10) ((own_bs HMM.out HY9.out).drewN n10) ((own_bs HMM.out HW9.out).drewN n10) (by unfold maxLen; omega)).mono ?_
          rintro e w11 ⟨rfl, n11, rfl⟩
          rw [beq_self_eq_true]
          go_wp2_with fail
          go_ret
          exact ⟨rfl, below_drewN HB9.out (n10 + n11)⟩

set_option maxRecDepth 100000 in
theorem contract (H : Type) (enc : TypeId × Value → H) (W : World) (base : Nat) (args : Array Value) (ds gs : List (DataW H)) (before : List MemPlace)
    (hval : ∀ (j : Nat) t v, Try.f8.params[j]? = some t → args[j]? = some v → Value.okWide Try.prog W .any base t v)
    (hW : DataW.Whole enc Try.prog Try.f8.params.toList Rows.inflateOwnSpec.vars false W args.toList ds gs before) (hk : Rows.uptoSmall H (ds ++ gs) = true) :
    Calls Try.prog 8 args W fun e W' => ∃ v, e = .returned v ∧ Rows.inflateOwnSpec.post enc Try.prog Try.f8 false true false false W args v W' := by
  have hW' := hW
  obtain ⟨p, q, hA0, hV, rfl, hfz, hnd⟩ := hW
  have hA : DataW.TrodAll enc Try.prog W 0 (fun _ => true) true Try.f8.params.toList args.toList ds p := hA0
  rw [Try.params8] at hA hval
  obtain ⟨v0, vs0, d0, ds0, p0, q0, hargs, rfl, rfl, h0, r0⟩ := trodAll_cons hA
  obtain ⟨v1, vs1, d1, ds1, p1, q1, rfl, rfl, rfl, h1, r1⟩ := trodAll_cons r0
  obtain ⟨rfl, rfl, rfl⟩ := trodAll_nil r1
  obtain rfl : args = #[v0, v1] := by cases args; simp_all
  obtain ⟨rfl, rfl⟩ := trodVars_none hV
  obtain ⟨A0, l0, c0, rfl, hb0, hcp0, hd0⟩ := open_bytes (hval 0 22 v0 rfl rfl) h0
  obtain ⟨a1, rfl, rfl, rfl, w1⟩ := open_int Try.underlying3 (hval 1 3 v1 rfl rfl) h1
  have hl0 : l0.length ≤ 1048576 := by
    rcases hd0 with ⟨_, rfl⟩ | ⟨e, s, rfl, hle⟩
    · simp
    · have h1 := bulk_le hk
      simp only [List.cons_append, List.nil_append] at h1
      have h2 := Nat.le_trans (bulk_slice e s _) h1
      omega
  have lt0 : ∀ x ∈ p0, x.block < W.heap.size := by obtain ⟨m, hm⟩ := h0; exact DataW.trod_lt m _ _ _ hm
  clear hA0
  refine (walk A0 c0 l0 a1 W hb0 ⟨hcp0, bytes_cap h0 rfl⟩ hl0 (bounds_i64 w1)).mono fun e W' ⟨he, bel⟩ => ?_
  subst he
  exact ⟨_, rfl, _, _, _, [], _, [], hW', trodAll_mk1 (shut_bool Try.underlying4 _), (trodAll_cons_mk (Below.trod prog_laid (by kernel_rfl) (of_decide_eq_true (by kernel_rfl)) h0 bel lt0) (trodAll_cons_mk (shut_int Try.underlying3 w1) trodAll_mk0)), rfl, bel.frame _, fun h => by cases h⟩

set_option maxRecDepth 100000 in
theorem lifted (os : Os) (started : os.Started) (H : Type) (enc : TypeId × Value → H) (F : Stop.Interp) :
    ReturnsInHanded {} Try.checked os 8 .any ((Rows.OpenSpec.upto Rows.inflateOwnSpec).pre6 enc Try.prog Try.f8 Rows.inflateOwnUptoRow.domain false) (((Rows.OpenSpec.upto Rows.inflateOwnSpec).at F).post enc Try.prog Try.f8 false true false false) := by
  refine returnsInHanded_of_cond (C := Try.checked) (s := Rows.OpenSpec.upto Rows.inflateOwnSpec) (k := Rows.uptoSmall) rfl prog_own started (by kernel_rfl) Try.func8
    (OpenSpec.witness (enc := enc) (C := Try.checked) (s := Rows.OpenSpec.upto Rows.inflateOwnSpec) (k := Rows.uptoSmall) rfl false ⟨#[], #[.slice none 0 0, .int .i64 0], []⟩ 8 (by kernel_rfl) (by kernel_rfl) (by kernel_rfl)
      (x := ([.nil, .lit (.int .i64 0)], [], [])) (by kernel_rfl) rfl (by kernel_rfl)) ?_
  intro W base args ds gs before hval hW _ hk _
  exact contract H enc W base args ds gs before hval hW hk

theorem over : Rows.inflateOwnUptoRow.holds Try.pinned (Rows.OpenSpec.upto Rows.inflateOwnSpec) :=
  OpenClaim.holds_of_cond 8 Try.f8 rfl rfl rfl rfl rfl rfl rfl ⟨rfl, rfl, rfl, rfl, rfl⟩ rfl rfl rfl rfl rfl (by kernel_rfl) Try.func8 (by kernel_rfl)
    (of_decide_eq_true (by kernel_rfl)) (by unfold Func.isWrapper; first | (rw [if_pos (by decide +kernel)]; kernel_rfl) | (rw [if_neg (by decide +kernel)]; exact ⟨rfl, rfl⟩))
    (fun os started H enc _ F => lifted os started H enc F)
end InflateOwn

theorem inflateOwn_holds : Rows.InflateOwnUptoSaid := InflateOwn.over
#print axioms inflateOwn_holds
end Go.Proofs.Ythbdhpciibjnmaa
