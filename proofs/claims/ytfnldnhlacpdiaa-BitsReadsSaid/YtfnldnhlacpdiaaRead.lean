/- Whatever a reader of either order is asked, it answers what stands there: for all bytes, either order and every list of acts: no condition. -/
import Derived.Test.YtfnldnhlacpdiaaTwo
import Derived.Deep.CutBlock
namespace Go.Proofs.Ytfnldnhlacpdiaa
open Go.ChangeShapes Go.WideShapes Go.ChangeAt Go.RowKit
namespace BitsReads

theorem Bs.up {w w' : World} {A : Option Addr} {l : List UInt8} (h : Bs w w.heap.size A l) (hU : Up w w') : Bs w' w'.heap.size A l := fun hn => by
  obtain ⟨ad, e, hb, hc⟩ := (h.upd hU (Nat.le_refl _) (fun i hi => by omega)) hn
  exact ⟨ad, e, Nat.lt_of_lt_of_le hb hU.size, hc⟩
/-- The program's reader in block gR, the document's in block gW: the same bytes, order and place. -/
def Two (base gR gW : Nat) (A A' : Option Addr) (c c' : Nat) (l : List UInt8) (high : Bool) (at_ : Nat) (w : World) : Prop :=
  Rdr w base gR A' c' l high at_ ∧ Blk w gW 29 #[.slice A l.length c, .bool high, .int .i64 (at_ : Int)]
def TwoS (base gR gW : Nat) (A A' : Option Addr) (c c' : Nat) (l : List UInt8) (high : Bool) (at_ : Nat) (w : World) : Prop :=
  Two base gR gW A A' c c' l high at_ w ∧ w.cell? ⟨gW, 0, none⟩ = some (.slice A l.length c) ∧ w.cell? ⟨gW, 1, none⟩ = some (.bool high) ∧ w.cell? ⟨gW, 2, none⟩ = some (.int .i64 (at_ : Int))
section
variable {base gR gW : Nat} {A A' : Option Addr} {c c' : Nat} {l : List UInt8} {high : Bool} {at_ : Nat} {w w' : World}
theorem Two.full (h : Two base gR gW A A' c c' l high at_ w) : Two base gR gW A A' c c' l high at_ w ∧ w.cell? ⟨gW, 0, none⟩ = some (.slice A l.length c) ∧ w.cell? ⟨gW, 1, none⟩ = some (.bool high) ∧ w.cell? ⟨gW, 2, none⟩ = some (.int .i64 (at_ : Int)) :=
  ⟨h, by rw [h.2.cell]; rfl, by rw [h.2.cell]; rfl, by rw [h.2.cell]; rfl⟩
theorem Two.upd (h : Two base gR gW A A' c c' l high at_ w) (hu : Upd No w w') : Two base gR gW A A' c c' l high at_ w' := ⟨h.1.upd hu id (fun _ _ => id), h.2.upd hu id⟩
theorem Two.alloc (h : Two base gR gW A A' c c' l high at_ w) (o : Obj) : Two base gR gW A A' c c' l high at_ (w.alloc o) := h.upd ((Upd.refl No w).alloc o)
theorem Two.drew (h : Two base gR gW A A' c c' l high at_ w) : Two base gR gW A A' c c' l high at_ w.drew := h.upd (Upd.refl No w).drew
theorem Two.drewN (h : Two base gR gW A A' c c' l high at_ w) (n : Nat) : Two base gR gW A A' c c' l high at_ (w.drewN n) := h.upd ((Upd.refl No w).drewN n)
theorem Two.ne (h : Two base gR gW A A' c c' l high at_ w) : gR ≠ gW := h.1.1.ne_ h.2 (by decide)
/-- Behind a step of the program's reader the document's is laid at the same place. -/
theorem Two.set_ {w0 : World} {at2 : Nat} (h : Rdr w base gR A' c' l high at2 ∧ Blk w gW 29 #[.slice A l.length c, .bool high, .int .i64 (at_ : Int)]) (hg : w0.heap.size ≤ gW) (hU : Up w0 w) :
    Two base gR gW A A' c c' l high at2 (((w.setCell ⟨gW, 0, none⟩ (.slice A l.length c)).setCell ⟨gW, 1, none⟩ (.bool high)).setCell ⟨gW, 2, none⟩ (.int .i64 (at2 : Int))) ∧ Up w0 (((w.setCell ⟨gW, 0, none⟩ (.slice A l.length c)).setCell ⟨gW, 1, none⟩ (.bool high)).setCell ⟨gW, 2, none⟩ (.int .i64 (at2 : Int))) := by
  have hu : Upd (· = gW) w (((w.setCell ⟨gW, 0, none⟩ (.slice A l.length c)).setCell ⟨gW, 1, none⟩ (.bool high)).setCell ⟨gW, 2, none⟩ (.int .i64 (at2 : Int))) := (((Upd.refl (· = gW) w).setCell (p := ⟨gW, 0, none⟩) (fun _ => rfl) _).setCell (p := ⟨gW, 1, none⟩) (fun _ => rfl) _).setCell (p := ⟨gW, 2, none⟩) (fun _ => rfl) _
  refine ⟨⟨h.1.upd hu (h.1.1.ne_ h.2 (by decide)) (fun k hk e => own_blk_ne h.1.2.1 h.2 (by decide) (by subst e; exact hk)), ?_⟩, hU.step hu (fun i e => by subst e; exact hg)⟩
  exact ((h.2.set_ 0 _).set_ 1 _).set_ 2 _
theorem Two.fresh (h : Two base gR gW A A' c c' l high at_ w) (hb : Below w.heap.size w w') : Two base gR gW A A' c c' l high at_ w' := h.upd (Upd.of_fresh hb)
end

theorem belowAlloc {a w : World} (h : Below a.heap.size a w) (o : Obj) : Below a.heap.size a (w.alloc o) := h.alloc h.size o
theorem belowStep {a w w' : World} (h : Below a.heap.size a w) (k : Below w.heap.size w w') : Below a.heap.size a w' := h.trans (k.mono h.size)
theorem after {w0 w5 W9 : World} {base gR gW : Nat} {A A' : Option Addr} {c c' : Nat} {l : List UInt8} {high : Bool} {at_ at2 : Nat} (hb : Below w5.heap.size w5 W9) (hR : Rdr w5 base gR A' c' l high at2) (hW : Blk w5 gW 29 #[.slice A l.length c, .bool high, .int .i64 (at_ : Int)]) (hg : w0.heap.size ≤ gW) (hU : Up w0 w5) :
    W9.frozen? ⟨gW, 0, none⟩ = false ∧ W9.frozen? ⟨gW, 1, none⟩ = false ∧ W9.frozen? ⟨gW, 2, none⟩ = false ∧ Two base gR gW A A' c c' l high at2 (((W9.setCell ⟨gW, 0, none⟩ (.slice A l.length c)).setCell ⟨gW, 1, none⟩ (.bool high)).setCell ⟨gW, 2, none⟩ (.int .i64 (at2 : Int))) ∧ Up w0 (((W9.setCell ⟨gW, 0, none⟩ (.slice A l.length c)).setCell ⟨gW, 1, none⟩ (.bool high)).setCell ⟨gW, 2, none⟩ (.int .i64 (at2 : Int))) := by
  have hW9 := hW.upd (Upd.of_fresh hb) id
  exact ⟨hW9.frozen 0, hW9.frozen 1, hW9.frozen 2, Two.set_ ⟨hR.upd (Upd.of_fresh hb) id (fun _ _ => id), hW9⟩ hg (hU.fresh hb)⟩
theorem newSet {w6 : World} {n : Nat} {a0 a1 a2 v0 v1 v2 : Value} {F : Prop} (h : w6.cell? ⟨n, 0, none⟩ = some a0 ∧ w6.cell? ⟨n, 1, none⟩ = some a1 ∧ w6.cell? ⟨n, 2, none⟩ = some a2 ∧ F) :
    (((w6.setCell ⟨n, 0, none⟩ v0).setCell ⟨n, 1, none⟩ v1).setCell ⟨n, 2, none⟩ v2).cell? ⟨n, 0, none⟩ = some v0 ∧ (((w6.setCell ⟨n, 0, none⟩ v0).setCell ⟨n, 1, none⟩ v1).setCell ⟨n, 2, none⟩ v2).cell? ⟨n, 1, none⟩ = some v1 ∧ (((w6.setCell ⟨n, 0, none⟩ v0).setCell ⟨n, 1, none⟩ v1).setCell ⟨n, 2, none⟩ v2).cell? ⟨n, 2, none⟩ = some v2 := by
  obtain ⟨k3, k4, k5, _⟩ := h
  exact ⟨(World.cell?_setCell_other _ ⟨n, 2, none⟩ ⟨n, 0, none⟩ v2 (by simp)).trans ((World.cell?_setCell_other _ ⟨n, 1, none⟩ ⟨n, 0, none⟩ v1 (by simp)).trans (set_same k3 v0)),
    (World.cell?_setCell_other _ ⟨n, 2, none⟩ ⟨n, 1, none⟩ v2 (by simp)).trans (set_same ((World.cell?_setCell_other _ ⟨n, 0, none⟩ ⟨n, 1, none⟩ v0 (by simp)).trans k4) v1),
    set_same ((World.cell?_setCell_other _ ⟨n, 1, none⟩ ⟨n, 2, none⟩ v1 (by simp)).trans ((World.cell?_setCell_other _ ⟨n, 0, none⟩ ⟨n, 2, none⟩ v0 (by simp)).trans k5)) v2⟩
theorem below3 {a w : World} {v0 v1 v2 : Value} (h : Below a.heap.size a w) : Below a.heap.size a (((w.setCell ⟨a.heap.size, 0, none⟩ v0).setCell ⟨a.heap.size, 1, none⟩ v1).setCell ⟨a.heap.size, 2, none⟩ v2) :=
  (((h.setCell (p := ⟨a.heap.size, 0, none⟩) (Nat.le_refl _) _).setCell (p := ⟨a.heap.size, 1, none⟩) (Nat.le_refl _) _).setCell (p := ⟨a.heap.size, 2, none⟩) (Nat.le_refl _) _)
theorem newCells {W w' : World} {v0 v1 v2 : Value} {t : TypeId} {n : Nat} (hn : W.heap.size = n) (h : Below (W.alloc (.cells #[v0, v1, v2] t)).drew.heap.size (W.alloc (.cells #[v0, v1, v2] t)).drew w') :
    w'.cell? ⟨n, 0, none⟩ = some v0 ∧ w'.cell? ⟨n, 1, none⟩ = some v1 ∧ w'.cell? ⟨n, 2, none⟩ = some v2 ∧ w'.frozen? ⟨n, 0, none⟩ = false ∧ w'.frozen? ⟨n, 1, none⟩ = false ∧ w'.frozen? ⟨n, 2, none⟩ = false := by
  subst hn
  have hb := ((Blk.new W t #[v0, v1, v2]).upd (Upd.refl No _).drew id).upd (Upd.of_fresh h) id
  exact ⟨hb.cell 0, hb.cell 1, hb.cell 2, hb.frozen 0, hb.frozen 1, hb.frozen 2⟩
section
variable {H : Type} {enc : TypeId × Value → H} {W : World} {base : Nat} {v : Value} {d : DataW H} {p : List MemPlace}
theorem open_bytesC (hv : Value.okWide Try.prog W .any base 22 v) (hj : DataW.Trod enc Try.prog W 0 (fun _ => true) true 22 v d p) :
    ∃ A l c, v = .slice A l.length c ∧ Bs W W.heap.size A l ∧ l.length ≤ c ∧ ((d = .nil ∧ c = 0) ∨ ∃ e s, d = .slice e s ∧ c ≤ e.length + s.length) := by
  obtain ⟨a0, len0, cap0, rfl⟩ := okWide_slice Try.underlying22 hv
  obtain ⟨fuel, hf⟩ := hj
  rcases open_ints Try.underlying22 Try.underlying5 cells_u8 hf with ⟨hcs, hx⟩ | ⟨x, l, c, zs, hcs, _, hl, hm, hz, hx, hcell, hwz⟩
  · simp [Value.cells] at hcs
    obtain ⟨rfl, rfl, rfl⟩ := hcs
    simp only [Prod.mk.injEq] at hx
    exact ⟨none, [], 0, rfl, Bs.nil_, Nat.le_refl _, .inl ⟨hx.1, rfl⟩⟩
  · simp [Value.cells] at hcs
    obtain ⟨rfl, rfl, rfl⟩ := hcs
    simp only [Prod.mk.injEq] at hx
    have hzl : zs.length = cap0 := by simpa using hz
    have hlen : ((zs.take len0).map fun n => UInt8.ofNat n.toNat).length = len0 := by simp; omega
    refine ⟨some x, (zs.take len0).map fun n => UInt8.ofNat n.toNat, cap0, by rw [hlen], ?_, by rw [hlen]; omega, .inr ⟨_, _, hx.1, ?_⟩⟩
    · intro hpos
      rw [hlen] at hpos
      refine ⟨x, rfl, ?_, fun j hj => ?_⟩
      · have h0 := hcell 0 (by omega)
        have := block_lt_of_cell h0
        rwa [block_of_add] at this
      · have hj' : j < len0 := by rw [hlen] at hj; exact hj
        rw [hcell j (by omega)]
        have hjz : j < zs.length := by omega
        have hb := bounds_u8 (hwz zs[j] (List.getElem_mem hjz))
        have e : zs.getD j 0 = zs[j] := by simp [List.getD, hjz]
        rw [e]
        congr 2
        simp only [List.getElem_map, List.getElem_take]
        rw [UInt8.toNat_ofNat']
        omega
    · simp [lits]
      omega
end
set_option maxHeartbeats 4000000 in
set_option maxRecDepth 100000 in
theorem walk (A : Option Addr) (c : Nat) (l : List UInt8) (high : Bool) (A2 : Option Addr) (c2 : Nat) (acts : List (Int × Int × Nat)) (w : World) (hb0 : Bs w w.heap.size A l) (hll : l.length ≤ 140737488355328) (hlc : l.length ≤ c) (hcm : c ≤ maxLen) (h : Acts w w.heap.size A2 acts) (hok : ∀ a ∈ acts, ActOk a) (hl : acts.length ≤ 8796093022208) :
    Calls Try.prog 3 #[.slice A l.length c, .bool high, .slice A2 acts.length c2] w fun e w' => e = .returned (.bool true) ∧ Below w.heap.size w w' := by
  go_enter Try.func3, Try.ntmps3
  go_wp2_with fail
  refine (wakes_any w).mono ?_
  rintro e w1 ⟨rfl, hb1⟩
  have u1 := (Up.refl w).fresh hb1
  go_wp2_with fail
  refine (own_any A c l _ w1 (Bs.up hb0 u1) (Nat.le_refl _) hll).mono ?_
  rintro e w2 ⟨A1, c1, rfl, hown2, hb2⟩
  have u2 := u1.fresh hb2
  go_wp2_with fail
  refine (newReader_any A1 c1 l high _ w2 (Bs.of_own hown2) (Nat.le_refl _) hll).mono ?_
  rintro e w3 ⟨gR, A3, c3, rfl, hR3, hb3⟩
  have u3 := u2.fresh hb3
  have hgR : w.heap.size ≤ gR := Nat.le_trans u2.size hR3.2.2.1
  clear hb1 hb2 hb3 hown2
  go_wp2_with fail
  have hW4 := Blk.new w3 29 #[.slice A l.length c, .bool high, .int .i64 0]
  have u4 := u3.fresh ((Below.refl _ w3).alloc (Nat.le_refl _) (.cells #[.slice A l.length c, .bool high, .int .i64 0] 29))
  have hR4 := hR3.upd ((Upd.refl No w3).alloc (.cells #[.slice A l.length c, .bool high, .int .i64 0] 29)) id (fun _ _ => id)
  have HT4 : Hid (Two w2.heap.size gR w3.heap.size A A3 c c3 l high 0 (w3.alloc (.cells #[.slice A l.length c, .bool high, .int .i64 0] 29))) := Lib.hid ⟨hR4, hW4⟩
  have HU4 := Lib.hid u4
  have HgW := Lib.hid u3.size
  have HgR := Lib.hid hgR
  clear hW4 u4 hR4 hR3 hgR u3 u2 u1
  generalize w3.alloc (.cells #[.slice A l.length c, .bool high, .int .i64 0] 29) = w4 at *
  generalize w3.heap.size = gW at *
  go_loopg [33] acts.length (fun gk i wr => ∃ k at_ : Nat, k ≤ acts.length ∧ gk = acts.length - k ∧ i = .int .i64 k ∧ Two w2.heap.size gR gW A A3 c c3 l high at_ wr ∧ Up w wr)
  case atStart => exact ⟨0, 0, by omega, rfl, rfl, HT4.out, HU4.out⟩
  case round =>
    obtain ⟨k, at_, hk, rfl, rfl, hT, hU⟩ := hrel
    have HT := Lib.hid hT; clear hT
    have HU := Lib.hid hU; clear hU
    by_cases hlt : k < acts.length
    · obtain ⟨b, off, rfl, hb, hcells⟩ := (h.upd HU.out (Nat.le_refl _) (fun i hi => by omega)) (by omega)
      obtain ⟨k0, k1, k2⟩ := hcells k hlt
      have hko := hok acts[k] (List.getElem_mem hlt)
      clear hcells
      generalize acts[k] = a at *
      obtain ⟨a0, a1, a2⟩ := a
      go_upto_block 2 with fail
      go_cut [] (fun wx => ∃ at2 : Nat, Two w2.heap.size gR gW A A3 c c3 l high at2 wx ∧ Up w wx)
      case first =>
        by_cases h0 : a0 = 0
        · subst h0
          have hal := HT.out.1.2.2.2.1
          obtain ⟨v, er, at2, ha2, hP, hRf⟩ := take_two l high at_ a1 hll hal
          have HRf := Lib.hid hRf; clear hRf
          go_wp2_with fail
          refine (hP wr _ gR A3 c3 HT.out.1).mono ?_
          rintro e w5 ⟨rfl, hR5, hu5⟩
          have hW5 := HT.out.2.upd hu5 (fun e => HT.out.ne e.symm)
          have u5 := HU.out.step hu5 (fun i e => by subst e; exact HgR.out)
          have hgb : b < wr.heap.size := block_lt_of_cell k1
          have k15 := (World.cell?_of_block (a := ⟨b, off + k * 3 + 1, none⟩) (hu5.block b hgb (fun e => by have := HgR.out; omega))).trans k1
          have d0 : w5.cell? ⟨gW, 0, none⟩ = some (.slice A l.length c) := by rw [hW5.cell]; rfl
          have d1 : w5.cell? ⟨gW, 1, none⟩ = some (.bool high) := by rw [hW5.cell]; rfl
          have d2 : w5.cell? ⟨gW, 2, none⟩ = some (.int .i64 (at_ : Int)) := by rw [hW5.cell]; rfl
          have hgW5 := hW5.lt
          have hgb5 : b < w5.heap.size := block_lt_of_cell k15
          have hfull : Hid (∀ w', Below w5.heap.size w5 w' → (Below w5.heap.size w5 w' ∧ w'.cell? ⟨gW, 0, none⟩ = some (.slice A l.length c) ∧ w'.cell? ⟨gW, 1, none⟩ = some (.bool high) ∧ w'.cell? ⟨gW, 2, none⟩ = some (.int .i64 (at_ : Int)) ∧ w'.cell? ⟨b, off + k * 3 + 1, none⟩ = some (.int .i64 a1))) := Lib.hid fun w' hb => ⟨hb, (hb.cell (p := ⟨gW, 0, none⟩) hgW5).trans d0, (hb.cell (p := ⟨gW, 1, none⟩) hgW5).trans d1, (hb.cell (p := ⟨gW, 2, none⟩) hgW5).trans d2, (hb.cell (p := ⟨b, off + k * 3 + 1, none⟩) hgb5).trans k15⟩
          have hBs : Hid (∀ w', Below w5.heap.size w5 w' → Bs w' w'.heap.size A l) := Lib.hid fun w' hb => Bs.up hb0 (u5.fresh hb)
          have HR5 := Lib.hid hR5
          have HW5 := Lib.hid hW5
          have HU5 := Lib.hid u5
          clear hR5 hW5 u5 hu5 hP hgb
          go_wp2_with fail
          go_region_held3 (fun w' => Below w5.heap.size w5 w' ∧ w'.cell? ⟨gW, 0, none⟩ = some (.slice A l.length c) ∧ w'.cell? ⟨gW, 1, none⟩ = some (.bool high) ∧ w'.cell? ⟨gW, 2, none⟩ = some (.int .i64 (at_ : Int)) ∧ w'.cell? ⟨b, off + k * 3 + 1, none⟩ = some (.int .i64 a1))
            (first | exact hfull.out _ (Below.refl _ _) | exact hfull.out _ (Below.drew (Below.refl _ _)) | exact hfull.out _ (belowAlloc (And.left (by assumption)) _) | exact hfull.out _ (Below.drew (And.left (by assumption))) | exact hfull.out _ (by assumption) | exact hfull.out _ (belowAlloc (by assumption) _) | exact hfull.out _ (below3 (by assumption)))
            ((go_at_call 14; refine (HRf.out _ A c (hBs.out _ (And.left (by assumption)))).mono ?_; rintro e w6 ⟨rfl, hb6⟩; have hc6 := belowStep (And.left (by assumption)) hb6; (first | have hn6 := newCells rfl hb6 | skip)))
          · rename_i hH
            have hb9 := hH.1
            have q := Blk.new w6 29 #[.slice A l.length c, .bool high, .int .i64 (at2 : Int)]
            have q0 : (w6.alloc (.cells #[.slice A l.length c, .bool high, .int .i64 (at2 : Int)] 29)).cell? ⟨w6.heap.size, 0, none⟩ = some (.slice A l.length c) := by rw [q.cell]; rfl
            have q1 : (w6.alloc (.cells #[.slice A l.length c, .bool high, .int .i64 (at2 : Int)] 29)).cell? ⟨w6.heap.size, 1, none⟩ = some (.bool high) := by rw [q.cell]; rfl
            have q2 : (w6.alloc (.cells #[.slice A l.length c, .bool high, .int .i64 (at2 : Int)] 29)).cell? ⟨w6.heap.size, 2, none⟩ = some (.int .i64 (at2 : Int)) := by rw [q.cell]; rfl
            obtain ⟨_, e0, e1, e2, _⟩ := hH
            obtain ⟨f0, f1, f2, hT9⟩ := after hb9 HR5.out HW5.out HgW.out HU5.out
            have HT9 := Lib.hid hT9
            clear hT9 q hb9 hc6 hb6
            generalize w6.alloc (.cells #[.slice A l.length c, .bool high, .int .i64 (at2 : Int)] 29) = W9 at *
            generalize w6.heap.size = fb at *
            go_wp2_with fail
            go_meet
            exact ⟨at2, by simpa using HT9.out⟩
          · rename_i hH
            have hb9 := hH.1
            obtain ⟨q0, q1, q2⟩ := newSet (v0 := .slice A l.length c) (v1 := .bool high) (v2 := .int .i64 (at2 : Int)) hn6
            obtain ⟨_, e0, e1, e2, _⟩ := hH
            obtain ⟨f0, f1, f2, hT9⟩ := after hb9 HR5.out HW5.out HgW.out HU5.out
            have HT9 := Lib.hid hT9
            clear hT9 hb9 hc6 hb6 hn6
            generalize ((w6.setCell ⟨w5.heap.size, 0, none⟩ (.slice A l.length c)).setCell ⟨w5.heap.size, 1, none⟩ (.bool high)).setCell ⟨w5.heap.size, 2, none⟩ (.int .i64 (at2 : Int)) = W9 at *
            go_wp2_with fail
            go_meet
            exact ⟨at2, by simpa using HT9.out⟩
        · by_cases h1 : a0 = 1
          · subst h1
            have hal := HT.out.1.2.2.2.1
            have HgR2 := Lib.hid HgR.out
            go_wp2_with fail
            refine (align_any wr _ gR A3 c3 l high at_ HT.out.1).mono ?_
            rintro e w5 ⟨rfl, hR5, hu5⟩
            have hW5 := HT.out.2.upd hu5 (fun e => HT.out.ne e.symm)
            have u5 := HU.out.step hu5 (fun i e => by subst e; exact HgR.out)
            have d0 : w5.cell? ⟨gW, 0, none⟩ = some (.slice A l.length c) := by rw [hW5.cell]; rfl
            have d1 : w5.cell? ⟨gW, 1, none⟩ = some (.bool high) := by rw [hW5.cell]; rfl
            have d2 : w5.cell? ⟨gW, 2, none⟩ = some (.int .i64 (at_ : Int)) := by rw [hW5.cell]; rfl
            have HR5 := Lib.hid hR5
            have HW5 := Lib.hid hW5
            have HU5 := Lib.hid u5
            clear hR5 hW5 u5 hu5
            go_wp2_with fail
            refine (refAlign_any A l.length c high at_ w5 hal hll).mono ?_
            rintro e w6 ⟨rfl, hb6⟩
            have hR6 := HR5.out.upd (Upd.of_fresh hb6) id (fun _ _ => id)
            have hW6 := HW5.out.upd (Upd.of_fresh hb6) id
            have u6 := HU5.out.fresh hb6
            have f0 := hW6.frozen 0
            have f1 := hW6.frozen 1
            have f2 := hW6.frozen 2
            have e0 : w6.cell? ⟨gW, 0, none⟩ = some (.slice A l.length c) := by rw [hW6.cell]; rfl
            have e1 : w6.cell? ⟨gW, 1, none⟩ = some (.bool high) := by rw [hW6.cell]; rfl
            have e2 : w6.cell? ⟨gW, 2, none⟩ = some (.int .i64 (at_ : Int)) := by rw [hW6.cell]; rfl
            have HT6 := Lib.hid (Two.set_ ⟨hR6, hW6⟩ HgW.out u6)
            clear hR6 hW6 u6 hb6
            go_wp2_with fail
            go_meet
            exact ⟨_, by simpa using HT6.out⟩
          · by_cases h2 : a0 = 2
            · subst h2
              have hal := HT.out.1.2.2.2.1
              obtain ⟨xs, er, at2, ha2, hxs, hP, hRf⟩ := bytes_two l high at_ a1 hll hal
              have HRf := Lib.hid hRf; clear hRf
              go_wp2_with fail
              refine (hP wr _ gR A3 c3 HT.out.1).mono ?_
              rintro e w5 ⟨A5, c5, rfl, hB5, hR5, hu5⟩
              have hW5 := HT.out.2.upd hu5 (fun e => HT.out.ne e.symm)
              have u5 := HU.out.step hu5 (fun i e => by subst e; exact HgR.out)
              have hgWr := HT.out.2.lt
              have hs5 := hu5.size
              have hgb : b < wr.heap.size := block_lt_of_cell k1
              have k15 := (World.cell?_of_block (a := ⟨b, off + k * 3 + 1, none⟩) (hu5.block b hgb (fun e => by have := HgR.out; omega))).trans k1
              have d0 : w5.cell? ⟨gW, 0, none⟩ = some (.slice A l.length c) := by rw [hW5.cell]; rfl
              have d1 : w5.cell? ⟨gW, 1, none⟩ = some (.bool high) := by rw [hW5.cell]; rfl
              have d2 : w5.cell? ⟨gW, 2, none⟩ = some (.int .i64 (at_ : Int)) := by rw [hW5.cell]; rfl
              have hgW5 := hW5.lt
              have hgb5 : b < w5.heap.size := block_lt_of_cell k15
              have hfull : Hid (∀ w', Below w5.heap.size w5 w' → (Below w5.heap.size w5 w' ∧ w'.cell? ⟨gW, 0, none⟩ = some (.slice A l.length c) ∧ w'.cell? ⟨gW, 1, none⟩ = some (.bool high) ∧ w'.cell? ⟨gW, 2, none⟩ = some (.int .i64 (at_ : Int)) ∧ w'.cell? ⟨b, off + k * 3 + 1, none⟩ = some (.int .i64 a1))) := Lib.hid fun w' hb => ⟨hb, (hb.cell (p := ⟨gW, 0, none⟩) hgW5).trans d0, (hb.cell (p := ⟨gW, 1, none⟩) hgW5).trans d1, (hb.cell (p := ⟨gW, 2, none⟩) hgW5).trans d2, (hb.cell (p := ⟨b, off + k * 3 + 1, none⟩) hgb5).trans k15⟩
              have hBs : Hid (∀ w', Below w5.heap.size w5 w' → Bs w' w'.heap.size A l) := Lib.hid fun w' hb => Bs.up hb0 (u5.fresh hb)
              have HR5 := Lib.hid hR5
              have HW5 := Lib.hid hW5
              have HU5 := Lib.hid u5
              have HB5 := Lib.hid hB5
              have HX := Lib.hid hxs
              have HgWr := Lib.hid hgWr
              have Hs5 := Lib.hid hs5
              clear hR5 hW5 u5 hu5 hP hgb hB5 hxs hgWr hs5
              go_wp2_with fail
              go_region_held3 (fun w' => Below w5.heap.size w5 w' ∧ w'.cell? ⟨gW, 0, none⟩ = some (.slice A l.length c) ∧ w'.cell? ⟨gW, 1, none⟩ = some (.bool high) ∧ w'.cell? ⟨gW, 2, none⟩ = some (.int .i64 (at_ : Int)) ∧ w'.cell? ⟨b, off + k * 3 + 1, none⟩ = some (.int .i64 a1))
                (first | exact hfull.out _ (Below.refl _ _) | exact hfull.out _ (Below.drew (Below.refl _ _)) | exact hfull.out _ (belowAlloc (And.left (by assumption)) _) | exact hfull.out _ (Below.drew (And.left (by assumption))) | exact hfull.out _ (by assumption) | exact hfull.out _ (belowAlloc (by assumption) _) | exact hfull.out _ (below3 (by assumption)))
                ((go_at_call 18; refine (HRf.out _ A c (hBs.out _ (And.left (by assumption))) hlc hcm).mono ?_; rintro e w6 ⟨A6, c6, rfl, hB6, hb6⟩; have hc6 := belowStep (And.left (by assumption)) hb6; (first | have hn6 := newCells rfl hb6 | skip)))
              · rename_i hH
                have hb9 := hH.1
                have q := Blk.new w6 29 #[.slice A l.length c, .bool high, .int .i64 (at2 : Int)]
                have q0 : (w6.alloc (.cells #[.slice A l.length c, .bool high, .int .i64 (at2 : Int)] 29)).cell? ⟨w6.heap.size, 0, none⟩ = some (.slice A l.length c) := by rw [q.cell]; rfl
                have q1 : (w6.alloc (.cells #[.slice A l.length c, .bool high, .int .i64 (at2 : Int)] 29)).cell? ⟨w6.heap.size, 1, none⟩ = some (.bool high) := by rw [q.cell]; rfl
                have q2 : (w6.alloc (.cells #[.slice A l.length c, .bool high, .int .i64 (at2 : Int)] 29)).cell? ⟨w6.heap.size, 2, none⟩ = some (.int .i64 (at2 : Int)) := by rw [q.cell]; rfl
                obtain ⟨_, e0, e1, e2, _⟩ := hH
                obtain ⟨f0, f1, f2, hT9⟩ := after hb9 HR5.out HW5.out HgW.out HU5.out
                have hP9 := HB5.out.upd (Upd.of_fresh hb9) (fun _ _ _ h => h)
                have hD9 := hB6.upd ((Upd.refl No w6).alloc (.cells #[.slice A l.length c, .bool high, .int .i64 (at2 : Int)] 29)) (fun _ _ _ h => h)
                have hlo : gW < w5.drew.heap.size := hgW5
                have HT9 := Lib.hid hT9
                have HP9 := Lib.hid hP9
                have HD9 := Lib.hid hD9
                clear hT9 q hb9 hc6 hb6 hP9 hD9 hB6
                generalize w6.alloc (.cells #[.slice A l.length c, .bool high, .int .i64 (at2 : Int)] 29) = W9 at *
                generalize w6.heap.size = fb at *
                go_wp2_with fail
                have hu10 : Upd (· = gW) W9 (((W9.setCell ⟨gW, 0, none⟩ (.slice A l.length c)).setCell ⟨gW, 1, none⟩ (.bool high)).setCell ⟨gW, 2, none⟩ (.int .i64 (at2 : Int))) := (((Upd.refl (· = gW) W9).setCell (p := ⟨gW, 0, none⟩) (fun _ => rfl) _).setCell (p := ⟨gW, 1, none⟩) (fun _ => rfl) _).setCell (p := ⟨gW, 2, none⟩) (fun _ => rfl) _
                have hP10 := HP9.out.upd hu10 (fun k hk _ e => by have := HgWr.out; omega)
                have hD10 := HD9.out.upd hu10 (fun k hk _ e => by omega)
                have hT10 : Two w2.heap.size gR gW A A3 c c3 l high at2 (((W9.setCell ⟨gW, 0, none⟩ (.slice A l.length c)).setCell ⟨gW, 1, none⟩ (.bool high)).setCell ⟨gW, 2, none⟩ (.int .i64 (at2 : Int))) ∧ Up w (((W9.setCell ⟨gW, 0, none⟩ (.slice A l.length c)).setCell ⟨gW, 1, none⟩ (.bool high)).setCell ⟨gW, 2, none⟩ (.int .i64 (at2 : Int))) := HT9.out
                have HT10 := Lib.hid hT10
                have hX := HX.out
                clear hT10 hu10
                generalize (((W9.setCell ⟨gW, 0, none⟩ (.slice A l.length c)).setCell ⟨gW, 1, none⟩ (.bool high)).setCell ⟨gW, 2, none⟩ (.int .i64 (at2 : Int))) = W10 at *
                refine (same_any A5 A6 c5 c6 xs xs _ W10 hP10.1 hD10.1 (by unfold maxLen; omega)).mono ?_
                rintro e w11 ⟨rfl, n11, rfl⟩
                have hxx : (xs == xs) = true := by simp
                rw [hxx]
                clear hX hxx hP10 hD10
                go_wp2_with fail
                go_meet
                exact ⟨at2, HT10.out.1.drewN n11, Upd.drewN HT10.out.2 n11⟩
              · rename_i hH
                have hb9 := hH.1
                obtain ⟨q0, q1, q2⟩ := newSet (v0 := .slice A l.length c) (v1 := .bool high) (v2 := .int .i64 (at2 : Int)) hn6
                obtain ⟨_, e0, e1, e2, _⟩ := hH
                obtain ⟨f0, f1, f2, hT9⟩ := after hb9 HR5.out HW5.out HgW.out HU5.out
                have hP9 := HB5.out.upd (Upd.of_fresh hb9) (fun _ _ _ h => h)
                have hlo5 : w5.heap.size < (w5.alloc (.cells #[.slice none 0 0, .bool false, .int .i64 0] 29)).drew.heap.size := by
                  show w5.heap.size < (w5.alloc _).heap.size
                  simp
                have hD9 := hB6.upd ((((Upd.refl (· = w5.heap.size) w6).setCell (p := ⟨w5.heap.size, 0, none⟩) (fun _ => rfl) (.slice A l.length c)).setCell (p := ⟨w5.heap.size, 1, none⟩) (fun _ => rfl) (.bool high)).setCell (p := ⟨w5.heap.size, 2, none⟩) (fun _ => rfl) (.int .i64 (at2 : Int))) (fun k hk _ e => by omega)
                have hlo : gW < (w5.alloc (.cells #[.slice none 0 0, .bool false, .int .i64 0] 29)).drew.heap.size := by omega
                have HT9 := Lib.hid hT9
                have HP9 := Lib.hid hP9
                have HD9 := Lib.hid hD9
                clear hT9 hb9 hc6 hb6 hn6 hP9 hD9 hB6 hlo5
                generalize ((w6.setCell ⟨w5.heap.size, 0, none⟩ (.slice A l.length c)).setCell ⟨w5.heap.size, 1, none⟩ (.bool high)).setCell ⟨w5.heap.size, 2, none⟩ (.int .i64 (at2 : Int)) = W9 at *
                go_wp2_with fail
                have hu10 : Upd (· = gW) W9 (((W9.setCell ⟨gW, 0, none⟩ (.slice A l.length c)).setCell ⟨gW, 1, none⟩ (.bool high)).setCell ⟨gW, 2, none⟩ (.int .i64 (at2 : Int))) := (((Upd.refl (· = gW) W9).setCell (p := ⟨gW, 0, none⟩) (fun _ => rfl) _).setCell (p := ⟨gW, 1, none⟩) (fun _ => rfl) _).setCell (p := ⟨gW, 2, none⟩) (fun _ => rfl) _
                have hP10 := HP9.out.upd hu10 (fun k hk _ e => by have := HgWr.out; omega)
                have hD10 := HD9.out.upd hu10 (fun k hk _ e => by omega)
                have hT10 : Two w2.heap.size gR gW A A3 c c3 l high at2 (((W9.setCell ⟨gW, 0, none⟩ (.slice A l.length c)).setCell ⟨gW, 1, none⟩ (.bool high)).setCell ⟨gW, 2, none⟩ (.int .i64 (at2 : Int))) ∧ Up w (((W9.setCell ⟨gW, 0, none⟩ (.slice A l.length c)).setCell ⟨gW, 1, none⟩ (.bool high)).setCell ⟨gW, 2, none⟩ (.int .i64 (at2 : Int))) := HT9.out
                have HT10 := Lib.hid hT10
                have hX := HX.out
                clear hT10 hu10
                generalize (((W9.setCell ⟨gW, 0, none⟩ (.slice A l.length c)).setCell ⟨gW, 1, none⟩ (.bool high)).setCell ⟨gW, 2, none⟩ (.int .i64 (at2 : Int))) = W10 at *
                refine (same_any A5 A6 c5 c6 xs xs _ W10 hP10.1 hD10.1 (by unfold maxLen; omega)).mono ?_
                rintro e w11 ⟨rfl, n11, rfl⟩
                have hxx : (xs == xs) = true := by simp
                rw [hxx]
                clear hX hxx hP10 hD10
                go_wp2_with fail
                go_meet
                exact ⟨at2, HT10.out.1.drewN n11, Upd.drewN HT10.out.2 n11⟩
            · go_wp2_with fail
              go_meet
              exact ⟨at_, HT.out, HU.out⟩
      case rest =>
        obtain ⟨at2, hT2, hU2⟩ := hcut
        have ha2 := hT2.1.2.2.2.1
        obtain ⟨_, d0, d1, d2⟩ := hT2.full
        have HT2 := Lib.hid hT2; clear hT2
        have HU2 := Lib.hid hU2; clear hU2
        have hS := Lib.hid HT2.out.drew.full
        go_wp2_with fail
        go_region_held3 (fun w' => Two w2.heap.size gR gW A A3 c c3 l high at2 w' ∧ w'.cell? ⟨gW, 0, none⟩ = some (.slice A l.length c) ∧ w'.cell? ⟨gW, 1, none⟩ = some (.bool high) ∧ w'.cell? ⟨gW, 2, none⟩ = some (.int .i64 (at2 : Int)))
          (first | exact Two.full (Two.alloc (And.left (by assumption)) _) | exact Two.full (Two.drew (And.left (by assumption))) | exact Two.full (Two.drewN (And.left (by assumption)) _) | exact hS.out | exact HT2.out.full)
          (first
            | (go_at_call 20; refine (left_any _ w2.heap.size gR A3 c3 l high at2 (And.left (And.left (by assumption)))).mono ?_; rintro e w' ⟨rfl, n5, rfl⟩)
            | (go_at_call 21; refine (refLeft_any A l.length c high at2 _ ha2 hll).mono ?_; rintro e w' ⟨rfl, rfl⟩)
            | (go_at_call 22; refine (place_any _ w2.heap.size gR A3 c3 l high at2 (And.left (And.left (by assumption)))).mono ?_; rintro e w' ⟨rfl, rfl⟩))
        rename_i hH
        have HT9 := Lib.hid hH.1; clear hH
        have HU9 := Lib.hid ((Upd.drewN HU2.out (1 + n5)).alloc (.cells #[.slice A l.length c, .bool high, .int .i64 (at2 : Int)] 29))
        generalize (wc.drewN (1 + n5)).alloc (.cells #[.slice A l.length c, .bool high, .int .i64 (at2 : Int)] 29) = w9 at *
        go_wp2_with fail
        go_roundg (acts.length - (k + 1))
        case measure => omega
        case rel => exact ⟨k + 1, at2, by omega, rfl, by go_num, HT9.out, HU9.out⟩
    · have hkn : k = acts.length := by omega
      subst hkn
      go_wp2_with fail
      go_ret
      exact ⟨rfl, HU.out.below⟩

set_option maxRecDepth 100000 in
theorem lifted (os : Os) (started : os.Started) (H : Type) (enc : TypeId × Value → H) :
    ReturnsInHanded {} Try.checked os 3 .any (Rows.bitsReadsSpec.pre6 enc Try.prog Try.f3 Rows.bitsReadsRow.domain false) (Rows.bitsReadsSpec.post enc Try.prog Try.f3 false true false false) := by
  refine returnsInHanded_of_change_sized (C := Try.checked) prog_own started (by kernel_rfl) Try.func3
    (ChangeSpec.witness6 (enc := enc) (C := Try.checked) false ⟨#[], #[.slice none 0 0, .bool false, .slice none 0 0], []⟩ 8 (by kernel_rfl) (by kernel_rfl) (by kernel_rfl) (by kernel_rfl)) ?_
  intro W base args ds gs before hval0 hW hcnd hsz _
  have hval : ∀ (j : Nat) t v, Try.f3.params[j]? = some t → args[j]? = some v → Value.okWide Try.prog W .any base t v := hval0
  have hW' := hW
  obtain ⟨p, q, hA0, hV, rfl, hfz, hnd⟩ := hW
  have hA : DataW.TrodAll enc Try.prog W 0 (fun _ => true) true Try.f3.params.toList args.toList ds p := hA0
  rw [Try.params3] at hA hval
  obtain ⟨v0, vs0, d0, ds0, p0, q0, hargs, rfl, rfl, h0, r0⟩ := trodAll_cons hA
  obtain ⟨v1, vs1, d1, ds1, p1, q1, rfl, rfl, rfl, h1, r1⟩ := trodAll_cons r0
  obtain ⟨v2, vs2, d2, ds2, p2, q2, rfl, rfl, rfl, h2, r2⟩ := trodAll_cons r1
  obtain ⟨rfl, rfl, rfl⟩ := trodAll_nil r2
  obtain rfl : args = #[v0, v1, v2] := by cases args; simp_all
  obtain ⟨rfl, rfl⟩ := trodVars_none hV
  obtain ⟨A0, l0, c0, rfl, hb0, hlc, hd0⟩ := open_bytesC (hval 0 22 v0 rfl rfl) h0
  have hl0 : c0 ≤ 140737488355328 := by
    rcases hd0 with ⟨_, rfl⟩ | ⟨e, s, rfl, hle⟩
    · simp
    · have this : (e.length + s.length) * Try.prog.bytesOf 5 ≤ reachBytes := sized_slice hsz (j := 0) (t := 22) (e := 5) rfl rfl Try.underlying22
      rw [bytes_u8] at this
      unfold reachBytes at this
      omega
  obtain ⟨high, rfl, rfl, rfl⟩ := open_bool Try.underlying4 (hval 1 4 v1 rfl rfl) h1
  obtain ⟨A2, acts, c2, rfl, ha2, hok2, hd2⟩ := open_acts (hval 2 23 v2 rfl rfl) h2
  have hl2 : acts.length ≤ 5864062014805 := by
    rcases hd2 with ⟨_, rfl⟩ | ⟨e, s, rfl, hle⟩
    · simp
    · have this : (e.length + s.length) * Try.prog.bytesOf 32 ≤ reachBytes := sized_slice hsz (j := 2) (t := 23) (e := 32) rfl rfl Try.underlying23
      rw [bytes_act] at this
      unfold reachBytes at this
      omega
  have lt0 : ∀ x ∈ p0, x.block < W.heap.size := by obtain ⟨m, hm⟩ := h0; exact DataW.trod_lt m _ _ _ hm
  have lt2 : ∀ x ∈ p2, x.block < W.heap.size := by obtain ⟨m, hm⟩ := h2; exact DataW.trod_lt m _ _ _ hm
  clear hA0 hval0
  refine (walk A0 c0 l0 high A2 c2 acts W hb0 (by omega) hlc (by unfold maxLen; omega) ha2 hok2 (by omega)).mono fun e W' ⟨he, bel⟩ => ?_
  subst he
  exact ⟨_, rfl, _, _, _, [], _, [], hW', trodAll_mk1 (shut_bool Try.underlying4 _), (trodAll_cons_mk (Below.trod prog_laid (by kernel_rfl) (of_decide_eq_true (by kernel_rfl)) h0 bel lt0) (trodAll_cons_mk (shut_bool Try.underlying4 _) (trodAll_cons_mk (Below.trod prog_laid (by kernel_rfl) (of_decide_eq_true (by kernel_rfl)) h2 bel lt2) trodAll_mk0))), rfl, bel.frame _, fun h => by cases h⟩

theorem over : Rows.bitsReadsRow.holds Try.pinned (OpenSpec.ofChange Rows.bitsReadsSpec) :=
  OpenClaim.holds_of_wide 3 Try.f3 rfl rfl rfl rfl rfl rfl rfl ⟨rfl, rfl, rfl, rfl, rfl⟩ rfl rfl rfl rfl rfl (by kernel_rfl) Try.func3 (by kernel_rfl)
    (of_decide_eq_true (by kernel_rfl)) (by unfold Func.isWrapper; first | (rw [if_pos (by decide +kernel)]; kernel_rfl) | (rw [if_neg (by decide +kernel)]; exact ⟨rfl, rfl⟩))
    (fun os started H enc _ => lifted os started H enc)
end BitsReads

theorem bitsReads_holds : Rows.BitsReadsSaid := BitsReads.over
#print axioms bitsReads_holds
end Go.Proofs.Ytfnldnhlacpdiaa
