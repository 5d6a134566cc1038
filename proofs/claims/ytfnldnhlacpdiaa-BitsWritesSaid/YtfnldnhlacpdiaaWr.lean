/- Whatever a writer of either order is given, it holds just that. -/
import Derived.Test.YtfnldnhlacpdiaaTx
import Derived.Deep.CutBlock
namespace Go.Proofs.Ytfnldnhlacpdiaa
open Go.ChangeShapes Go.WideShapes Go.ChangeAt Go.RowKit
namespace BitsWrites

theorem newSet {w6 : World} {n : Nat} {a0 a1 a2 v0 v1 v2 : Value} {F : Prop} (h : w6.cell? ⟨n, 0, none⟩ = some a0 ∧ w6.cell? ⟨n, 1, none⟩ = some a1 ∧ w6.cell? ⟨n, 2, none⟩ = some a2 ∧ F) :
    (((w6.setCell ⟨n, 0, none⟩ v0).setCell ⟨n, 1, none⟩ v1).setCell ⟨n, 2, none⟩ v2).cell? ⟨n, 0, none⟩ = some v0 ∧ (((w6.setCell ⟨n, 0, none⟩ v0).setCell ⟨n, 1, none⟩ v1).setCell ⟨n, 2, none⟩ v2).cell? ⟨n, 1, none⟩ = some v1 ∧ (((w6.setCell ⟨n, 0, none⟩ v0).setCell ⟨n, 1, none⟩ v1).setCell ⟨n, 2, none⟩ v2).cell? ⟨n, 2, none⟩ = some v2 := by
  obtain ⟨k3, k4, k5, _⟩ := h
  exact ⟨(World.cell?_setCell_other _ ⟨n, 2, none⟩ ⟨n, 0, none⟩ v2 (by simp)).trans ((World.cell?_setCell_other _ ⟨n, 1, none⟩ ⟨n, 0, none⟩ v1 (by simp)).trans (set_same k3 v0)),
    (World.cell?_setCell_other _ ⟨n, 2, none⟩ ⟨n, 1, none⟩ v2 (by simp)).trans (set_same ((World.cell?_setCell_other _ ⟨n, 0, none⟩ ⟨n, 1, none⟩ v0 (by simp)).trans k4) v1),
    set_same ((World.cell?_setCell_other _ ⟨n, 1, none⟩ ⟨n, 2, none⟩ v1 (by simp)).trans ((World.cell?_setCell_other _ ⟨n, 0, none⟩ ⟨n, 2, none⟩ v0 (by simp)).trans k5)) v2⟩
theorem upd3 {S : Nat → Prop} {a w : World} {v0 v1 v2 : Value} (h : Upd S a w) : Upd S a (((w.setCell ⟨a.heap.size, 0, none⟩ v0).setCell ⟨a.heap.size, 1, none⟩ v1).setCell ⟨a.heap.size, 2, none⟩ v2) :=
  ((h.setCell (p := ⟨a.heap.size, 0, none⟩) (fun hlt => absurd hlt (by simp)) _).setCell (p := ⟨a.heap.size, 1, none⟩) (fun hlt => absurd hlt (by simp)) _).setCell (p := ⟨a.heap.size, 2, none⟩) (fun hlt => absurd hlt (by simp)) _
theorem newCellsU {T : Nat → Prop} {W w' : World} {v0 v1 v2 : Value} {t : TypeId} {n : Nat} (hn : W.heap.size = n) (h : Upd T (W.alloc (.cells #[v0, v1, v2] t)).drew w') (hT : ¬ T n) :
    w'.cell? ⟨n, 0, none⟩ = some v0 ∧ w'.cell? ⟨n, 1, none⟩ = some v1 ∧ w'.cell? ⟨n, 2, none⟩ = some v2 ∧ w'.frozen? ⟨n, 0, none⟩ = false ∧ w'.frozen? ⟨n, 1, none⟩ = false ∧ w'.frozen? ⟨n, 2, none⟩ = false := by
  subst hn
  have hb := ((Blk.new W t #[v0, v1, v2]).upd (Upd.refl No _).drew id).upd h hT
  exact ⟨hb.cell 0, hb.cell 1, hb.cell 2, hb.frozen 0, hb.frozen 1, hb.frozen 2⟩
set_option maxHeartbeats 4000000 in
set_option maxRecDepth 100000 in
theorem walk (high : Bool) (A : Option Addr) (c : Nat) (acts : List (Int × Int × Nat)) (w : World) (h : Acts w w.heap.size A acts) (hok : ∀ a ∈ acts, ActOk a) (hl : acts.length ≤ 8796093022208) :
    Calls Try.prog 4 #[.bool high, .slice A acts.length c] w fun e w' => e = .returned (.bool true) ∧ Below w.heap.size w w' := by
  go_enter Try.func4, Try.ntmps4
  go_wp2_with fail
  refine (wakes_any w).mono ?_
  rintro e w1 ⟨rfl, hb1⟩
  have u1 := (Up.refl w).fresh hb1
  go_wp2_with fail
  refine (newWriter_any high w1).mono ?_
  rintro e w2 ⟨g, rfl, hW2, hb2, hg⟩
  have u2 := u1.fresh hb2
  have s2 : w1.heap.size ≤ w2.heap.size := hb2.size
  have hbase : w.heap.size ≤ w1.heap.size := u1.size
  go_wp2_with fail
  have ua : Upd No w2 (w2.alloc (.cells #[.bool high, .slice none 0 0, .int .i64 0] 50)) := (Upd.refl No w2).alloc _
  have hB3 : Both w1.heap.size g w2.heap.size high [] [] (w2.alloc (.cells #[.bool high, .slice none 0 0, .int .i64 0] 50)) :=
    ⟨none, 0, [], none, 0, [], hW2.upd ua id (fun _ _ => id), packed_nil high, Blk.new w2 _ _, ⟨own_upd hW2.2.1 ua (fun _ _ => id), packed_nil high⟩, (fun k h => by cases h), Nat.le_trans s2 ua.size⟩
  have u3 : Up w (w2.alloc (.cells #[.bool high, .slice none 0 0, .int .i64 0] 50)) := u2.alloc _
  have hg0 : w.heap.size ≤ w2.heap.size := u2.size
  clear hb1 hb2 hW2 u2 u1 ua s2 hg
  generalize w2.alloc (.cells #[.bool high, .slice none 0 0, .int .i64 0] 50) = w3 at *
  generalize w2.heap.size = g0 at *
  generalize w1.heap.size = base at *
  have HB3 := Lib.hid hB3; clear hB3
  have HU3 := Lib.hid u3; clear u3
  go_loopg [21] acts.length (fun gk i wr => ∃ (k : Nat) (bs : List Bool), k ≤ acts.length ∧ gk = acts.length - k ∧ i = .int .i64 k ∧ bs.length ≤ 32 * k ∧ Both base g g0 high bs bs wr ∧ Up w wr)
  case atStart => exact ⟨0, [], by omega, rfl, rfl, by simp, HB3.out, HU3.out⟩
  case round =>
    obtain ⟨k, bs, hk, rfl, rfl, hbs, hBo, hU⟩ := hrel
    have HBo := Lib.hid hBo; clear hBo
    have HU := Lib.hid hU; clear hU
    by_cases hlt : k < acts.length
    · obtain ⟨b, off, rfl, hb, hcells⟩ := (h.upd HU.out (Nat.le_refl _) (fun i hi => by omega)) (by omega)
      obtain ⟨k0, k1, k2⟩ := hcells k hlt
      have hko := hok acts[k] (List.getElem_mem hlt)
      clear hcells
      generalize acts[k] = a at *
      obtain ⟨a0, a1, a2⟩ := a
      have hv : a2 < 4294967296 := hko.2.2
      go_upto_if 29 with fail
      go_cut [] (fun wx => ∃ bs2 : List Bool, bs2.length ≤ 32 * (k + 1) ∧ Both base g g0 high bs2 bs2 wx ∧ Up w wx)
      case first =>
        by_cases h1 : a0 = 1
        · subst h1
          go_wp2_with fail
          refine (Both.align HBo.out HU.out hbase (by omega)).mono ?_
          rintro e w5 ⟨rfl, hB5, hU5⟩
          obtain ⟨A1, c1, l1, B1, d1, l2, hW5, hP5, hD5, hV5, hA5, hBB5⟩ := hB5
          have d0 : w5.cell? ⟨g0, 0, none⟩ = some (.bool high) := by rw [hD5.cell]; rfl
          have d3 : w5.cell? ⟨g0, 1, none⟩ = some (.slice B1 l2.length d1) := by rw [hD5.cell]; rfl
          have d4 : w5.cell? ⟨g0, 2, none⟩ = some (.int .i64 (bs.length : Int)) := by rw [hD5.cell]; rfl
          have HZ := Lib.hid (fun W9 B2 d2 l2' bs2' (hV9 : WVal W9 base B2 d2 l2' high bs2') => Both.theirs hW5 hP5 hD5 hV5 hA5 hBB5 hU5 hbase hg0 hV9)
          have HV5 := Lib.hid hV5
          clear hW5 hP5 hD5 hV5 hA5 hU5
          go_wp2_with fail
          refine (refAlignW_any w5 base B1 d1 l2 high bs HV5.out hBB5 (by omega)).mono ?_
          rintro e w6 ⟨B2, d2, l2', rfl, hV6, hu6, hO6⟩
          have hln : (bs ++ List.replicate ((8 - bs.length % 8) % 8) false).length ≤ 32 * (k + 1) := by rw [List.length_append, List.length_replicate]; omega
          obtain ⟨hD9, hBt, hU9⟩ := HZ.out _ _ _ _ _ hV6 hu6 hO6
          generalize bs ++ List.replicate ((8 - bs.length % 8) % 8) false = bn at *
          have e0 : w6.cell? ⟨g0, 0, none⟩ = some (.bool high) := by rw [hD9.cell]; rfl
          have e1 : w6.cell? ⟨g0, 1, none⟩ = some (.slice B1 l2.length d1) := by rw [hD9.cell]; rfl
          have e2 : w6.cell? ⟨g0, 2, none⟩ = some (.int .i64 (bs.length : Int)) := by rw [hD9.cell]; rfl
          have f0 := hD9.frozen 0
          have f1 := hD9.frozen 1
          have f2 := hD9.frozen 2
          have HR := Lib.hid (And.intro hBt hU9)
          clear hD9 hBt hU9 hV6 hu6 hO6 HZ HV5
          go_wp2_with fail
          go_meet
          exact ⟨bn, hln, HR.out⟩
        · go_wp2_with fail
          refine wp_region_tail 11 (by kernel_rfl) (by kernel_rfl) ?_
          simp only [List.take_succ_cons, List.take_zero, List.drop_succ_cons, List.drop_zero]
          repeat (go_big_quiet_step (fail))
          refine wpQuiet_nil ?_
          go_wp2_with fail
          refine (Both.put (HBo.out.upd (Upd.refl No _).drew) (Upd.drew HU.out) hbase a1 a2 hv (by omega)).mono ?_
          rintro e w5 ⟨rfl, hB5, hU5⟩
          have c1e : w5.cell? ⟨b, off + k * 3 + 1, none⟩ = some (.int .i64 a1) := (World.cell?_of_block (a := ⟨b, off + k * 3 + 1, none⟩) (hU5.block b hb (by omega))).trans ((World.cell?_of_block (a := ⟨b, off + k * 3 + 1, none⟩) (HU.out.block b hb (by omega))).symm.trans k1)
          have c2e : w5.cell? ⟨b, off + k * 3 + 2, none⟩ = some (.int .u32 (a2 : Int)) := (World.cell?_of_block (a := ⟨b, off + k * 3 + 2, none⟩) (hU5.block b hb (by omega))).trans ((World.cell?_of_block (a := ⟨b, off + k * 3 + 2, none⟩) (HU.out.block b hb (by omega))).symm.trans k2)
          obtain ⟨A1, c1, l1, B1, d1, l2, hW5, hP5, hD5, hV5, hA5, hBB5⟩ := hB5
          have d0 : w5.cell? ⟨g0, 0, none⟩ = some (.bool high) := by rw [hD5.cell]; rfl
          have d3 : w5.cell? ⟨g0, 1, none⟩ = some (.slice B1 l2.length d1) := by rw [hD5.cell]; rfl
          have d4 : w5.cell? ⟨g0, 2, none⟩ = some (.int .i64 (bs.length : Int)) := by rw [hD5.cell]; rfl
          have HZ := Lib.hid (fun W9 B2 d2 l2' bs2' (hV9 : WVal W9 base B2 d2 l2' high bs2') => Both.theirs hW5 hP5 hD5 hV5 hA5 hBB5 hU5 hbase hg0 hV9)
          have hVn : Hid (∀ w', Upd No w5 w' → WVal w' base B1 d1 l2 high bs ∧ base ≤ w'.heap.size) := Lib.hid fun w' hu => ⟨⟨own_upd hV5.1 hu (fun _ _ => id), hV5.2⟩, Nat.le_trans hBB5 hu.size⟩
          have hTn : Hid (¬ B1.map (·.block) = some w5.heap.size) := Lib.hid fun e => by have := (hV5.1.lt _ (by rw [ownBlock_slice]; exact e)).2; omega
          have nD : ¬ B1.map (·.block) = some g0 := by have := own_blk_ne hV5.1 hD5 (by decide); rwa [ownBlock_slice] at this
          have nb : ¬ B1.map (·.block) = some b := fun e => by have := (hV5.1.lt _ (by rw [ownBlock_slice]; exact e)).1; omega
          have hgl := hD5.lt
          have hbl : b < w5.heap.size := block_lt_of_cell c1e
          have hfull : Hid (∀ w', Upd (fun k => B1.map (·.block) = some k) w5 w' → (Upd (fun k => B1.map (·.block) = some k) w5 w' ∧ w'.cell? ⟨g0, 0, none⟩ = some (.bool high) ∧ w'.cell? ⟨g0, 1, none⟩ = some (.slice B1 l2.length d1) ∧ w'.cell? ⟨g0, 2, none⟩ = some (.int .i64 (bs.length : Int)) ∧ w'.cell? ⟨b, off + k * 3 + 1, none⟩ = some (.int .i64 a1) ∧ w'.cell? ⟨b, off + k * 3 + 2, none⟩ = some (.int .u32 (a2 : Int)))) := Lib.hid fun w' hu =>
            ⟨hu, (World.cell?_of_block (a := ⟨g0, 0, none⟩) (hu.block g0 hgl nD)).trans d0, (World.cell?_of_block (a := ⟨g0, 1, none⟩) (hu.block g0 hgl nD)).trans d3, (World.cell?_of_block (a := ⟨g0, 2, none⟩) (hu.block g0 hgl nD)).trans d4, (World.cell?_of_block (a := ⟨b, off + k * 3 + 1, none⟩) (hu.block b hbl nb)).trans c1e, (World.cell?_of_block (a := ⟨b, off + k * 3 + 2, none⟩) (hu.block b hbl nb)).trans c2e⟩
          have HLn : Hid ((bs ++ actBits high a1 a2).length ≤ 32 * (k + 1)) := Lib.hid (by have := actBits_len high a1 a2; rw [List.length_append]; omega)
          have hszb : bs.length + 32 ≤ 1125899906842000 := by omega
          clear hW5 hP5 hD5 hV5 hA5 hBB5 hU5 nD nb hgl hbl
          generalize hbn : bs ++ actBits high a1 a2 = bn at *
          have HBN := Lib.hid hbn; clear hbn
          go_wp2_with fail
          go_region_held3 (fun w' => Upd (fun k => B1.map (·.block) = some k) w5 w' ∧ w'.cell? ⟨g0, 0, none⟩ = some (.bool high) ∧ w'.cell? ⟨g0, 1, none⟩ = some (.slice B1 l2.length d1) ∧ w'.cell? ⟨g0, 2, none⟩ = some (.int .i64 (bs.length : Int)) ∧ w'.cell? ⟨b, off + k * 3 + 1, none⟩ = some (.int .i64 a1) ∧ w'.cell? ⟨b, off + k * 3 + 2, none⟩ = some (.int .u32 (a2 : Int)))
            (first | exact hfull.out _ (Upd.refl _ _) | exact hfull.out _ (Upd.drew (Upd.refl _ _)) | exact hfull.out _ (Upd.alloc (And.left (by assumption)) _) | exact hfull.out _ (Upd.drew (And.left (by assumption))) | exact hfull.out _ (by assumption) | exact hfull.out _ (Upd.alloc (by assumption) _) | exact hfull.out _ (upd3 (by assumption)))
            ((go_at_call 27; refine (docPut _ base B1 d1 l2 high bs a2 a1 (hVn.out _ (by first | exact (Upd.refl No _).drew | exact ((Upd.refl No _).alloc _).drew)).1 (hVn.out _ (by first | exact (Upd.refl No _).drew | exact ((Upd.refl No _).alloc _).drew)).2 hszb).mono ?_; rw [HBN.out]; rintro e w6 ⟨B2, d2, l2', rfl, hV6, hu6, hO6⟩; have hc6 := Upd.trans (And.left (by assumption)) hu6; (first | have hn6 := newCellsU rfl hu6 hTn.out | skip)))
          · rename_i hH
            have ua := (Upd.refl No w6).alloc (.cells #[.bool high, .slice B2 l2'.length d2, .int .i64 (bn.length : Int)] 50)
            have hV9 : WVal (w6.alloc (.cells #[.bool high, .slice B2 l2'.length d2, .int .i64 (bn.length : Int)] 50)) base B2 d2 l2' high bn := ⟨own_upd hV6.1 ua (fun _ _ => id), hV6.2⟩
            have q := Blk.new w6 50 #[.bool high, .slice B2 l2'.length d2, .int .i64 (bn.length : Int)]
            have q0 : (w6.alloc (.cells #[.bool high, .slice B2 l2'.length d2, .int .i64 (bn.length : Int)] 50)).cell? ⟨w6.heap.size, 0, none⟩ = some (.bool high) := by rw [q.cell]; rfl
            have q1 : (w6.alloc (.cells #[.bool high, .slice B2 l2'.length d2, .int .i64 (bn.length : Int)] 50)).cell? ⟨w6.heap.size, 1, none⟩ = some (.slice B2 l2'.length d2) := by rw [q.cell]; rfl
            have q2 : (w6.alloc (.cells #[.bool high, .slice B2 l2'.length d2, .int .i64 (bn.length : Int)] 50)).cell? ⟨w6.heap.size, 2, none⟩ = some (.int .i64 (bn.length : Int)) := by rw [q.cell]; rfl
            obtain ⟨hD9, hBt, hU9⟩ := HZ.out _ _ _ _ _ hV9 hH.1 hO6
            obtain ⟨_, e0, e1, e2, _, _⟩ := hH
            have f0 := hD9.frozen 0
            have f1 := hD9.frozen 1
            have f2 := hD9.frozen 2
            have HR := Lib.hid (And.intro hBt hU9)
            clear hD9 hBt hU9 q ua hV9 hc6 hu6 hO6 hV6 HZ hVn hTn hfull
            generalize w6.alloc (.cells #[.bool high, .slice B2 l2'.length d2, .int .i64 (bn.length : Int)] 50) = W9 at *
            generalize w6.heap.size = fb at *
            go_wp2_with fail
            go_meet
            exact ⟨bn, HLn.out, HR.out⟩
          · rename_i hH
            obtain ⟨q0, q1, q2⟩ := newSet (v0 := .bool high) (v1 := .slice B2 l2'.length d2) (v2 := .int .i64 (bn.length : Int)) hn6
            have hlo5 : w5.heap.size < (w5.alloc (.cells #[.bool false, .slice none 0 0, .int .i64 0] 50)).drew.heap.size := by
              show w5.heap.size < (w5.alloc _).heap.size
              simp
            have us : Upd (· = w5.heap.size) w6 (((w6.setCell ⟨w5.heap.size, 0, none⟩ (.bool high)).setCell ⟨w5.heap.size, 1, none⟩ (.slice B2 l2'.length d2)).setCell ⟨w5.heap.size, 2, none⟩ (.int .i64 (bn.length : Int))) := ((((Upd.refl (· = w5.heap.size) w6).setCell (p := ⟨w5.heap.size, 0, none⟩) (fun _ => rfl) _).setCell (p := ⟨w5.heap.size, 1, none⟩) (fun _ => rfl) _).setCell (p := ⟨w5.heap.size, 2, none⟩) (fun _ => rfl) _)
            have hV9 : WVal (((w6.setCell ⟨w5.heap.size, 0, none⟩ (.bool high)).setCell ⟨w5.heap.size, 1, none⟩ (.slice B2 l2'.length d2)).setCell ⟨w5.heap.size, 2, none⟩ (.int .i64 (bn.length : Int))) base B2 d2 l2' high bn := ⟨own_upd hV6.1 us (fun k hk e => by
              rw [ownBlock_slice] at hk
              rcases hO6 k hk with h | h
              · exact hTn.out (by rw [← e]; exact h)
              · omega), hV6.2⟩
            obtain ⟨hD9, hBt, hU9⟩ := HZ.out _ _ _ _ _ hV9 hH.1 (fun k hk => (hO6 k hk).imp_right (fun h => by omega))
            obtain ⟨_, e0, e1, e2, _, _⟩ := hH
            have f0 := hD9.frozen 0
            have f1 := hD9.frozen 1
            have f2 := hD9.frozen 2
            have HR := Lib.hid (And.intro hBt hU9)
            clear hD9 hBt hU9 us hV9 hc6 hu6 hO6 hV6 HZ hVn hTn hfull hn6 hlo5
            generalize ((w6.setCell ⟨w5.heap.size, 0, none⟩ (.bool high)).setCell ⟨w5.heap.size, 1, none⟩ (.slice B2 l2'.length d2)).setCell ⟨w5.heap.size, 2, none⟩ (.int .i64 (bn.length : Int)) = W9 at *
            go_wp2_with fail
            go_meet
            exact ⟨bn, HLn.out, HR.out⟩
      case rest =>
        obtain ⟨bs2, hl2, hBt, hU2⟩ := hcut
        have HB2 := Lib.hid hBt
        have HU2 := Lib.hid hU2
        obtain ⟨A1, c1, l1, B1, d1, l2, hW5, hP5, hD5, hV5, hA5, hBB5⟩ := hBt
        have hll := packed_unique hP5 hV5.2
        subst hll
        have hlb : l1.length ≤ 140737488355328 := by have := hP5.1; omega
        have d0 : wc.cell? ⟨g0, 1, none⟩ = some (.slice B1 l1.length d1) := by rw [hD5.cell]; rfl
        have d4 : wc.cell? ⟨g0, 2, none⟩ = some (.int .i64 (bs2.length : Int)) := by rw [hD5.cell]; rfl
        have hgl := hD5.lt
        have hfull : Hid (∀ w', Upd No wc w' → (Upd No wc w' ∧ w'.cell? ⟨g0, 1, none⟩ = some (.slice B1 l1.length d1) ∧ w'.cell? ⟨g0, 2, none⟩ = some (.int .i64 (bs2.length : Int)))) := Lib.hid fun w' hu => ⟨hu, (World.cell?_of_block (a := ⟨g0, 1, none⟩) (hu.block g0 hgl id)).trans d0, (World.cell?_of_block (a := ⟨g0, 2, none⟩) (hu.block g0 hgl id)).trans d4⟩
        have hWr : Hid (∀ w', Upd No wc w' → Wraw w' base g A1 c1 l1 high bs2.length) := Lib.hid fun w' hu => hW5.upd hu id (fun _ _ => id)
        have hDs : Hid (∀ w', Upd No wc w' → Bs w' w'.heap.size B1 l1) := Lib.hid fun w' hu => Bs.of_own (own_upd hV5.1 hu (fun _ _ => id))
        have hxx : (l1 == l1) = true := by simp
        have HXX := Lib.hid hxx
        clear hW5 hP5 hD5 hV5 hA5 hxx hBB5 hU2
        go_wp2_with fail
        go_region_held3 (fun w' => Upd No wc w' ∧ w'.cell? ⟨g0, 1, none⟩ = some (.slice B1 l1.length d1) ∧ w'.cell? ⟨g0, 2, none⟩ = some (.int .i64 (bs2.length : Int)))
          (first | exact hfull.out _ (Upd.refl _ _) | exact hfull.out _ (Upd.drew (Upd.refl _ _)) | exact hfull.out _ (Upd.drew (And.left (by assumption))) | exact hfull.out _ (Upd.drewN (And.left (by assumption)) _) | exact hfull.out _ (by assumption))
          (first
            | (go_at_call 28; refine (wlen_any _ base g A1 c1 l1 high bs2.length (hWr.out _ (And.left (by assumption)))).mono ?_; rintro e w' ⟨rfl, rfl⟩)
            | (go_at_call 29; refine (wbytes_any _ base g A1 c1 l1 high bs2.length (hWr.out _ (And.left (by assumption))) hlb).mono ?_; rintro e w6 ⟨A6, c6, rfl, hown6, hb6⟩; have hS6 := Upd.trans (And.left (by assumption)) (Upd.of_fresh hb6))
            | (go_at_call 19; refine (same_any A6 B1 c6 d1 l1 l1 _ _ (Bs.cast (Bs.of_own hown6) rfl) (hDs.out _ (And.left (by assumption))) (by unfold maxLen; omega)).mono ?_; rintro e w7 ⟨rfl, n7, rfl⟩; rw [HXX.out]))
        rename_i hH
        have HB9 := Lib.hid (HB2.out.upd hH.1)
        have HU9 := Lib.hid (HU2.out.step hH.1 (fun _ h => h.elim))
        clear hH hS6 hb6 hown6 hfull hWr hDs HXX
        generalize w6.drewN n7 = w9 at *
        go_wp2_with fail
        go_roundg (acts.length - (k + 1))
        case measure => omega
        case rel => exact ⟨k + 1, bs2, by omega, rfl, by go_num, hl2, HB9.out, HU9.out⟩
    · have hkn : k = acts.length := by omega
      subst hkn
      go_wp2_with fail
      go_ret
      exact ⟨rfl, HU.out.below⟩
set_option maxRecDepth 100000 in
theorem lifted (os : Os) (started : os.Started) (H : Type) (enc : TypeId × Value → H) :
    ReturnsInHanded {} Try.checked os 4 .any (Rows.bitsWritesSpec.pre6 enc Try.prog Try.f4 Rows.bitsWritesRow.domain false) (Rows.bitsWritesSpec.post enc Try.prog Try.f4 false true false false) := by
  refine returnsInHanded_of_change_sized (C := Try.checked) prog_own started (by kernel_rfl) Try.func4
    (ChangeSpec.witness6 (enc := enc) (C := Try.checked) false ⟨#[], #[.bool false, .slice none 0 0], []⟩ 8 (by kernel_rfl) (by kernel_rfl) (by kernel_rfl) (by kernel_rfl)) ?_
  intro W base args ds gs before hval0 hW hcnd hsz _
  have hval : ∀ (j : Nat) t v, Try.f4.params[j]? = some t → args[j]? = some v → Value.okWide Try.prog W .any base t v := hval0
  have hW' := hW
  obtain ⟨p, q, hA0, hV, rfl, hfz, hnd⟩ := hW
  have hA : DataW.TrodAll enc Try.prog W 0 (fun _ => true) true Try.f4.params.toList args.toList ds p := hA0
  rw [Try.params4] at hA hval
  obtain ⟨v0, vs0, d0, ds0, p0, q0, hargs, rfl, rfl, h0, r0⟩ := trodAll_cons hA
  obtain ⟨v1, vs1, d1, ds1, p1, q1, rfl, rfl, rfl, h1, r1⟩ := trodAll_cons r0
  obtain ⟨rfl, rfl, rfl⟩ := trodAll_nil r1
  obtain rfl : args = #[v0, v1] := by cases args; simp_all
  obtain ⟨rfl, rfl⟩ := trodVars_none hV
  obtain ⟨high, rfl, rfl, rfl⟩ := open_bool Try.underlying4 (hval 0 4 v0 rfl rfl) h0
  obtain ⟨A1, acts, c1, rfl, ha1, hok1, hd1⟩ := open_acts (hval 1 23 v1 rfl rfl) h1
  have hl1 : acts.length ≤ 5864062014805 := by
    rcases hd1 with ⟨_, rfl⟩ | ⟨e, s, rfl, hle⟩
    · simp
    · have this : (e.length + s.length) * Try.prog.bytesOf 32 ≤ reachBytes := sized_slice hsz (j := 1) (t := 23) (e := 32) rfl rfl Try.underlying23
      rw [bytes_act] at this
      unfold reachBytes at this
      omega
  have lt1 : ∀ x ∈ p1, x.block < W.heap.size := by obtain ⟨m, hm⟩ := h1; exact DataW.trod_lt m _ _ _ hm
  clear hA0 hval0
  refine (walk high A1 c1 acts W ha1 hok1 (by omega)).mono fun e W' ⟨he, bel⟩ => ?_
  subst he
  exact ⟨_, rfl, _, _, _, [], _, [], hW', trodAll_mk1 (shut_bool Try.underlying4 _), (trodAll_cons_mk (shut_bool Try.underlying4 _) (trodAll_cons_mk (Below.trod prog_laid (by kernel_rfl) (of_decide_eq_true (by kernel_rfl)) h1 bel lt1) trodAll_mk0)), rfl, bel.frame _, fun h => by cases h⟩

theorem over : Rows.bitsWritesRow.holds Try.pinned (OpenSpec.ofChange Rows.bitsWritesSpec) :=
  OpenClaim.holds_of_wide 4 Try.f4 rfl rfl rfl rfl rfl rfl rfl ⟨rfl, rfl, rfl, rfl, rfl⟩ rfl rfl rfl rfl rfl (by kernel_rfl) Try.func4 (by kernel_rfl)
    (of_decide_eq_true (by kernel_rfl)) (by unfold Func.isWrapper; first | (rw [if_pos (by decide +kernel)]; kernel_rfl) | (rw [if_neg (by decide +kernel)]; exact ⟨rfl, rfl⟩))
    (fun os started H enc _ => lifted os started H enc)
end BitsWrites

theorem bitsWrites_holds : Rows.BitsWritesSaid := BitsWrites.over
#print axioms bitsWrites_holds
end Go.Proofs.Ytfnldnhlacpdiaa
