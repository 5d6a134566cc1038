/- A file's head, read: where it is such a head as is written, rows from the bottom up or from the top down. -/
import Derived.Test.YtnfjeeflcfmpbaaGreatDoorYr
set_option linter.unusedVariables false
set_option linter.unusedSimpArgs false
namespace Go.Proofs.YtnfjeeflcfmpbaaGreatDoor
open Go.ChangeShapes Go.WideShapes Go.ChangeAt Go.RowKit
theorem hd_box (w : World) (hd : Array Value) : Below w.heap.size w (w.alloc (.cells hd 55)) := (Below.refl _ _).alloc (Nat.le_refl _) _
theorem store8 {w : World} {g : Nat} {a0 a1 a2 a3 a4 a5 a6 a7 : Value} (h : Blk w g 55 #[a0, a1, a2, a3, a4, a5, a6, a7]) (v0 v1 v2 v3 v4 v5 v6 v7 : Value) : Blk ((((((((w.setCell ⟨g, 0, none⟩ v0).setCell ⟨g, 1, none⟩ v1).setCell ⟨g, 2, none⟩ v2).setCell ⟨g, 3, none⟩ v3).setCell ⟨g, 4, none⟩ v4).setCell ⟨g, 5, none⟩ v5).setCell ⟨g, 6, none⟩ v6).setCell ⟨g, 7, none⟩ v7) g 55 #[v0, v1, v2, v3, v4, v5, v6, v7] ∧ Upd (· = g) w ((((((((w.setCell ⟨g, 0, none⟩ v0).setCell ⟨g, 1, none⟩ v1).setCell ⟨g, 2, none⟩ v2).setCell ⟨g, 3, none⟩ v3).setCell ⟨g, 4, none⟩ v4).setCell ⟨g, 5, none⟩ v5).setCell ⟨g, 6, none⟩ v6).setCell ⟨g, 7, none⟩ v7) := by
  refine ⟨by simpa using (((((((h.set_ 0 v0).set_ 1 v1).set_ 2 v2).set_ 3 v3).set_ 4 v4).set_ 5 v5).set_ 6 v6).set_ 7 v7, ?_⟩
  exact ((((((((Upd.refl (· = g) w).setCell (fun _ => rfl) _).setCell (fun _ => rfl) _).setCell (fun _ => rfl) _).setCell (fun _ => rfl) _).setCell (fun _ => rfl) _).setCell (fun _ => rfl) _).setCell (fun _ => rfl) _).setCell (fun _ => rfl) _
theorem secondF_ok (w : World) : Calls Tryz.prog 52 #[hdV 40 0 0 0 false 0 0 0] w fun e w' => e = .returned (.int .i64 0) ∧ Below w.heap.size w w' := by
  have HB := Lib.hid (hd_box w (hdC 40 0 0 0 false 0 0 0))
  go_enter Tryz.func52, Tryz.ntmps52
  go_wp2_with fail
  go_ret
  exact ⟨rfl, HB.out⟩
theorem depthF_ok (w : World) : Calls Tryz.prog 92 #[.int .i64 24] w fun e w' => e = .returned (.bool true) ∧ w' = w := by
  go_enter Tryz.func92, Tryz.ntmps92
  go_wp2_with fail
  go_ret
  exact ⟨rfl, rfl⟩
theorem packingF_ok (p W H : Int) (dn : Bool) (k : Int) (w : World) : Calls Tryz.prog 93 #[hdV 40 p W H dn 24 0 k] w fun e w' => e = .returned (.int .i64 0) ∧ Below w.heap.size w w' := by
  have HB := Lib.hid (hd_box w (hdC 40 p W H dn 24 0 k))
  go_enter Tryz.func93, Tryz.ntmps93
  go_wp2_with fail
  go_ret
  exact ⟨rfl, HB.out⟩
theorem paletteF_no (p W H : Int) (dn : Bool) (k : Int) (w : World) : Calls Tryz.prog 55 #[hdV 40 p W H dn 24 0 k] w fun e w' => e = .returned (.bool false) ∧ Below w.heap.size w w' := by
  have HB := Lib.hid (hd_box w (hdC 40 p W H dn 24 0 k))
  go_enter Tryz.func55, Tryz.ntmps55
  go_wp2_with fail
  go_ret
  exact ⟨rfl, HB.out⟩
set_option maxRecDepth 100000 in
theorem checkedFu_ok (W H : Nat) (hW : 1 ≤ W) (hW2 : W ≤ 4096) (hH : 1 ≤ H) (hH2 : H ≤ 4096) (k : Int) (w : World) : Calls Tryz.prog 54 #[hdV 40 54 (W : Nat) (H : Int) false 24 0 k] w fun e w' => e = .returned (.tuple #[hdV 40 54 (W : Nat) (H : Nat) false 24 0 k, .int .i64 0]) ∧ Below w.heap.size w w' := by
  obtain ⟨bel, hsz, hb1, hb2⟩ := boxes2 w (hdC 40 54 (W : Nat) (H : Int) false 24 0 k) (hdC 0 0 0 0 false 0 0 0) 55 55
  go_enter Tryz.func54, Tryz.ntmps54
  go_upto_region 1 with (fail)
  generalize (w.alloc (.cells (hdC 40 54 (W : Nat) (H : Int) false 24 0 k) 55)).alloc (.cells (hdC 0 0 0 0 false 0 0 0) 55) = w1 at *
  have q3 : w1.cell? ⟨w.heap.size, 3, none⟩ = some (.int .i64 (H : Int)) := hb1.cell 3
  have i0 : ¬ (H : Int) < 0 := by omega
  have HX := Lib.hid (show Blk w1 w.heap.size 55 (hdC 40 54 (W : Nat) (H : Nat) false 24 0 k) ∧ Blk w1 (w.heap.size + 1) 55 (hdC 0 0 0 0 false 0 0 0) ∧ Below w.heap.size w w1 from ⟨hb1, hb2, bel⟩)
  clear hb1 hb2 bel
  go_upto_region 3 with (fail)
  clear q3 i0
  obtain ⟨hb1, hb2, bel⟩ := HX.out
  have c0 : w1.cell? ⟨w.heap.size, 0, none⟩ = some (.int .i64 40) := hb1.cell 0
  have c1 : w1.cell? ⟨w.heap.size, 1, none⟩ = some (.int .i64 54) := hb1.cell 1
  have c2 : w1.cell? ⟨w.heap.size, 2, none⟩ = some (.int .i64 (W : Nat)) := hb1.cell 2
  have c3 : w1.cell? ⟨w.heap.size, 3, none⟩ = some (.int .i64 (H : Nat)) := hb1.cell 3
  have c4 : w1.cell? ⟨w.heap.size, 4, none⟩ = some (.bool false) := hb1.cell 4
  have c5 : w1.cell? ⟨w.heap.size, 5, none⟩ = some (.int .i64 24) := hb1.cell 5
  have c6 : w1.cell? ⟨w.heap.size, 6, none⟩ = some (.int .i64 0) := hb1.cell 6
  have c7 : w1.cell? ⟨w.heap.size, 7, none⟩ = some (.int .i64 k) := hb1.cell 7
  have i1 : ¬ ((W : Int) < 1) := by omega
  have i2 : ((H : Int) == 0) = false := by simp; omega
  clear hb1 hb2 bel
  go_wp2_with (first | (go_at_call 92; refine (depthF_ok _).mono ?_; rintro e w3 ⟨rfl, rfl⟩))
  refine (packingF_ok 54 (W : Nat) (H : Nat) false k _).mono ?_
  rintro e w4 ⟨rfl, hb4⟩
  have HX4 := Lib.hid (show Blk w4 w.heap.size 55 (hdC 40 54 (W : Nat) (H : Nat) false 24 0 k) ∧ Blk w4 (w.heap.size + 1) 55 (hdC 0 0 0 0 false 0 0 0) ∧ Below w.heap.size w w4 from ⟨HX.out.1.upd (Upd.of_fresh hb4) id, HX.out.2.1.upd (Upd.of_fresh hb4) id, HX.out.2.2.trans (hb4.mono HX.out.2.2.size)⟩)
  clear c0 c1 c2 c3 c4 c5 c6 c7 hb4 HX
  obtain ⟨hb1, hb2, bel⟩ := HX4.out
  have c0 : w4.cell? ⟨w.heap.size, 0, none⟩ = some (.int .i64 40) := hb1.cell 0
  have c1 : w4.cell? ⟨w.heap.size, 1, none⟩ = some (.int .i64 54) := hb1.cell 1
  have c2 : w4.cell? ⟨w.heap.size, 2, none⟩ = some (.int .i64 (W : Nat)) := hb1.cell 2
  have c3 : w4.cell? ⟨w.heap.size, 3, none⟩ = some (.int .i64 (H : Nat)) := hb1.cell 3
  have c4 : w4.cell? ⟨w.heap.size, 4, none⟩ = some (.bool false) := hb1.cell 4
  have c5 : w4.cell? ⟨w.heap.size, 5, none⟩ = some (.int .i64 24) := hb1.cell 5
  have c6 : w4.cell? ⟨w.heap.size, 6, none⟩ = some (.int .i64 0) := hb1.cell 6
  have c7 : w4.cell? ⟨w.heap.size, 7, none⟩ = some (.int .i64 k) := hb1.cell 7
  clear hb1 hb2 bel
  go_wp2_with fail
  refine (paletteF_no 54 (W : Nat) (H : Nat) false k w4).mono ?_
  rintro e w5 ⟨rfl, hb5⟩
  have HX5 := Lib.hid (show Blk w5 w.heap.size 55 (hdC 40 54 (W : Nat) (H : Nat) false 24 0 k) ∧ Blk w5 (w.heap.size + 1) 55 (hdC 0 0 0 0 false 0 0 0) ∧ Below w.heap.size w w5 from ⟨HX4.out.1.upd (Upd.of_fresh hb5) id, HX4.out.2.1.upd (Upd.of_fresh hb5) id, HX4.out.2.2.trans (hb5.mono HX4.out.2.2.size)⟩)
  clear c0 c1 c2 c3 c4 c5 c6 c7 hb5 HX4
  obtain ⟨hb1, hb2, bel⟩ := HX5.out
  have c0 : w5.cell? ⟨w.heap.size, 0, none⟩ = some (.int .i64 40) := hb1.cell 0
  have c1 : w5.cell? ⟨w.heap.size, 1, none⟩ = some (.int .i64 54) := hb1.cell 1
  have c2 : w5.cell? ⟨w.heap.size, 2, none⟩ = some (.int .i64 (W : Nat)) := hb1.cell 2
  have c3 : w5.cell? ⟨w.heap.size, 3, none⟩ = some (.int .i64 (H : Nat)) := hb1.cell 3
  have c4 : w5.cell? ⟨w.heap.size, 4, none⟩ = some (.bool false) := hb1.cell 4
  have c5 : w5.cell? ⟨w.heap.size, 5, none⟩ = some (.int .i64 24) := hb1.cell 5
  have c6 : w5.cell? ⟨w.heap.size, 6, none⟩ = some (.int .i64 0) := hb1.cell 6
  have c7 : w5.cell? ⟨w.heap.size, 7, none⟩ = some (.int .i64 k) := hb1.cell 7
  have g0 := hb2.frozen 0
  have g1 := hb2.frozen 1
  have g2 := hb2.frozen 2
  have g3 := hb2.frozen 3
  have g4 := hb2.frozen 4
  have g5 := hb2.frozen 5
  have g6 := hb2.frozen 6
  have g7 := hb2.frozen 7
  have y0 : w5.cell? ⟨w.heap.size + 1, 0, none⟩ = some (.int .i64 0) := hb2.cell 0
  have y1 : w5.cell? ⟨w.heap.size + 1, 1, none⟩ = some (.int .i64 0) := hb2.cell 1
  have y2 : w5.cell? ⟨w.heap.size + 1, 2, none⟩ = some (.int .i64 0) := hb2.cell 2
  have y3 : w5.cell? ⟨w.heap.size + 1, 3, none⟩ = some (.int .i64 0) := hb2.cell 3
  have y4 : w5.cell? ⟨w.heap.size + 1, 4, none⟩ = some (.bool false) := hb2.cell 4
  have y5 : w5.cell? ⟨w.heap.size + 1, 5, none⟩ = some (.int .i64 0) := hb2.cell 5
  have y6 : w5.cell? ⟨w.heap.size + 1, 6, none⟩ = some (.int .i64 0) := hb2.cell 6
  have y7 : w5.cell? ⟨w.heap.size + 1, 7, none⟩ = some (.int .i64 0) := hb2.cell 7
  have hz := store8 hb2 (.int .i64 40) (.int .i64 54) (.int .i64 (W : Nat)) (.int .i64 (H : Nat)) (.bool false) (.int .i64 24) (.int .i64 0) (.int .i64 k)
  have HZ := Lib.hid (And.intro hz.1 (bel.trans (hz.2.below bel.size (fun j hj e => by omega))))
  clear hb1 hb2 bel hz
  go_wp2_with fail
  obtain ⟨z1, z2⟩ := HZ.out
  have e0 := z1.cell 0
  have e1 := z1.cell 1
  have e2 := z1.cell 2
  have e3 := z1.cell 3
  have e4 := z1.cell 4
  have e5 := z1.cell 5
  have e6 := z1.cell 6
  have e7 := z1.cell 7
  refine bodyPost_ret (v := .tuple #[hdV 40 54 (W : Nat) (H : Nat) false 24 0 k, .int .i64 0]) (by simp [results, Tryz.results54, go_sem, e0, e1, e2, e3, e4, e5, e6, e7]) rfl ?_
  exact ⟨rfl, z2⟩
set_option maxRecDepth 100000 in
theorem checkedFt_ok (W H : Nat) (hW : 1 ≤ W) (hW2 : W ≤ 4096) (hH : 1 ≤ H) (hH2 : H ≤ 4096) (k : Int) (w : World) : Calls Tryz.prog 54 #[hdV 40 54 (W : Nat) (-(H : Int)) false 24 0 k] w fun e w' => e = .returned (.tuple #[hdV 40 54 (W : Nat) (H : Nat) true 24 0 k, .int .i64 0]) ∧ Below w.heap.size w w' := by
  obtain ⟨bel, hsz, hb1, hb2⟩ := boxes2 w (hdC 40 54 (W : Nat) (-(H : Int)) false 24 0 k) (hdC 0 0 0 0 false 0 0 0) 55 55
  go_enter Tryz.func54, Tryz.ntmps54
  go_upto_region 1 with (fail)
  generalize (w.alloc (.cells (hdC 40 54 (W : Nat) (-(H : Int)) false 24 0 k) 55)).alloc (.cells (hdC 0 0 0 0 false 0 0 0) 55) = w1 at *
  have q3 : w1.cell? ⟨w.heap.size, 3, none⟩ = some (.int .i64 (-(H : Int))) := hb1.cell 3
  have q4 : w1.cell? ⟨w.heap.size, 4, none⟩ = some (.bool false) := hb1.cell 4
  have f3 := hb1.frozen 3; have f4 := hb1.frozen 4
  have i0 : -(H : Int) < 0 := by omega
  have u2 : Upd (· = w.heap.size) w1 ((w1.setCell ⟨w.heap.size, 3, none⟩ (.int .i64 (H : Int))).setCell ⟨w.heap.size, 4, none⟩ (.bool true)) := ((Upd.refl (· = w.heap.size) w1).setCell (fun _ => rfl) _).setCell (fun _ => rfl) _
  have HX : Hid (Blk ((w1.setCell ⟨w.heap.size, 3, none⟩ (.int .i64 (H : Int))).setCell ⟨w.heap.size, 4, none⟩ (.bool true)) w.heap.size 55 (hdC 40 54 (W : Nat) (H : Nat) true 24 0 k) ∧ Blk ((w1.setCell ⟨w.heap.size, 3, none⟩ (.int .i64 (H : Int))).setCell ⟨w.heap.size, 4, none⟩ (.bool true)) (w.heap.size + 1) 55 (hdC 0 0 0 0 false 0 0 0) ∧ Below w.heap.size w ((w1.setCell ⟨w.heap.size, 3, none⟩ (.int .i64 (H : Int))).setCell ⟨w.heap.size, 4, none⟩ (.bool true))) :=
    Lib.hid ⟨by simpa using (hb1.set_ 3 (.int .i64 (H : Int))).set_ 4 (.bool true), hb2.upd u2 (by omega), bel.trans (u2.below bel.size (fun j hj e => by omega))⟩
  clear hb1 hb2 bel u2
  go_upto_region 3 with (fail)
  clear q3 q4 f3 f4 i0
  generalize (w1.setCell ⟨w.heap.size, 3, none⟩ (.int .i64 (H : Int))).setCell ⟨w.heap.size, 4, none⟩ (.bool true) = w2 at *
  obtain ⟨hb1, hb2, bel⟩ := HX.out
  have c0 : w2.cell? ⟨w.heap.size, 0, none⟩ = some (.int .i64 40) := hb1.cell 0
  have c1 : w2.cell? ⟨w.heap.size, 1, none⟩ = some (.int .i64 54) := hb1.cell 1
  have c2 : w2.cell? ⟨w.heap.size, 2, none⟩ = some (.int .i64 (W : Nat)) := hb1.cell 2
  have c3 : w2.cell? ⟨w.heap.size, 3, none⟩ = some (.int .i64 (H : Nat)) := hb1.cell 3
  have c4 : w2.cell? ⟨w.heap.size, 4, none⟩ = some (.bool true) := hb1.cell 4
  have c5 : w2.cell? ⟨w.heap.size, 5, none⟩ = some (.int .i64 24) := hb1.cell 5
  have c6 : w2.cell? ⟨w.heap.size, 6, none⟩ = some (.int .i64 0) := hb1.cell 6
  have c7 : w2.cell? ⟨w.heap.size, 7, none⟩ = some (.int .i64 k) := hb1.cell 7
  have i1 : ¬ ((W : Int) < 1) := by omega
  have i2 : ((H : Int) == 0) = false := by simp; omega
  clear hb1 hb2 bel
  go_wp2_with (first | (go_at_call 92; refine (depthF_ok _).mono ?_; rintro e w3 ⟨rfl, rfl⟩))
  refine (packingF_ok 54 (W : Nat) (H : Nat) true k _).mono ?_
  rintro e w4 ⟨rfl, hb4⟩
  have HX4 := Lib.hid (show Blk w4 w.heap.size 55 (hdC 40 54 (W : Nat) (H : Nat) true 24 0 k) ∧ Blk w4 (w.heap.size + 1) 55 (hdC 0 0 0 0 false 0 0 0) ∧ Below w.heap.size w w4 from ⟨HX.out.1.upd (Upd.of_fresh hb4) id, HX.out.2.1.upd (Upd.of_fresh hb4) id, HX.out.2.2.trans (hb4.mono HX.out.2.2.size)⟩)
  clear c0 c1 c2 c3 c4 c5 c6 c7 hb4 HX
  obtain ⟨hb1, hb2, bel⟩ := HX4.out
  have c0 : w4.cell? ⟨w.heap.size, 0, none⟩ = some (.int .i64 40) := hb1.cell 0
  have c1 : w4.cell? ⟨w.heap.size, 1, none⟩ = some (.int .i64 54) := hb1.cell 1
  have c2 : w4.cell? ⟨w.heap.size, 2, none⟩ = some (.int .i64 (W : Nat)) := hb1.cell 2
  have c3 : w4.cell? ⟨w.heap.size, 3, none⟩ = some (.int .i64 (H : Nat)) := hb1.cell 3
  have c4 : w4.cell? ⟨w.heap.size, 4, none⟩ = some (.bool true) := hb1.cell 4
  have c5 : w4.cell? ⟨w.heap.size, 5, none⟩ = some (.int .i64 24) := hb1.cell 5
  have c6 : w4.cell? ⟨w.heap.size, 6, none⟩ = some (.int .i64 0) := hb1.cell 6
  have c7 : w4.cell? ⟨w.heap.size, 7, none⟩ = some (.int .i64 k) := hb1.cell 7
  clear hb1 hb2 bel
  go_wp2_with fail
  refine (paletteF_no 54 (W : Nat) (H : Nat) true k w4).mono ?_
  rintro e w5 ⟨rfl, hb5⟩
  have HX5 := Lib.hid (show Blk w5 w.heap.size 55 (hdC 40 54 (W : Nat) (H : Nat) true 24 0 k) ∧ Blk w5 (w.heap.size + 1) 55 (hdC 0 0 0 0 false 0 0 0) ∧ Below w.heap.size w w5 from ⟨HX4.out.1.upd (Upd.of_fresh hb5) id, HX4.out.2.1.upd (Upd.of_fresh hb5) id, HX4.out.2.2.trans (hb5.mono HX4.out.2.2.size)⟩)
  clear c0 c1 c2 c3 c4 c5 c6 c7 hb5 HX4
  obtain ⟨hb1, hb2, bel⟩ := HX5.out
  have c0 : w5.cell? ⟨w.heap.size, 0, none⟩ = some (.int .i64 40) := hb1.cell 0
  have c1 : w5.cell? ⟨w.heap.size, 1, none⟩ = some (.int .i64 54) := hb1.cell 1
  have c2 : w5.cell? ⟨w.heap.size, 2, none⟩ = some (.int .i64 (W : Nat)) := hb1.cell 2
  have c3 : w5.cell? ⟨w.heap.size, 3, none⟩ = some (.int .i64 (H : Nat)) := hb1.cell 3
  have c4 : w5.cell? ⟨w.heap.size, 4, none⟩ = some (.bool true) := hb1.cell 4
  have c5 : w5.cell? ⟨w.heap.size, 5, none⟩ = some (.int .i64 24) := hb1.cell 5
  have c6 : w5.cell? ⟨w.heap.size, 6, none⟩ = some (.int .i64 0) := hb1.cell 6
  have c7 : w5.cell? ⟨w.heap.size, 7, none⟩ = some (.int .i64 k) := hb1.cell 7
  have g0 := hb2.frozen 0
  have g1 := hb2.frozen 1
  have g2 := hb2.frozen 2
  have g3 := hb2.frozen 3
  have g4 := hb2.frozen 4
  have g5 := hb2.frozen 5
  have g6 := hb2.frozen 6
  have g7 := hb2.frozen 7
  have y0 : w5.cell? ⟨w.heap.size + 1, 0, none⟩ = some (.int .i64 0) := hb2.cell 0
  have y1 : w5.cell? ⟨w.heap.size + 1, 1, none⟩ = some (.int .i64 0) := hb2.cell 1
  have y2 : w5.cell? ⟨w.heap.size + 1, 2, none⟩ = some (.int .i64 0) := hb2.cell 2
  have y3 : w5.cell? ⟨w.heap.size + 1, 3, none⟩ = some (.int .i64 0) := hb2.cell 3
  have y4 : w5.cell? ⟨w.heap.size + 1, 4, none⟩ = some (.bool false) := hb2.cell 4
  have y5 : w5.cell? ⟨w.heap.size + 1, 5, none⟩ = some (.int .i64 0) := hb2.cell 5
  have y6 : w5.cell? ⟨w.heap.size + 1, 6, none⟩ = some (.int .i64 0) := hb2.cell 6
  have y7 : w5.cell? ⟨w.heap.size + 1, 7, none⟩ = some (.int .i64 0) := hb2.cell 7
  have hz := store8 hb2 (.int .i64 40) (.int .i64 54) (.int .i64 (W : Nat)) (.int .i64 (H : Nat)) (.bool true) (.int .i64 24) (.int .i64 0) (.int .i64 k)
  have HZ := Lib.hid (And.intro hz.1 (bel.trans (hz.2.below bel.size (fun j hj e => by omega))))
  clear hb1 hb2 bel hz
  go_wp2_with fail
  obtain ⟨z1, z2⟩ := HZ.out
  have e0 := z1.cell 0
  have e1 := z1.cell 1
  have e2 := z1.cell 2
  have e3 := z1.cell 3
  have e4 := z1.cell 4
  have e5 := z1.cell 5
  have e6 := z1.cell 6
  have e7 := z1.cell 7
  refine bodyPost_ret (v := .tuple #[hdV 40 54 (W : Nat) (H : Nat) true 24 0 k, .int .i64 0]) (by simp [results, Tryz.results54, go_sem, e0, e1, e2, e3, e4, e5, e6, e7]) rfl ?_
  exact ⟨rfl, z2⟩
theorem secondT_ok (w : World) : Calls Tryz.prog 52 #[hdV 108 0 0 0 false 0 0 0] w fun e w' => e = .returned (.int .i64 0) ∧ Below w.heap.size w w' := by
  have HB := Lib.hid (hd_box w (hdC 108 0 0 0 false 0 0 0))
  go_enter Tryz.func52, Tryz.ntmps52
  go_wp2_with fail
  go_ret
  exact ⟨rfl, HB.out⟩
theorem depthT_ok (w : World) : Calls Tryz.prog 92 #[.int .i64 32] w fun e w' => e = .returned (.bool true) ∧ w' = w := by
  go_enter Tryz.func92, Tryz.ntmps92
  go_wp2_with fail
  go_ret
  exact ⟨rfl, rfl⟩
theorem packingT_ok (p W H : Int) (dn : Bool) (k : Int) (w : World) : Calls Tryz.prog 93 #[hdV 108 p W H dn 32 3 k] w fun e w' => e = .returned (.int .i64 0) ∧ Below w.heap.size w w' := by
  have HB := Lib.hid (hd_box w (hdC 108 p W H dn 32 3 k))
  go_enter Tryz.func93, Tryz.ntmps93
  go_wp2_with fail
  go_ret
  exact ⟨rfl, HB.out⟩
theorem paletteT_no (p W H : Int) (dn : Bool) (k : Int) (w : World) : Calls Tryz.prog 55 #[hdV 108 p W H dn 32 3 k] w fun e w' => e = .returned (.bool false) ∧ Below w.heap.size w w' := by
  have HB := Lib.hid (hd_box w (hdC 108 p W H dn 32 3 k))
  go_enter Tryz.func55, Tryz.ntmps55
  go_wp2_with fail
  go_ret
  exact ⟨rfl, HB.out⟩
set_option maxRecDepth 100000 in
theorem checkedTu_ok (W H : Nat) (hW : 1 ≤ W) (hW2 : W ≤ 4096) (hH : 1 ≤ H) (hH2 : H ≤ 4096) (k : Int) (w : World) : Calls Tryz.prog 54 #[hdV 108 122 (W : Nat) (H : Int) false 32 3 k] w fun e w' => e = .returned (.tuple #[hdV 108 122 (W : Nat) (H : Nat) false 32 3 k, .int .i64 0]) ∧ Below w.heap.size w w' := by
  obtain ⟨bel, hsz, hb1, hb2⟩ := boxes2 w (hdC 108 122 (W : Nat) (H : Int) false 32 3 k) (hdC 0 0 0 0 false 0 0 0) 55 55
  go_enter Tryz.func54, Tryz.ntmps54
  go_upto_region 1 with (fail)
  generalize (w.alloc (.cells (hdC 108 122 (W : Nat) (H : Int) false 32 3 k) 55)).alloc (.cells (hdC 0 0 0 0 false 0 0 0) 55) = w1 at *
  have q3 : w1.cell? ⟨w.heap.size, 3, none⟩ = some (.int .i64 (H : Int)) := hb1.cell 3
  have i0 : ¬ (H : Int) < 0 := by omega
  have HX := Lib.hid (show Blk w1 w.heap.size 55 (hdC 108 122 (W : Nat) (H : Nat) false 32 3 k) ∧ Blk w1 (w.heap.size + 1) 55 (hdC 0 0 0 0 false 0 0 0) ∧ Below w.heap.size w w1 from ⟨hb1, hb2, bel⟩)
  clear hb1 hb2 bel
  go_upto_region 3 with (fail)
  clear q3 i0
  obtain ⟨hb1, hb2, bel⟩ := HX.out
  have c0 : w1.cell? ⟨w.heap.size, 0, none⟩ = some (.int .i64 108) := hb1.cell 0
  have c1 : w1.cell? ⟨w.heap.size, 1, none⟩ = some (.int .i64 122) := hb1.cell 1
  have c2 : w1.cell? ⟨w.heap.size, 2, none⟩ = some (.int .i64 (W : Nat)) := hb1.cell 2
  have c3 : w1.cell? ⟨w.heap.size, 3, none⟩ = some (.int .i64 (H : Nat)) := hb1.cell 3
  have c4 : w1.cell? ⟨w.heap.size, 4, none⟩ = some (.bool false) := hb1.cell 4
  have c5 : w1.cell? ⟨w.heap.size, 5, none⟩ = some (.int .i64 32) := hb1.cell 5
  have c6 : w1.cell? ⟨w.heap.size, 6, none⟩ = some (.int .i64 3) := hb1.cell 6
  have c7 : w1.cell? ⟨w.heap.size, 7, none⟩ = some (.int .i64 k) := hb1.cell 7
  have i1 : ¬ ((W : Int) < 1) := by omega
  have i2 : ((H : Int) == 0) = false := by simp; omega
  clear hb1 hb2 bel
  go_wp2_with (first | (go_at_call 92; refine (depthT_ok _).mono ?_; rintro e w3 ⟨rfl, rfl⟩))
  refine (packingT_ok 122 (W : Nat) (H : Nat) false k _).mono ?_
  rintro e w4 ⟨rfl, hb4⟩
  have HX4 := Lib.hid (show Blk w4 w.heap.size 55 (hdC 108 122 (W : Nat) (H : Nat) false 32 3 k) ∧ Blk w4 (w.heap.size + 1) 55 (hdC 0 0 0 0 false 0 0 0) ∧ Below w.heap.size w w4 from ⟨HX.out.1.upd (Upd.of_fresh hb4) id, HX.out.2.1.upd (Upd.of_fresh hb4) id, HX.out.2.2.trans (hb4.mono HX.out.2.2.size)⟩)
  clear c0 c1 c2 c3 c4 c5 c6 c7 hb4 HX
  obtain ⟨hb1, hb2, bel⟩ := HX4.out
  have c0 : w4.cell? ⟨w.heap.size, 0, none⟩ = some (.int .i64 108) := hb1.cell 0
  have c1 : w4.cell? ⟨w.heap.size, 1, none⟩ = some (.int .i64 122) := hb1.cell 1
  have c2 : w4.cell? ⟨w.heap.size, 2, none⟩ = some (.int .i64 (W : Nat)) := hb1.cell 2
  have c3 : w4.cell? ⟨w.heap.size, 3, none⟩ = some (.int .i64 (H : Nat)) := hb1.cell 3
  have c4 : w4.cell? ⟨w.heap.size, 4, none⟩ = some (.bool false) := hb1.cell 4
  have c5 : w4.cell? ⟨w.heap.size, 5, none⟩ = some (.int .i64 32) := hb1.cell 5
  have c6 : w4.cell? ⟨w.heap.size, 6, none⟩ = some (.int .i64 3) := hb1.cell 6
  have c7 : w4.cell? ⟨w.heap.size, 7, none⟩ = some (.int .i64 k) := hb1.cell 7
  clear hb1 hb2 bel
  go_wp2_with fail
  refine (paletteT_no 122 (W : Nat) (H : Nat) false k w4).mono ?_
  rintro e w5 ⟨rfl, hb5⟩
  have HX5 := Lib.hid (show Blk w5 w.heap.size 55 (hdC 108 122 (W : Nat) (H : Nat) false 32 3 k) ∧ Blk w5 (w.heap.size + 1) 55 (hdC 0 0 0 0 false 0 0 0) ∧ Below w.heap.size w w5 from ⟨HX4.out.1.upd (Upd.of_fresh hb5) id, HX4.out.2.1.upd (Upd.of_fresh hb5) id, HX4.out.2.2.trans (hb5.mono HX4.out.2.2.size)⟩)
  clear c0 c1 c2 c3 c4 c5 c6 c7 hb5 HX4
  obtain ⟨hb1, hb2, bel⟩ := HX5.out
  have c0 : w5.cell? ⟨w.heap.size, 0, none⟩ = some (.int .i64 108) := hb1.cell 0
  have c1 : w5.cell? ⟨w.heap.size, 1, none⟩ = some (.int .i64 122) := hb1.cell 1
  have c2 : w5.cell? ⟨w.heap.size, 2, none⟩ = some (.int .i64 (W : Nat)) := hb1.cell 2
  have c3 : w5.cell? ⟨w.heap.size, 3, none⟩ = some (.int .i64 (H : Nat)) := hb1.cell 3
  have c4 : w5.cell? ⟨w.heap.size, 4, none⟩ = some (.bool false) := hb1.cell 4
  have c5 : w5.cell? ⟨w.heap.size, 5, none⟩ = some (.int .i64 32) := hb1.cell 5
  have c6 : w5.cell? ⟨w.heap.size, 6, none⟩ = some (.int .i64 3) := hb1.cell 6
  have c7 : w5.cell? ⟨w.heap.size, 7, none⟩ = some (.int .i64 k) := hb1.cell 7
  have g0 := hb2.frozen 0
  have g1 := hb2.frozen 1
  have g2 := hb2.frozen 2
  have g3 := hb2.frozen 3
  have g4 := hb2.frozen 4
  have g5 := hb2.frozen 5
  have g6 := hb2.frozen 6
  have g7 := hb2.frozen 7
  have y0 : w5.cell? ⟨w.heap.size + 1, 0, none⟩ = some (.int .i64 0) := hb2.cell 0
  have y1 : w5.cell? ⟨w.heap.size + 1, 1, none⟩ = some (.int .i64 0) := hb2.cell 1
  have y2 : w5.cell? ⟨w.heap.size + 1, 2, none⟩ = some (.int .i64 0) := hb2.cell 2
  have y3 : w5.cell? ⟨w.heap.size + 1, 3, none⟩ = some (.int .i64 0) := hb2.cell 3
  have y4 : w5.cell? ⟨w.heap.size + 1, 4, none⟩ = some (.bool false) := hb2.cell 4
  have y5 : w5.cell? ⟨w.heap.size + 1, 5, none⟩ = some (.int .i64 0) := hb2.cell 5
  have y6 : w5.cell? ⟨w.heap.size + 1, 6, none⟩ = some (.int .i64 0) := hb2.cell 6
  have y7 : w5.cell? ⟨w.heap.size + 1, 7, none⟩ = some (.int .i64 0) := hb2.cell 7
  have hz := store8 hb2 (.int .i64 108) (.int .i64 122) (.int .i64 (W : Nat)) (.int .i64 (H : Nat)) (.bool false) (.int .i64 32) (.int .i64 3) (.int .i64 k)
  have HZ := Lib.hid (And.intro hz.1 (bel.trans (hz.2.below bel.size (fun j hj e => by omega))))
  clear hb1 hb2 bel hz
  go_wp2_with fail
  obtain ⟨z1, z2⟩ := HZ.out
  have e0 := z1.cell 0
  have e1 := z1.cell 1
  have e2 := z1.cell 2
  have e3 := z1.cell 3
  have e4 := z1.cell 4
  have e5 := z1.cell 5
  have e6 := z1.cell 6
  have e7 := z1.cell 7
  refine bodyPost_ret (v := .tuple #[hdV 108 122 (W : Nat) (H : Nat) false 32 3 k, .int .i64 0]) (by simp [results, Tryz.results54, go_sem, e0, e1, e2, e3, e4, e5, e6, e7]) rfl ?_
  exact ⟨rfl, z2⟩
set_option maxRecDepth 100000 in
theorem checkedTt_ok (W H : Nat) (hW : 1 ≤ W) (hW2 : W ≤ 4096) (hH : 1 ≤ H) (hH2 : H ≤ 4096) (k : Int) (w : World) : Calls Tryz.prog 54 #[hdV 108 122 (W : Nat) (-(H : Int)) false 32 3 k] w fun e w' => e = .returned (.tuple #[hdV 108 122 (W : Nat) (H : Nat) true 32 3 k, .int .i64 0]) ∧ Below w.heap.size w w' := by
  obtain ⟨bel, hsz, hb1, hb2⟩ := boxes2 w (hdC 108 122 (W : Nat) (-(H : Int)) false 32 3 k) (hdC 0 0 0 0 false 0 0 0) 55 55
  go_enter Tryz.func54, Tryz.ntmps54
  go_upto_region 1 with (fail)
  generalize (w.alloc (.cells (hdC 108 122 (W : Nat) (-(H : Int)) false 32 3 k) 55)).alloc (.cells (hdC 0 0 0 0 false 0 0 0) 55) = w1 at *
  have q3 : w1.cell? ⟨w.heap.size, 3, none⟩ = some (.int .i64 (-(H : Int))) := hb1.cell 3
  have q4 : w1.cell? ⟨w.heap.size, 4, none⟩ = some (.bool false) := hb1.cell 4
  have f3 := hb1.frozen 3; have f4 := hb1.frozen 4
  have i0 : -(H : Int) < 0 := by omega
  have u2 : Upd (· = w.heap.size) w1 ((w1.setCell ⟨w.heap.size, 3, none⟩ (.int .i64 (H : Int))).setCell ⟨w.heap.size, 4, none⟩ (.bool true)) := ((Upd.refl (· = w.heap.size) w1).setCell (fun _ => rfl) _).setCell (fun _ => rfl) _
  have HX : Hid (Blk ((w1.setCell ⟨w.heap.size, 3, none⟩ (.int .i64 (H : Int))).setCell ⟨w.heap.size, 4, none⟩ (.bool true)) w.heap.size 55 (hdC 108 122 (W : Nat) (H : Nat) true 32 3 k) ∧ Blk ((w1.setCell ⟨w.heap.size, 3, none⟩ (.int .i64 (H : Int))).setCell ⟨w.heap.size, 4, none⟩ (.bool true)) (w.heap.size + 1) 55 (hdC 0 0 0 0 false 0 0 0) ∧ Below w.heap.size w ((w1.setCell ⟨w.heap.size, 3, none⟩ (.int .i64 (H : Int))).setCell ⟨w.heap.size, 4, none⟩ (.bool true))) :=
    Lib.hid ⟨by simpa using (hb1.set_ 3 (.int .i64 (H : Int))).set_ 4 (.bool true), hb2.upd u2 (by omega), bel.trans (u2.below bel.size (fun j hj e => by omega))⟩
  clear hb1 hb2 bel u2
  go_upto_region 3 with (fail)
  clear q3 q4 f3 f4 i0
  generalize (w1.setCell ⟨w.heap.size, 3, none⟩ (.int .i64 (H : Int))).setCell ⟨w.heap.size, 4, none⟩ (.bool true) = w2 at *
  obtain ⟨hb1, hb2, bel⟩ := HX.out
  have c0 : w2.cell? ⟨w.heap.size, 0, none⟩ = some (.int .i64 108) := hb1.cell 0
  have c1 : w2.cell? ⟨w.heap.size, 1, none⟩ = some (.int .i64 122) := hb1.cell 1
  have c2 : w2.cell? ⟨w.heap.size, 2, none⟩ = some (.int .i64 (W : Nat)) := hb1.cell 2
  have c3 : w2.cell? ⟨w.heap.size, 3, none⟩ = some (.int .i64 (H : Nat)) := hb1.cell 3
  have c4 : w2.cell? ⟨w.heap.size, 4, none⟩ = some (.bool true) := hb1.cell 4
  have c5 : w2.cell? ⟨w.heap.size, 5, none⟩ = some (.int .i64 32) := hb1.cell 5
  have c6 : w2.cell? ⟨w.heap.size, 6, none⟩ = some (.int .i64 3) := hb1.cell 6
  have c7 : w2.cell? ⟨w.heap.size, 7, none⟩ = some (.int .i64 k) := hb1.cell 7
  have i1 : ¬ ((W : Int) < 1) := by omega
  have i2 : ((H : Int) == 0) = false := by simp; omega
  clear hb1 hb2 bel
  go_wp2_with (first | (go_at_call 92; refine (depthT_ok _).mono ?_; rintro e w3 ⟨rfl, rfl⟩))
  refine (packingT_ok 122 (W : Nat) (H : Nat) true k _).mono ?_
  rintro e w4 ⟨rfl, hb4⟩
  have HX4 := Lib.hid (show Blk w4 w.heap.size 55 (hdC 108 122 (W : Nat) (H : Nat) true 32 3 k) ∧ Blk w4 (w.heap.size + 1) 55 (hdC 0 0 0 0 false 0 0 0) ∧ Below w.heap.size w w4 from ⟨HX.out.1.upd (Upd.of_fresh hb4) id, HX.out.2.1.upd (Upd.of_fresh hb4) id, HX.out.2.2.trans (hb4.mono HX.out.2.2.size)⟩)
  clear c0 c1 c2 c3 c4 c5 c6 c7 hb4 HX
  obtain ⟨hb1, hb2, bel⟩ := HX4.out
  have c0 : w4.cell? ⟨w.heap.size, 0, none⟩ = some (.int .i64 108) := hb1.cell 0
  have c1 : w4.cell? ⟨w.heap.size, 1, none⟩ = some (.int .i64 122) := hb1.cell 1
  have c2 : w4.cell? ⟨w.heap.size, 2, none⟩ = some (.int .i64 (W : Nat)) := hb1.cell 2
  have c3 : w4.cell? ⟨w.heap.size, 3, none⟩ = some (.int .i64 (H : Nat)) := hb1.cell 3
  have c4 : w4.cell? ⟨w.heap.size, 4, none⟩ = some (.bool true) := hb1.cell 4
  have c5 : w4.cell? ⟨w.heap.size, 5, none⟩ = some (.int .i64 32) := hb1.cell 5
  have c6 : w4.cell? ⟨w.heap.size, 6, none⟩ = some (.int .i64 3) := hb1.cell 6
  have c7 : w4.cell? ⟨w.heap.size, 7, none⟩ = some (.int .i64 k) := hb1.cell 7
  clear hb1 hb2 bel
  go_wp2_with fail
  refine (paletteT_no 122 (W : Nat) (H : Nat) true k w4).mono ?_
  rintro e w5 ⟨rfl, hb5⟩
  have HX5 := Lib.hid (show Blk w5 w.heap.size 55 (hdC 108 122 (W : Nat) (H : Nat) true 32 3 k) ∧ Blk w5 (w.heap.size + 1) 55 (hdC 0 0 0 0 false 0 0 0) ∧ Below w.heap.size w w5 from ⟨HX4.out.1.upd (Upd.of_fresh hb5) id, HX4.out.2.1.upd (Upd.of_fresh hb5) id, HX4.out.2.2.trans (hb5.mono HX4.out.2.2.size)⟩)
  clear c0 c1 c2 c3 c4 c5 c6 c7 hb5 HX4
  obtain ⟨hb1, hb2, bel⟩ := HX5.out
  have c0 : w5.cell? ⟨w.heap.size, 0, none⟩ = some (.int .i64 108) := hb1.cell 0
  have c1 : w5.cell? ⟨w.heap.size, 1, none⟩ = some (.int .i64 122) := hb1.cell 1
  have c2 : w5.cell? ⟨w.heap.size, 2, none⟩ = some (.int .i64 (W : Nat)) := hb1.cell 2
  have c3 : w5.cell? ⟨w.heap.size, 3, none⟩ = some (.int .i64 (H : Nat)) := hb1.cell 3
  have c4 : w5.cell? ⟨w.heap.size, 4, none⟩ = some (.bool true) := hb1.cell 4
  have c5 : w5.cell? ⟨w.heap.size, 5, none⟩ = some (.int .i64 32) := hb1.cell 5
  have c6 : w5.cell? ⟨w.heap.size, 6, none⟩ = some (.int .i64 3) := hb1.cell 6
  have c7 : w5.cell? ⟨w.heap.size, 7, none⟩ = some (.int .i64 k) := hb1.cell 7
  have g0 := hb2.frozen 0
  have g1 := hb2.frozen 1
  have g2 := hb2.frozen 2
  have g3 := hb2.frozen 3
  have g4 := hb2.frozen 4
  have g5 := hb2.frozen 5
  have g6 := hb2.frozen 6
  have g7 := hb2.frozen 7
  have y0 : w5.cell? ⟨w.heap.size + 1, 0, none⟩ = some (.int .i64 0) := hb2.cell 0
  have y1 : w5.cell? ⟨w.heap.size + 1, 1, none⟩ = some (.int .i64 0) := hb2.cell 1
  have y2 : w5.cell? ⟨w.heap.size + 1, 2, none⟩ = some (.int .i64 0) := hb2.cell 2
  have y3 : w5.cell? ⟨w.heap.size + 1, 3, none⟩ = some (.int .i64 0) := hb2.cell 3
  have y4 : w5.cell? ⟨w.heap.size + 1, 4, none⟩ = some (.bool false) := hb2.cell 4
  have y5 : w5.cell? ⟨w.heap.size + 1, 5, none⟩ = some (.int .i64 0) := hb2.cell 5
  have y6 : w5.cell? ⟨w.heap.size + 1, 6, none⟩ = some (.int .i64 0) := hb2.cell 6
  have y7 : w5.cell? ⟨w.heap.size + 1, 7, none⟩ = some (.int .i64 0) := hb2.cell 7
  have hz := store8 hb2 (.int .i64 108) (.int .i64 122) (.int .i64 (W : Nat)) (.int .i64 (H : Nat)) (.bool true) (.int .i64 32) (.int .i64 3) (.int .i64 k)
  have HZ := Lib.hid (And.intro hz.1 (bel.trans (hz.2.below bel.size (fun j hj e => by omega))))
  clear hb1 hb2 bel hz
  go_wp2_with fail
  obtain ⟨z1, z2⟩ := HZ.out
  have e0 := z1.cell 0
  have e1 := z1.cell 1
  have e2 := z1.cell 2
  have e3 := z1.cell 3
  have e4 := z1.cell 4
  have e5 := z1.cell 5
  have e6 := z1.cell 6
  have e7 := z1.cell 7
  refine bodyPost_ret (v := .tuple #[hdV 108 122 (W : Nat) (H : Nat) true 32 3 k, .int .i64 0]) (by simp [results, Tryz.results54, go_sem, e0, e1, e2, e3, e4, e5, e6, e7]) rfl ?_
  exact ⟨rfl, z2⟩
end Go.Proofs.YtnfjeeflcfmpbaaGreatDoor
