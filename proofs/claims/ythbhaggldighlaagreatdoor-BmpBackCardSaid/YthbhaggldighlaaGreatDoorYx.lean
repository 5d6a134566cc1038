/- Joined texts (a claim has at most 60 files): Ys Yt Yx. -/
import Derived.Test.YthbhaggldighlaaGreatDoorYr
import Derived.Test.YthbhaggldighlaaGreatDoorYp
import Derived.Test.YthbhaggldighlaaGreatDoorYc
import Derived.Test.YthbhaggldighlaaGreatDoorYu
set_option linter.unusedVariables false
set_option linter.unusedSimpArgs false
/- A number's colour, by the masks that are written; what a file's pixels' numbers stand for. -/
namespace Go.Proofs.YthbhaggldighlaaGreatDoor
open Go.ChangeShapes Go.WideShapes Go.ChangeAt Go.RowKit
/-- The colour of a number. -/
def colP (al : Bool) (v : Nat) : Col := ⟨upN ((v / 65536 % 256 : Nat) : Int) 255, upN ((v / 256 % 256 : Nat) : Int) 255, upN ((v / 1 % 256 : Nat) : Int) 255, if al then upN ((v / 16777216 % 256 : Nat) : Int) 255 else 65535⟩
theorem sampN_any (v : Int) (w : World) : Calls Tryz.prog 157 #[.int .u32 v, .int .u32 0] w fun e w' => e = .returned (.int .u16 65535) ∧ ∃ n, w' = w.drewN n := by
  go_enter Tryz.func157, Tryz.ntmps157
  go_wp2_with fail
  go_ret
  exact ⟨rfl, 0, rfl⟩
theorem samp3_al (al : Bool) (v : Nat) (hv : v < 4294967296) (w : World) (hT : Tab32 w) : Calls Tryz.prog 157 #[.int .u32 (v : Nat), .int .u32 (mask3 al : Nat)] w fun e w' => e = .returned (.int .u16 (colP al v).a) ∧ ∃ n, w' = w.drewN n := by
  cases al
  · exact sampN_any _ w
  · exact samp3_any v hv w hT
set_option maxRecDepth 100000 in
set_option maxHeartbeats 4000000 in
theorem mcol_any (al : Bool) (v : Nat) (hv : v < 4294967296) (w : World) (hT : Tab32 w) (hB : 1 < w.heap.size) : Calls Tryz.prog 112 #[mkV 16711680 65280 255 (mask3 al : Nat), .int .u32 (v : Nat)] w fun e w' => e = .returned (colV (colP al v)) ∧ Below w.heap.size w w' := by
  obtain ⟨bel, hsz, hb1, hb2⟩ := boxes2 w (mkC 16711680 65280 255 (mask3 al : Nat)) #[.int .u16 0, .int .u16 0, .int .u16 0, .int .u16 0] 116 77
  obtain ⟨m3, hm3⟩ : ∃ m : Int, (mask3 al : Nat) = m := ⟨_, rfl⟩
  have HS3 : Hid (∀ w, Tab32 w → Calls Tryz.prog 157 #[.int .u32 (v : Nat), .int .u32 m3] w fun e w' => e = .returned (.int .u16 (colP al v).a) ∧ ∃ n, w' = w.drewN n) := Lib.hid (fun w h => by rw [← hm3]; exact samp3_al al v hv w h)
  rw [hm3] at hb1 bel hsz hb2 ⊢
  go_enter Tryz.func112, Tryz.ntmps112
  go_upto_region 1 with (fail)
  generalize (w.alloc (.cells (mkC 16711680 65280 255 m3) 116)).alloc (.cells #[.int .u16 0, .int .u16 0, .int .u16 0, .int .u16 0] 77) = w1 at *
  obtain ⟨U, Wf, hU0, hU1, hU2⟩ := names_of w1
  have z0 : ∀ u, (Wf u).cell? ⟨w.heap.size, 0, none⟩ = some (.int .u32 16711680) := fun u => (hb1.upd (hU1 u) id).cell 0
  have z1 : ∀ u, (Wf u).cell? ⟨w.heap.size, 1, none⟩ = some (.int .u32 65280) := fun u => (hb1.upd (hU1 u) id).cell 1
  have z2 : ∀ u, (Wf u).cell? ⟨w.heap.size, 2, none⟩ = some (.int .u32 255) := fun u => (hb1.upd (hU1 u) id).cell 2
  have z3 : ∀ u, (Wf u).cell? ⟨w.heap.size, 3, none⟩ = some (.int .u32 m3) := fun u => (hb1.upd (hU1 u) id).cell 3
  have hTu : ∀ u, Tab32 (Wf u) := fun u => hT.below (bel.trans ((hU1 u).fresh.mono bel.size)) hB
  have hnx : ∀ u n, ∃ u', (Wf u).drewN n = Wf u' := fun u n => hU2 u _ ⟨rfl, rfl, rfl, Nat.le_refl _, fun _ _ => rfl⟩
  have HC0 : Hid (∀ u, Calls Tryz.prog 157 #[.int .u32 (v : Nat), .int .u32 16711680] (Wf u) fun e w' => e = .returned (.int .u16 (upN ((v / 65536 % 256 : Nat) : Int) 255)) ∧ ∃ u', w' = Wf u') := Lib.hid (fun u => (samp0_any v hv _ (hTu u)).mono fun e w' h => ⟨h.1, by obtain ⟨n, rfl⟩ := h.2; exact hnx u n⟩)
  have HC1 : Hid (∀ u, Calls Tryz.prog 157 #[.int .u32 (v : Nat), .int .u32 65280] (Wf u) fun e w' => e = .returned (.int .u16 (upN ((v / 256 % 256 : Nat) : Int) 255)) ∧ ∃ u', w' = Wf u') := Lib.hid (fun u => (samp1_any v hv _ (hTu u)).mono fun e w' h => ⟨h.1, by obtain ⟨n, rfl⟩ := h.2; exact hnx u n⟩)
  have HC2 : Hid (∀ u, Calls Tryz.prog 157 #[.int .u32 (v : Nat), .int .u32 255] (Wf u) fun e w' => e = .returned (.int .u16 (upN ((v / 1 % 256 : Nat) : Int) 255)) ∧ ∃ u', w' = Wf u') := Lib.hid (fun u => (samp2_any v hv _ (hTu u)).mono fun e w' h => ⟨h.1, by obtain ⟨n, rfl⟩ := h.2; exact hnx u n⟩)
  have HC3 : Hid (∀ u, Calls Tryz.prog 157 #[.int .u32 (v : Nat), .int .u32 m3] (Wf u) fun e w' => e = .returned (.int .u16 (colP al v).a) ∧ ∃ u', w' = Wf u') := Lib.hid (fun u => (HS3.out _ (hTu u)).mono fun e w' h => ⟨h.1, by obtain ⟨n, rfl⟩ := h.2; exact hnx u n⟩)
  have HB2 := Lib.hid (fun u => hb2.upd (hU1 u) id)
  have HBl := Lib.hid (fun u => bel.trans ((hU1 u).fresh.mono bel.size))
  have HU0 := Lib.hid hU0
  have HE : Hid (colP al v = ⟨upN ((v / 65536 % 256 : Nat) : Int) 255, upN ((v / 256 % 256 : Nat) : Int) 255, upN ((v / 1 % 256 : Nat) : Int) 255, (colP al v).a⟩) := Lib.hid rfl
  have hne : Nonempty U := by obtain ⟨u, _⟩ := hU0; exact ⟨u⟩
  clear hU0 hU1 hU2 hTu hnx hm3 HS3 hb1 hb2 bel hT
  generalize (colP al v).a = xa at *
  generalize upN ((v / 65536 % 256 : Nat) : Int) 255 = xr at *
  generalize upN ((v / 256 % 256 : Nat) : Int) 255 = xg at *
  generalize upN ((v / 1 % 256 : Nat) : Int) 255 = xb at *
  refine wp_region_class (fun w' => ∃ u, w' = Wf u) 17 (by kernel_rfl) (by kernel_rfl) HU0.out ?_
  simp only [List.take_succ_cons, List.take_zero, List.drop_succ_cons, List.drop_zero]
  repeat (go_big_quiet_step ((go_at_call 157; first | with_reducible exact HC0.out _ | with_reducible exact HC1.out _ | with_reducible exact HC2.out _ | with_reducible exact HC3.out _)))
  refine wpQuiet_nil ?_
  rintro _ ⟨u, rfl⟩
  have hb := HB2.out u
  have hbl := HBl.out u
  generalize Wf u = w2 at *
  have f0 := hb.frozen 0; have f1 := hb.frozen 1; have f2 := hb.frozen 2; have f3 := hb.frozen 3
  have y0 : w2.cell? ⟨w.heap.size + 1, 0, none⟩ = some (.int .u16 0) := hb.cell 0
  have y1 : w2.cell? ⟨w.heap.size + 1, 1, none⟩ = some (.int .u16 0) := hb.cell 1
  have y2 : w2.cell? ⟨w.heap.size + 1, 2, none⟩ = some (.int .u16 0) := hb.cell 2
  have y3 : w2.cell? ⟨w.heap.size + 1, 3, none⟩ = some (.int .u16 0) := hb.cell 3
  have h9 := set4 hb (.int .u16 xr) (.int .u16 xg) (.int .u16 xb) (.int .u16 xa)
  have u9 := set4_upd w2 (w.heap.size + 1) (.int .u16 xr) (.int .u16 xg) (.int .u16 xb) (.int .u16 xa)
  have H9 := Lib.hid (And.intro h9 (hbl.trans (u9.below hbl.size (fun j hj e => by omega))))
  clear HU0 HB2 HBl HC0 HC1 HC2 HC3 z0 z1 z2 z3 hne h9 u9 hb hbl
  go_wp2_with fail
  obtain ⟨h9, hb9⟩ := H9.out
  have e0 := h9.cell 0; have e1 := h9.cell 1; have e2 := h9.cell 2; have e3 := h9.cell 3
  refine bodyPost_ret (v := colV ⟨xr, xg, xb, xa⟩) (by simp [results, Tryz.results112, go_sem, e0, e1, e2, e3]) rfl ?_
  exact ⟨by rw [HE.out], hb9⟩
end Go.Proofs.YthbhaggldighlaaGreatDoor

/- Masks without alpha, as they are read; what a pixel's number stands for. -/
namespace Go.Proofs.YthbhaggldighlaaGreatDoor
open Go.ChangeShapes Go.WideShapes Go.ChangeAt Go.RowKit

/-- What a file's numbers stand for: the masks lie in a box. -/
abbrev cfV (gm : Nat) : Value := .func (.func 111) #[] #[.pointer (some ⟨gm, 0, none⟩)]
set_option maxRecDepth 100000 in
theorem cfun_any (al : Bool) (v gm : Nat) (hv : v < 4294967296) (w : World) (hT : Tab32 w) (hB : 1 < w.heap.size) (hm : Blk w gm 116 (mkC 16711680 65280 255 (mask3 al : Nat))) :
    Calls Tryz.prog 111 #[.int .u32 (v : Nat), .pointer (some ⟨gm, 0, none⟩)] w fun e w' => e = .returned (.tuple #[colV (colP al v), .bool true]) ∧ Below w.heap.size w w' := by
  have hb := Blk.new w 77 #[.int .u16 0, .int .u16 0, .int .u16 0, .int .u16 0]
  have bel := (Below.refl w.heap.size w).alloc (Nat.le_refl _) (.cells #[.int .u16 0, .int .u16 0, .int .u16 0, .int .u16 0] 77)
  have hm1 := hm.upd ((Upd.refl No w).alloc (.cells #[.int .u16 0, .int .u16 0, .int .u16 0, .int .u16 0] 77)) id
  go_enter Tryz.func111, Tryz.ntmps111
  go_upto_region 1 with (fail)
  generalize w.alloc (.cells #[.int .u16 0, .int .u16 0, .int .u16 0, .int .u16 0] 77) = w1 at *
  have hs := bel.size
  have HC := Lib.hid (mcol_any al v hv w1 (hT.below bel hB) (by omega))
  obtain ⟨m3, hm3⟩ : ∃ m : Int, (mask3 al : Nat) = m := ⟨_, rfl⟩
  rw [hm3] at HC hm1
  clear hm3 hm hT
  have z0 : w1.cell? ⟨gm, 0, none⟩ = some (.int .u32 16711680) := hm1.cell 0
  have z1 : w1.cell? ⟨gm, 1, none⟩ = some (.int .u32 65280) := hm1.cell 1
  have z2 : w1.cell? ⟨gm, 2, none⟩ = some (.int .u32 255) := hm1.cell 2
  have z3 : w1.cell? ⟨gm, 3, none⟩ = some (.int .u32 m3) := hm1.cell 3
  have HBe := Lib.hid bel; have HBk := Lib.hid hb
  clear bel hb hm1
  obtain ⟨x, hx⟩ : ∃ x, colP al v = x := ⟨_, rfl⟩
  rw [hx] at HC
  have HX := Lib.hid hx
  clear hx
  go_wp2_with fail
  refine HC.out.mono ?_
  rintro e w2 ⟨rfl, hb2⟩
  have hb3 := HBk.out.upd (Upd.of_fresh hb2) id
  have hbl := HBe.out.trans (hb2.mono hs)
  have f0 := hb3.frozen 0; have f1 := hb3.frozen 1; have f2 := hb3.frozen 2; have f3 := hb3.frozen 3
  have y0 : w2.cell? ⟨w.heap.size, 0, none⟩ = some (.int .u16 0) := hb3.cell 0
  have y1 : w2.cell? ⟨w.heap.size, 1, none⟩ = some (.int .u16 0) := hb3.cell 1
  have y2 : w2.cell? ⟨w.heap.size, 2, none⟩ = some (.int .u16 0) := hb3.cell 2
  have y3 : w2.cell? ⟨w.heap.size, 3, none⟩ = some (.int .u16 0) := hb3.cell 3
  have h9 := set4 hb3 (.int .u16 x.r) (.int .u16 x.g) (.int .u16 x.b) (.int .u16 x.a)
  have u9 := set4_upd w2 w.heap.size (.int .u16 x.r) (.int .u16 x.g) (.int .u16 x.b) (.int .u16 x.a)
  have H9 := Lib.hid (And.intro h9 (hbl.trans (u9.below hbl.size (fun j hj e => by omega))))
  clear HC hb2 hb3 hbl h9 u9 z0 z1 z2 z3 HBe HBk
  go_wp2_with fail
  obtain ⟨h9, hb9⟩ := H9.out
  have e0 := h9.cell 0; have e1 := h9.cell 1; have e2 := h9.cell 2; have e3 := h9.cell 3
  refine bodyPost_ret (v := .tuple #[colV x, .bool true]) (by simp [results, Tryz.results111, go_sem, e0, e1, e2, e3]) rfl ?_
  exact ⟨by rw [HX.out], hb9⟩
set_option maxRecDepth 100000 in
theorem masksF_ok (gb gf : Nat) (W H k : Int) (dn : Bool) (w : World) : Calls Tryz.prog 110 #[flV gb gf, hdV 40 54 W H dn 24 0 k] w fun e w' => e = .returned (.tuple #[mkV 16711680 65280 255 0, .bool true]) ∧ Below w.heap.size w w' := by
  obtain ⟨bel, hsz, hb1, hb2, hb3⟩ := boxes3 w (flC gb gf) (hdC 40 54 W H dn 24 0 k) (mkC 0 0 0 0) 92 95 116
  go_enter Tryz.func110, Tryz.ntmps110
  go_upto_region 1 with (fail)
  generalize ((w.alloc (.cells (flC gb gf) 92)).alloc (.cells (hdC 40 54 W H dn 24 0 k) 95)).alloc (.cells (mkC 0 0 0 0) 116) = w1 at *
  have c5 : w1.cell? ⟨w.heap.size + 1, 5, none⟩ = some (.int .i64 24) := hb2.cell 5
  have c6 : w1.cell? ⟨w.heap.size + 1, 6, none⟩ = some (.int .i64 0) := hb2.cell 6
  have HB3 := Lib.hid hb3; have HBl := Lib.hid bel
  clear hb1 hb2 hb3 bel
  go_wp2_with fail
  refine (ofBytes_any w1).mono ?_
  rintro e w2 ⟨rfl, hb2⟩
  have hb3 := HB3.out.upd (Upd.of_fresh hb2) id
  have hbl := HBl.out.trans (hb2.mono (by omega))
  have f0 := hb3.frozen 0; have f1 := hb3.frozen 1; have f2 := hb3.frozen 2; have f3 := hb3.frozen 3
  have y0 : w2.cell? ⟨w.heap.size + 1 + 1, 0, none⟩ = some (.int .u32 0) := hb3.cell 0
  have y1 : w2.cell? ⟨w.heap.size + 1 + 1, 1, none⟩ = some (.int .u32 0) := hb3.cell 1
  have y2 : w2.cell? ⟨w.heap.size + 1 + 1, 2, none⟩ = some (.int .u32 0) := hb3.cell 2
  have y3 : w2.cell? ⟨w.heap.size + 1 + 1, 3, none⟩ = some (.int .u32 0) := hb3.cell 3
  have h9 := set4 hb3 (.int .u32 16711680) (.int .u32 65280) (.int .u32 255) (.int .u32 0)
  have u9 := set4_upd w2 (w.heap.size + 1 + 1) (.int .u32 16711680) (.int .u32 65280) (.int .u32 255) (.int .u32 0)
  have H9 := Lib.hid (And.intro h9 (hbl.trans (u9.below hbl.size (fun j hj e => by omega))))
  clear hb2 hb3 hbl h9 u9 HB3 HBl c5 c6
  go_wp2_with fail
  obtain ⟨h9, hb9⟩ := H9.out
  have e0 := h9.cell 0; have e1 := h9.cell 1; have e2 := h9.cell 2; have e3 := h9.cell 3
  refine bodyPost_ret (v := .tuple #[mkV 16711680 65280 255 0, .bool true]) (by simp [results, Tryz.results110, go_sem, e0, e1, e2, e3]) rfl ?_
  exact ⟨rfl, hb9⟩
set_option maxRecDepth 100000 in
theorem colorsF_ok (gb gf : Nat) (W H k : Int) (dn : Bool) (w : World) : Calls Tryz.prog 50 #[flV gb gf, hdV 40 54 W H dn 24 0 k] w fun e w' => ∃ gm, e = .returned (.tuple #[cfV gm, .bool true]) ∧ Blk w' gm 116 (mkC 16711680 65280 255 (mask3 false : Nat)) ∧ Below w.heap.size w w' := by
  obtain ⟨bel, hsz, hb1, hb2⟩ := boxes2 w (flC gb gf) (hdC 40 54 W H dn 24 0 k) 92 95
  go_enter Tryz.func50, Tryz.ntmps50
  go_upto_region 1 with (fail)
  generalize (w.alloc (.cells (flC gb gf) 92)).alloc (.cells (hdC 40 54 W H dn 24 0 k) 95) = w1 at *
  have HB1 := Lib.hid hb1; have HB2 := Lib.hid hb2; have HBl := Lib.hid bel
  have c0 : w1.cell? ⟨w.heap.size + 1, 0, none⟩ = some (.int .i64 40) := hb2.cell 0
  have c1 : w1.cell? ⟨w.heap.size + 1, 1, none⟩ = some (.int .i64 54) := hb2.cell 1
  have c2 : w1.cell? ⟨w.heap.size + 1, 2, none⟩ = some (.int .i64 W) := hb2.cell 2
  have c3 : w1.cell? ⟨w.heap.size + 1, 3, none⟩ = some (.int .i64 H) := hb2.cell 3
  have c4 : w1.cell? ⟨w.heap.size + 1, 4, none⟩ = some (.bool dn) := hb2.cell 4
  have c5 : w1.cell? ⟨w.heap.size + 1, 5, none⟩ = some (.int .i64 24) := hb2.cell 5
  have c6 : w1.cell? ⟨w.heap.size + 1, 6, none⟩ = some (.int .i64 0) := hb2.cell 6
  have c7 : w1.cell? ⟨w.heap.size + 1, 7, none⟩ = some (.int .i64 k) := hb2.cell 7
  clear hb1 hb2 bel
  go_wp2_with fail
  refine (paletteF_no 54 W H dn k w1).mono ?_
  rintro e w2 ⟨rfl, hbx⟩
  have hb1 := HB1.out.upd (Upd.of_fresh hbx) id
  have hb2 := HB2.out.upd (Upd.of_fresh hbx) id
  have HBl2 := Lib.hid (HBl.out.trans (hbx.mono (by omega)))
  have hsz2 := hbx.size
  clear c0 c1 c2 c3 c4 c5 c6 c7 hbx HBl HB1 HB2
  have c0 : w2.cell? ⟨w.heap.size + 1, 0, none⟩ = some (.int .i64 40) := hb2.cell 0
  have c1 : w2.cell? ⟨w.heap.size + 1, 1, none⟩ = some (.int .i64 54) := hb2.cell 1
  have c2 : w2.cell? ⟨w.heap.size + 1, 2, none⟩ = some (.int .i64 W) := hb2.cell 2
  have c3 : w2.cell? ⟨w.heap.size + 1, 3, none⟩ = some (.int .i64 H) := hb2.cell 3
  have c4 : w2.cell? ⟨w.heap.size + 1, 4, none⟩ = some (.bool dn) := hb2.cell 4
  have c5 : w2.cell? ⟨w.heap.size + 1, 5, none⟩ = some (.int .i64 24) := hb2.cell 5
  have c6 : w2.cell? ⟨w.heap.size + 1, 6, none⟩ = some (.int .i64 0) := hb2.cell 6
  have c7 : w2.cell? ⟨w.heap.size + 1, 7, none⟩ = some (.int .i64 k) := hb2.cell 7
  have x0 : w2.cell? ⟨w.heap.size, 0, none⟩ = some (.func (.func 101) #[] #[.pointer (some ⟨gb, 0, none⟩), .pointer (some ⟨gf, 0, none⟩)]) := hb1.cell 0
  have x1 : w2.cell? ⟨w.heap.size, 1, none⟩ = some (.func (.func 103) #[] #[.pointer (some ⟨gf, 0, none⟩)]) := hb1.cell 1
  clear hb1 hb2
  go_wp2_with fail
  refine (masksF_ok gb gf W H k dn w2).mono ?_
  rintro e w3 ⟨rfl, hbx⟩
  have hbl3 := HBl2.out.trans (hbx.mono (by omega))
  have HF : Hid (Blk (w3.alloc (.cells (mkC 16711680 65280 255 0) 116)) w3.heap.size 116 (mkC 16711680 65280 255 (mask3 false : Nat)) ∧ Below w.heap.size w (w3.alloc (.cells (mkC 16711680 65280 255 0) 116))) := Lib.hid ⟨Blk.new w3 _ _, hbl3.alloc hbl3.size _⟩
  clear hbx hbl3 HBl2 c0 c1 c2 c3 c4 c5 c6 c7 x0 x1
  go_wp2_with fail
  go_ret2
  exact ⟨_, rfl, HF.out⟩
end Go.Proofs.YthbhaggldighlaaGreatDoor

/- The image of the numbers. -/
namespace Go.Proofs.YthbhaggldighlaaGreatDoor
open Go.ChangeShapes Go.WideShapes Go.ChangeAt Go.RowKit Go.Shelf

/-- Numbers cut into rows. -/
def pcsN (L : List Nat) (W H : Nat) : List (List Nat) := (List.range H).map fun j => (L.drop (W * j)).take W
theorem pcsN_len {L : List Nat} {W H i : Nat} (hl : L.length = W * H) (hi : i < H) : ((L.drop (W * i)).take W).length = W := by
  have := Nat.mul_le_mul_left W (show i + 1 ≤ H by omega)
  rw [Nat.mul_succ] at this
  rw [List.length_take, List.length_drop, hl]
  omega
theorem pcs_rwn {w : World} {B : Nat} {ad : Addr} {L : List Nat} {W H : Nat} (h : Vs w B (some ad) (nV L)) (hB : B ≤ w.heap.size) (hl : L.length = W * H) : RwN w (pcsV ad W H) (pcsN L W H) := by
  refine ⟨by simp [pcsV, pcsN], fun i h1 h2 => ?_⟩
  simp only [pcsN, List.length_map, List.length_range] at h2
  have hk : W * i ≤ L.length := by rw [hl]; exact Nat.mul_le_mul_left W (by omega)
  refine ⟨some (ad.add (W * i)), W, by simp [pcsV, pcsN, pcsN_len hl h2], ?_⟩
  have h9 := ((h.drop (k := W * i) (cap := L.length + 1) (by rw [nV_length]; exact hk) (by rw [nV_length]; omega)).take W).more hB
  rw [if_neg (by omega)] at h9
  have e : nV ((L.drop (W * i)).take W) = ((nV L).drop (W * i)).take W := by simp [nV, List.map_drop, List.map_take]
  simp only [pcsN, List.getElem_map, List.getElem_range, e]
  exact h9
theorem pcsN_flat {L : List Nat} {W : Nat} : ∀ H, W * H ≤ L.length → ((List.range H).map fun j => (L.drop (W * j)).take W).flatten = L.take (W * H)
  | 0, _ => by simp
  | H + 1, h => by
    rw [List.range_succ, List.map_append, List.flatten_append, pcsN_flat H (by rw [Nat.mul_succ] at h; omega), Nat.mul_succ, List.take_add]
    simp
theorem pcsN_flatten {L : List Nat} {W H : Nat} (hl : L.length = W * H) : (pcsN L W H).flatten = L := by
  rw [pcsN, pcsN_flat H (by omega), ← hl, List.take_length]
theorem rev_flatN : ∀ l : List (List Nat), l.reverse.flatten.length = l.flatten.length
  | [] => rfl
  | x :: l => by simp [rev_flatN l, Nat.add_comm]
/-- The numbers in the order of the image. -/
def ordN (dn : Bool) (L : List Nat) (W H : Nat) : List Nat := (if dn then pcsN L W H else (pcsN L W H).reverse).flatten
theorem ordN_length (dn : Bool) {L : List Nat} {W H : Nat} (hl : L.length = W * H) : (ordN dn L W H).length = W * H := by
  unfold ordN
  cases dn
  · rw [if_neg (by simp), rev_flatN, pcsN_flatten hl, hl]
  · rw [if_pos rfl, pcsN_flatten hl, hl]
theorem ordN_mem (dn : Bool) {L : List Nat} {W H : Nat} (hl : L.length = W * H) {v : Nat} (h : v ∈ ordN dn L W H) : v ∈ L := by
  have : v ∈ (pcsN L W H).flatten := by
    unfold ordN at h
    cases dn
    · simpa using h
    · exact h
  rwa [pcsN_flatten hl] at this
/-- The colours of the first k numbers. -/
def colsK (al : Bool) (L : List Nat) (k : Nat) : List Col := (L.take k).map (colP al)
theorem colsK_succ (al : Bool) (L : List Nat) (k : Nat) (hk : k < L.length) : colsK al L (k + 1) = colsK al L k ++ [colP al L[k]] := by
  unfold colsK
  rw [List.take_succ_eq_append_getElem hk, List.map_append]
  rfl
/-- The world behind k colours. -/
structure ImS (w : World) (hd : Array Value) (al : Bool) (gm bN gn cN : Nat) (L : List Nat) (base k : Nat) (v : Value) (V : World) : Prop where
  hb : Blk V w.heap.size 95 hd
  zb : Blk V (w.heap.size + 1) 26 (imgC 0 0 none 0 0)
  mb : Blk V gm 116 (mkC 16711680 65280 255 (mask3 al : Nat))
  nm : V.ownsRow bN 49 1 (.slice (some ⟨gn, 0, none⟩) L.length cN) L.length (nV L)
  tb : Tab32 V
  hB1 : 1 < w.heap.size
  row : ∃ A c, v = .slice A k c ∧ V.ownsRow base 77 4 (.slice A k c) k (colsV (colsK al L k))
  bw : w.heap.size ≤ base
  bel : Below w.heap.size w V
  bel2 : base ≤ V.heap.size
theorem cs_one (w : World) (x : Col) : Cs (w.alloc (.cells #[.int .u16 x.r, .int .u16 x.g, .int .u16 x.b, .int .u16 x.a] 77)) (w.heap.size + 1) (some ⟨w.heap.size, 0, none⟩) [x] := cs_lit w x
/-- A colour more: its box, the row. -/
theorem ImS.step {w : World} {hd : Array Value} {al : Bool} {gm bN gn cN : Nat} {L : List Nat} {base k : Nat} {A A9 : Option Addr} {c c9 : Nat} {V V1 V2 w9 : World} (h : ImS w hd al gm bN gn cN L base k (.slice A k c) V) (hk : k < L.length)
    (o : V.ownsRow base 77 4 (.slice A k c) k (colsV (colsK al L k))) (hb1 : Below V.heap.size V V2)
    (o9 : w9.ownsRow base 77 4 (.slice A9 (k + 1) c9) (k + 1) (colsV (colsK al L k) ++ colsV [colP al L[k]])) (hg9 : V2.grownBy w9 (Value.slice A k c).ownBlock) : ImS w hd al gm bN gn cN L base (k + 1) (.slice A9 (k + 1) c9) w9 := by
  have u1 := Upd.of_fresh hb1
  have o1 := own_upd o u1 (fun _ _ => id)
  have u9 : Upd (fun j => some j = (Value.slice A k c).ownBlock) V2 w9 := (Upd.of_grown hg9).mono (fun j _ e => e)
  have hs := h.bel2
  have hs1 := hb1.size
  have hbase : Below base V2 w9 := u9.below (by omega) (fun j hj e => by have := (o.lt j e.symm).1; omega)
  have hbw : Below w.heap.size w w9 := (h.bel.trans (hb1.mono h.bel.size)).trans (hbase.mono h.bw)
  refine ⟨(h.hb.upd u1 id).upd u9 (fun e => own_blk_ne o1 (h.hb.upd u1 id) (by decide) e.symm), (h.zb.upd u1 id).upd u9 (fun e => own_blk_ne o1 (h.zb.upd u1 id) (by decide) e.symm), (h.mb.upd u1 id).upd u9 (fun e => own_blk_ne o1 (h.mb.upd u1 id) (by decide) e.symm), own_upd (own_upd h.nm u1 (fun _ _ => id)) u9 (fun j hj e => own_rows_ne (own_upd h.nm u1 (fun _ _ => id)) o1 (by decide) j hj e.symm), (h.tb.below hb1 (by have := h.bw; have := h.hB1; show 1 < _; omega)).below hbase (by have := h.bw; have := h.hB1; show 1 < _; omega), h.hB1, ⟨A9, c9, rfl, ?_⟩, h.bw, hbw, Nat.le_trans hs (Nat.le_trans hs1 hbase.size)⟩
  rw [colsK_succ al L k hk, colsV_append]
  exact o9
end Go.Proofs.YthbhaggldighlaaGreatDoor
