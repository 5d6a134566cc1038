/- Joined texts (a claim has at most 60 files): Ys Yt. -/
import Derived.Test.YtnfjeeflcfmpbaaGreatDoorYr
import Derived.Test.YtnfjeeflcfmpbaaGreatDoorYp
import Derived.Test.YtnfjeeflcfmpbaaGreatDoorYc
/- A number's colour, by the masks that are written; what a file's pixels' numbers stand for. -/
set_option linter.unusedVariables false
set_option linter.unusedSimpArgs false
namespace Go.Proofs.YtnfjeeflcfmpbaaGreatDoor
open Go.ChangeShapes Go.WideShapes Go.ChangeAt Go.RowKit
/-- The colour of a number. -/
def colP (al : Bool) (v : Nat) : Col := ⟨upN ((v / 65536 % 256 : Nat) : Int) 255, upN ((v / 256 % 256 : Nat) : Int) 255, upN ((v / 1 % 256 : Nat) : Int) 255, if al then upN ((v / 16777216 % 256 : Nat) : Int) 255 else 65535⟩
theorem sampN_any (v : Int) (w : World) : Calls Tryz.prog 96 #[.int .u32 v, .int .u32 0] w fun e w' => e = .returned (.int .u16 65535) ∧ ∃ n, w' = w.drewN n := by
  go_enter Tryz.func96, Tryz.ntmps96
  go_wp2_with fail
  go_ret
  exact ⟨rfl, 0, rfl⟩
theorem samp3_al (al : Bool) (v : Nat) (hv : v < 4294967296) (w : World) (hT : Tab32 w) : Calls Tryz.prog 96 #[.int .u32 (v : Nat), .int .u32 (mask3 al : Nat)] w fun e w' => e = .returned (.int .u16 (colP al v).a) ∧ ∃ n, w' = w.drewN n := by
  cases al
  · exact sampN_any _ w
  · exact samp3_any v hv w hT
set_option maxRecDepth 100000 in
set_option maxHeartbeats 4000000 in
theorem mcol_any (al : Bool) (v : Nat) (hv : v < 4294967296) (w : World) (hT : Tab32 w) (hB : 0 < w.heap.size) : Calls Tryz.prog 60 #[mkV 16711680 65280 255 (mask3 al : Nat), .int .u32 (v : Nat)] w fun e w' => e = .returned (colV (colP al v)) ∧ Below w.heap.size w w' := by
  obtain ⟨bel, hsz, hb1, hb2⟩ := boxes2 w (mkC 16711680 65280 255 (mask3 al : Nat)) #[.int .u16 0, .int .u16 0, .int .u16 0, .int .u16 0] 80 49
  obtain ⟨m3, hm3⟩ : ∃ m : Int, (mask3 al : Nat) = m := ⟨_, rfl⟩
  have HS3 : Hid (∀ w, Tab32 w → Calls Tryz.prog 96 #[.int .u32 (v : Nat), .int .u32 m3] w fun e w' => e = .returned (.int .u16 (colP al v).a) ∧ ∃ n, w' = w.drewN n) := Lib.hid (fun w h => by rw [← hm3]; exact samp3_al al v hv w h)
  rw [hm3] at hb1 bel hsz hb2 ⊢
  go_enter Tryz.func60, Tryz.ntmps60
  go_upto_region 1 with (fail)
  generalize (w.alloc (.cells (mkC 16711680 65280 255 m3) 80)).alloc (.cells #[.int .u16 0, .int .u16 0, .int .u16 0, .int .u16 0] 49) = w1 at *
  obtain ⟨U, Wf, hU0, hU1, hU2⟩ := names_of w1
  have z0 : ∀ u, (Wf u).cell? ⟨w.heap.size, 0, none⟩ = some (.int .u32 16711680) := fun u => (hb1.upd (hU1 u) id).cell 0
  have z1 : ∀ u, (Wf u).cell? ⟨w.heap.size, 1, none⟩ = some (.int .u32 65280) := fun u => (hb1.upd (hU1 u) id).cell 1
  have z2 : ∀ u, (Wf u).cell? ⟨w.heap.size, 2, none⟩ = some (.int .u32 255) := fun u => (hb1.upd (hU1 u) id).cell 2
  have z3 : ∀ u, (Wf u).cell? ⟨w.heap.size, 3, none⟩ = some (.int .u32 m3) := fun u => (hb1.upd (hU1 u) id).cell 3
  have hTu : ∀ u, Tab32 (Wf u) := fun u => hT.below (bel.trans ((hU1 u).fresh.mono bel.size)) hB
  have hnx : ∀ u n, ∃ u', (Wf u).drewN n = Wf u' := fun u n => hU2 u _ ⟨rfl, rfl, rfl, Nat.le_refl _, fun _ _ => rfl⟩
  have HC0 : Hid (∀ u, Calls Tryz.prog 96 #[.int .u32 (v : Nat), .int .u32 16711680] (Wf u) fun e w' => e = .returned (.int .u16 (upN ((v / 65536 % 256 : Nat) : Int) 255)) ∧ ∃ u', w' = Wf u') := Lib.hid (fun u => (samp0_any v hv _ (hTu u)).mono fun e w' h => ⟨h.1, by obtain ⟨n, rfl⟩ := h.2; exact hnx u n⟩)
  have HC1 : Hid (∀ u, Calls Tryz.prog 96 #[.int .u32 (v : Nat), .int .u32 65280] (Wf u) fun e w' => e = .returned (.int .u16 (upN ((v / 256 % 256 : Nat) : Int) 255)) ∧ ∃ u', w' = Wf u') := Lib.hid (fun u => (samp1_any v hv _ (hTu u)).mono fun e w' h => ⟨h.1, by obtain ⟨n, rfl⟩ := h.2; exact hnx u n⟩)
  have HC2 : Hid (∀ u, Calls Tryz.prog 96 #[.int .u32 (v : Nat), .int .u32 255] (Wf u) fun e w' => e = .returned (.int .u16 (upN ((v / 1 % 256 : Nat) : Int) 255)) ∧ ∃ u', w' = Wf u') := Lib.hid (fun u => (samp2_any v hv _ (hTu u)).mono fun e w' h => ⟨h.1, by obtain ⟨n, rfl⟩ := h.2; exact hnx u n⟩)
  have HC3 : Hid (∀ u, Calls Tryz.prog 96 #[.int .u32 (v : Nat), .int .u32 m3] (Wf u) fun e w' => e = .returned (.int .u16 (colP al v).a) ∧ ∃ u', w' = Wf u') := Lib.hid (fun u => (HS3.out _ (hTu u)).mono fun e w' h => ⟨h.1, by obtain ⟨n, rfl⟩ := h.2; exact hnx u n⟩)
  have HB2 := Lib.hid (fun u => hb2.upd (hU1 u) id)
  have HBl := Lib.hid (fun u => bel.trans ((hU1 u).fresh.mono bel.size))
  have HU0 := Lib.hid hU0
  have HE : Hid (colP al v = ⟨upN ((v / 65536 % 256 : Nat) : Int) 255, upN ((v / 256 % 256 : Nat) : Int) 255, upN ((v / 1 % 256 : Nat) : Int) 255, (colP al v).a⟩) := Lib.hid rfl
  have hne : Nonempty U := by obtain ⟨u, _⟩ := hU0; exact ⟨u⟩
  clear hU0 hU1 hU2 hTu hnx hm3 HS3 hb1 hb2 bel hT
  generalize (colP al v).a = xa at *
  generalize upN ((v / 65536 % 256 : Nat) : Int) 255 = xr at *
  generalize upN ((v / 256 % 256 : Nat) : Int) 255 = xg at *
  generalize upN ((v / 1 % 256 : Nat) : Int) 255 = xb at *
  refine wp_region_class (fun w' => ∃ u, w' = Wf u) 17 (by kernel_rfl) (by kernel_rfl) HU0.out ?_
  simp only [List.take_succ_cons, List.take_zero, List.drop_succ_cons, List.drop_zero]
  repeat (go_big_quiet_step ((go_at_call 96; first | with_reducible exact HC0.out _ | with_reducible exact HC1.out _ | with_reducible exact HC2.out _ | with_reducible exact HC3.out _)))
  refine wpQuiet_nil ?_
  rintro _ ⟨u, rfl⟩
  have hb := HB2.out u
  have hbl := HBl.out u
  generalize Wf u = w2 at *
  have f0 := hb.frozen 0; have f1 := hb.frozen 1; have f2 := hb.frozen 2; have f3 := hb.frozen 3
  have y0 : w2.cell? ⟨w.heap.size + 1, 0, none⟩ = some (.int .u16 0) := hb.cell 0
  have y1 : w2.cell? ⟨w.heap.size + 1, 1, none⟩ = some (.int .u16 0) := hb.cell 1
  have y2 : w2.cell? ⟨w.heap.size + 1, 2, none⟩ = some (.int .u16 0) := hb.cell 2
  have y3 : w2.cell? ⟨w.heap.size + 1, 3, none⟩ = some (.int .u16 0) := hb.cell 3
  have h9 := set4 hb (.int .u16 xr) (.int .u16 xg) (.int .u16 xb) (.int .u16 xa)
  have u9 := set4_upd w2 (w.heap.size + 1) (.int .u16 xr) (.int .u16 xg) (.int .u16 xb) (.int .u16 xa)
  have H9 := Lib.hid (And.intro h9 (hbl.trans (u9.below hbl.size (fun j hj e => by omega))))
  clear HU0 HB2 HBl HC0 HC1 HC2 HC3 z0 z1 z2 z3 hne h9 u9 hb hbl
  go_wp2_with fail
  obtain ⟨h9, hb9⟩ := H9.out
  have e0 := h9.cell 0; have e1 := h9.cell 1; have e2 := h9.cell 2; have e3 := h9.cell 3
  refine bodyPost_ret (v := colV ⟨xr, xg, xb, xa⟩) (by simp [results, Tryz.results60, go_sem, e0, e1, e2, e3]) rfl ?_
  exact ⟨by rw [HE.out], hb9⟩
end Go.Proofs.YtnfjeeflcfmpbaaGreatDoor

/- Masks without alpha, as they are read; what a pixel's number stands for. -/
set_option linter.unusedVariables false
set_option linter.unusedSimpArgs false
namespace Go.Proofs.YtnfjeeflcfmpbaaGreatDoor
open Go.ChangeShapes Go.WideShapes Go.ChangeAt Go.RowKit

/-- What a file's numbers stand for: the masks lie in a box. -/
abbrev cfV (gm : Nat) : Value := .func (.func 59) #[] #[.pointer (some ⟨gm, 0, none⟩)]
set_option maxRecDepth 100000 in
theorem cfun_any (al : Bool) (v gm : Nat) (hv : v < 4294967296) (w : World) (hT : Tab32 w) (hB : 0 < w.heap.size) (hm : Blk w gm 80 (mkC 16711680 65280 255 (mask3 al : Nat))) :
    Calls Tryz.prog 59 #[.int .u32 (v : Nat), .pointer (some ⟨gm, 0, none⟩)] w fun e w' => e = .returned (.tuple #[colV (colP al v), .bool true]) ∧ Below w.heap.size w w' := by
  have hb := Blk.new w 49 #[.int .u16 0, .int .u16 0, .int .u16 0, .int .u16 0]
  have bel := (Below.refl w.heap.size w).alloc (Nat.le_refl _) (.cells #[.int .u16 0, .int .u16 0, .int .u16 0, .int .u16 0] 49)
  have hm1 := hm.upd ((Upd.refl No w).alloc (.cells #[.int .u16 0, .int .u16 0, .int .u16 0, .int .u16 0] 49)) id
  go_enter Tryz.func59, Tryz.ntmps59
  go_upto_region 1 with (fail)
  generalize w.alloc (.cells #[.int .u16 0, .int .u16 0, .int .u16 0, .int .u16 0] 49) = w1 at *
  have hs := bel.size
  have HC := Lib.hid (mcol_any al v hv w1 (hT.below bel hB) (by omega))
  obtain ⟨m3, hm3⟩ : ∃ m : Int, (mask3 al : Nat) = m := ⟨_, rfl⟩
  rw [hm3] at HC hm1
  clear hm3 hm hT
  have z0 : w1.cell? ⟨gm, 0, none⟩ = some (.int .u32 16711680) := hm1.cell 0
  have z1 : w1.cell? ⟨gm, 1, none⟩ = some (.int .u32 65280) := hm1.cell 1
  have z2 : w1.cell? ⟨gm, 2, none⟩ = some (.int .u32 255) := hm1.cell 2
  have z3 : w1.cell? ⟨gm, 3, none⟩ = some (.int .u32 m3) := hm1.cell 3
  have HBe := Lib.hid bel; have HBk := Lib.hid hb
  clear bel hb hm1
  obtain ⟨x, hx⟩ : ∃ x, colP al v = x := ⟨_, rfl⟩
  rw [hx] at HC
  have HX := Lib.hid hx
  clear hx
  go_wp2_with fail
  refine HC.out.mono ?_
  rintro e w2 ⟨rfl, hb2⟩
  have hb3 := HBk.out.upd (Upd.of_fresh hb2) id
  have hbl := HBe.out.trans (hb2.mono hs)
  have f0 := hb3.frozen 0; have f1 := hb3.frozen 1; have f2 := hb3.frozen 2; have f3 := hb3.frozen 3
  have y0 : w2.cell? ⟨w.heap.size, 0, none⟩ = some (.int .u16 0) := hb3.cell 0
  have y1 : w2.cell? ⟨w.heap.size, 1, none⟩ = some (.int .u16 0) := hb3.cell 1
  have y2 : w2.cell? ⟨w.heap.size, 2, none⟩ = some (.int .u16 0) := hb3.cell 2
  have y3 : w2.cell? ⟨w.heap.size, 3, none⟩ = some (.int .u16 0) := hb3.cell 3
  have h9 := set4 hb3 (.int .u16 x.r) (.int .u16 x.g) (.int .u16 x.b) (.int .u16 x.a)
  have u9 := set4_upd w2 w.heap.size (.int .u16 x.r) (.int .u16 x.g) (.int .u16 x.b) (.int .u16 x.a)
  have H9 := Lib.hid (And.intro h9 (hbl.trans (u9.below hbl.size (fun j hj e => by omega))))
  clear HC hb2 hb3 hbl h9 u9 z0 z1 z2 z3 HBe HBk
  go_wp2_with fail
  obtain ⟨h9, hb9⟩ := H9.out
  have e0 := h9.cell 0; have e1 := h9.cell 1; have e2 := h9.cell 2; have e3 := h9.cell 3
  refine bodyPost_ret (v := .tuple #[colV x, .bool true]) (by simp [results, Tryz.results59, go_sem, e0, e1, e2, e3]) rfl ?_
  exact ⟨by rw [HX.out], hb9⟩
set_option maxRecDepth 100000 in
theorem masksF_ok (gb gf : Nat) (W H k : Int) (dn : Bool) (w : World) : Calls Tryz.prog 58 #[flV gb gf, hdV 40 54 W H dn 24 0 k] w fun e w' => e = .returned (.tuple #[mkV 16711680 65280 255 0, .bool true]) ∧ Below w.heap.size w w' := by
  obtain ⟨bel, hsz, hb1, hb2, hb3⟩ := boxes3 w (flC gb gf) (hdC 40 54 W H dn 24 0 k) (mkC 0 0 0 0) 52 55 80
  go_enter Tryz.func58, Tryz.ntmps58
  go_upto_region 1 with (fail)
  generalize ((w.alloc (.cells (flC gb gf) 52)).alloc (.cells (hdC 40 54 W H dn 24 0 k) 55)).alloc (.cells (mkC 0 0 0 0) 80) = w1 at *
  have c5 : w1.cell? ⟨w.heap.size + 1, 5, none⟩ = some (.int .i64 24) := hb2.cell 5
  have c6 : w1.cell? ⟨w.heap.size + 1, 6, none⟩ = some (.int .i64 0) := hb2.cell 6
  have HB3 := Lib.hid hb3; have HBl := Lib.hid bel
  clear hb1 hb2 hb3 bel
  go_wp2_with fail
  refine (ofBytes_any w1).mono ?_
  rintro e w2 ⟨rfl, hb2⟩
  have hb3 := HB3.out.upd (Upd.of_fresh hb2) id
  have hbl := HBl.out.trans (hb2.mono (by omega))
  have f0 := hb3.frozen 0; have f1 := hb3.frozen 1; have f2 := hb3.frozen 2; have f3 := hb3.frozen 3
  have y0 : w2.cell? ⟨w.heap.size + 1 + 1, 0, none⟩ = some (.int .u32 0) := hb3.cell 0
  have y1 : w2.cell? ⟨w.heap.size + 1 + 1, 1, none⟩ = some (.int .u32 0) := hb3.cell 1
  have y2 : w2.cell? ⟨w.heap.size + 1 + 1, 2, none⟩ = some (.int .u32 0) := hb3.cell 2
  have y3 : w2.cell? ⟨w.heap.size + 1 + 1, 3, none⟩ = some (.int .u32 0) := hb3.cell 3
  have h9 := set4 hb3 (.int .u32 16711680) (.int .u32 65280) (.int .u32 255) (.int .u32 0)
  have u9 := set4_upd w2 (w.heap.size + 1 + 1) (.int .u32 16711680) (.int .u32 65280) (.int .u32 255) (.int .u32 0)
  have H9 := Lib.hid (And.intro h9 (hbl.trans (u9.below hbl.size (fun j hj e => by omega))))
  clear hb2 hb3 hbl h9 u9 HB3 HBl c5 c6
  go_wp2_with fail
  obtain ⟨h9, hb9⟩ := H9.out
  have e0 := h9.cell 0; have e1 := h9.cell 1; have e2 := h9.cell 2; have e3 := h9.cell 3
  refine bodyPost_ret (v := .tuple #[mkV 16711680 65280 255 0, .bool true]) (by simp [results, Tryz.results58, go_sem, e0, e1, e2, e3]) rfl ?_
  exact ⟨rfl, hb9⟩
set_option maxRecDepth 100000 in
theorem colorsF_ok (gb gf : Nat) (W H k : Int) (dn : Bool) (w : World) : Calls Tryz.prog 22 #[flV gb gf, hdV 40 54 W H dn 24 0 k] w fun e w' => ∃ gm, e = .returned (.tuple #[cfV gm, .bool true]) ∧ Blk w' gm 80 (mkC 16711680 65280 255 (mask3 false : Nat)) ∧ Below w.heap.size w w' := by
  obtain ⟨bel, hsz, hb1, hb2⟩ := boxes2 w (flC gb gf) (hdC 40 54 W H dn 24 0 k) 52 55
  go_enter Tryz.func22, Tryz.ntmps22
  go_upto_region 1 with (fail)
  generalize (w.alloc (.cells (flC gb gf) 52)).alloc (.cells (hdC 40 54 W H dn 24 0 k) 55) = w1 at *
  have HB1 := Lib.hid hb1; have HB2 := Lib.hid hb2; have HBl := Lib.hid bel
  have c0 : w1.cell? ⟨w.heap.size + 1, 0, none⟩ = some (.int .i64 40) := hb2.cell 0
  have c1 : w1.cell? ⟨w.heap.size + 1, 1, none⟩ = some (.int .i64 54) := hb2.cell 1
  have c2 : w1.cell? ⟨w.heap.size + 1, 2, none⟩ = some (.int .i64 W) := hb2.cell 2
  have c3 : w1.cell? ⟨w.heap.size + 1, 3, none⟩ = some (.int .i64 H) := hb2.cell 3
  have c4 : w1.cell? ⟨w.heap.size + 1, 4, none⟩ = some (.bool dn) := hb2.cell 4
  have c5 : w1.cell? ⟨w.heap.size + 1, 5, none⟩ = some (.int .i64 24) := hb2.cell 5
  have c6 : w1.cell? ⟨w.heap.size + 1, 6, none⟩ = some (.int .i64 0) := hb2.cell 6
  have c7 : w1.cell? ⟨w.heap.size + 1, 7, none⟩ = some (.int .i64 k) := hb2.cell 7
  clear hb1 hb2 bel
  go_wp2_with fail
  refine (paletteF_no 54 W H dn k w1).mono ?_
  rintro e w2 ⟨rfl, hbx⟩
  have hb1 := HB1.out.upd (Upd.of_fresh hbx) id
  have hb2 := HB2.out.upd (Upd.of_fresh hbx) id
  have HBl2 := Lib.hid (HBl.out.trans (hbx.mono (by omega)))
  have hsz2 := hbx.size
  clear c0 c1 c2 c3 c4 c5 c6 c7 hbx HBl HB1 HB2
  have c0 : w2.cell? ⟨w.heap.size + 1, 0, none⟩ = some (.int .i64 40) := hb2.cell 0
  have c1 : w2.cell? ⟨w.heap.size + 1, 1, none⟩ = some (.int .i64 54) := hb2.cell 1
  have c2 : w2.cell? ⟨w.heap.size + 1, 2, none⟩ = some (.int .i64 W) := hb2.cell 2
  have c3 : w2.cell? ⟨w.heap.size + 1, 3, none⟩ = some (.int .i64 H) := hb2.cell 3
  have c4 : w2.cell? ⟨w.heap.size + 1, 4, none⟩ = some (.bool dn) := hb2.cell 4
  have c5 : w2.cell? ⟨w.heap.size + 1, 5, none⟩ = some (.int .i64 24) := hb2.cell 5
  have c6 : w2.cell? ⟨w.heap.size + 1, 6, none⟩ = some (.int .i64 0) := hb2.cell 6
  have c7 : w2.cell? ⟨w.heap.size + 1, 7, none⟩ = some (.int .i64 k) := hb2.cell 7
  have x0 : w2.cell? ⟨w.heap.size, 0, none⟩ = some (.func (.func 49) #[] #[.pointer (some ⟨gb, 0, none⟩), .pointer (some ⟨gf, 0, none⟩)]) := hb1.cell 0
  have x1 : w2.cell? ⟨w.heap.size, 1, none⟩ = some (.func (.func 51) #[] #[.pointer (some ⟨gf, 0, none⟩)]) := hb1.cell 1
  clear hb1 hb2
  go_wp2_with fail
  refine (masksF_ok gb gf W H k dn w2).mono ?_
  rintro e w3 ⟨rfl, hbx⟩
  have hbl3 := HBl2.out.trans (hbx.mono (by omega))
  have HF : Hid (Blk (w3.alloc (.cells (mkC 16711680 65280 255 0) 80)) w3.heap.size 80 (mkC 16711680 65280 255 (mask3 false : Nat)) ∧ Below w.heap.size w (w3.alloc (.cells (mkC 16711680 65280 255 0) 80))) := Lib.hid ⟨Blk.new w3 _ _, hbl3.alloc hbl3.size _⟩
  clear hbx hbl3 HBl2 c0 c1 c2 c3 c4 c5 c6 c7 x0 x1
  go_wp2_with fail
  go_ret2
  exact ⟨_, rfl, HF.out⟩
end Go.Proofs.YtnfjeeflcfmpbaaGreatDoor
