/- A file's head, read whole: where it is such a head as is written. -/
import Derived.Test.YtnfjeeflcfmpbaaGreatDoorYp
import Derived.Test.YtnfjeeflcfmpbaaGreatDoorCt
import Derived.Test.YtnfjeeflcfmpbaaGreatDoorRo
set_option linter.unusedVariables false
set_option linter.unusedSimpArgs false
namespace Go.Proofs.YtnfjeeflcfmpbaaGreatDoor
open Go.ChangeShapes Go.WideShapes Go.ChangeAt Go.RowKit
/-- Such a head. -/
structure HdOk (al dn : Bool) (W H cnt n : Nat) (l : List UInt8) : Prop where
  h0 : numB false (fun i => byteAt l (0 + i)) 2 = 19778
  h14 : numB false (fun i => byteAt l (14 + i)) 4 = if al then 108 else 40
  h26 : numB false (fun i => byteAt l (26 + i)) 2 = 1
  h10 : numB false (fun i => byteAt l (10 + i)) 4 = if al then 122 else 54
  h18 : numB false (fun i => byteAt l (18 + i)) 4 = W
  h22 : numB false (fun i => byteAt l (22 + i)) 4 = if dn then 4294967296 - H else H
  h28 : numB false (fun i => byteAt l (28 + i)) 2 = if al then 32 else 24
  h30 : numB false (fun i => byteAt l (30 + i)) 4 = if al then 3 else 0
  h46 : numB false (fun i => byteAt l (46 + i)) 4 = cnt
  hn : (if al then 122 else 54) ≤ n
  hnb : n ≤ 4194304
  w1 : 1 ≤ W
  w2 : W ≤ 4096
  h1 : 1 ≤ H
  h2 : H ≤ 4096
/-- The boxes of what reads, of the answer, of the head. -/
structure HrS (w : World) (B gb gf n : Nat) (A : Option Addr) (c : Nat) (l : List UInt8) (gh : Nat) (hd : Array Value) (wr : World) : Prop where
  fl : FlS wr B gb gf n A c l
  fx : Blk wr w.heap.size 52 (flC gb gf)
  rz : Blk wr (w.heap.size + 1) 55 (hdC 0 0 0 0 false 0 0 0)
  hb : Blk wr gh 55 hd
  bel : Below w.heap.size w wr
  ghf : w.heap.size + 1 < gh
theorem HrS.call {w : World} {B gb gf n : Nat} {A : Option Addr} {c : Nat} {l : List UInt8} {gh : Nat} {hd : Array Value} {wr w' : World} (h : HrS w B gb gf n A c l gh hd wr) (hb : Below wr.heap.size wr w') : HrS w B gb gf n A c l gh hd w' :=
  ⟨h.fl.call hb, h.fx.upd (Upd.of_fresh hb) id, h.rz.upd (Upd.of_fresh hb) id, h.hb.upd (Upd.of_fresh hb) id, h.bel.trans (hb.mono h.bel.size), h.ghf⟩
theorem HrS.set_ {w : World} {B gb gf n : Nat} {A : Option Addr} {c : Nat} {l : List UInt8} {gh : Nat} {hd : Array Value} {wr : World} (h : HrS w B gb gf n A c l gh hd wr) (hB : B ≤ w.heap.size) (hgb : gb < w.heap.size) (hgf : gf < w.heap.size) (i : Nat) (v : Value) : HrS w B gb gf n A c l gh (hd.setIfInBounds i v) (wr.setCell ⟨gh, i, none⟩ v) := by
  have u : Upd (· = gh) wr (wr.setCell ⟨gh, i, none⟩ v) := (Upd.refl (· = gh) wr).setCell (fun _ => rfl) _
  have := h.ghf
  exact ⟨h.fl.upd u (by omega) (by omega) (fun k e => by omega), h.fx.upd u (by omega), h.rz.upd u (by omega), h.hb.set_ i v, h.bel.trans (u.below h.bel.size (fun k hk e => by omega)), h.ghf⟩
set_option maxRecDepth 100000 in
set_option maxHeartbeats 4000000 in
theorem headFu_ok (W H cnt n : Nat) (l : List UInt8) (ok : HdOk false false W H cnt n l) (B gb gf c : Nat) (A : Option Addr) (w : World) (h : FlS w B gb gf n A c l) (hB : B ≤ w.heap.size) :
    Calls Tryz.prog 21 #[flV gb gf] w fun e w' => e = .returned (.tuple #[hdV 40 54 (W : Nat) (H : Nat) false 24 0 (cnt : Nat), .int .i64 0]) ∧ Below w.heap.size w w' := by
  obtain ⟨bel, hsz, hb1, hb2⟩ := boxes2 w (flC gb gf) (hdC 0 0 0 0 false 0 0 0) 52 55
  obtain ⟨o0, o14, o26, o10, o18, o22, o28, o30, o46, on, onb, ow1, ow2, oh1, oh2⟩ := ok
  simp only [Bool.false_eq_true, if_false, if_true] at o14 o10 o22 o28 o30 on
  have hcb : cnt < 4294967296 := by rw [← o46]; exact numB_lt _ _ (fun i => byteAt_lt l _) 4 (by omega)
  have hgb := h.bb.lt; have hgf := h.fb.lt
  go_enter Tryz.func21, Tryz.ntmps21
  go_upto_region 1 with (fail)
  have hfl := h.call bel
  generalize (w.alloc (.cells (flC gb gf) 52)).alloc (.cells (hdC 0 0 0 0 false 0 0 0) 55) = q0 at *
  have HFL := Lib.hid hfl; have HF1 := Lib.hid hb1; have HF2 := Lib.hid hb2; have HBel := Lib.hid bel
  clear h hfl hb1 hb2 bel
  obtain ⟨fn0, hfn0⟩ : ∃ v, v = Value.func (.func 49) #[] #[.pointer (some ⟨gb, 0, none⟩), .pointer (some ⟨gf, 0, none⟩)] := ⟨_, rfl⟩
  have x0 : q0.cell? ⟨w.heap.size, 0, none⟩ = some (.func (.func 49) #[] #[.pointer (some ⟨gb, 0, none⟩), .pointer (some ⟨gf, 0, none⟩)]) := HF1.out.cell 0
  clear hfn0 fn0
  have HN := Lib.hid (number_ok q0 B gb gf n c A l HFL.out (by omega) 0 2 0 2 rfl rfl (by omega) (by omega) (by omega) 19778 o0)
  go_wp2_with fail
  refine HN.out.mono ?_
  rintro e q1 ⟨rfl, hbx⟩
  have HF1' := Lib.hid (HF1.out.upd (Upd.of_fresh hbx) id); have HF2' := Lib.hid (HF2.out.upd (Upd.of_fresh hbx) id); have HFL' := Lib.hid (HFL.out.call hbx); have HBel' := Lib.hid (HBel.out.trans (hbx.mono HBel.out.size))
  have hsz1 := hbx.size
  clear x0 HN hbx HF1 HF2 HFL HBel
  have x0 : q1.cell? ⟨w.heap.size, 0, none⟩ = some (.func (.func 49) #[] #[.pointer (some ⟨gb, 0, none⟩), .pointer (some ⟨gf, 0, none⟩)]) := HF1'.out.cell 0
  have HN := Lib.hid (number_ok q1 B gb gf n c A l HFL'.out (by omega) 14 4 14 4 rfl rfl (by omega) (by omega) (by omega) 40 o14)
  go_wp2_with fail
  refine HN.out.mono ?_
  rintro e q2 ⟨rfl, hbx⟩
  have hsz2 := hbx.size
  have u3 := (Upd.of_fresh hbx).alloc (.cells (hdC 40 0 0 0 false 0 0 0) 55)
  have HS3 : Hid (HrS w B gb gf n A c l q2.heap.size (hdC 40 0 0 0 false 0 0 0) (q2.alloc (.cells (hdC 40 0 0 0 false 0 0 0) 55))) := Lib.hid ⟨HFL'.out.upd u3 id id (fun k e => absurd e id), HF1'.out.upd u3 id, HF2'.out.upd u3 id, Blk.new q2 _ _, HBel'.out.trans (u3.fresh.mono HBel'.out.size), by omega⟩
  clear x0 HN hbx u3 HF1' HF2' HFL' HBel'
  go_upto_region 3 with (fail)
  have hsz4 : (q2.alloc (.cells (hdC 40 0 0 0 false 0 0 0) 55)).heap.size = q2.heap.size + 1 := World.size_alloc _ _
  generalize q2.heap.size = gh at *
  generalize q2.alloc (.cells (hdC 40 0 0 0 false 0 0 0) 55) = q3 at *
  have x1 : q3.cell? ⟨w.heap.size, 1, none⟩ = some (.func (.func 51) #[] #[.pointer (some ⟨gf, 0, none⟩)]) := HS3.out.fx.cell 1
  go_wp2_with fail
  refine (whole_ok q3 gf HS3.out.fl.fb).mono ?_
  rintro e q4 ⟨rfl, rfl⟩
  clear x1
  have c0 : q4.cell? ⟨gh, 0, none⟩ = some (.int .i64 40) := HS3.out.hb.cell 0
  have c1 : q4.cell? ⟨gh, 1, none⟩ = some (.int .i64 0) := HS3.out.hb.cell 1
  have c2 : q4.cell? ⟨gh, 2, none⟩ = some (.int .i64 0) := HS3.out.hb.cell 2
  have c3 : q4.cell? ⟨gh, 3, none⟩ = some (.int .i64 0) := HS3.out.hb.cell 3
  have c4 : q4.cell? ⟨gh, 4, none⟩ = some (.bool false) := HS3.out.hb.cell 4
  have c5 : q4.cell? ⟨gh, 5, none⟩ = some (.int .i64 0) := HS3.out.hb.cell 5
  have c6 : q4.cell? ⟨gh, 6, none⟩ = some (.int .i64 0) := HS3.out.hb.cell 6
  have c7 : q4.cell? ⟨gh, 7, none⟩ = some (.int .i64 0) := HS3.out.hb.cell 7
  go_wp2_with fail
  refine (secondF_ok q4).mono ?_
  rintro e q5 ⟨rfl, hb5⟩
  have HS5 := Lib.hid (HS3.out.call hb5)
  clear c0 c1 c2 c3 c4 c5 c6 c7 hb5 HS3
  go_upto_region 8 with (fail)
  obtain ⟨U, Wf, hU0, hU1, hU2⟩ := names_of q5
  have HRU := Lib.hid (fun u => HS5.out.call (hU1 u).fresh)
  have c0 : ∀ u, (Wf u).cell? ⟨gh, 0, none⟩ = some (.int .i64 40) := fun u => (HRU.out u).hb.cell 0
  have c1 : ∀ u, (Wf u).cell? ⟨gh, 1, none⟩ = some (.int .i64 0) := fun u => (HRU.out u).hb.cell 1
  have c2 : ∀ u, (Wf u).cell? ⟨gh, 2, none⟩ = some (.int .i64 0) := fun u => (HRU.out u).hb.cell 2
  have c3 : ∀ u, (Wf u).cell? ⟨gh, 3, none⟩ = some (.int .i64 0) := fun u => (HRU.out u).hb.cell 3
  have c4 : ∀ u, (Wf u).cell? ⟨gh, 4, none⟩ = some (.bool false) := fun u => (HRU.out u).hb.cell 4
  have c5 : ∀ u, (Wf u).cell? ⟨gh, 5, none⟩ = some (.int .i64 0) := fun u => (HRU.out u).hb.cell 5
  have c6 : ∀ u, (Wf u).cell? ⟨gh, 6, none⟩ = some (.int .i64 0) := fun u => (HRU.out u).hb.cell 6
  have c7 : ∀ u, (Wf u).cell? ⟨gh, 7, none⟩ = some (.int .i64 0) := fun u => (HRU.out u).hb.cell 7
  have x0 : ∀ u, (Wf u).cell? ⟨w.heap.size, 0, none⟩ = some (.func (.func 49) #[] #[.pointer (some ⟨gb, 0, none⟩), .pointer (some ⟨gf, 0, none⟩)]) := fun u => (HRU.out u).fx.cell 0
  have HEn : Hid (∀ u, Calls Tryz.prog 34 #[hdV 40 0 0 0 false 0 0 0] (Wf u) fun e w' => e = .returned (.int .i64 54) ∧ ∃ u', w' = Wf u') := Lib.hid (fun u => (end_any 40 0 0 0 false 0 0 0 (by omega) (Wf u)).mono fun e w' h => ⟨h.1, hU2 u w' h.2⟩)
  have HU0 := Lib.hid hU0
  have hne : Nonempty U := by obtain ⟨u, _⟩ := hU0; exact ⟨u⟩
  clear hU0 hU1 hU2
  refine wp_region_class (fun w' => ∃ u, w' = Wf u) 5 (by kernel_rfl) (by kernel_rfl) HU0.out ?_
  simp only [List.take_succ_cons, List.take_zero, List.drop_succ_cons, List.drop_zero]
  repeat (go_big_quiet_step ((go_at_call 34; exact HEn.out _)))
  refine wpQuiet_nil ?_
  rintro _ ⟨u, rfl⟩
  have HS6 := Lib.hid (HRU.out u)
  generalize Wf u = q6 at *
  clear HU0 HRU HEn c0 c1 c2 c3 c4 c5 c6 c7 x0 hne HS5
  obtain ⟨vl, hvl⟩ : ∃ v, numB false (fun i => byteAt l (53 + i)) 1 = v := ⟨_, rfl⟩
  have HN := Lib.hid (number_ok q6 B gb gf n c A l HS6.out.fl (by omega) 53 1 53 1 rfl rfl (by omega) (by omega) (by omega) vl hvl)
  go_wp2_with fail
  refine HN.out.mono ?_
  rintro e q7 ⟨rfl, hbx⟩
  have HS7 := Lib.hid (HS6.out.call hbx)
  clear HN hbx HS6 hvl
  have x0 : q7.cell? ⟨w.heap.size, 0, none⟩ = some (.func (.func 49) #[] #[.pointer (some ⟨gb, 0, none⟩), .pointer (some ⟨gf, 0, none⟩)]) := HS7.out.fx.cell 0
  have HN := Lib.hid (number_ok q7 B gb gf n c A l HS7.out.fl (by omega) 26 2 26 2 rfl rfl (by omega) (by omega) (by omega) 1 o26)
  go_wp2_with fail
  refine HN.out.mono ?_
  rintro e q8 ⟨rfl, hbx⟩
  have HS8 := Lib.hid (HS7.out.call hbx)
  clear HN hbx HS7 x0
  have x0 : q8.cell? ⟨w.heap.size, 0, none⟩ = some (.func (.func 49) #[] #[.pointer (some ⟨gb, 0, none⟩), .pointer (some ⟨gf, 0, none⟩)]) := HS8.out.fx.cell 0
  have HN := Lib.hid (number_ok q8 B gb gf n c A l HS8.out.fl (by omega) 10 4 10 4 rfl rfl (by omega) (by omega) (by omega) 54 o10)
  have cv : q8.cell? ⟨gh, 1, none⟩ = some (.int .i64 0) := HS8.out.hb.cell 1
  go_wp2_with fail
  refine HN.out.mono ?_
  rintro e q9 ⟨rfl, hbx⟩
  have HS9 := Lib.hid (HS8.out.call hbx)
  clear HN hbx HS8 cv x0
  have cv : q9.cell? ⟨gh, 1, none⟩ = some (.int .i64 0) := HS9.out.hb.cell 1
  have kf := HS9.out.hb.frozen 1
  have HS10 := Lib.hid (HS9.out.set_ hB hgb hgf 1 (.int .i64 54))
  go_upto_region 11 with (fail)
  clear cv kf HS9
  generalize q9.setCell ⟨gh, 1, none⟩ (.int .i64 54) = q10 at *
  have HS10' : Hid (HrS w B gb gf n A c l gh #[.int .i64 40, .int .i64 54, .int .i64 0, .int .i64 0, .bool false, .int .i64 0, .int .i64 0, .int .i64 0] q10) := Lib.hid (by have e := HS10.out; simpa using e)
  clear HS10
  have HS10 := HS10'
  clear HS10'
  have x0 : q10.cell? ⟨w.heap.size, 0, none⟩ = some (.func (.func 49) #[] #[.pointer (some ⟨gb, 0, none⟩), .pointer (some ⟨gf, 0, none⟩)]) := HS10.out.fx.cell 0
  have x1 : q10.cell? ⟨w.heap.size, 1, none⟩ = some (.func (.func 51) #[] #[.pointer (some ⟨gf, 0, none⟩)]) := HS10.out.fx.cell 1
  have hz9 : IntKind.i32.wrap ((W : Nat) : Int) = (W : Int) := by
    simp only [IntKind.wrap, IntKind.bits, IntKind.signed]
    simp
    omega
  have HN := Lib.hid (signed_ok q10 B gb gf n c A l HS10.out.fl (by omega) 18 18 rfl (by omega) W o18 (W : Int) hz9 (by omega))
  clear hz9
  have cv : q10.cell? ⟨gh, 2, none⟩ = some (.int .i64 0) := HS10.out.hb.cell 2
  go_wp2_with fail
  refine HN.out.mono ?_
  rintro e q11 ⟨rfl, hbx⟩
  have HS11 := Lib.hid (HS10.out.call hbx)
  clear HN hbx HS10 cv x0 x1
  have cv : q11.cell? ⟨gh, 2, none⟩ = some (.int .i64 0) := HS11.out.hb.cell 2
  have kf := HS11.out.hb.frozen 2
  have HS12 := Lib.hid (HS11.out.set_ hB hgb hgf 2 (.int .i64 (W : Nat)))
  go_upto_region 12 with (fail)
  clear cv kf HS11
  generalize q11.setCell ⟨gh, 2, none⟩ (.int .i64 (W : Nat)) = q12 at *
  have HS12' : Hid (HrS w B gb gf n A c l gh #[.int .i64 40, .int .i64 54, .int .i64 (W : Nat), .int .i64 0, .bool false, .int .i64 0, .int .i64 0, .int .i64 0] q12) := Lib.hid (by have e := HS12.out; simpa using e)
  clear HS12
  have HS12 := HS12'
  clear HS12'
  have x0 : q12.cell? ⟨w.heap.size, 0, none⟩ = some (.func (.func 49) #[] #[.pointer (some ⟨gb, 0, none⟩), .pointer (some ⟨gf, 0, none⟩)]) := HS12.out.fx.cell 0
  have x1 : q12.cell? ⟨w.heap.size, 1, none⟩ = some (.func (.func 51) #[] #[.pointer (some ⟨gf, 0, none⟩)]) := HS12.out.fx.cell 1
  have hz9 : IntKind.i32.wrap ((H : Nat) : Int) = (H : Int) := by
    simp only [IntKind.wrap, IntKind.bits, IntKind.signed]
    simp
    omega
  have HN := Lib.hid (signed_ok q12 B gb gf n c A l HS12.out.fl (by omega) 22 22 rfl (by omega) H o22 (H : Int) hz9 (by omega))
  clear hz9
  have cv : q12.cell? ⟨gh, 3, none⟩ = some (.int .i64 0) := HS12.out.hb.cell 3
  go_wp2_with fail
  refine HN.out.mono ?_
  rintro e q13 ⟨rfl, hbx⟩
  have HS13 := Lib.hid (HS12.out.call hbx)
  clear HN hbx HS12 cv x0 x1
  have cv : q13.cell? ⟨gh, 3, none⟩ = some (.int .i64 0) := HS13.out.hb.cell 3
  have kf := HS13.out.hb.frozen 3
  have HS14 := Lib.hid (HS13.out.set_ hB hgb hgf 3 (.int .i64 (H : Int)))
  go_upto_region 13 with (fail)
  clear cv kf HS13
  generalize q13.setCell ⟨gh, 3, none⟩ (.int .i64 (H : Int)) = q14 at *
  have HS14' : Hid (HrS w B gb gf n A c l gh #[.int .i64 40, .int .i64 54, .int .i64 (W : Nat), .int .i64 (H : Int), .bool false, .int .i64 0, .int .i64 0, .int .i64 0] q14) := Lib.hid (by have e := HS14.out; simpa using e)
  clear HS14
  have HS14 := HS14'
  clear HS14'
  have x0 : q14.cell? ⟨w.heap.size, 0, none⟩ = some (.func (.func 49) #[] #[.pointer (some ⟨gb, 0, none⟩), .pointer (some ⟨gf, 0, none⟩)]) := HS14.out.fx.cell 0
  have HN := Lib.hid (number_ok q14 B gb gf n c A l HS14.out.fl (by omega) 28 2 28 2 rfl rfl (by omega) (by omega) (by omega) 24 o28)
  have cv : q14.cell? ⟨gh, 5, none⟩ = some (.int .i64 0) := HS14.out.hb.cell 5
  go_wp2_with fail
  refine HN.out.mono ?_
  rintro e q15 ⟨rfl, hbx⟩
  have HS15 := Lib.hid (HS14.out.call hbx)
  clear HN hbx HS14 cv x0
  have cv : q15.cell? ⟨gh, 5, none⟩ = some (.int .i64 0) := HS15.out.hb.cell 5
  have kf := HS15.out.hb.frozen 5
  have HS16 := Lib.hid (HS15.out.set_ hB hgb hgf 5 (.int .i64 24))
  go_upto_region 14 with (fail)
  clear cv kf HS15
  generalize q15.setCell ⟨gh, 5, none⟩ (.int .i64 24) = q16 at *
  have HS16' : Hid (HrS w B gb gf n A c l gh #[.int .i64 40, .int .i64 54, .int .i64 (W : Nat), .int .i64 (H : Int), .bool false, .int .i64 24, .int .i64 0, .int .i64 0] q16) := Lib.hid (by have e := HS16.out; simpa using e)
  clear HS16
  have HS16 := HS16'
  clear HS16'
  have x0 : q16.cell? ⟨w.heap.size, 0, none⟩ = some (.func (.func 49) #[] #[.pointer (some ⟨gb, 0, none⟩), .pointer (some ⟨gf, 0, none⟩)]) := HS16.out.fx.cell 0
  have HN := Lib.hid (number_ok q16 B gb gf n c A l HS16.out.fl (by omega) 30 4 30 4 rfl rfl (by omega) (by omega) (by omega) 0 o30)
  have cv : q16.cell? ⟨gh, 6, none⟩ = some (.int .i64 0) := HS16.out.hb.cell 6
  go_wp2_with fail
  refine HN.out.mono ?_
  rintro e q17 ⟨rfl, hbx⟩
  have HS17 := Lib.hid (HS16.out.call hbx)
  clear HN hbx HS16 cv x0
  have cv : q17.cell? ⟨gh, 6, none⟩ = some (.int .i64 0) := HS17.out.hb.cell 6
  have kf := HS17.out.hb.frozen 6
  have HS18 := Lib.hid (HS17.out.set_ hB hgb hgf 6 (.int .i64 0))
  go_upto_region 15 with (fail)
  clear cv kf HS17
  generalize q17.setCell ⟨gh, 6, none⟩ (.int .i64 0) = q18 at *
  have HS18' : Hid (HrS w B gb gf n A c l gh #[.int .i64 40, .int .i64 54, .int .i64 (W : Nat), .int .i64 (H : Int), .bool false, .int .i64 24, .int .i64 0, .int .i64 0] q18) := Lib.hid (by have e := HS18.out; simpa using e)
  clear HS18
  have HS18 := HS18'
  clear HS18'
  have x0 : q18.cell? ⟨w.heap.size, 0, none⟩ = some (.func (.func 49) #[] #[.pointer (some ⟨gb, 0, none⟩), .pointer (some ⟨gf, 0, none⟩)]) := HS18.out.fx.cell 0
  have HN := Lib.hid (number_ok q18 B gb gf n c A l HS18.out.fl (by omega) 46 4 46 4 rfl rfl (by omega) (by omega) (by omega) cnt o46)
  have cv : q18.cell? ⟨gh, 7, none⟩ = some (.int .i64 0) := HS18.out.hb.cell 7
  go_wp2_with fail
  refine HN.out.mono ?_
  rintro e q19 ⟨rfl, hbx⟩
  have HS19 := Lib.hid (HS18.out.call hbx)
  clear HN hbx HS18 cv x0
  have cv : q19.cell? ⟨gh, 7, none⟩ = some (.int .i64 0) := HS19.out.hb.cell 7
  have kf := HS19.out.hb.frozen 7
  have HS20 := Lib.hid (HS19.out.set_ hB hgb hgf 7 (.int .i64 (cnt : Nat)))
  go_upto_region 16 with (fail)
  clear cv kf HS19
  generalize q19.setCell ⟨gh, 7, none⟩ (.int .i64 (cnt : Nat)) = q20 at *
  have HS20' : Hid (HrS w B gb gf n A c l gh #[.int .i64 40, .int .i64 54, .int .i64 (W : Nat), .int .i64 (H : Int), .bool false, .int .i64 24, .int .i64 0, .int .i64 (cnt : Nat)] q20) := Lib.hid (by have e := HS20.out; simpa using e)
  clear HS20
  have HS20 := HS20'
  clear HS20'
  have x1 : q20.cell? ⟨w.heap.size, 1, none⟩ = some (.func (.func 51) #[] #[.pointer (some ⟨gf, 0, none⟩)]) := HS20.out.fx.cell 1
  go_wp2_with fail
  refine (whole_ok q20 gf HS20.out.fl.fb).mono ?_
  rintro e q21 ⟨rfl, rfl⟩
  clear x1
  have c0 : q21.cell? ⟨gh, 0, none⟩ = some (.int .i64 40) := HS20.out.hb.cell 0
  have c1 : q21.cell? ⟨gh, 1, none⟩ = some (.int .i64 54) := HS20.out.hb.cell 1
  have c2 : q21.cell? ⟨gh, 2, none⟩ = some (.int .i64 (W : Nat)) := HS20.out.hb.cell 2
  have c3 : q21.cell? ⟨gh, 3, none⟩ = some (.int .i64 (H : Int)) := HS20.out.hb.cell 3
  have c4 : q21.cell? ⟨gh, 4, none⟩ = some (.bool false) := HS20.out.hb.cell 4
  have c5 : q21.cell? ⟨gh, 5, none⟩ = some (.int .i64 24) := HS20.out.hb.cell 5
  have c6 : q21.cell? ⟨gh, 6, none⟩ = some (.int .i64 0) := HS20.out.hb.cell 6
  have c7 : q21.cell? ⟨gh, 7, none⟩ = some (.int .i64 (cnt : Nat)) := HS20.out.hb.cell 7
  go_wp2_with fail
  refine (checkedFu_ok W H (by omega) (by omega) (by omega) (by omega) (cnt : Nat) q21).mono ?_
  rintro e q22 ⟨rfl, hbx⟩
  have HSz := Lib.hid (HS20.out.call hbx)
  clear c0 c1 c2 c3 c4 c5 c6 c7 hbx HS20
  have g0 := HSz.out.rz.frozen 0
  have y0 : q22.cell? ⟨w.heap.size + 1, 0, none⟩ = some (.int .i64 0) := HSz.out.rz.cell 0
  have g1 := HSz.out.rz.frozen 1
  have y1 : q22.cell? ⟨w.heap.size + 1, 1, none⟩ = some (.int .i64 0) := HSz.out.rz.cell 1
  have g2 := HSz.out.rz.frozen 2
  have y2 : q22.cell? ⟨w.heap.size + 1, 2, none⟩ = some (.int .i64 0) := HSz.out.rz.cell 2
  have g3 := HSz.out.rz.frozen 3
  have y3 : q22.cell? ⟨w.heap.size + 1, 3, none⟩ = some (.int .i64 0) := HSz.out.rz.cell 3
  have g4 := HSz.out.rz.frozen 4
  have y4 : q22.cell? ⟨w.heap.size + 1, 4, none⟩ = some (.bool false) := HSz.out.rz.cell 4
  have g5 := HSz.out.rz.frozen 5
  have y5 : q22.cell? ⟨w.heap.size + 1, 5, none⟩ = some (.int .i64 0) := HSz.out.rz.cell 5
  have g6 := HSz.out.rz.frozen 6
  have y6 : q22.cell? ⟨w.heap.size + 1, 6, none⟩ = some (.int .i64 0) := HSz.out.rz.cell 6
  have g7 := HSz.out.rz.frozen 7
  have y7 : q22.cell? ⟨w.heap.size + 1, 7, none⟩ = some (.int .i64 0) := HSz.out.rz.cell 7
  have hz := store8 HSz.out.rz (.int .i64 40) (.int .i64 54) (.int .i64 (W : Nat)) (.int .i64 (H : Nat)) (.bool false) (.int .i64 24) (.int .i64 0) (.int .i64 (cnt : Nat))
  have HZ := Lib.hid (And.intro hz.1 (HSz.out.bel.trans (hz.2.below HSz.out.bel.size (fun j hj e => by omega))))
  clear hz HSz
  go_wp2_with fail
  obtain ⟨z1, z2⟩ := HZ.out
  have e0 := z1.cell 0
  have e1 := z1.cell 1
  have e2 := z1.cell 2
  have e3 := z1.cell 3
  have e4 := z1.cell 4
  have e5 := z1.cell 5
  have e6 := z1.cell 6
  have e7 := z1.cell 7
  refine bodyPost_ret (v := .tuple #[hdV 40 54 (W : Nat) (H : Nat) false 24 0 (cnt : Nat), .int .i64 0]) (by simp [results, Tryz.results21, go_sem, e0, e1, e2, e3, e4, e5, e6, e7]) rfl ?_
  exact ⟨rfl, z2⟩
end Go.Proofs.YtnfjeeflcfmpbaaGreatDoor
