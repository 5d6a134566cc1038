/- The masks with alpha, as they are read. -/
import Derived.Test.YtnfjeeflcfmpbaaGreatDoorZn
import Derived.Test.YtnfjeeflcfmpbaaGreatDoorYx
import Derived.Laws.EntriesVeiled
import Derived.Deep.RegionWith
set_option linter.unusedVariables false
set_option linter.unusedSimpArgs false
namespace Go.Proofs.YtnfjeeflcfmpbaaGreatDoor
open Go.ChangeShapes Go.WideShapes Go.ChangeAt Go.RowKit

/-- The masks' numbers stand in the file. -/
structure MskOk (n : Nat) (l : List UInt8) : Prop where
  m0 : numB false (fun i => byteAt l (54 + i)) 4 = 16711680
  m1 : numB false (fun i => byteAt l (58 + i)) 4 = 65280
  m2 : numB false (fun i => byteAt l (62 + i)) 4 = 255
  m3 : numB false (fun i => byteAt l (66 + i)) 4 = 4278190080
  hn : 122 ≤ n
  hnb : n ≤ 4194304
/-- The boxes of what reads, of the head, of the answer, of the masks. -/
structure MkS (w : World) (hd : Array Value) (B gb gf n : Nat) (A : Option Addr) (c : Nat) (l : List UInt8) (ms : Array Value) (wr : World) : Prop where
  fx : Blk wr w.heap.size 52 (flC gb gf)
  hb : Blk wr (w.heap.size + 1) 55 hd
  rz : Blk wr (w.heap.size + 1 + 1) 80 (mkC 0 0 0 0)
  mb : Blk wr (w.heap.size + 1 + 1 + 1) 80 ms
  fl : FlS wr B gb gf n A c l
  bel : Below w.heap.size w wr
theorem MkS.call {w : World} {hd : Array Value} {B gb gf n : Nat} {A : Option Addr} {c : Nat} {l : List UInt8} {ms : Array Value} {wr w' : World} (h : MkS w hd B gb gf n A c l ms wr) (hb : Below wr.heap.size wr w') : MkS w hd B gb gf n A c l ms w' :=
  ⟨h.fx.upd (Upd.of_fresh hb) id, h.hb.upd (Upd.of_fresh hb) id, h.rz.upd (Upd.of_fresh hb) id, h.mb.upd (Upd.of_fresh hb) id, h.fl.call hb, h.bel.trans (hb.mono h.bel.size)⟩
theorem MkS.set_ {w : World} {hd : Array Value} {B gb gf n : Nat} {A : Option Addr} {c : Nat} {l : List UInt8} {ms : Array Value} {wr : World} (h : MkS w hd B gb gf n A c l ms wr) (hgb : gb < w.heap.size) (hgf : gf < w.heap.size) (hB : B ≤ w.heap.size) (i : Nat) (v : Value) : MkS w hd B gb gf n A c l (ms.setIfInBounds i v) (wr.setCell ⟨w.heap.size + 1 + 1 + 1, i, none⟩ v) := by
  have u : Upd (· = w.heap.size + 1 + 1 + 1) wr (wr.setCell ⟨w.heap.size + 1 + 1 + 1, i, none⟩ v) := (Upd.refl (· = w.heap.size + 1 + 1 + 1) wr).setCell (fun _ => rfl) _
  exact ⟨h.fx.upd u (by omega), h.hb.upd u (by omega), h.rz.upd u (by omega), h.mb.set_ i v, h.fl.upd u (by omega) (by omega) (fun k e => by omega), h.bel.trans (u.below h.bel.size (fun k hk e => by omega))⟩
set_option maxRecDepth 100000 in
set_option maxHeartbeats 8000000 in
theorem masksT_ok (p W H k : Int) (dn : Bool) (n : Nat) (l : List UInt8) (ok : MskOk n l) (B gb gf c : Nat) (A : Option Addr) (w : World) (h : FlS w B gb gf n A c l) (hB : B ≤ w.heap.size) :
    Calls Tryz.prog 58 #[flV gb gf, hdV 108 p W H dn 32 3 k] w fun e w' => e = .returned (.tuple #[mkV 16711680 65280 255 4278190080, .bool true]) ∧ Below w.heap.size w w' := by
  obtain ⟨bel, hsz, hb1, hb2, hb3⟩ := boxes3 w (flC gb gf) (hdC 108 p W H dn 32 3 k) (mkC 0 0 0 0) 52 55 80
  have hgb := h.bb.lt; have hgf := h.fb.lt
  have hnb := ok.hnb; have hn1 := ok.hn
  have HOK := Lib.hid ok
  have hmix : Tryz.prog.follows .mixedOrders = true := by kernel_rfl
  clear ok
  go_enter Tryz.func58, Tryz.ntmps58
  go_upto_region 1 with (fail)
  have hfl := h.call bel
  generalize ((w.alloc (.cells (flC gb gf) 52)).alloc (.cells (hdC 108 p W H dn 32 3 k) 55)).alloc (.cells (mkC 0 0 0 0) 80) = w1 at *
  have c6 : w1.cell? ⟨w.heap.size + 1, 6, none⟩ = some (.int .i64 3) := hb2.cell 6
  have c0 : w1.cell? ⟨w.heap.size + 1, 0, none⟩ = some (.int .i64 108) := hb2.cell 0
  have HB1 := Lib.hid hb1; have HB2 := Lib.hid hb2; have HB3 := Lib.hid hb3; have HBl := Lib.hid bel; have HFL := Lib.hid hfl
  clear h hfl hb1 hb2 hb3 bel
  go_upto_region 8 with (fail)
  have ua := (Upd.refl No w1).alloc (.cells (mkC 0 0 0 0) 80)
  have hst : MkS w (hdC 108 p W H dn 32 3 k) B gb gf n A c l (mkC 0 0 0 0) (w1.alloc (.cells (mkC 0 0 0 0) 80)) := ⟨HB1.out.upd ua id, HB2.out.upd ua id, HB3.out.upd ua id, by rw [← hsz]; exact Blk.new w1 _ _, HFL.out.upd ua id id (fun k e => absurd e id), HBl.out.trans (ua.fresh.mono HBl.out.size)⟩
  have HST := Lib.hid hst
  try rw [hsz]
  generalize w1.alloc (.cells (mkC 0 0 0 0) 80) = w2 at *
  clear c0 c6 hst ua HB1 HB2 HB3 HBl HFL
  go_wp2_with fail
  go_loopw [25] (fun i wr => (i = .int .i64 0 ∧ Hid (MkS w (hdC 108 p W H dn 32 3 k) B gb gf n A c l (mkC 0 0 0 0) wr)) ∨ (i = .int .i64 1 ∧ Hid (MkS w (hdC 108 p W H dn 32 3 k) B gb gf n A c l (mkC 16711680 0 0 0) wr)) ∨ (i = .int .i64 2 ∧ Hid (MkS w (hdC 108 p W H dn 32 3 k) B gb gf n A c l (mkC 16711680 65280 0 0) wr)) ∨ (i = .int .i64 3 ∧ Hid (MkS w (hdC 108 p W H dn 32 3 k) B gb gf n A c l (mkC 16711680 65280 255 0) wr)) ∨ (i = .int .i64 4 ∧ Hid (MkS w (hdC 108 p W H dn 32 3 k) B gb gf n A c l (mkC 16711680 65280 255 4278190080) wr))) (fun i _ => 4 - (intOf i).toNat)
  case atStart => exact .inl ⟨rfl, HST⟩
  case round =>
    clear HST
    rcases hrel with ⟨rfl, HX⟩ | ⟨rfl, HX⟩ | ⟨rfl, HX⟩ | ⟨rfl, HX⟩ | ⟨rfl, HX⟩
    · have x0 : wr.cell? ⟨w.heap.size, 0, none⟩ = some (.func (.func 49) #[] #[.pointer (some ⟨gb, 0, none⟩), .pointer (some ⟨gf, 0, none⟩)]) := HX.out.fx.cell 0
      have c6 : wr.cell? ⟨w.heap.size + 1, 6, none⟩ = some (.int .i64 3) := HX.out.hb.cell 6
      have c0 : wr.cell? ⟨w.heap.size + 1, 0, none⟩ = some (.int .i64 108) := HX.out.hb.cell 0
      go_wp2_with fail
      refine (number_ok wr B gb gf n c A l HX.out.fl (by omega) 54 4 54 4 rfl rfl (by omega) (by omega) (by omega) 16711680 HOK.out.m0).mono ?_
      rintro e w3 ⟨rfl, hb3⟩
      have h3 := HX.out.call hb3
      have kf := h3.mb.frozen 0
      have kc : w3.cell? ⟨w.heap.size + 1 + 1 + 1, 0, none⟩ = some (.int .u32 0) := h3.mb.cell 0
      have HN : Hid (MkS w (hdC 108 p W H dn 32 3 k) B gb gf n A c l (mkC 16711680 0 0 0) (w3.setCell ⟨w.heap.size + 1 + 1 + 1, 0, none⟩ (.int .u32 16711680))) := Lib.hid (by simpa using h3.set_ hgb hgf hB 0 (.int .u32 16711680))
      clear x0 c6 c0 h3 HX hb3
      go_wp2_with fail
      go_roundw
      case rel => exact .inr (.inl ⟨rfl, HN⟩)
      case measure => simp [intOf]
    · have x0 : wr.cell? ⟨w.heap.size, 0, none⟩ = some (.func (.func 49) #[] #[.pointer (some ⟨gb, 0, none⟩), .pointer (some ⟨gf, 0, none⟩)]) := HX.out.fx.cell 0
      have c6 : wr.cell? ⟨w.heap.size + 1, 6, none⟩ = some (.int .i64 3) := HX.out.hb.cell 6
      have c0 : wr.cell? ⟨w.heap.size + 1, 0, none⟩ = some (.int .i64 108) := HX.out.hb.cell 0
      go_wp2_with fail
      refine (number_ok wr B gb gf n c A l HX.out.fl (by omega) 58 4 58 4 rfl rfl (by omega) (by omega) (by omega) 65280 HOK.out.m1).mono ?_
      rintro e w3 ⟨rfl, hb3⟩
      have h3 := HX.out.call hb3
      have kf := h3.mb.frozen 1
      have kc : w3.cell? ⟨w.heap.size + 1 + 1 + 1, 1, none⟩ = some (.int .u32 0) := h3.mb.cell 1
      have HN : Hid (MkS w (hdC 108 p W H dn 32 3 k) B gb gf n A c l (mkC 16711680 65280 0 0) (w3.setCell ⟨w.heap.size + 1 + 1 + 1, 1, none⟩ (.int .u32 65280))) := Lib.hid (by simpa using h3.set_ hgb hgf hB 1 (.int .u32 65280))
      clear x0 c6 c0 h3 HX hb3
      go_wp2_with fail
      go_roundw
      case rel => exact .inr (.inr (.inl ⟨rfl, HN⟩))
      case measure => simp [intOf]
    · have x0 : wr.cell? ⟨w.heap.size, 0, none⟩ = some (.func (.func 49) #[] #[.pointer (some ⟨gb, 0, none⟩), .pointer (some ⟨gf, 0, none⟩)]) := HX.out.fx.cell 0
      have c6 : wr.cell? ⟨w.heap.size + 1, 6, none⟩ = some (.int .i64 3) := HX.out.hb.cell 6
      have c0 : wr.cell? ⟨w.heap.size + 1, 0, none⟩ = some (.int .i64 108) := HX.out.hb.cell 0
      go_wp2_with fail
      refine (number_ok wr B gb gf n c A l HX.out.fl (by omega) 62 4 62 4 rfl rfl (by omega) (by omega) (by omega) 255 HOK.out.m2).mono ?_
      rintro e w3 ⟨rfl, hb3⟩
      have h3 := HX.out.call hb3
      have kf := h3.mb.frozen 2
      have kc : w3.cell? ⟨w.heap.size + 1 + 1 + 1, 2, none⟩ = some (.int .u32 0) := h3.mb.cell 2
      have HN : Hid (MkS w (hdC 108 p W H dn 32 3 k) B gb gf n A c l (mkC 16711680 65280 255 0) (w3.setCell ⟨w.heap.size + 1 + 1 + 1, 2, none⟩ (.int .u32 255))) := Lib.hid (by simpa using h3.set_ hgb hgf hB 2 (.int .u32 255))
      clear x0 c6 c0 h3 HX hb3
      go_wp2_with fail
      go_roundw
      case rel => exact .inr (.inr (.inr (.inl ⟨rfl, HN⟩)))
      case measure => simp [intOf]
    · have x0 : wr.cell? ⟨w.heap.size, 0, none⟩ = some (.func (.func 49) #[] #[.pointer (some ⟨gb, 0, none⟩), .pointer (some ⟨gf, 0, none⟩)]) := HX.out.fx.cell 0
      have c6 : wr.cell? ⟨w.heap.size + 1, 6, none⟩ = some (.int .i64 3) := HX.out.hb.cell 6
      have c0 : wr.cell? ⟨w.heap.size + 1, 0, none⟩ = some (.int .i64 108) := HX.out.hb.cell 0
      go_wp2_with fail
      refine (number_ok wr B gb gf n c A l HX.out.fl (by omega) 66 4 66 4 rfl rfl (by omega) (by omega) (by omega) 4278190080 HOK.out.m3).mono ?_
      rintro e w3 ⟨rfl, hb3⟩
      have h3 := HX.out.call hb3
      have kf := h3.mb.frozen 3
      have kc : w3.cell? ⟨w.heap.size + 1 + 1 + 1, 3, none⟩ = some (.int .u32 0) := h3.mb.cell 3
      have HN : Hid (MkS w (hdC 108 p W H dn 32 3 k) B gb gf n A c l (mkC 16711680 65280 255 4278190080) (w3.setCell ⟨w.heap.size + 1 + 1 + 1, 3, none⟩ (.int .u32 4278190080))) := Lib.hid (by simpa using h3.set_ hgb hgf hB 3 (.int .u32 4278190080))
      clear x0 c6 c0 h3 HX hb3
      go_wp2_with fail
      go_roundw
      case rel => exact .inr (.inr (.inr (.inr (⟨rfl, HN⟩))))
      case measure => simp [intOf]
    · go_upto_region 14 with (fail)
      have k0 : wr.drew.cell? ⟨w.heap.size + 1 + 1 + 1, 0, none⟩ = some (.int .u32 16711680) := HX.out.mb.cell 0
      have k1 : wr.drew.cell? ⟨w.heap.size + 1 + 1 + 1, 1, none⟩ = some (.int .u32 65280) := HX.out.mb.cell 1
      have k2 : wr.drew.cell? ⟨w.heap.size + 1 + 1 + 1, 2, none⟩ = some (.int .u32 255) := HX.out.mb.cell 2
      have k3 : wr.drew.cell? ⟨w.heap.size + 1 + 1 + 1, 3, none⟩ = some (.int .u32 4278190080) := HX.out.mb.cell 3
      have x1 : wr.drew.cell? ⟨w.heap.size, 1, none⟩ = some (.func (.func 51) #[] #[.pointer (some ⟨gf, 0, none⟩)]) := HX.out.fx.cell 1
      have c5 : wr.drew.cell? ⟨w.heap.size + 1, 5, none⟩ = some (.int .i64 32) := HX.out.hb.cell 5
      have HW := Lib.hid (whole_ok wr.drew gf HX.out.fl.fb)
      have HM := Lib.hid (mayBeT_ok wr.drew)
      have HXD : Hid (MkS w (hdC 108 p W H dn 32 3 k) B gb gf n A c l (mkC 16711680 65280 255 4278190080) wr.drew) := Lib.hid (HX.out.call (Below.refl _ wr).drew)
      clear HX
      go_region_with (first
        | (go_at_call 51; refine HW.out.mono ?_; rintro e w3 ⟨rfl, rfl⟩)
        | (go_at_call 95; refine HM.out.mono ?_; rintro e w4 ⟨rfl, hb4⟩
           have hz := HXD.out.call hb4
           have HZ := Lib.hid hz
           have f0 := hz.rz.frozen 0; have f1 := hz.rz.frozen 1; have f2 := hz.rz.frozen 2; have f3 := hz.rz.frozen 3
           have y0 : w4.cell? ⟨w.heap.size + 1 + 1, 0, none⟩ = some (.int .u32 0) := hz.rz.cell 0
           have y1 : w4.cell? ⟨w.heap.size + 1 + 1, 1, none⟩ = some (.int .u32 0) := hz.rz.cell 1
           have y2 : w4.cell? ⟨w.heap.size + 1 + 1, 2, none⟩ = some (.int .u32 0) := hz.rz.cell 2
           have y3 : w4.cell? ⟨w.heap.size + 1 + 1, 3, none⟩ = some (.int .u32 0) := hz.rz.cell 3
           have z0 : w4.cell? ⟨w.heap.size + 1 + 1 + 1, 0, none⟩ = some (.int .u32 16711680) := hz.mb.cell 0
           have z1 : w4.cell? ⟨w.heap.size + 1 + 1 + 1, 1, none⟩ = some (.int .u32 65280) := hz.mb.cell 1
           have z2 : w4.cell? ⟨w.heap.size + 1 + 1 + 1, 2, none⟩ = some (.int .u32 255) := hz.mb.cell 2
           have z3 : w4.cell? ⟨w.heap.size + 1 + 1 + 1, 3, none⟩ = some (.int .u32 4278190080) := hz.mb.cell 3
           clear hb4 hz))
      all_goals
        have h9 := set4 HZ.out.rz (.int .u32 16711680) (.int .u32 65280) (.int .u32 255) (.int .u32 4278190080)
        have u9 := set4_upd w4 (w.heap.size + 1 + 1) (.int .u32 16711680) (.int .u32 65280) (.int .u32 255) (.int .u32 4278190080)
        have H9 := Lib.hid (And.intro h9 (HZ.out.bel.trans (u9.below HZ.out.bel.size (fun j hj e => by omega))))
        clear h9 u9 HZ HXD HW HM
        go_wp2_with fail
        obtain ⟨h9, hb9⟩ := H9.out
        have e0 := h9.cell 0; have e1 := h9.cell 1; have e2 := h9.cell 2; have e3 := h9.cell 3
        refine bodyPost_ret (v := .tuple #[mkV 16711680 65280 255 4278190080, .bool true]) (by simp [results, Tryz.results58, go_sem, e0, e1, e2, e3]) rfl ?_
        exact ⟨rfl, hb9⟩
end Go.Proofs.YtnfjeeflcfmpbaaGreatDoor
