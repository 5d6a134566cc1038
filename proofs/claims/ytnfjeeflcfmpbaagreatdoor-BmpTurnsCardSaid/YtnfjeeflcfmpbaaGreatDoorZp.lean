/- Decode on a file of the written form, with alpha. -/
import Derived.Test.YtnfjeeflcfmpbaaGreatDoorZo
import Derived.Test.YtnfjeeflcfmpbaaGreatDoorZa
import Derived.Test.YtnfjeeflcfmpbaaGreatDoorYqb
import Derived.Test.YtnfjeeflcfmpbaaGreatDoorYqc
import Derived.Laws.EntriesVeiled
set_option linter.unusedVariables false
set_option linter.unusedSimpArgs false
namespace Go.Proofs.YtnfjeeflcfmpbaaGreatDoor
open Go.ChangeShapes Go.WideShapes Go.ChangeAt Go.RowKit Go.Shelf

set_option maxRecDepth 100000 in
theorem colorsT_ok (n : Nat) (l : List UInt8) (ok : MskOk n l) (B gb gf c : Nat) (A : Option Addr) (W H k : Int) (dn : Bool) (w : World) (hfl0 : FlS w B gb gf n A c l) (hB : B ≤ w.heap.size) : Calls Tryz.prog 22 #[flV gb gf, hdV 108 122 W H dn 32 3 k] w fun e w' => ∃ gm, e = .returned (.tuple #[cfV gm, .bool true]) ∧ Blk w' gm 80 (mkC 16711680 65280 255 (mask3 true : Nat)) ∧ Below w.heap.size w w' := by
  obtain ⟨bel, hsz, hb1, hb2⟩ := boxes2 w (flC gb gf) (hdC 108 122 W H dn 32 3 k) 52 55
  go_enter Tryz.func22, Tryz.ntmps22
  go_upto_region 1 with (fail)
  have hflx := hfl0.call bel
  generalize (w.alloc (.cells (flC gb gf) 52)).alloc (.cells (hdC 108 122 W H dn 32 3 k) 55) = w1 at *
  have HB1 := Lib.hid hb1; have HB2 := Lib.hid hb2; have HBl := Lib.hid bel; have HFL1 := Lib.hid hflx
  have c0 : w1.cell? ⟨w.heap.size + 1, 0, none⟩ = some (.int .i64 108) := hb2.cell 0
  have c1 : w1.cell? ⟨w.heap.size + 1, 1, none⟩ = some (.int .i64 122) := hb2.cell 1
  have c2 : w1.cell? ⟨w.heap.size + 1, 2, none⟩ = some (.int .i64 W) := hb2.cell 2
  have c3 : w1.cell? ⟨w.heap.size + 1, 3, none⟩ = some (.int .i64 H) := hb2.cell 3
  have c4 : w1.cell? ⟨w.heap.size + 1, 4, none⟩ = some (.bool dn) := hb2.cell 4
  have c5 : w1.cell? ⟨w.heap.size + 1, 5, none⟩ = some (.int .i64 32) := hb2.cell 5
  have c6 : w1.cell? ⟨w.heap.size + 1, 6, none⟩ = some (.int .i64 3) := hb2.cell 6
  have c7 : w1.cell? ⟨w.heap.size + 1, 7, none⟩ = some (.int .i64 k) := hb2.cell 7
  clear hb1 hb2 bel hflx hfl0
  go_wp2_with fail
  refine (paletteT_no 122 W H dn k w1).mono ?_
  rintro e w2 ⟨rfl, hbx⟩
  have hb1 := HB1.out.upd (Upd.of_fresh hbx) id
  have hb2 := HB2.out.upd (Upd.of_fresh hbx) id
  have HBl2 := Lib.hid (HBl.out.trans (hbx.mono (by omega)))
  have hsz2 := hbx.size
  have HFL2 := Lib.hid (HFL1.out.call hbx)
  clear c0 c1 c2 c3 c4 c5 c6 c7 hbx HBl HB1 HB2
  have c0 : w2.cell? ⟨w.heap.size + 1, 0, none⟩ = some (.int .i64 108) := hb2.cell 0
  have c1 : w2.cell? ⟨w.heap.size + 1, 1, none⟩ = some (.int .i64 122) := hb2.cell 1
  have c2 : w2.cell? ⟨w.heap.size + 1, 2, none⟩ = some (.int .i64 W) := hb2.cell 2
  have c3 : w2.cell? ⟨w.heap.size + 1, 3, none⟩ = some (.int .i64 H) := hb2.cell 3
  have c4 : w2.cell? ⟨w.heap.size + 1, 4, none⟩ = some (.bool dn) := hb2.cell 4
  have c5 : w2.cell? ⟨w.heap.size + 1, 5, none⟩ = some (.int .i64 32) := hb2.cell 5
  have c6 : w2.cell? ⟨w.heap.size + 1, 6, none⟩ = some (.int .i64 3) := hb2.cell 6
  have c7 : w2.cell? ⟨w.heap.size + 1, 7, none⟩ = some (.int .i64 k) := hb2.cell 7
  have x0 : w2.cell? ⟨w.heap.size, 0, none⟩ = some (.func (.func 49) #[] #[.pointer (some ⟨gb, 0, none⟩), .pointer (some ⟨gf, 0, none⟩)]) := hb1.cell 0
  have x1 : w2.cell? ⟨w.heap.size, 1, none⟩ = some (.func (.func 51) #[] #[.pointer (some ⟨gf, 0, none⟩)]) := hb1.cell 1
  clear hb1 hb2
  go_wp2_with fail
  refine (masksT_ok 122 W H k dn n l ok B gb gf c A w2 HFL2.out (by omega)).mono ?_
  rintro e w3 ⟨rfl, hbx⟩
  have hbl3 := HBl2.out.trans (hbx.mono (by omega))
  have HF : Hid (Blk (w3.alloc (.cells (mkC 16711680 65280 255 4278190080) 80)) w3.heap.size 80 (mkC 16711680 65280 255 (mask3 true : Nat)) ∧ Below w.heap.size w (w3.alloc (.cells (mkC 16711680 65280 255 4278190080) 80))) := Lib.hid ⟨Blk.new w3 _ _, hbl3.alloc hbl3.size _⟩
  clear hbx hbl3 HBl2 c0 c1 c2 c3 c4 c5 c6 c7 x0 x1
  go_wp2_with fail
  go_ret2
  exact ⟨_, rfl, HF.out⟩
theorem headT_ok (dn : Bool) (W H cnt n : Nat) (l : List UInt8) (ok : HdOk true dn W H cnt n l) (B gb gf c : Nat) (A : Option Addr) (w : World) (h : FlS w B gb gf n A c l) (hB : B ≤ w.heap.size) :
    Calls Tryz.prog 21 #[flV gb gf] w fun e w' => e = .returned (.tuple #[hdV 108 122 (W : Nat) (H : Nat) dn 32 3 (cnt : Nat), .int .i64 0]) ∧ Below w.heap.size w w' := by
  cases dn
  · exact headTu_ok W H cnt n l ok B gb gf c A w h hB
  · exact headTt_ok W H cnt n l ok B gb gf c A w h hB
set_option maxRecDepth 100000 in
set_option maxHeartbeats 8000000 in
theorem decT_ok (dn : Bool) (W H cnt n c : Nat) (fb : List UInt8) (ok : HdOk true dn W H cnt n fb) (mo : MskOk n fb) (hl : fb.length = n) (hfit : 122 + rowN true W * H ≤ n) (hnc : n ≤ c) (hcb : c ≤ maxLen) (hf : W * H ≤ 65536) (most : Int) (hmost : ((W * H : Nat) : Int) ≤ most) (A : Option Addr) (B : Nat) (w : World) (hbs : Bs w B A fb) (hB : B ≤ w.heap.size) (hT : Tab32 w) (hB1 : 0 < w.heap.size) :
    Calls Tryz.prog 9 #[.slice A n c, .int .i64 most] w (ImR w (decI true dn fb W H)) := by
  have hnb := ok.hnb; have hW1 := ok.w1; have hW := ok.w2; have hH1 := ok.h1; have hH := ok.h2
  obtain ⟨M, hM⟩ : ∃ M, W * H = M := ⟨_, rfl⟩
  have HMAY : Hid (mayB (W : Int) (H : Int) = true) := Lib.hid (by
    have e : (W : Int) * (H : Int) = (M : Int) := by rw [← Int.natCast_mul, hM]
    rw [hM] at hf
    simp only [mayB, sideB, e, Bool.and_eq_true, decide_eq_true_eq]
    omega)
  have HNUM := Lib.hid (fun (w1 : World) (h1 : Bs w1 B A fb) (h2 : B ≤ w1.heap.size) => numbers_any true 108 3 (cnt : Nat) 122 W H dn n c A fb (.inr rfl) hW1 hW hH1 hH hf hl hfit hnc hcb (by omega) B w1 h1 h2)
  have HIM := Lib.hid (fun (gm c2 : Nat) (A2 : Option Addr) (h1 : M ≤ c2) (w1 : World) (h2 : Vs w1 w1.heap.size A2 (nV (numR (fb.drop 122) (rowN true W) (dep true) W H))) (h3 : Tab32 w1) (h4 : 0 < w1.heap.size) h5 => image_any true dn 108 122 3 (cnt : Nat) 32 W H M c2 gm A2 (numR (fb.drop 122) (rowN true W) (dep true) W H) hW1 hW hH1 hH hf hM (by rw [numR_length, hM]) h1 (numR_lt _ _ _ _ (by decide) H) w1.heap.size w1 h2 (Nat.le_refl _) h3 h4 h5)
  have HD : Hid (decI true dn fb W H = ⟨W, H, 0, flatL (colsK true (ordN dn (numR (fb.drop 122) (rowN true W) (dep true) W H) W H) M) M⟩) := Lib.hid (by rw [← hM]; rfl)
  generalize numR (fb.drop 122) (rowN true W) (dep true) W H = L at *
  obtain ⟨fl, hfl⟩ : ∃ fl, flatL (colsK true (ordN dn L W H) M) M = fl := ⟨_, rfl⟩
  rw [hfl] at HIM HD
  rw [hM] at hmost HNUM
  have HTG := Lib.hid (tooGreat_no W H M most HMAY.out hM hmost)
  have HOK := Lib.hid ok; have MO := Lib.hid mo
  have HL := Lib.hid hl
  have e24 : ((dep true : Nat) : Int) = 32 := rfl
  have e54 : ((122 : Nat) : Int) = 122 := rfl
  rw [e24, e54] at HNUM
  clear hfl hM hf hmost hfit ok mo hl e24 e54
  have hb1 := Blk.new w 26 (imgC 0 0 none 0 0)
  have bel := (Below.refl w.heap.size w).alloc (Nat.le_refl _) (.cells (imgC 0 0 none 0 0) 26)
  go_enter Tryz.func9, Tryz.ntmps9
  go_upto_region 3 with (fail)
  have HT1 := Lib.hid (hT.below bel hB1); have HBs1 := Lib.hid (hbs.below (bel.mono hB))
  have hsz1 : (w.alloc (.cells (imgC 0 0 none 0 0) 26)).heap.size = w.heap.size + 1 := World.size_alloc _ _
  generalize w.alloc (.cells (imgC 0 0 none 0 0) 26) = w1 at *
  have HZ1 := Lib.hid hb1; have HBel1 := Lib.hid bel
  clear hb1 bel hT hbs
  go_wp2_with fail
  refine (fieldsOf_any w1 B n c A fb HL.out HBs1.out (by omega)).mono ?_
  rintro e w2 ⟨gb, gf, rfl, hfl, hgb, hgf, hb2⟩
  have hs2 := hb2.size
  have HZ2 := Lib.hid (HZ1.out.upd (Upd.of_fresh hb2) id); have HBel2 := Lib.hid (HBel1.out.trans (hb2.mono (by omega)))
  have HT2 := Lib.hid (HT1.out.below hb2 (by show 0 < _; omega))
  have HFL2 := Lib.hid hfl
  clear hb2 HZ1 HBel1 HT1 HBs1 hfl
  go_upto_region 4 with (fail)
  have hbx := (Below.refl w2.heap.size w2).alloc (Nat.le_refl _) (.cells (flC gb gf) 52)
  have hfb := Blk.new w2 52 (flC gb gf)
  obtain ⟨bf, hbf⟩ : ∃ bf, w2.heap.size = bf := ⟨_, rfl⟩
  rw [hbf] at hfb
  rw [hbf]
  have hs3 : (w2.alloc (.cells (flC gb gf) 52)).heap.size = w2.heap.size + 1 := World.size_alloc _ _
  have HFL3 := Lib.hid (HFL2.out.call hbx)
  generalize w2.alloc (.cells (flC gb gf) 52) = w3 at *
  have HFB3 := Lib.hid hfb
  have HZ3 := Lib.hid (HZ2.out.upd (Upd.of_fresh hbx) id); have HBel3 := Lib.hid (HBel2.out.trans (hbx.mono HBel2.out.size))
  have HT3 := Lib.hid (HT2.out.below hbx (by show 0 < _; omega))
  have x0 : w3.cell? ⟨bf, 0, none⟩ = some (.func (.func 49) #[] #[.pointer (some ⟨gb, 0, none⟩), .pointer (some ⟨gf, 0, none⟩)]) := hfb.cell 0
  have x1 : w3.cell? ⟨bf, 1, none⟩ = some (.func (.func 51) #[] #[.pointer (some ⟨gf, 0, none⟩)]) := hfb.cell 1
  clear hbx hfb HFL2 HZ2 HBel2 HT2
  go_wp2_with fail
  refine (headT_ok dn W H cnt n fb HOK.out B gb gf c A w3 HFL3.out (by omega)).mono ?_
  rintro e w4 ⟨rfl, hb4⟩
  clear x0 x1
  have hs4 := hb4.size
  have HFB4 := Lib.hid (HFB3.out.upd (Upd.of_fresh hb4) id)
  have HZ4 := Lib.hid (HZ3.out.upd (Upd.of_fresh hb4) id); have HBel4 := Lib.hid (HBel3.out.trans (hb4.mono HBel3.out.size))
  have HT4 := Lib.hid (HT3.out.below hb4 (by show 0 < _; omega)); have HFL4 := Lib.hid (HFL3.out.call hb4)
  clear hb4 HFB3 HZ3 HBel3 HT3 HFL3
  go_upto_region 7 with (fail)
  have hbx := (Below.refl w4.heap.size w4).alloc (Nat.le_refl _) (.cells (hdC 108 122 (W : Nat) (H : Nat) dn 32 3 (cnt : Nat)) 55)
  have hhb := Blk.new w4 55 (hdC 108 122 (W : Nat) (H : Nat) dn 32 3 (cnt : Nat))
  obtain ⟨bh, hbh⟩ : ∃ bh, w4.heap.size = bh := ⟨_, rfl⟩
  rw [hbh] at hhb
  rw [hbh]
  have hs5 : (w4.alloc (.cells (hdC 108 122 (W : Nat) (H : Nat) dn 32 3 (cnt : Nat)) 55)).heap.size = w4.heap.size + 1 := World.size_alloc _ _
  have HFB5 := Lib.hid (HFB4.out.upd (Upd.of_fresh hbx) id)
  have HFL5 := Lib.hid (HFL4.out.call hbx)
  have HZ5 := Lib.hid (HZ4.out.upd (Upd.of_fresh hbx) id); have HBel5 := Lib.hid (HBel4.out.trans (hbx.mono HBel4.out.size))
  have HT5 := Lib.hid (HT4.out.below hbx (by show 0 < _; omega))
  generalize w4.alloc (.cells (hdC 108 122 (W : Nat) (H : Nat) dn 32 3 (cnt : Nat)) 55) = w5 at *
  have HH5 := Lib.hid hhb
  have x0 : w5.cell? ⟨bf, 0, none⟩ = some (.func (.func 49) #[] #[.pointer (some ⟨gb, 0, none⟩), .pointer (some ⟨gf, 0, none⟩)]) := HFB5.out.cell 0
  have x1 : w5.cell? ⟨bf, 1, none⟩ = some (.func (.func 51) #[] #[.pointer (some ⟨gf, 0, none⟩)]) := HFB5.out.cell 1
  have c0 : w5.cell? ⟨bh, 0, none⟩ = some (.int .i64 108) := hhb.cell 0
  have c1 : w5.cell? ⟨bh, 1, none⟩ = some (.int .i64 122) := hhb.cell 1
  have c2 : w5.cell? ⟨bh, 2, none⟩ = some (.int .i64 (W : Nat)) := hhb.cell 2
  have c3 : w5.cell? ⟨bh, 3, none⟩ = some (.int .i64 (H : Nat)) := hhb.cell 3
  have c4 : w5.cell? ⟨bh, 4, none⟩ = some (.bool dn) := hhb.cell 4
  have c5 : w5.cell? ⟨bh, 5, none⟩ = some (.int .i64 32) := hhb.cell 5
  have c6 : w5.cell? ⟨bh, 6, none⟩ = some (.int .i64 3) := hhb.cell 6
  have c7 : w5.cell? ⟨bh, 7, none⟩ = some (.int .i64 (cnt : Nat)) := hhb.cell 7
  clear hbx hhb HFB4 HFL4 HZ4 HBel4 HT4
  go_wp2_with fail
  refine (colorsT_ok n fb MO.out B gb gf c A (W : Nat) (H : Nat) (cnt : Nat) dn w5 HFL5.out (by omega)).mono ?_
  rintro e w6 ⟨gm, rfl, hmk, hb6⟩
  have hs6 := hb6.size
  have HBs6 := Lib.hid ((HFL5.out.call hb6).bs)
  have HZ6 := Lib.hid (HZ5.out.upd (Upd.of_fresh hb6) id); have HBel6 := Lib.hid (HBel5.out.trans (hb6.mono HBel5.out.size))
  have HT6 := Lib.hid (HT5.out.below hb6 (by show 0 < _; omega)); have HH6 := Lib.hid (HH5.out.upd (Upd.of_fresh hb6) id)
  have HMK6 := Lib.hid hmk
  clear hmk hb6 HFL5 HZ5 HBel5 HT5 HH5 HFB5 x0 x1 c0 c1 c2 c3 c4 c5 c6 c7
  go_upto_region 10 with (fail)
  have c0 : w6.cell? ⟨bh, 0, none⟩ = some (.int .i64 108) := HH6.out.cell 0
  have c1 : w6.cell? ⟨bh, 1, none⟩ = some (.int .i64 122) := HH6.out.cell 1
  have c2 : w6.cell? ⟨bh, 2, none⟩ = some (.int .i64 (W : Nat)) := HH6.out.cell 2
  have c3 : w6.cell? ⟨bh, 3, none⟩ = some (.int .i64 (H : Nat)) := HH6.out.cell 3
  have c4 : w6.cell? ⟨bh, 4, none⟩ = some (.bool dn) := HH6.out.cell 4
  have c5 : w6.cell? ⟨bh, 5, none⟩ = some (.int .i64 32) := HH6.out.cell 5
  have c6 : w6.cell? ⟨bh, 6, none⟩ = some (.int .i64 3) := HH6.out.cell 6
  have c7 : w6.cell? ⟨bh, 7, none⟩ = some (.int .i64 (cnt : Nat)) := HH6.out.cell 7
  go_wp2_with fail
  refine (HTG.out w6).mono ?_
  rintro e w7 ⟨rfl, rfl⟩
  go_wp2_with fail
  refine (HNUM.out w7 HBs6.out (by omega)).mono ?_
  rintro e w8 ⟨A8, c8, rfl, o8, hb8⟩
  have hs8 := hb8.size
  have HZ8 := Lib.hid (HZ6.out.upd (Upd.of_fresh hb8) id); have HBel8 := Lib.hid (HBel6.out.trans (hb8.mono HBel6.out.size))
  have HT8 := Lib.hid (HT6.out.below hb8 (by show 0 < _; omega)); have HH8 := Lib.hid (HH6.out.upd (Upd.of_fresh hb8) id); have HMK8 := Lib.hid (HMK6.out.upd (Upd.of_fresh hb8) id)
  have HO8 := Lib.hid o8
  clear o8 hb8 HZ6 HBel6 HT6 HH6 HMK6 HBs6 c0 c1 c2 c3 c4 c5 c6 c7
  have c0 : w8.cell? ⟨bh, 0, none⟩ = some (.int .i64 108) := HH8.out.cell 0
  have c1 : w8.cell? ⟨bh, 1, none⟩ = some (.int .i64 122) := HH8.out.cell 1
  have c2 : w8.cell? ⟨bh, 2, none⟩ = some (.int .i64 (W : Nat)) := HH8.out.cell 2
  have c3 : w8.cell? ⟨bh, 3, none⟩ = some (.int .i64 (H : Nat)) := HH8.out.cell 3
  have c4 : w8.cell? ⟨bh, 4, none⟩ = some (.bool dn) := HH8.out.cell 4
  have c5 : w8.cell? ⟨bh, 5, none⟩ = some (.int .i64 32) := HH8.out.cell 5
  have c6 : w8.cell? ⟨bh, 6, none⟩ = some (.int .i64 3) := HH8.out.cell 6
  have c7 : w8.cell? ⟨bh, 7, none⟩ = some (.int .i64 (cnt : Nat)) := HH8.out.cell 7
  have hMc : M ≤ c8 := by
    rcases HO8.out.2 with ⟨h1, h2⟩ | ⟨g, cap, cur, h1, _, _, h2, _⟩
    · have := HMAY.out
      injection h1 with _ h1 _
      omega
    · injection h1 with _ _ h1
      omega
  go_wp2_with fail
  refine (HIM.out gm c8 A8 hMc w8 (Vs.of_own HO8.out) HT8.out (by omega) HMK8.out).mono ?_
  rintro e w9 ⟨A9, c9, rfl, o9, hb9⟩
  dsimp only at o9 ⊢
  have hzb := IB.of (HZ8.out.upd (Upd.of_fresh hb9) id)
  have HP := Lib.hid (IB.put hzb (.int .i64 (W : Nat)) (.int .i64 (H : Nat)) (.slice A9 fl.length c9) w.heap.size (by omega))
  have HOw := Lib.hid (own_other (own_low o9 (show w.heap.size ≤ w8.heap.size by omega)) hzb.blk (by decide) HP.out.2.2)
  have HBel9 := Lib.hid (HBel8.out.trans ((hb9.mono HBel8.out.size).trans HP.out.2.1))
  obtain ⟨_, d0, d1, d2, f0, f1, f2⟩ := hzb
  clear o9 hb9 HZ8 HBel8 c0 c1 c2 c3 c4 c5 c6 c7
  go_wp2_with fail
  have n0 := HP.out.1.c0; have n1 := HP.out.1.c1; have n2 := HP.out.1.c2
  refine bodyPost_ret (v := .tuple #[imgV W H A9 fl.length c9, .int .i64 0]) (by simp [results, Tryz.results9, go_sem, n0, n1, n2]) rfl ?_
  rw [HD.out]
  exact ⟨A9, c9, rfl, HOw.out, HBel9.out⟩
end Go.Proofs.YtnfjeeflcfmpbaaGreatDoor
