/- Joined texts (a claim has at most 60 files): Yz Za. -/
import Derived.Test.YtnfjeeflcfmpbaaGreatDoorYy
import Derived.Test.YtnfjeeflcfmpbaaGreatDoorYqa
import Derived.Laws.EntriesVeiled
/- Decode on a file of the written form, without alpha. -/
set_option linter.unusedVariables false
set_option linter.unusedSimpArgs false
namespace Go.Proofs.YtnfjeeflcfmpbaaGreatDoor
open Go.ChangeShapes Go.WideShapes Go.ChangeAt Go.RowKit Go.Shelf

theorem headF_ok (dn : Bool) (W H cnt n : Nat) (l : List UInt8) (ok : HdOk false dn W H cnt n l) (B gb gf c : Nat) (A : Option Addr) (w : World) (h : FlS w B gb gf n A c l) (hB : B ≤ w.heap.size) :
    Calls Tryz.prog 21 #[flV gb gf] w fun e w' => e = .returned (.tuple #[hdV 40 54 (W : Nat) (H : Nat) dn 24 0 (cnt : Nat), .int .i64 0]) ∧ Below w.heap.size w w' := by
  cases dn
  · exact headFu_ok W H cnt n l ok B gb gf c A w h hB
  · exact headFt_ok W H cnt n l ok B gb gf c A w h hB
theorem tooGreat_no (W H M : Nat) (most : Int) (hm : mayB (W : Int) (H : Int) = true) (hM : W * H = M) (hl : (M : Int) ≤ most) (w : World) : Calls Tryz.prog 23 #[.int .i64 (W : Nat), .int .i64 (H : Nat), .int .i64 most] w fun e w' => e = .returned (.bool false) ∧ w' = w := by
  obtain ⟨_, _, _, _, b5⟩ := mayB_bd hm
  have e : (W : Int) * (H : Int) = (M : Int) := by rw [← Int.natCast_mul, hM]
  rw [e] at b5
  have HW : Hid (wrap64 ((W : Int) * (H : Int)) = (M : Int)) := Lib.hid (by rw [e]; exact IntWalk.wrap64_in _ (by omega))
  have HMY := Lib.hid (mayBe_any (W : Int) (H : Int) w)
  rw [hm] at HMY
  have i1 : ¬ (M : Int) > most := by omega
  have m1 := HW.out
  clear hm hM e b5
  go_enter Tryz.func23, Tryz.ntmps23
  go_wp2_with fail
  refine HMY.out.mono ?_
  rintro e w2 ⟨rfl, rfl⟩
  go_wp2_with fail
  go_ret
  exact ⟨ret_bl (decide_eq_false (by omega)), rfl⟩
theorem numR_lt (lb : List UInt8) (R d W : Nat) (hd : d ≤ 32) : ∀ k, ∀ v ∈ numR lb R d W k, v < 4294967296
  | 0, v, h => by simp [numR] at h
  | k + 1, v, h => by
    rw [numR_succ, List.mem_append] at h
    rcases h with h | h
    · exact numR_lt lb R d W hd k v h
    · simp only [numsL, List.mem_map] at h
      obtain ⟨i, _, rfl⟩ := h
      exact Nat.lt_of_lt_of_le (num_lt _ _ _) (Nat.pow_le_pow_right (by omega) hd)
/-- What a file of the written form holds. -/
def decI (al dn : Bool) (fb : List UInt8) (W H : Nat) : IRes := ⟨W, H, 0, flatL (colsK al (ordN dn (numR (fb.drop (if al then 122 else 54)) (rowN al W) (dep al) W H) W H) (W * H)) (W * H)⟩
set_option maxRecDepth 100000 in
set_option maxHeartbeats 8000000 in
theorem decF_ok (dn : Bool) (W H cnt n c : Nat) (fb : List UInt8) (ok : HdOk false dn W H cnt n fb) (hl : fb.length = n) (hfit : 54 + rowN false W * H ≤ n) (hnc : n ≤ c) (hcb : c ≤ maxLen) (hf : W * H ≤ 65536) (most : Int) (hmost : ((W * H : Nat) : Int) ≤ most) (A : Option Addr) (B : Nat) (w : World) (hbs : Bs w B A fb) (hB : B ≤ w.heap.size) (hT : Tab32 w) (hB1 : 0 < w.heap.size) :
    Calls Tryz.prog 9 #[.slice A n c, .int .i64 most] w (ImR w (decI false dn fb W H)) := by
  have hnb := ok.hnb; have hW1 := ok.w1; have hW := ok.w2; have hH1 := ok.h1; have hH := ok.h2
  obtain ⟨M, hM⟩ : ∃ M, W * H = M := ⟨_, rfl⟩
  have HMAY : Hid (mayB (W : Int) (H : Int) = true) := Lib.hid (by
    have e : (W : Int) * (H : Int) = (M : Int) := by rw [← Int.natCast_mul, hM]
    rw [hM] at hf
    simp only [mayB, sideB, e, Bool.and_eq_true, decide_eq_true_eq]
    omega)
  have HNUM := Lib.hid (fun (w1 : World) (h1 : Bs w1 B A fb) (h2 : B ≤ w1.heap.size) => numbers_any false 40 0 (cnt : Nat) 54 W H dn n c A fb (.inl rfl) hW1 hW hH1 hH hf hl hfit hnc hcb (by omega) B w1 h1 h2)
  have HIM := Lib.hid (fun (gm c2 : Nat) (A2 : Option Addr) (h1 : M ≤ c2) (w1 : World) (h2 : Vs w1 w1.heap.size A2 (nV (numR (fb.drop 54) (rowN false W) (dep false) W H))) (h3 : Tab32 w1) (h4 : 0 < w1.heap.size) h5 => image_any false dn 40 54 0 (cnt : Nat) 24 W H M c2 gm A2 (numR (fb.drop 54) (rowN false W) (dep false) W H) hW1 hW hH1 hH hf hM (by rw [numR_length, hM]) h1 (numR_lt _ _ _ _ (by decide) H) w1.heap.size w1 h2 (Nat.le_refl _) h3 h4 h5)
  have HD : Hid (decI false dn fb W H = ⟨W, H, 0, flatL (colsK false (ordN dn (numR (fb.drop 54) (rowN false W) (dep false) W H) W H) M) M⟩) := Lib.hid (by rw [← hM]; rfl)
  generalize numR (fb.drop 54) (rowN false W) (dep false) W H = L at *
  obtain ⟨fl, hfl⟩ : ∃ fl, flatL (colsK false (ordN dn L W H) M) M = fl := ⟨_, rfl⟩
  rw [hfl] at HIM HD
  rw [hM] at hmost HNUM
  have HTG := Lib.hid (tooGreat_no W H M most HMAY.out hM hmost)
  have HOK := Lib.hid ok
  have HL := Lib.hid hl
  have e24 : ((dep false : Nat) : Int) = 24 := rfl
  have e54 : ((54 : Nat) : Int) = 54 := rfl
  rw [e24, e54] at HNUM
  clear hfl hM hf hmost hfit ok hl e24 e54
  have hb1 := Blk.new w 26 (imgC 0 0 none 0 0)
  have bel := (Below.refl w.heap.size w).alloc (Nat.le_refl _) (.cells (imgC 0 0 none 0 0) 26)
  go_enter Tryz.func9, Tryz.ntmps9
  go_upto_region 3 with (fail)
  have HT1 := Lib.hid (hT.below bel hB1); have HBs1 := Lib.hid (hbs.below (bel.mono hB))
  have hsz1 : (w.alloc (.cells (imgC 0 0 none 0 0) 26)).heap.size = w.heap.size + 1 := World.size_alloc _ _
  generalize w.alloc (.cells (imgC 0 0 none 0 0) 26) = w1 at *
  have HZ1 := Lib.hid hb1; have HBel1 := Lib.hid bel
  clear hb1 bel hT hbs
  go_wp2_with fail
  refine (fieldsOf_any w1 B n c A fb HL.out HBs1.out (by omega)).mono ?_
  rintro e w2 ⟨gb, gf, rfl, hfl, hgb, hgf, hb2⟩
  have hs2 := hb2.size
  have HZ2 := Lib.hid (HZ1.out.upd (Upd.of_fresh hb2) id); have HBel2 := Lib.hid (HBel1.out.trans (hb2.mono (by omega)))
  have HT2 := Lib.hid (HT1.out.below hb2 (by show 0 < _; omega))
  have HFL2 := Lib.hid hfl
  clear hb2 HZ1 HBel1 HT1 HBs1 hfl
  go_upto_region 4 with (fail)
  have hbx := (Below.refl w2.heap.size w2).alloc (Nat.le_refl _) (.cells (flC gb gf) 52)
  have hfb := Blk.new w2 52 (flC gb gf)
  obtain ⟨bf, hbf⟩ : ∃ bf, w2.heap.size = bf := ⟨_, rfl⟩
  rw [hbf] at hfb
  rw [hbf]
  have hs3 : (w2.alloc (.cells (flC gb gf) 52)).heap.size = w2.heap.size + 1 := World.size_alloc _ _
  have HFL3 := Lib.hid (HFL2.out.call hbx)
  generalize w2.alloc (.cells (flC gb gf) 52) = w3 at *
  have HFB3 := Lib.hid hfb
  have HZ3 := Lib.hid (HZ2.out.upd (Upd.of_fresh hbx) id); have HBel3 := Lib.hid (HBel2.out.trans (hbx.mono HBel2.out.size))
  have HT3 := Lib.hid (HT2.out.below hbx (by show 0 < _; omega))
  have x0 : w3.cell? ⟨bf, 0, none⟩ = some (.func (.func 49) #[] #[.pointer (some ⟨gb, 0, none⟩), .pointer (some ⟨gf, 0, none⟩)]) := hfb.cell 0
  have x1 : w3.cell? ⟨bf, 1, none⟩ = some (.func (.func 51) #[] #[.pointer (some ⟨gf, 0, none⟩)]) := hfb.cell 1
  clear hbx hfb HFL2 HZ2 HBel2 HT2
  go_wp2_with fail
  refine (headF_ok dn W H cnt n fb HOK.out B gb gf c A w3 HFL3.out (by omega)).mono ?_
  rintro e w4 ⟨rfl, hb4⟩
  clear x0 x1
  have hs4 := hb4.size
  have HFB4 := Lib.hid (HFB3.out.upd (Upd.of_fresh hb4) id)
  have HZ4 := Lib.hid (HZ3.out.upd (Upd.of_fresh hb4) id); have HBel4 := Lib.hid (HBel3.out.trans (hb4.mono HBel3.out.size))
  have HT4 := Lib.hid (HT3.out.below hb4 (by show 0 < _; omega)); have HFL4 := Lib.hid (HFL3.out.call hb4)
  clear hb4 HFB3 HZ3 HBel3 HT3 HFL3
  go_upto_region 7 with (fail)
  have hbx := (Below.refl w4.heap.size w4).alloc (Nat.le_refl _) (.cells (hdC 40 54 (W : Nat) (H : Nat) dn 24 0 (cnt : Nat)) 55)
  have hhb := Blk.new w4 55 (hdC 40 54 (W : Nat) (H : Nat) dn 24 0 (cnt : Nat))
  obtain ⟨bh, hbh⟩ : ∃ bh, w4.heap.size = bh := ⟨_, rfl⟩
  rw [hbh] at hhb
  rw [hbh]
  have hs5 : (w4.alloc (.cells (hdC 40 54 (W : Nat) (H : Nat) dn 24 0 (cnt : Nat)) 55)).heap.size = w4.heap.size + 1 := World.size_alloc _ _
  have HFB5 := Lib.hid (HFB4.out.upd (Upd.of_fresh hbx) id)
  have HFL5 := Lib.hid (HFL4.out.call hbx)
  have HZ5 := Lib.hid (HZ4.out.upd (Upd.of_fresh hbx) id); have HBel5 := Lib.hid (HBel4.out.trans (hbx.mono HBel4.out.size))
  have HT5 := Lib.hid (HT4.out.below hbx (by show 0 < _; omega))
  generalize w4.alloc (.cells (hdC 40 54 (W : Nat) (H : Nat) dn 24 0 (cnt : Nat)) 55) = w5 at *
  have HH5 := Lib.hid hhb
  have x0 : w5.cell? ⟨bf, 0, none⟩ = some (.func (.func 49) #[] #[.pointer (some ⟨gb, 0, none⟩), .pointer (some ⟨gf, 0, none⟩)]) := HFB5.out.cell 0
  have x1 : w5.cell? ⟨bf, 1, none⟩ = some (.func (.func 51) #[] #[.pointer (some ⟨gf, 0, none⟩)]) := HFB5.out.cell 1
  have c0 : w5.cell? ⟨bh, 0, none⟩ = some (.int .i64 40) := hhb.cell 0
  have c1 : w5.cell? ⟨bh, 1, none⟩ = some (.int .i64 54) := hhb.cell 1
  have c2 : w5.cell? ⟨bh, 2, none⟩ = some (.int .i64 (W : Nat)) := hhb.cell 2
  have c3 : w5.cell? ⟨bh, 3, none⟩ = some (.int .i64 (H : Nat)) := hhb.cell 3
  have c4 : w5.cell? ⟨bh, 4, none⟩ = some (.bool dn) := hhb.cell 4
  have c5 : w5.cell? ⟨bh, 5, none⟩ = some (.int .i64 24) := hhb.cell 5
  have c6 : w5.cell? ⟨bh, 6, none⟩ = some (.int .i64 0) := hhb.cell 6
  have c7 : w5.cell? ⟨bh, 7, none⟩ = some (.int .i64 (cnt : Nat)) := hhb.cell 7
  clear hbx hhb HFB4 HFL4 HZ4 HBel4 HT4
  go_wp2_with fail
  refine (colorsF_ok gb gf (W : Nat) (H : Nat) (cnt : Nat) dn w5).mono ?_
  rintro e w6 ⟨gm, rfl, hmk, hb6⟩
  have hs6 := hb6.size
  have HBs6 := Lib.hid ((HFL5.out.call hb6).bs)
  have HZ6 := Lib.hid (HZ5.out.upd (Upd.of_fresh hb6) id); have HBel6 := Lib.hid (HBel5.out.trans (hb6.mono HBel5.out.size))
  have HT6 := Lib.hid (HT5.out.below hb6 (by show 0 < _; omega)); have HH6 := Lib.hid (HH5.out.upd (Upd.of_fresh hb6) id)
  have HMK6 := Lib.hid hmk
  clear hmk hb6 HFL5 HZ5 HBel5 HT5 HH5 HFB5 x0 x1 c0 c1 c2 c3 c4 c5 c6 c7
  go_upto_region 10 with (fail)
  have c0 : w6.cell? ⟨bh, 0, none⟩ = some (.int .i64 40) := HH6.out.cell 0
  have c1 : w6.cell? ⟨bh, 1, none⟩ = some (.int .i64 54) := HH6.out.cell 1
  have c2 : w6.cell? ⟨bh, 2, none⟩ = some (.int .i64 (W : Nat)) := HH6.out.cell 2
  have c3 : w6.cell? ⟨bh, 3, none⟩ = some (.int .i64 (H : Nat)) := HH6.out.cell 3
  have c4 : w6.cell? ⟨bh, 4, none⟩ = some (.bool dn) := HH6.out.cell 4
  have c5 : w6.cell? ⟨bh, 5, none⟩ = some (.int .i64 24) := HH6.out.cell 5
  have c6 : w6.cell? ⟨bh, 6, none⟩ = some (.int .i64 0) := HH6.out.cell 6
  have c7 : w6.cell? ⟨bh, 7, none⟩ = some (.int .i64 (cnt : Nat)) := HH6.out.cell 7
  go_wp2_with fail
  refine (HTG.out w6).mono ?_
  rintro e w7 ⟨rfl, rfl⟩
  go_wp2_with fail
  refine (HNUM.out w7 HBs6.out (by omega)).mono ?_
  rintro e w8 ⟨A8, c8, rfl, o8, hb8⟩
  have hs8 := hb8.size
  have HZ8 := Lib.hid (HZ6.out.upd (Upd.of_fresh hb8) id); have HBel8 := Lib.hid (HBel6.out.trans (hb8.mono HBel6.out.size))
  have HT8 := Lib.hid (HT6.out.below hb8 (by show 0 < _; omega)); have HH8 := Lib.hid (HH6.out.upd (Upd.of_fresh hb8) id); have HMK8 := Lib.hid (HMK6.out.upd (Upd.of_fresh hb8) id)
  have HO8 := Lib.hid o8
  clear o8 hb8 HZ6 HBel6 HT6 HH6 HMK6 HBs6 c0 c1 c2 c3 c4 c5 c6 c7
  have c0 : w8.cell? ⟨bh, 0, none⟩ = some (.int .i64 40) := HH8.out.cell 0
  have c1 : w8.cell? ⟨bh, 1, none⟩ = some (.int .i64 54) := HH8.out.cell 1
  have c2 : w8.cell? ⟨bh, 2, none⟩ = some (.int .i64 (W : Nat)) := HH8.out.cell 2
  have c3 : w8.cell? ⟨bh, 3, none⟩ = some (.int .i64 (H : Nat)) := HH8.out.cell 3
  have c4 : w8.cell? ⟨bh, 4, none⟩ = some (.bool dn) := HH8.out.cell 4
  have c5 : w8.cell? ⟨bh, 5, none⟩ = some (.int .i64 24) := HH8.out.cell 5
  have c6 : w8.cell? ⟨bh, 6, none⟩ = some (.int .i64 0) := HH8.out.cell 6
  have c7 : w8.cell? ⟨bh, 7, none⟩ = some (.int .i64 (cnt : Nat)) := HH8.out.cell 7
  have hMc : M ≤ c8 := by
    rcases HO8.out.2 with ⟨h1, h2⟩ | ⟨g, cap, cur, h1, _, _, h2, _⟩
    · have := HMAY.out
      injection h1 with _ h1 _
      omega
    · injection h1 with _ _ h1
      omega
  go_wp2_with fail
  refine (HIM.out gm c8 A8 hMc w8 (Vs.of_own HO8.out) HT8.out (by omega) HMK8.out).mono ?_
  rintro e w9 ⟨A9, c9, rfl, o9, hb9⟩
  dsimp only at o9 ⊢
  have hzb := IB.of (HZ8.out.upd (Upd.of_fresh hb9) id)
  have HP := Lib.hid (IB.put hzb (.int .i64 (W : Nat)) (.int .i64 (H : Nat)) (.slice A9 fl.length c9) w.heap.size (by omega))
  have HOw := Lib.hid (own_other (own_low o9 (show w.heap.size ≤ w8.heap.size by omega)) hzb.blk (by decide) HP.out.2.2)
  have HBel9 := Lib.hid (HBel8.out.trans ((hb9.mono HBel8.out.size).trans HP.out.2.1))
  obtain ⟨_, d0, d1, d2, f0, f1, f2⟩ := hzb
  clear o9 hb9 HZ8 HBel8 c0 c1 c2 c3 c4 c5 c6 c7
  go_wp2_with fail
  have n0 := HP.out.1.c0; have n1 := HP.out.1.c1; have n2 := HP.out.1.c2
  refine bodyPost_ret (v := .tuple #[imgV W H A9 fl.length c9, .int .i64 0]) (by simp [results, Tryz.results9, go_sem, n0, n1, n2]) rfl ?_
  rw [HD.out]
  exact ⟨A9, c9, rfl, HOw.out, HBel9.out⟩
end Go.Proofs.YtnfjeeflcfmpbaaGreatDoor

/- Decode on a file that is cut off. -/
set_option linter.unusedVariables false
set_option linter.unusedSimpArgs false
namespace Go.Proofs.YtnfjeeflcfmpbaaGreatDoor
open Go.ChangeShapes Go.WideShapes Go.ChangeAt Go.RowKit Go.Shelf

theorem upd_over {w w1 w2 : World} {S : Nat → Prop} {g : Nat} (h : Upd S w w1) (u : Upd (· = g) w1 w2) (hg : w.heap.size ≤ g) : Upd S w w2 :=
  ⟨u.os.trans h.os, u.tape.trans h.tape, u.output.trans h.output, Nat.le_trans h.size u.size, fun k hk hS => (u.block k (Nat.lt_of_lt_of_le hk h.size) (fun e => by omega)).trans (h.block k hk hS)⟩
set_option maxRecDepth 100000 in
theorem number_no (w : World) (B gb gf n c : Nat) (A : Option Addr) (l : List UInt8) (h : FlS w B gb gf n A c l) (hn : n ≤ 140737488355328) (a s E : Int) (hE : spanErr n a s = E) (h0 : E ≠ 0) :
    Calls Tryz.prog 49 #[.int .i64 a, .int .i64 s, .pointer (some ⟨gb, 0, none⟩), .pointer (some ⟨gf, 0, none⟩)] w fun e w' => e = .returned (.int .i64 0) ∧ Blk w' gf 27 #[.int .i64 E] ∧ Upd (· = gf) w w' := by
  have HG := Lib.hid (get_err A n c a s false w hn (by rw [hE]; exact h0))
  rw [hE] at HG
  have k0 : w.cell? ⟨gb, 0, none⟩ = some (.slice A n c) := h.bb.cell 0
  have k1 : w.cell? ⟨gf, 0, none⟩ = some (.int .i64 0) := h.fb.cell 0
  have kf := h.fb.frozen 0
  have HS := Lib.hid h
  clear h hE
  go_enter Tryz.func49, Tryz.ntmps49
  go_wp2_with fail
  refine HG.out.mono ?_
  rintro e w1 ⟨rfl, rfl⟩
  have HF : Hid (Blk (w.setCell ⟨gf, 0, none⟩ (.int .i64 E)) gf 27 #[.int .i64 E] ∧ Upd (· = gf) w (w.setCell ⟨gf, 0, none⟩ (.int .i64 E))) := Lib.hid ⟨by simpa using HS.out.fb.set_ 0 (.int .i64 E), (Upd.refl (· = gf) w).setCell (fun _ => rfl) _⟩
  go_wp2_with fail
  go_ret
  exact ⟨rfl, HF.out⟩
theorem whole_no (w : World) (gf : Nat) (E : Int) (h0 : E ≠ 0) (h : Blk w gf 27 #[.int .i64 E]) : Calls Tryz.prog 51 #[.pointer (some ⟨gf, 0, none⟩)] w fun e w' => e = .returned (.bool false) ∧ w' = w := by
  have k0 : w.cell? ⟨gf, 0, none⟩ = some (.int .i64 E) := h.cell 0
  have i1 : (E == 0) = false := by simpa using h0
  go_enter Tryz.func51, Tryz.ntmps51
  go_wp2_with fail
  go_ret
  exact ⟨by simp [h0], rfl⟩
set_option maxRecDepth 100000 in
set_option maxHeartbeats 4000000 in
theorem headS_no (n : Nat) (l : List UInt8) (o0 : numB false (fun i => byteAt l (0 + i)) 2 = 19778) (hn1 : 2 ≤ n) (onb : n ≤ 4194304) (E : Int) (hE : spanErr n 14 4 = E) (h0 : E ≠ 0) (B gb gf c : Nat) (A : Option Addr) (w : World) (h : FlS w B gb gf n A c l) (hB : B ≤ w.heap.size) :
    Calls Tryz.prog 21 #[flV gb gf] w fun e w' => e = .returned (.tuple #[hdV 0 0 0 0 false 0 0 0, .int .i64 9]) ∧ Upd (· = gf) w w' := by
  obtain ⟨bel, hsz, hb1, hb2⟩ := boxes2 w (flC gb gf) (hdC 0 0 0 0 false 0 0 0) 52 55
  have hgb := h.bb.lt; have hgf := h.fb.lt
  go_enter Tryz.func21, Tryz.ntmps21
  go_upto_region 1 with (fail)
  have hfl := h.call bel
  generalize (w.alloc (.cells (flC gb gf) 52)).alloc (.cells (hdC 0 0 0 0 false 0 0 0) 55) = q0 at *
  have HFL := Lib.hid hfl; have HF1 := Lib.hid hb1; have HF2 := Lib.hid hb2; have HBel := Lib.hid bel
  clear h hfl hb1 hb2 bel
  have x0 : q0.cell? ⟨w.heap.size, 0, none⟩ = some (.func (.func 49) #[] #[.pointer (some ⟨gb, 0, none⟩), .pointer (some ⟨gf, 0, none⟩)]) := HF1.out.cell 0
  have HN := Lib.hid (number_ok q0 B gb gf n c A l HFL.out (by omega) 0 2 0 2 rfl rfl (by omega) (by omega) (by omega) 19778 o0)
  go_wp2_with fail
  refine HN.out.mono ?_
  rintro e q1 ⟨rfl, hbx⟩
  have HF1' := Lib.hid (HF1.out.upd (Upd.of_fresh hbx) id); have HF2' := Lib.hid (HF2.out.upd (Upd.of_fresh hbx) id); have HFL' := Lib.hid (HFL.out.call hbx); have HBel' := Lib.hid (HBel.out.trans (hbx.mono HBel.out.size))
  have hsz1 := hbx.size
  clear x0 HN hbx HF1 HF2 HFL HBel
  have x0 : q1.cell? ⟨w.heap.size, 0, none⟩ = some (.func (.func 49) #[] #[.pointer (some ⟨gb, 0, none⟩), .pointer (some ⟨gf, 0, none⟩)]) := HF1'.out.cell 0
  have HN := Lib.hid (number_no q1 B gb gf n c A l HFL'.out (by omega) 14 4 E hE h0)
  go_wp2_with fail
  refine HN.out.mono ?_
  rintro e q2 ⟨rfl, hbg, hu⟩
  have hsz2 := hu.size
  have HF1 := Lib.hid (HF1'.out.upd hu (by omega)); have HF2 := Lib.hid (HF2'.out.upd hu (by omega)); have HU := Lib.hid (((Upd.of_fresh HBel'.out).mono (T := (· = gf)) (fun _ _ e => absurd e id)).trans hu); have HG := Lib.hid hbg
  clear x0 HN hu hbg HF1' HF2' HFL' HBel'
  go_upto_region 3 with (fail)
  have ua := (Upd.refl No q2).alloc (.cells (hdC 0 0 0 0 false 0 0 0) 55)
  have x1 : (q2.alloc (.cells (hdC 0 0 0 0 false 0 0 0) 55)).cell? ⟨w.heap.size, 1, none⟩ = some (.func (.func 51) #[] #[.pointer (some ⟨gf, 0, none⟩)]) := (HF1.out.upd ua id).cell 1
  have HF3 := Lib.hid (HF2.out.upd ua id); have HU3 := Lib.hid (HU.out.alloc (.cells (hdC 0 0 0 0 false 0 0 0) 55)); have HG3 := Lib.hid (HG.out.upd ua id)
  clear HF1 HF2 HU HG ua
  generalize q2.heap.size = gh at *
  generalize q2.alloc (.cells (hdC 0 0 0 0 false 0 0 0) 55) = q3 at *
  go_wp2_with fail
  refine (whole_no q3 gf E h0 HG3.out).mono ?_
  rintro e q4 ⟨rfl, rfl⟩
  clear x1
  have d0 : q4.cell? ⟨w.heap.size + 1, 0, none⟩ = some (.int .i64 0) := HF3.out.cell 0
  have d1 : q4.cell? ⟨w.heap.size + 1, 1, none⟩ = some (.int .i64 0) := HF3.out.cell 1
  have d2 : q4.cell? ⟨w.heap.size + 1, 2, none⟩ = some (.int .i64 0) := HF3.out.cell 2
  have d3 : q4.cell? ⟨w.heap.size + 1, 3, none⟩ = some (.int .i64 0) := HF3.out.cell 3
  have d4 : q4.cell? ⟨w.heap.size + 1, 4, none⟩ = some (.bool false) := HF3.out.cell 4
  have d5 : q4.cell? ⟨w.heap.size + 1, 5, none⟩ = some (.int .i64 0) := HF3.out.cell 5
  have d6 : q4.cell? ⟨w.heap.size + 1, 6, none⟩ = some (.int .i64 0) := HF3.out.cell 6
  have d7 : q4.cell? ⟨w.heap.size + 1, 7, none⟩ = some (.int .i64 0) := HF3.out.cell 7
  have f0 := HF3.out.frozen 0; have f1 := HF3.out.frozen 1; have f2 := HF3.out.frozen 2; have f3 := HF3.out.frozen 3
  have f4 := HF3.out.frozen 4; have f5 := HF3.out.frozen 5; have f6 := HF3.out.frozen 6; have f7 := HF3.out.frozen 7
  have hsq := HU3.out.size
  have H9 := Lib.hid (store8 HF3.out (.int .i64 0) (.int .i64 0) (.int .i64 0) (.int .i64 0) (.bool false) (.int .i64 0) (.int .i64 0) (.int .i64 0))
  go_wp2_with fail
  obtain ⟨h9, u9⟩ := H9.out
  have e0 := h9.cell 0; have e1 := h9.cell 1; have e2 := h9.cell 2; have e3 := h9.cell 3
  have e4 := h9.cell 4; have e5 := h9.cell 5; have e6 := h9.cell 6; have e7 := h9.cell 7
  refine bodyPost_ret (v := .tuple #[hdV 0 0 0 0 false 0 0 0, .int .i64 9]) (by simp [results, Tryz.results21, go_sem, e0, e1, e2, e3, e4, e5, e6, e7]) rfl ?_
  exact ⟨rfl, upd_over HU3.out u9 (Nat.le_succ _)⟩
end Go.Proofs.YtnfjeeflcfmpbaaGreatDoor
