/- Joined texts (a claim has at most 60 files): Zb Zc. -/
import Derived.Test.YtnfjeeflcfmpbaaGreatDoorZa
import Derived.Laws.EntriesVeiled
import Derived.Test.YtnfjeeflcfmpbaaGreatDoorYj
import Derived.Test.YtnfjeeflcfmpbaaGreatDoorCt
/- Decode on a file that is cut off behind its mark. -/
set_option linter.unusedVariables false
set_option linter.unusedSimpArgs false
namespace Go.Proofs.YtnfjeeflcfmpbaaGreatDoor
open Go.ChangeShapes Go.WideShapes Go.ChangeAt Go.RowKit Go.Shelf

set_option maxRecDepth 100000 in
set_option maxHeartbeats 8000000 in
theorem decS_no (n c : Nat) (fb : List UInt8) (o0 : numB false (fun i => byteAt fb (0 + i)) 2 = 19778) (hl : fb.length = n) (hn1 : 2 ≤ n) (hnb : n ≤ 4194304) (E : Int) (hE : spanErr n 14 4 = E) (h0 : E ≠ 0) (most : Int) (A : Option Addr) (B : Nat) (w : World) (hbs : Bs w B A fb) (hB : B ≤ w.heap.size) (hT : Tab32 w) (hB1 : 0 < w.heap.size) :
    Calls Tryz.prog 9 #[.slice A n c, .int .i64 most] w (ImR w (errI 9)) := by
  have hb1 := Blk.new w 26 (imgC 0 0 none 0 0)
  have bel := (Below.refl w.heap.size w).alloc (Nat.le_refl _) (.cells (imgC 0 0 none 0 0) 26)
  go_enter Tryz.func9, Tryz.ntmps9
  go_upto_region 3 with (fail)
  have HT1 := Lib.hid (hT.below bel hB1); have HBs1 := Lib.hid (hbs.below (bel.mono hB))
  have hsz1 : (w.alloc (.cells (imgC 0 0 none 0 0) 26)).heap.size = w.heap.size + 1 := World.size_alloc _ _
  generalize w.alloc (.cells (imgC 0 0 none 0 0) 26) = w1 at *
  have HZ1 := Lib.hid hb1; have HBel1 := Lib.hid bel
  clear hb1 bel hT hbs
  go_wp2_with fail
  refine (fieldsOf_any w1 B n c A fb hl HBs1.out (by omega)).mono ?_
  rintro e w2 ⟨gb, gf, rfl, hfl, hgb, hgf, hb2⟩
  have hs2 := hb2.size
  have HZ2 := Lib.hid (HZ1.out.upd (Upd.of_fresh hb2) id); have HBel2 := Lib.hid (HBel1.out.trans (hb2.mono (by omega)))
  have HT2 := Lib.hid (HT1.out.below hb2 (by show 0 < _; omega))
  have HFL2 := Lib.hid hfl
  clear hb2 HZ1 HBel1 HT1 HBs1 hfl
  go_upto_region 4 with (fail)
  have hbx := (Below.refl w2.heap.size w2).alloc (Nat.le_refl _) (.cells (flC gb gf) 52)
  have hfb := Blk.new w2 52 (flC gb gf)
  obtain ⟨bf, hbf⟩ : ∃ bf, w2.heap.size = bf := ⟨_, rfl⟩
  rw [hbf] at hfb
  rw [hbf]
  have hs3 : (w2.alloc (.cells (flC gb gf) 52)).heap.size = w2.heap.size + 1 := World.size_alloc _ _
  have HFL3 := Lib.hid (HFL2.out.call hbx)
  generalize w2.alloc (.cells (flC gb gf) 52) = w3 at *
  have HFB3 := Lib.hid hfb
  have HZ3 := Lib.hid (HZ2.out.upd (Upd.of_fresh hbx) id); have HBel3 := Lib.hid (HBel2.out.trans (hbx.mono HBel2.out.size))
  have HT3 := Lib.hid (HT2.out.below hbx (by show 0 < _; omega))
  have x0 : w3.cell? ⟨bf, 0, none⟩ = some (.func (.func 49) #[] #[.pointer (some ⟨gb, 0, none⟩), .pointer (some ⟨gf, 0, none⟩)]) := hfb.cell 0
  have x1 : w3.cell? ⟨bf, 1, none⟩ = some (.func (.func 51) #[] #[.pointer (some ⟨gf, 0, none⟩)]) := hfb.cell 1
  clear hbx hfb HFL2 HZ2 HBel2 HT2
  go_wp2_with fail
  refine (headS_no n fb o0 hn1 hnb E hE h0 B gb gf c A w3 HFL3.out (by omega)).mono ?_
  rintro e w4 ⟨rfl, u4⟩
  clear x0 x1
  have hs4 := u4.size
  have HZ4 := Lib.hid (HZ3.out.upd u4 (by omega)); have HBel4 := Lib.hid (HBel3.out.trans (u4.below HBel3.out.size (fun j hj e => by omega)))
  clear u4 HFB3 HZ3 HBel3 HT3 HFL3
  go_upto_region 6 with (fail)
  have hbx := (Below.refl w4.heap.size w4).alloc (Nat.le_refl _) (.cells (hdC 0 0 0 0 false 0 0 0) 55)
  have hzb := IB.of (HZ4.out.upd (Upd.of_fresh hbx) id)
  have HBel5 := Lib.hid (HBel4.out.trans (hbx.mono HBel4.out.size))
  have hs5 : (w4.alloc (.cells (hdC 0 0 0 0 false 0 0 0) 55)).heap.size = w4.heap.size + 1 := World.size_alloc _ _
  generalize w4.alloc (.cells (hdC 0 0 0 0 false 0 0 0) 55) = w5 at *
  have HP := Lib.hid (IB.put hzb (.int .i64 0) (.int .i64 0) (.slice none 0 0) w.heap.size (by omega))
  have HBel9 := Lib.hid (HBel5.out.trans HP.out.2.1)
  obtain ⟨_, d0, d1, d2, f0, f1, f2⟩ := hzb
  clear hbx HZ4 HBel4 HBel5
  go_wp2_with fail
  have n0 := HP.out.1.c0; have n1 := HP.out.1.c1; have n2 := HP.out.1.c2
  refine bodyPost_ret (v := .tuple #[imgV 0 0 none 0 0, .int .i64 9]) (by simp [results, Tryz.results9, go_sem, n0, n1, n2]) rfl ?_
  exact ImR.err HBel9.out
end Go.Proofs.YtnfjeeflcfmpbaaGreatDoor

/- What the laws of BMP begin with. -/
set_option linter.unusedVariables false
set_option linter.unusedSimpArgs false
namespace Go.Proofs.YtnfjeeflcfmpbaaGreatDoor
open Go.ChangeShapes Go.WideShapes Go.ChangeAt Go.RowKit Go.Shelf

set_option maxHeartbeats 400000 in
theorem own_any (A : Option Addr) (c n : Nat) (l : List UInt8) (hn : l.length = n) (B : Nat) (w : World) (h : Bs w B A l) (hB : B ≤ w.heap.size) (hl : n ≤ 140737488355328) :
    Calls Tryz.prog 10 #[.slice A n c] w fun e w' => ∃ A' c', e = .returned (.slice A' n c') ∧
      w'.ownsRow w.heap.size 5 1 (.slice A' n c') n (bytesV l) ∧ Below w.heap.size w w' := by
  subst hn
  obtain ⟨A1, c1, w1, hrun, o1, hg1⟩ := append8 w.heap.size (w.alloc (.cells #[] 5)) (.slice (some ⟨w.heap.size, 0, none⟩) 0 0) 0 [] (World.ownsRow_made w #[] 0 (Nat.le_refl _) (by unfold maxLen; omega) rfl) (by simp) B A l.length c l rfl (h.alloc hB _) (by omega) 22
  simp only [Nat.zero_add, List.nil_append] at hrun o1
  have HRN := Lib.hid hrun
  have HF := Lib.hid (And.intro o1 (((Below.refl w.heap.size w).alloc (Nat.le_refl _) (.cells #[] 5)).grown hg1 (by simp) (by simp [Value.ownBlock])))
  clear hrun o1 hg1 h
  go_enter Tryz.func10, Tryz.ntmps10
  go_wp2_with (at_builtin; refine wpList_append_run rfl (.tmp 3) (.tmp 4) _ rfl rfl rfl HRN.out ?_)
  go_ret
  exact ⟨A1, c1, rfl, HF.out⟩
/-- The image that the laws try, and its file. -/
def wkL : List Int := [771, 514, 257, 65535]
def wkB : List UInt8 := encB false 1 1 (pxL wkL 1)
set_option maxRecDepth 20000 in
theorem wkB_len : wkB.length = 58 := by decide
set_option maxRecDepth 20000 in
theorem wkB_54 : wkB[54]? = some 1 := by decide
set_option maxRecDepth 20000 in
theorem wkB_56 : wkB[56]? = some 3 := by decide
set_option maxRecDepth 20000 in
theorem wk_ok : HdOk false false 1 1 (numB false (fun i => byteAt wkB (46 + i)) 4) 58 wkB :=
  ⟨by decide, by decide, by decide, by decide, by decide, by decide, by decide, by decide, rfl, by decide, by decide, by decide, by decide, by decide, by decide⟩
set_option maxRecDepth 20000 in
theorem wk_dec : decI false false wkB 1 1 = ⟨1, 1, 0, wkL⟩ := by
  unfold decI
  congr 1
theorem wk_fill : fillI 1 1 ⟨771, 514, 257, 65535⟩ = ⟨1, 1, 0, wkL⟩ := by
  unfold fillI
  rw [if_pos (by decide)]
  rfl
end Go.Proofs.YtnfjeeflcfmpbaaGreatDoor
