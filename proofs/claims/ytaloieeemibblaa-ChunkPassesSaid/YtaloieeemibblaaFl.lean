/- The document's passes. -/
import Derived.Test.YtaloieeemibblaaEm
set_option linter.unusedVariables false
set_option linter.unusedSimpArgs false
namespace Go.Proofs.Ytaloieeemibblaa
open Go.ChangeShapes Go.WideShapes Go.ChangeAt Go.RowKit

theorem st_run {f s e : Int} (hf : 0 ≤ f ∧ f ≤ 4) (hs : 1 ≤ s ∧ s ≤ 8) (he : -9223372036854775808 ≤ e ∧ e ≤ 9223372036854775807) (h : f < e) :
    (e - f - 1) / s + 1 = stI f s e ∧ 0 ≤ (e - f - 1) / s ∧ (e - f - 1) / s ≤ 9223372036854775806 := by
  refine ⟨?_, ?_, ?_⟩
  · unfold stI
    rw [if_neg (by omega)]
  · exact Int.ediv_nonneg (by omega) (by omega)
  · exact Int.le_trans (Int.ediv_le_self _ (by omega)) (by omega)
set_option maxRecDepth 100000 in
set_option maxHeartbeats 8000000 in
theorem refPasses_any (width height : Int) (hw : -9223372036854775808 ≤ width ∧ width ≤ 9223372036854775807) (hh : -9223372036854775808 ≤ height ∧ height ≤ 9223372036854775807) (w : World) :
    Calls Try.prog 24 #[.int .i64 width, .int .i64 height] w fun e w' => ∃ A n c, e = .returned (.slice A n c) ∧ w'.ownsRow w.heap.size 53 6 (.slice A n c) n (intsV (pasL width height 7)) ∧ (pasL width height 7).length = 6 * n ∧ Below w.heap.size w w' := by
  go_enter Try.func24, Try.ntmps24
  go_wp2_with fail
  go_loopw [6, 7] (fun v i wr => ∃ (k : Nat) (A : Option Addr) (n c : Nat), k ≤ 7 ∧ v = .slice A n c ∧ i = .int .i64 (k : Int) ∧ Hid (PaS w width height k A n c wr)) (fun v i _ => 7 - (intOf i).toNat)
  case atStart => exact ⟨0, none, 0, 0, by omega, rfl, rfl, Lib.hid ⟨Blk.new w _ _, World.ownsRow_nil _ _ _ _, by simp, rfl, Nat.le_refl _, (Below.refl _ _).alloc (Nat.le_refl _) _⟩⟩
  case round =>
    obtain ⟨k, A, n, c, hk, rfl, rfl, HJ⟩ := hrel
    by_cases hlt : k < 7
    · obtain ⟨o, ho⟩ : ∃ o, o = 6 * k := ⟨_, rfl⟩
      have hbd := p_bd k
      have x0 := pas_cell HJ.out.all k o 0 ho hlt (by omega)
      have x1 := pas_cell HJ.out.all k o 1 ho hlt (by omega)
      have x2 := pas_cell HJ.out.all k o 2 ho hlt (by omega)
      have x3 := pas_cell HJ.out.all k o 3 ho hlt (by omega)
      have x4 := pas_cell HJ.out.all k o 4 ho hlt (by omega)
      have x5 := pas_cell HJ.out.all k o 5 ho hlt (by omega)
      simp only [List.getD, List.getElem?_cons_zero, List.getElem?_cons_succ, Option.getD_some, Nat.add_zero] at x0 x1 x2 x3 x4 x5
      have HPL : Hid (pasL width height (k + 1) = pasL width height k ++ if (pX k : Int) < width ∧ (pY k : Int) < height then [(pX k : Int), pY k, pDX k, pDY k, stI (pX k) (pDX k) width, stI (pY k) (pDY k) height] else []) := Lib.hid rfl
      obtain ⟨b1, b2, b3, b4, b5, b6⟩ := hbd
      have w1 := st_run (f := (pX k : Int)) (s := (pDX k : Int)) (e := width) (by omega) (by omega) hw
      have w2 := st_run (f := (pY k : Int)) (s := (pDY k : Int)) (e := height) (by omega) (by omega) hh
      generalize stI (pX k) (pDX k) width = SW at *
      generalize stI (pY k) (pDY k) height = SH at *
      generalize pX k = X at *
      generalize pY k = Y at *
      generalize pDX k = DX at *
      generalize pDY k = DY at *
      have hka : k * 6 = o := by omega
      have HO := Lib.hid ho
      clear ho
      go_upto_region 7 with (fail)
      have hnb := Blk.new wr 53 #[.int .i64 (X : Int), .int .i64 (Y : Int), .int .i64 (DX : Int), .int .i64 (DY : Int), .int .i64 0, .int .i64 0]
      have ua := (Upd.refl No wr).alloc (.cells #[.int .i64 (X : Int), .int .i64 (Y : Int), .int .i64 (DX : Int), .int .i64 (DY : Int), .int .i64 0, .int .i64 0] 53)
      obtain ⟨pb, hpb⟩ : ∃ pb, wr.heap.size = pb := ⟨_, rfl⟩
      have hbl := HJ.out.bel.size
      rw [hpb] at hnb
      rw [hpb]
      have HA1 := Lib.hid (HJ.out.all.upd ua id)
      have HR1 := Lib.hid (own_upd HJ.out.row ua (fun _ _ => id))
      have HB1 := Lib.hid (HJ.out.bel.trans (ua.fresh.mono hbl))
      have hal := HJ.out.all.lt
      have hne : pb ≠ w.heap.size := by omega
      have HRL := Lib.hid (fun j hj => (HJ.out.row.lt j hj))
      have HLEN := Lib.hid (And.intro HJ.out.len HJ.out.hn)
      generalize wr.alloc (.cells #[.int .i64 (X : Int), .int .i64 (Y : Int), .int .i64 (DX : Int), .int .i64 (DY : Int), .int .i64 0, .int .i64 0] 53) = V1 at *
      have p0 : V1.cell? ⟨pb, 0, none⟩ = some (.int .i64 (X : Int)) := hnb.cell 0
      have p1 : V1.cell? ⟨pb, 1, none⟩ = some (.int .i64 (Y : Int)) := hnb.cell 1
      clear x0 x1 x2 x3 x4 x5 HJ
      by_cases hc : (X : Int) < width ∧ (Y : Int) < height
      · have HC := Lib.hid hc
        obtain ⟨c1, c2⟩ := hc
        obtain ⟨g1, g2, g3⟩ := w1 c1
        obtain ⟨k1, k2, k3⟩ := w2 c2
        rw [if_pos ⟨c1, c2⟩] at HPL
        have GX := Lib.hid g1
        have GY := Lib.hid k1
        clear w1 w2 g1 k1
        have p2 : V1.cell? ⟨pb, 2, none⟩ = some (.int .i64 (DX : Int)) := hnb.cell 2
        have p4 : V1.cell? ⟨pb, 4, none⟩ = some (.int .i64 0) := hnb.cell 4
        have f4 := hnb.frozen 4
        clear c1 c2
        have c1 : (X : Int) < width := by have := HC.out.1; omega
        have c2 : (Y : Int) < height := by have := HC.out.2; omega
        go_upto_region 9 with (fail)
        rw [GX.out]
        have hnb2 : Blk (V1.setCell ⟨pb, 4, none⟩ (.int .i64 SW)) pb 53 #[.int .i64 (X : Int), .int .i64 (Y : Int), .int .i64 (DX : Int), .int .i64 (DY : Int), .int .i64 SW, .int .i64 0] := by simpa using hnb.set_ 4 (.int .i64 SW)
        have us := (Upd.refl (· = pb) V1).setCell (p := ⟨pb, 4, none⟩) (fun _ => rfl) (.int .i64 SW)
        generalize V1.setCell ⟨pb, 4, none⟩ (.int .i64 SW) = V2 at *
        clear p0 p1 p2 p4 f4
        have p1 : V2.cell? ⟨pb, 1, none⟩ = some (.int .i64 (Y : Int)) := hnb2.cell 1
        have p3 : V2.cell? ⟨pb, 3, none⟩ = some (.int .i64 (DY : Int)) := hnb2.cell 3
        have p5 : V2.cell? ⟨pb, 5, none⟩ = some (.int .i64 0) := hnb2.cell 5
        have f5 := hnb2.frozen 5
        go_upto_region 10 with (fail)
        rw [GY.out]
        have hnb3 : Blk (V2.setCell ⟨pb, 5, none⟩ (.int .i64 SH)) pb 53 #[.int .i64 (X : Int), .int .i64 (Y : Int), .int .i64 (DX : Int), .int .i64 (DY : Int), .int .i64 SW, .int .i64 SH] := by simpa using hnb2.set_ 5 (.int .i64 SH)
        have us2 := us.setCell (p := ⟨pb, 5, none⟩) (fun _ => rfl) (.int .i64 SH)
        generalize V2.setCell ⟨pb, 5, none⟩ (.int .i64 SH) = W3 at *
        clear p1 p3 p5 f5
        have r0 : W3.cell? ⟨pb, 0, none⟩ = some (.int .i64 (X : Int)) := hnb3.cell 0
        have r1 : W3.cell? ⟨pb, 1, none⟩ = some (.int .i64 (Y : Int)) := hnb3.cell 1
        have r2 : W3.cell? ⟨pb, 2, none⟩ = some (.int .i64 (DX : Int)) := hnb3.cell 2
        have r3 : W3.cell? ⟨pb, 3, none⟩ = some (.int .i64 (DY : Int)) := hnb3.cell 3
        have r4 : W3.cell? ⟨pb, 4, none⟩ = some (.int .i64 SW) := hnb3.cell 4
        have r5 : W3.cell? ⟨pb, 5, none⟩ = some (.int .i64 SH) := hnb3.cell 5
        have HA2 := HA1.out.upd us2 (fun e => hne e.symm)
        have HR2 := own_upd HR1.out us2 (fun j hj e => by have := (HRL.out j hj).2; omega)
        have HB2 := HB1.out.trans (us2.below (HB1.out.size) (fun j hj e => by omega))
        have ua3 := (Upd.refl No W3).alloc (.cells #[.int .i64 (X : Int), .int .i64 (Y : Int), .int .i64 (DX : Int), .int .i64 (DY : Int), .int .i64 SW, .int .i64 SH] 53)
        have hl3 := Blk.new W3 53 #[.int .i64 (X : Int), .int .i64 (Y : Int), .int .i64 (DX : Int), .int .i64 (DY : Int), .int .i64 SW, .int .i64 SH]
        obtain ⟨A9, c9, w9, hrun, o9, hg9⟩ := append_pass (w.heap.size + 1) _ (.slice A n c) n (pasL width height k) (own_upd HR2 ua3 (fun _ _ => id)) (Nat.le_trans HA2.lt ua3.size) W3.heap.size X Y DX DY SW SH hl3 (by have := HLEN.out.2; omega) 49
        have u9 : Upd (fun j => some j = (Value.slice A n c).ownBlock) (W3.alloc (.cells #[.int .i64 (X : Int), .int .i64 (Y : Int), .int .i64 (DX : Int), .int .i64 (DY : Int), .int .i64 SW, .int .i64 SH] 53)) w9 := (Upd.of_grown hg9).mono (fun j _ e => e)
        have HPA : Hid (PaS w width height (k + 1) A9 (n + 1) c9 w9) := Lib.hid ⟨(HA2.upd ua3 id).upd u9 (fun e => by have := (HR2.lt _ e.symm).1; omega), by rw [HPL.out]; exact o9, Nat.lt_of_lt_of_le HA2.lt (Nat.le_trans ua3.size u9.size), by rw [HPL.out, List.length_append, HLEN.out.1]; simp; omega, by have := HLEN.out.2; omega,
          (HB2.trans (ua3.fresh.mono HB2.size)).trans (u9.below (Nat.le_trans HB2.size ua3.size) (fun j hj e => by have := (HR2.lt j e.symm).1; omega))⟩
        have HRN := Lib.hid hrun
        clear hrun o9 hg9 u9 ua3 hl3 HA2 HR2 HB2 hnb hnb2 hnb3 us us2 ua HA1 HR1 HB1
        go_wp2_with (at_builtin; refine wpList_append_run rfl (.tmp 57) (.tmp 59) _ rfl rfl rfl HRN.out ?_)
        go_roundw
        case rel => exact ⟨k + 1, A9, n + 1, c9, by omega, rfl, by go_num, HPA⟩
        case measure => simp [intOf]; omega
      · rw [if_neg hc] at HPL
        have HPA : Hid (PaS w width height (k + 1) A n c V1) := Lib.hid ⟨HA1.out, by rw [HPL.out, List.append_nil]; exact HR1.out, HA1.out.lt, by rw [HPL.out, List.append_nil]; exact HLEN.out.1, by have := HLEN.out.2; omega, HB1.out⟩
        clear HA1 HR1 HB1 ua w1 w2 hnb
        by_cases hc1 : (X : Int) < width
        · have hc2 : ¬ (Y : Int) < height := fun h => hc ⟨hc1, h⟩
          clear hc
          go_wp2_with fail
          go_roundw
          case rel => exact ⟨k + 1, A, n, c, by omega, rfl, by go_num, HPA⟩
          case measure => simp [intOf]; omega
        · clear hc
          go_wp2_with fail
          go_roundw
          case rel => exact ⟨k + 1, A, n, c, by omega, rfl, by go_num, HPA⟩
          case measure => simp [intOf]; omega
    · obtain rfl : k = 7 := by omega
      go_wp2_with fail
      go_ret
      exact ⟨A, n, c, rfl, own_low HJ.out.row (by omega), HJ.out.len, HJ.out.bel⟩
end Go.Proofs.Ytaloieeemibblaa
