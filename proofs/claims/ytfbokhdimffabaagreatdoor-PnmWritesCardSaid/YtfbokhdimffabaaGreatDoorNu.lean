/- The document's row of bits (kind 4), walked. -/
import Derived.Test.YtfbokhdimffabaaGreatDoorNt
set_option linter.unusedVariables false
set_option linter.unusedSimpArgs false
namespace Go.Proofs.YtfbokhdimffabaaGreatDoor
open Go.ChangeShapes Go.WideShapes Go.ChangeAt Go.RowKit Go.Sort

theorem own_lit {w : World} {base n c : Nat} {A : Option Addr} {l : List UInt8} (h : w.ownsRow base 5 1 (.slice A n c) n (bytesV l)) (hb : base ≤ w.heap.size) (x : UInt8) (hlim : n + 1 ≤ 140737488355328) :
    ∃ g' c' w', (Builtin.append_ #[22, 22] 22 #[.slice A n c, .slice (some ⟨w.heap.size, 0, none⟩) 1 1]).run Tryz.prog (w.alloc (.cells #[.int .u8 (x.toNat : Nat)] 5)) = .ok (.slice (some ⟨g', 0, none⟩) (n + 1) c') w' ∧ w'.ownsRow base 5 1 (.slice (some ⟨g', 0, none⟩) (n + 1) c') (n + 1) (bytesV (l ++ [x])) ∧ Upd (fun k => some k = (Value.slice A n c).ownBlock) w w' := by
  obtain ⟨i0, hi, hz0, hz1, hz2⟩ := info_parts info_u8
  have uz : Upd No w (w.alloc (.cells #[.int .u8 (x.toNat : Nat)] 5)) := (Upd.refl No w).alloc _
  have hkz : (w.alloc (.cells #[.int .u8 (x.toNat : Nat)] 5)).cell? ⟨w.heap.size, 0, none⟩ = some (.int .u8 (x.toNat : Nat)) := (Blk.new w 5 #[.int .u8 (x.toNat : Nat)]).cell 0
  obtain ⟨v', w', hr, ho, hg, _⟩ := run_append_own (P := Tryz.prog) _ base 22 22 5 i0 (.int .u8 0) 1 1 Tryz.underlying22 hi hz0 hz1 hz2 rfl (by decide) _ n _ (own_upd h uz (fun _ _ => id)) ⟨w.heap.size, 0, none⟩ 1 1 [.int .u8 (x.toNat : Nat)] (Nat.mul_one _).symm (fun q y hy => by
    match q, hy with
    | 0, hy => simp at hy; subst hy; rw [Lib.add_plain]; exact hkz) (by intro y hy; simp at hy; subst hy; rfl) (by unfold maxLen; omega) (by simp; omega) (Nat.le_trans hb uz.size)
  have he : bytesV (l ++ [x]) = bytesV l ++ [.int .u8 (x.toNat : Nat)] := by simp [bytesV, bv]
  obtain ⟨g, cap, rfl, _⟩ := ho.form (by omega)
  exact ⟨g, cap, w', hr, by rw [he]; exact ho, (uz.mono (fun _ _ h => absurd h id)).then (Upd.of_grown hg) (fun _ _ h => h)⟩
theorem own_set4 {w : World} {base gd n c : Nat} {l : List UInt8} (h : w.ownsRow base 5 1 (.slice (some ⟨gd, 0, none⟩) n c) n (bytesV l)) (q : Nat) (x : UInt8) :
    (w.setCell ⟨gd, q, none⟩ (.int .u8 (x.toNat : Int))).ownsRow base 5 1 (.slice (some ⟨gd, 0, none⟩) n c) n (bytesV (l.set q x)) := by
  have e : bytesV (l.set q x) = (bytesV l).set q (.int .u8 (x.toNat : Int)) := by simp [bytesV, bv, List.map_set]
  rw [e]
  exact (h.stored q _).1
theorem bit4_val (y b r : Nat) (hr : r < 8) (hb : b < 2) (h : y + b * 2 ^ (7 - r) < 256) : ((y : Int) + wrap64 ((b : Int) * 2 ^ (7 - r))) % 256 = ((UInt8.ofNat (y + b * 2 ^ (7 - r))).toNat : Int) := by
  rw [UInt8.toNat_ofNat', Nat.mod_eq_of_lt h]
  obtain rfl | rfl : b = 0 ∨ b = 1 := by omega
  · rw [show ((0 : Nat) : Int) * 2 ^ (7 - r) = 0 by simp, show wrap64 0 = 0 by decide +kernel]
    simp at h ⊢
    omega
  · obtain rfl | rfl | rfl | rfl | rfl | rfl | rfl | rfl : r = 0 ∨ r = 1 ∨ r = 2 ∨ r = 3 ∨ r = 4 ∨ r = 5 ∨ r = 6 ∨ r = 7 := by omega
    all_goals
      simp only [show ((1 : Nat) : Int) = 1 from rfl, Int.one_mul, Nat.one_mul] at h ⊢
      first
        | (rw [show wrap64 ((2 : Int) ^ (7 - 0)) = 128 by decide +kernel]; omega)
        | (rw [show wrap64 ((2 : Int) ^ (7 - 1)) = 64 by decide +kernel]; omega)
        | (rw [show wrap64 ((2 : Int) ^ (7 - 2)) = 32 by decide +kernel]; omega)
        | (rw [show wrap64 ((2 : Int) ^ (7 - 3)) = 16 by decide +kernel]; omega)
        | (rw [show wrap64 ((2 : Int) ^ (7 - 4)) = 8 by decide +kernel]; omega)
        | (rw [show wrap64 ((2 : Int) ^ (7 - 5)) = 4 by decide +kernel]; omega)
        | (rw [show wrap64 ((2 : Int) ^ (7 - 6)) = 2 by decide +kernel]; omega)
        | (rw [show wrap64 ((2 : Int) ^ (7 - 7)) = 1 by decide +kernel]; omega)
set_option maxRecDepth 100000 in
set_option maxHeartbeats 8000000 in
theorem refRow4_any (top : Nat) (h1 : 1 ≤ top) (h2 : top ≤ 65535) (r o c n W H Y : Nat) (l : List Int) (hn : l.length = n) (hn4 : n = 4 * (W * H)) (hf : W * H ≤ 65536) (hlb : ∀ v ∈ l, 0 ≤ v ∧ v ≤ 65535) (hW : W ≤ 4096) (hY : Y < H) (hH : H ≤ 4096) (w : World) (h : Smp w r o l) (hr : r < w.heap.size) :
    Calls Tryz.prog 33 #[imgV W H (some ⟨r, o, none⟩) n c, .int .i64 (Y : Nat), .int .i64 4, .int .i64 (top : Nat)] w fun e w' => ∃ A' lp c', e = .returned (.slice A' lp.length c') ∧ Packed true (rowBt 4 top (rowM 4 top (rowL W (pxL l (W * H)) Y))) lp ∧ w'.ownsRow w.heap.size 5 1 (.slice A' lp.length c') lp.length (bytesV lp) ∧ Below w.heap.size w w' := by
  obtain ⟨w1, hw1, hi, hb⟩ := newImg W H (some ⟨r, o, none⟩) n c w
  have HPX := Lib.hid (fun (V : World) (hV : Below w.heap.size w V) (X : Nat) (hx : X < W) => pixel_any (c := c) hn hn4 hf (h.below hV hr) X Y hx hY)
  have hd : ∀ j, 0 ≤ l.getD j 0 ∧ l.getD j 0 ≤ 65535 := fun j => by
    by_cases hj : j < l.length
    · rw [List.getD_eq_getElem?_getD, List.getElem?_eq_getElem hj]; exact hlb _ (List.getElem_mem hj)
    · rw [List.getD_eq_getElem?_getD, List.getElem?_eq_none (by omega)]; simp
  have HCK := Lib.hid (fun j => (⟨hd _, hd _, hd _⟩ : ColK (pxAt l j)))
  have HSM := Lib.hid (fun x hx V => refSamples_any 4 top (by omega) (by omega) h1 h2 x hx V)
  have hLl : (rowL W (pxL l (W * H)) Y).length = W := rowL_length (pxL_length l (W * H)) hY
  have HLX := Lib.hid (fun (X : Nat) (hx : X < W) (hX : X < (rowL W (pxL l (W * H)) Y).length) => rowL_px (l := l) (H := H) hx hY hX)
  have hst : IB w1 w.heap.size (.int .i64 (W : Nat)) (.int .i64 (H : Nat)) (.slice (some ⟨r, o, none⟩) n c) ∧ w1.ownsRow w.heap.size 5 1 (.slice none 0 0) 0 (bytesV []) ∧ Packed true (rowBt 4 top (rowM 4 top ((rowL W (pxL l (W * H)) Y).take 0))) [] ∧ Below w.heap.size w w1 := ⟨hi, World.ownsRow_nil _ _ _ _, ⟨by simp [rowBt, rowM], fun i => by simp [rowBt, rowM, bitAt]⟩, hb⟩
  have HST := Lib.hid hst
  have HW1 := Lib.hid hw1
  obtain ⟨Lr, hLr⟩ : ∃ Lr, rowL W (pxL l (W * H)) Y = Lr := ⟨_, rfl⟩
  rw [hLr] at HST hLl HLX ⊢
  have HLL := Lib.hid hLl
  clear hw1 hi hb hst h hd hlb hLr hLl hn hn4
  go_enter Tryz.func33, Tryz.ntmps33
  go_upto_region 1 with (fail)
  have hw1 := HW1.out
  try rw [hw1]
  clear hw1
  go_wp2_with fail
  go_loopw [9, 10] (fun v iv wr => ∃ (X : Nat) (lp : List UInt8) (A' : Option Addr) (c' : Nat), X ≤ W ∧ v = .slice A' lp.length c' ∧ iv = .int .i64 (X : Int) ∧ Hid (IB wr w.heap.size (.int .i64 (W : Nat)) (.int .i64 (H : Nat)) (.slice (some ⟨r, o, none⟩) n c) ∧ wr.ownsRow w.heap.size 5 1 (.slice A' lp.length c') lp.length (bytesV lp) ∧ Packed true (rowBt 4 top (rowM 4 top (Lr.take X))) lp ∧ Below w.heap.size w wr)) (fun _ iv _ => W - (intOf iv).toNat)
  case atStart => exact ⟨0, [], none, 0, Nat.zero_le _, rfl, rfl, HST⟩
  case round =>
    obtain ⟨X, lp, A', c', hX, rfl, rfl, HV⟩ := hrel
    have q0 := HV.out.1.c0; have q1 := HV.out.1.c1; have q2 := HV.out.1.c2
    by_cases hlt : X < W
    · have hP := Lib.hid (HPX.out wr HV.out.2.2.2 X hlt)
      have hxe := HLX.out X hlt (by rw [HLL.out]; exact hlt)
      have HC := HCK.out (4 * (Y * W + X))
      have HSX := Lib.hid (fun V => HSM.out _ HC V)
      have HNX : Hid (rowM 4 top (Lr.take (X + 1)) = rowM 4 top (Lr.take X) ++ (partM 4 (pxAt l (4 * (Y * W + X)))).map (sampM 4 top)) := Lib.hid (by
        rw [List.take_succ_eq_append_getElem (by rw [HLL.out]; exact hlt), rowM_app, hxe])
      generalize pxAt l (4 * (Y * W + X)) = x at *
      have hxc : ColK x := HC
      obtain ⟨bt, hbt2, hbt⟩ : ∃ bt : Nat, bt < 2 ∧ (partM 4 x).map (sampM 4 top) = [(bt : Int)] := by
        have hl16 := lum16 hxc
        have h9 := bitS_one (k := 4) (top := top) (.inr rfl) hl16
        refine ⟨if lumS x.r x.g x.b < 32768 then 1 else 0, by split <;> omega, ?_⟩
        show [sampM 4 top (lumS x.r x.g x.b)] = _
        rw [h9]
        split <;> rfl
      have hSl : (rowM 4 top (Lr.take X)).length = X := by rw [rowM_length, List.length_take, HLL.out, Nat.min_eq_left hX]; exact Nat.one_mul X
      unfold SmpR at HSX
      rw [hbt] at HSX HNX
      have hpl : plN 4 = 1 := rfl
      rw [hpl] at HSX
      have hbl : (rowBt 4 top (rowM 4 top (Lr.take X))).length = X := by rw [rowBt_length, hSl]; exact Nat.one_mul X
      obtain ⟨BS, hBS⟩ : ∃ BS, rowBt 4 top (rowM 4 top (Lr.take X)) = BS := ⟨_, rfl⟩
      have HNB : Hid (rowBt 4 top (rowM 4 top (Lr.take (X + 1))) = BS ++ [bt == 1]) := Lib.hid (by
        rw [HNX.out, rowBt_snoc, hBS]
        have hdp : depN 4 top = 1 := by simp [depN, kGr]
        rw [hdp]
        congr 1
        obtain rfl | rfl : bt = 0 ∨ bt = 1 := by omega
        · decide
        · decide)
      rw [hBS] at HV hbl
      have HBL := Lib.hid hbl
      clear HC hxc hxe hbt hSl hpl hBS hbl HNX
      go_wp2_with fail
      refine hP.out.mono ?_
      rintro e w2 ⟨rfl, hb2⟩
      have HB2 := Lib.hid hb2
      clear hb2
      go_wp2_with fail
      refine (HSX.out w2).mono ?_
      rintro e w3 ⟨b, rfl, kb, hb3⟩
      have hb23 := HB2.out.trans (hb3.mono HB2.out.size)
      have HS1 : Hid (IB w3 w.heap.size (.int .i64 (W : Nat)) (.int .i64 (H : Nat)) (.slice (some ⟨r, o, none⟩) n c) ∧ w3.ownsRow w.heap.size 5 1 (.slice A' lp.length c') lp.length (bytesV lp) ∧ Packed true (BS ++ [bt == 1].take 0) lp ∧ Blk w3 b 3 #[.int .i64 (bt : Int)] ∧ Below w.heap.size w w3) := Lib.hid ⟨HV.out.1.call hb23, own_upd HV.out.2.1 (Upd.of_fresh hb23) (fun _ _ => id), by rw [List.take_zero, List.append_nil]; exact HV.out.2.2.1, kb, HV.out.2.2.2.trans (hb23.mono HV.out.2.2.2.size)⟩
      clear kb hb3 hb23 HB2 HSX hP q0 q1 q2 HV
      go_wp2_with fail
      go_loopw [9, 12] (fun v iv wr => ∃ (K : Nat) (lp : List UInt8) (A' : Option Addr) (c' : Nat), K ≤ 1 ∧ v = .slice A' lp.length c' ∧ iv = .int .i64 (K : Int) ∧ Hid (IB wr w.heap.size (.int .i64 (W : Nat)) (.int .i64 (H : Nat)) (.slice (some ⟨r, o, none⟩) n c) ∧ wr.ownsRow w.heap.size 5 1 (.slice A' lp.length c') lp.length (bytesV lp) ∧ Packed true (BS ++ [bt == 1].take K) lp ∧ Blk wr b 3 #[.int .i64 (bt : Int)] ∧ Below w.heap.size w wr)) (fun _ iv _ => 1 - (intOf iv).toNat)
      case atStart => exact ⟨0, lp, A', c', Nat.zero_le _, rfl, rfl, HS1⟩
      case round =>
        clear HS1
        obtain ⟨K, lp, A', c', hK, rfl, rfl, HZ⟩ := hrel
        by_cases hlk : K < 1
        · obtain rfl : K = 0 := by omega
          have hpk : Packed true BS lp := by have := HZ.out.2.2.1; rwa [List.take_zero, List.append_nil] at this
          have hbl := HBL.out
          have hlen := hpk.1
          rw [hbl] at hlen
          obtain ⟨hpb, hval⟩ := packed_bit hpk bt hbt2
          obtain ⟨hgq, hgl⟩ := grow4_len hpk
          rw [hbl] at hpb hval hgq hgl
          obtain ⟨q, hq⟩ : ∃ q, X / 8 = q := ⟨_, rfl⟩
          obtain ⟨rr, hrr⟩ : ∃ rr, X % 8 = rr := ⟨_, rfl⟩
          have hqi : (X : Int) / 8 = (q : Int) := by omega
          have hri : (X : Int) % 8 = (rr : Int) := by omega
          have hr8 : rr < 8 := by omega
          obtain ⟨y, hy⟩ : ∃ y, (grow4 X lp)[X / 8]?.getD 0 = y := ⟨_, rfl⟩
          rw [hy, hrr] at hval
          have HBV := Lib.hid (bit4_val y.toNat bt rr hr8 hbt2 hval)
          have HAD : Hid (add4 X lp bt = (grow4 X lp).set q (UInt8.ofNat (y.toNat + bt * 2 ^ (7 - rr)))) := Lib.hid (by unfold add4; rw [hy, hq, hrr])
          rw [hq] at hgq hgl hy
          have hyq : (grow4 X lp)[q]'hgq = y := by rw [← hy, List.getElem?_eq_getElem hgq, Option.getD_some]
          have HEND : Hid (∀ (w5 : World) (g c5 : Nat), IB w5 w.heap.size (.int .i64 (W : Nat)) (.int .i64 (H : Nat)) (.slice (some ⟨r, o, none⟩) n c) → w5.ownsRow w.heap.size 5 1 (.slice (some ⟨g, 0, none⟩) (q + 1) c5) (q + 1) (bytesV (grow4 X lp)) → Blk w5 b 3 #[.int .i64 (bt : Int)] → Below w.heap.size w w5 →
              (w5.cell? ⟨g, q, none⟩ = some (.int .u8 (y.toNat : Int)) ∧ w5.frozen? ⟨g, q, none⟩ = false ∧ w5.cell? ⟨b, 0, none⟩ = some (.int .i64 (bt : Int)) ∧
              ∀ z : Int, z = ((UInt8.ofNat (y.toNat + bt * 2 ^ (7 - rr))).toNat : Int) → ∃ (lp2 : List UInt8), lp2.length = q + 1 ∧ IB (w5.setCell ⟨g, q, none⟩ (.int .u8 z)).drew w.heap.size (.int .i64 (W : Nat)) (.int .i64 (H : Nat)) (.slice (some ⟨r, o, none⟩) n c) ∧ (w5.setCell ⟨g, q, none⟩ (.int .u8 z)).drew.ownsRow w.heap.size 5 1 (.slice (some ⟨g, 0, none⟩) lp2.length c5) lp2.length (bytesV lp2) ∧ Packed true (BS ++ [bt == 1].take 1) lp2 ∧ Blk (w5.setCell ⟨g, q, none⟩ (.int .u8 z)).drew b 3 #[.int .i64 (bt : Int)] ∧ Below w.heap.size w (w5.setCell ⟨g, q, none⟩ (.int .u8 z)).drew)) := Lib.hid (by
            intro w5 g c5 i5 o5 k5 b5
            have hg5 : w.heap.size ≤ g := (o5.lt g rfl).1
            have hu : Upd (· = g) w5 (w5.setCell ⟨g, q, none⟩ (.int .u8 0)) := (Upd.refl (· = g) w5).setCell (fun _ => rfl) _
            refine ⟨?_, o5.frozenAt q, k5.cell 0, ?_⟩
            · rw [o5.cellAt q (by omega), bytesV_get _ q hgq, hyq]
            · rintro z rfl
              have hu : Upd (· = g) w5 (w5.setCell ⟨g, q, none⟩ (.int .u8 ((UInt8.ofNat (y.toNat + bt * 2 ^ (7 - rr))).toNat : Int))) := (Upd.refl (· = g) w5).setCell (fun _ => rfl) _
              have hl2 : (add4 X lp bt).length = q + 1 := by rw [HAD.out, List.length_set, hgl]
              have h9 := own_set4 o5 q (UInt8.ofNat (y.toNat + bt * 2 ^ (7 - rr)))
              rw [← HAD.out] at h9
              refine ⟨add4 X lp bt, hl2, IB.of (i5.blk.upd hu.drew (fun e => own_blk_ne o5 i5.blk (by decide) (by rw [e]; rfl))), by rw [hl2]; exact h9, hpb, k5.upd hu.drew (fun e => own_blk_ne o5 k5 (by decide) (by rw [e]; rfl)), (b5.setCell hg5 _).drew⟩)
          clear hpb hval hy hyq
          by_cases hr0 : rr = 0
          · have hgr : grow4 X lp = lp ++ [0] := by unfold grow4; rw [if_pos (by omega)]
            have hl9 : lp.length = q := by omega
            obtain ⟨g5, c5, w5, hrun, o5, u5⟩ := own_lit HZ.out.2.1 HZ.out.2.2.2.2.size 0 (by omega)
            rw [← hgr, hl9] at o5
            obtain ⟨z1, z2, z3, z4⟩ := HEND.out w5 g5 c5 (IB.of (HZ.out.1.blk.upd u5 (fun e => own_blk_ne HZ.out.2.1 HZ.out.1.blk (by decide) e.symm))) o5 (HZ.out.2.2.2.1.upd u5 (fun e => own_blk_ne HZ.out.2.1 HZ.out.2.2.2.1 (by decide) e.symm)) (HZ.out.2.2.2.2.trans (u5.below HZ.out.2.2.2.2.size (fun j hj e => by have := (HZ.out.2.1.lt j e.symm).1; omega)))
            have HZ4 := Lib.hid z4
            have HRN := Lib.hid hrun
            rw [hl9] at HRN ⊢
            clear z4 hgr o5 HEND HAD hgq hgl HBL hlen u5 hrun
            go_upto_region 19 with (at_builtin; refine wpList_append_run rfl (.tmp 75) (.tmp 76) _ rfl rfl rfl HRN.out ?_)
            go_region
            obtain ⟨lp2, hlp2, hz9⟩ := HZ4.out ((y.toNat + (bt : Int) * 128) % 256) (by
              rw [← HBV.out, hr0]
              obtain rfl | rfl : bt = 0 ∨ bt = 1 := by omega
              · rw [show wrap64 (((0 : Nat) : Int) * 2 ^ (7 - 0)) = 0 by decide +kernel]; simp
              · rw [show wrap64 (((1 : Nat) : Int) * 2 ^ (7 - 0)) = 128 by decide +kernel]; simp)
            have HZ9 := Lib.hid hz9
            clear hz9 HZ4 z1 z2 z3
            go_wp2_with fail
            go_roundw
            case rel => exact ⟨1, lp2, some ⟨g5, 0, none⟩, c5, by omega, by rw [hlp2], by go_num, HZ9⟩
            case measure => simp [intOf]
          · have hgr : grow4 X lp = lp := by unfold grow4; rw [if_neg (by omega)]
            have hl9 : lp.length = q + 1 := by rw [← hgl, hgr]
            obtain ⟨g, rfl, _⟩ := row_form HZ.out.2.1 (by omega)
            have o5 := HZ.out.2.1
            rw [hl9] at o5
            obtain ⟨z1, z2, z3, z4⟩ := HEND.out wr g c' HZ.out.1 (by rw [hgr]; exact o5) HZ.out.2.2.2.1 HZ.out.2.2.2.2
            have HZ4 := Lib.hid z4
            rw [hl9]
            clear z4 hgr o5 HEND HAD hgq hgl HBL hlen
            go_upto_region 19 with (fail)
            go_region
            obtain ⟨lp2, hlp2, hz9⟩ := HZ4.out _ HBV.out
            have HZ9 := Lib.hid hz9
            clear hz9 HZ4 z1 z2 z3
            go_wp2_with fail
            go_roundw
            case rel => exact ⟨1, lp2, some ⟨g, 0, none⟩, c', by omega, by rw [hlp2], by go_num, HZ9⟩
            case measure => simp [intOf]
        · obtain rfl : K = 1 := by omega
          have HN1 : Hid (IB wr w.heap.size (.int .i64 (W : Nat)) (.int .i64 (H : Nat)) (.slice (some ⟨r, o, none⟩) n c) ∧ wr.ownsRow w.heap.size 5 1 (.slice A' lp.length c') lp.length (bytesV lp) ∧ Packed true (rowBt 4 top (rowM 4 top (Lr.take (X + 1)))) lp ∧ Below w.heap.size w wr) := Lib.hid ⟨HZ.out.1, HZ.out.2.1, by rw [HNB.out]; exact HZ.out.2.2.1, HZ.out.2.2.2.2⟩
          go_wp2_with fail
          go_roundw
          case rel => exact ⟨X + 1, lp, A', c', by omega, rfl, by go_num, HN1⟩
          case measure => simp [intOf]; omega
    · obtain rfl : X = W := by omega
      have HF : Hid (Packed true (rowBt 4 top (rowM 4 top Lr)) lp ∧ wr.ownsRow w.heap.size 5 1 (.slice A' lp.length c') lp.length (bytesV lp) ∧ Below w.heap.size w wr) := Lib.hid ⟨by
        have h9 := HV.out.2.2.1
        have e : Lr.take X = Lr := List.take_of_length_le (by rw [HLL.out]; exact Nat.le_refl _)
        rwa [e] at h9, HV.out.2.1, HV.out.2.2.2⟩
      go_wp2_with fail
      go_ret
      exact ⟨A', lp, c', rfl, HF.out⟩
end Go.Proofs.YtfbokhdimffabaaGreatDoor
