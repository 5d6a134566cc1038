/- The document's Encode, walked. -/
import Derived.Test.YtfbokhdimffabaaGreatDoorNv
set_option linter.unusedVariables false
set_option linter.unusedSimpArgs false
namespace Go.Proofs.YtfbokhdimffabaaGreatDoor
open Go.ChangeShapes Go.WideShapes Go.ChangeAt Go.RowKit Go.Sort

theorem lnS_gr {k : Nat} {kind W H top : Int} (h : kGr k = true) : lnS k kind W H top = ByteArray.mk #[80] ++ itS kind ++ ByteArray.mk #[10] ++ itS W ++ ByteArray.mk #[32] ++ itS H ++ ByteArray.mk #[10] ++ (itS top ++ ByteArray.mk #[10]) := by
  unfold lnS; rw [if_pos h]
theorem lnS_ng {k : Nat} {kind W H top : Int} (h : kGr k = false) : lnS k kind W H top = ByteArray.mk #[80] ++ itS kind ++ ByteArray.mk #[10] ++ itS W ++ ByteArray.mk #[32] ++ itS H ++ ByteArray.mk #[10] := by
  unfold lnS; rw [if_neg (by simp [h])]
theorem rowsQ_zero (k top W : Nat) (L : List Col) : RowsQ k top W L 0 [] := ⟨fun _ => rfl, fun _ => ⟨by simp [bitT], fun i => by simp [bitT, bitAt]⟩⟩
set_option maxRecDepth 100000 in
set_option maxHeartbeats 8000000 in
theorem refEncode_any (W H kind top : Int) (A : Option Addr) (n c : Nat) (l : List Int) (hn : l.length = n) (hlb : ∀ v ∈ l, 0 ≤ v ∧ v ≤ 65535) (hk : I64 kind) (htp : I64 top) (B : Nat) (w : World) (hT : Pow10 w) (h : Us w B A l) (hB : B ≤ w.heap.size) :
    Calls Tryz.prog 13 #[imgV W H A n c, .int .i64 kind, .int .i64 top] w (EncQ w W H l kind top) := by
  obtain ⟨w1, hw1, hi, hb⟩ := newImg W H A n c w
  have HW1 := Lib.hid hw1
  have HI := Lib.hid hi
  have HB := Lib.hid hb
  have HTB := Lib.hid (Lib.tabBelow_of_tabIs hT)
  have HV := Lib.hid h
  have HGD := Lib.hid (fun V => refGood_any W H A n c V)
  clear hw1 hi hb h hT
  go_enter Tryz.func13, Tryz.ntmps13
  go_upto_region 1 with (fail)
  rw [HW1.out]
  clear HW1
  have q0 := HI.out.c0; have q1 := HI.out.c1; have q2 := HI.out.c2
  go_wp2_with fail
  refine (HGD.out w1).mono ?_
  rintro e w2 ⟨rfl, hb2⟩
  have HB2 := Lib.hid (HB.out.trans (hb2.mono HB.out.size))
  have HI2 := Lib.hid (HI.out.call hb2)
  have hs12 := hb2.size
  clear hb2 HI q0 q1 q2 HGD
  cases hg : goodB W H n with
  | false =>
    have HG := Lib.hid hg
    clear hg
    go_wp2_with fail
    go_ret2
    exact .inl ⟨by rw [hn]; exact HG.out, rfl, HB2.out⟩
  | true =>
  have HG := Lib.hid hg
  obtain ⟨W, H, rfl, rfl, hn4, hf, hw1, hw2, hh1, hh2⟩ := goodB_nat hg
  have HN4 := Lib.hid hn4
  obtain ⟨r, o, rfl, hr, hsm⟩ := HV.out.smp (by have := Nat.mul_pos hw1 hh1; omega)
  by_cases hkk : 1 ≤ kind ∧ kind ≤ 6
  · obtain ⟨k, rfl⟩ : ∃ k : Nat, kind = (k : Int) := ⟨kind.toNat, by omega⟩
    by_cases htt : 1 ≤ top ∧ top ≤ 65535
    · obtain ⟨tp, rfl⟩ : ∃ tp : Nat, top = (tp : Int) := ⟨top.toNat, by omega⟩
      have sk := itS_size hk
      have sW := itS_size (x := (W : Nat)) ⟨by omega, by omega⟩
      have sH := itS_size (x := (H : Nat)) ⟨by omega, by omega⟩
      have sT := itS_size htp
      have iW : I64 (W : Nat) := ⟨by omega, by omega⟩
      have iH : I64 (H : Nat) := ⟨by omega, by omega⟩
      have HRW := Lib.hid (fun (y : Nat) (hy : y < H) (V : World) (hV : Below w.heap.size w V) => refRow_any k tp (by omega) (by omega) (by omega) (by omega) r o c n W H y l hn hn4 hf hlb hw1 hw2 hy hh2 V (hsm.below (hV.mono hB) hr) (by have := hV.size; omega) (HTB.out V hV))
      have HIT := Lib.hid (fun x hx V ht => itoa_any x hx V ht)
      have HR := Lib.hid (And.intro hk (And.intro iW (And.intro iH htp)))
      have hfull : Hid (∀ w', Below w2.heap.size w2 w' → (Below w2.heap.size w2 w' ∧ Pow10 w' ∧ w'.cell? ⟨w.heap.size, 0, none⟩ = some (.int .i64 (W : Nat)) ∧ w'.cell? ⟨w.heap.size, 1, none⟩ = some (.int .i64 (H : Nat)))) :=
        Lib.hid fun w' hx => ⟨hx, HTB.out w' (HB2.out.trans (hx.mono HB2.out.size)), (HI2.out.call hx).c0, (HI2.out.call hx).c1⟩
      have g1 : ¬ (9223372036854775807 < 1 + (itS k).size) := by omega
      have g2 : ¬ (9223372036854775807 < 1 + (itS k).size + 1) := by omega
      have g3 : ¬ (9223372036854775807 < 1 + (itS k).size + 1 + (itS W).size) := by omega
      have g4 : ¬ (9223372036854775807 < 1 + (itS k).size + 1 + (itS W).size + 1) := by omega
      have g5 : ¬ (9223372036854775807 < 1 + (itS k).size + 1 + (itS W).size + 1 + (itS H).size) := by omega
      have g6 : ¬ (9223372036854775807 < 1 + (itS k).size + 1 + (itS W).size + 1 + (itS H).size + 1) := by omega
      have HSS := Lib.hid (And.intro sk (And.intro sW (And.intro sH sT)))
      clear hsm hg iW iH sk sW sH sT hn4
      go_upto_region 5 with (fail)
      go_cut [8] from 28 to 41 (fun v wx => v = .string (ByteArray.mk #[80] ++ itS k ++ ByteArray.mk #[10] ++ itS W ++ ByteArray.mk #[32] ++ itS H ++ ByteArray.mk #[10]) ∧ Hid (Below w2.heap.size w2 wx))
      case first =>
        go_region_held3 (fun w' => Below w2.heap.size w2 w' ∧ Pow10 w' ∧ w'.cell? ⟨w.heap.size, 0, none⟩ = some (.int .i64 (W : Nat)) ∧ w'.cell? ⟨w.heap.size, 1, none⟩ = some (.int .i64 (H : Nat)))
          (first | exact hfull.out _ (Below.drew (Below.refl _ _)) | exact hfull.out _ (Below.refl _ _) | exact hfull.out _ hc2 | exact hfull.out _ (And.left (by assumption)))
          ((go_at_call 32; first
            | (refine (HIT.out k HR.out.1 _ (And.left (And.right (by assumption)))).mono ?_; rintro e w2 ⟨rfl, hb2⟩; have hc2 := (Below.trans (And.left (by assumption)) (hb2.mono (Below.size (And.left (by assumption))))))
            | (refine (HIT.out W HR.out.2.1 _ (And.left (And.right (by assumption)))).mono ?_; rintro e w2 ⟨rfl, hb2⟩; have hc2 := (Below.trans (And.left (by assumption)) (hb2.mono (Below.size (And.left (by assumption))))))
            | (refine (HIT.out H HR.out.2.2.1 _ (And.left (And.right (by assumption)))).mono ?_; rintro e w2 ⟨rfl, hb2⟩; have hc2 := (Below.trans (And.left (by assumption)) (hb2.mono (Below.size (And.left (by assumption))))))))
        all_goals
          go_wp2_with fail
          go_meet
          exact ⟨rfl, Lib.hid hc2⟩
      case rest =>
        obtain ⟨rfl, HBc⟩ := hcut
        have sk := HSS.out.1
        have sW := HSS.out.2.1
        have sH := HSS.out.2.2.1
        have sT := HSS.out.2.2.2
        have hSs : (ByteArray.mk #[80] ++ itS k ++ ByteArray.mk #[10] ++ itS W ++ ByteArray.mk #[32] ++ itS H ++ ByteArray.mk #[10]).size ≤ 100 := by simp only [ByteArray.size_append, mk1_size]; omega
        have HGS : Hid (lnS k k W H (topN k tp : Nat) = if kGr k then ByteArray.mk #[80] ++ itS k ++ ByteArray.mk #[10] ++ itS W ++ ByteArray.mk #[32] ++ itS H ++ ByteArray.mk #[10] ++ itS tp ++ ByteArray.mk #[10] else ByteArray.mk #[80] ++ itS k ++ ByteArray.mk #[10] ++ itS W ++ ByteArray.mk #[32] ++ itS H ++ ByteArray.mk #[10]) := Lib.hid (by
          cases hgk : kGr k with
          | true => rw [lnS_gr hgk, if_pos rfl, ByteArray.append_assoc (a := ByteArray.mk #[80] ++ itS k ++ ByteArray.mk #[10] ++ itS W ++ ByteArray.mk #[32] ++ itS H ++ ByteArray.mk #[10])]; unfold topN; rw [if_pos hgk]
          | false => rw [lnS_ng hgk, if_neg (by simp)])
        generalize ByteArray.mk #[80] ++ itS k ++ ByteArray.mk #[10] ++ itS W ++ ByteArray.mk #[32] ++ itS H ++ ByteArray.mk #[10] = S at *
        have h1g : ¬ (9223372036854775807 < S.size + (itS tp).size) := by omega
        have h2g : ¬ (9223372036854775807 < S.size + (itS tp).size + 1) := by omega
        have HSZ := Lib.hid (And.intro hSs sT)
        have HCB : Hid (Below w.heap.size w wc) := Lib.hid (HB2.out.trans (HBc.out.mono HB2.out.size))
        have HPC := Lib.hid (HTB.out wc HCB.out)
        have HIC := Lib.hid (HI2.out.call HBc.out)
        have HKN : Hid (k = 1 ∨ k = 4 ∨ (kGr k = true ∧ k ≠ 1 ∧ k ≠ 4)) := Lib.hid (by
          by_cases h1 : k = 1
          · exact .inl h1
          · by_cases h4 : k = 4
            · exact .inr (.inl h4)
            · exact .inr (.inr ⟨by unfold kGr; rw [decide_eq_true_eq]; omega, h1, h4⟩))
        have hq := fun (V : World) (S : ByteArray) => Lib.run_convert_string_bytes (P := Tryz.prog) V 9 22 5 S Tryz.underlying9 Tryz.underlying22 Tryz.underlying5
        have fin : Hid (∀ (V : World) (S : ByteArray), Below w.heap.size w V → IB V w.heap.size (.int .i64 (W : Nat)) (.int .i64 (H : Nat)) (.slice (some ⟨r, o, none⟩) n c) → IB (Lib.bytesWorld V 5 S) w.heap.size (.int .i64 (W : Nat)) (.int .i64 (H : Nat)) (.slice (some ⟨r, o, none⟩) n c) ∧ RwG (Lib.bytesWorld V 5 S) w.heap.size (.slice (some ⟨V.heap.size, 0, none⟩) S.size (grownCap V S.size 0 5)) S.size (Lib.byteCells S.data.toList) ∧ Below w.heap.size w (Lib.bytesWorld V 5 S)) := Lib.hid fun V S hV hI =>
          ⟨hI.call (Lib.bytesWorld_below V 5 S), rwG_conv V S w.heap.size hV.size, hV.trans ((Lib.bytesWorld_below V 5 S).mono hV.size)⟩
        clear sk sW sH sT hSs g1 g2 g3 g4 g5 g6 hfull HBc HSS
        rcases HKN.out with h14 | h14 | ⟨hgk, hk1', hk4'⟩
        · subst h14
          have hgk : kGr 1 = false := rfl
          rw [hgk, if_neg (by simp)] at HGS
          have z := fin.out wc S HCB.out HIC.out
          have HLN := HGS
          have hsz := HSZ.out.1
          obtain ⟨LN, hLN⟩ : ∃ LN, S = LN := ⟨_, rfl⟩
          rw [hLN] at z HLN hsz ⊢
          have HST : Hid (IB (Lib.bytesWorld wc 5 LN) w.heap.size (.int .i64 (W : Nat)) (.int .i64 (H : Nat)) (.slice (some ⟨r, o, none⟩) n c) ∧ RwG (Lib.bytesWorld wc 5 LN) w.heap.size (.slice (some ⟨wc.heap.size, 0, none⟩) LN.size (grownCap wc LN.size 0 5)) LN.size (Lib.byteCells (LN.data.toList ++ [])) ∧ RowsQ 1 tp W (pxL l (W * H)) 0 [] ∧ Below w.heap.size w (Lib.bytesWorld wc 5 LN)) := Lib.hid ⟨z.1, by rw [List.append_nil]; exact z.2.1, rowsQ_zero 1 tp W _, z.2.2⟩
          clear z fin HCB HIC HKN
          go_wp2_with fail
          go_loopw [9, 10] (fun v iv wr => ∃ (y : Nat) (p : List UInt8) (A' : Option Addr) (m c' : Nat), y ≤ H ∧ v = .slice A' m c' ∧ iv = .int .i64 (y : Int) ∧ m ≤ 1000 + y * 300000 ∧ Hid (IB wr w.heap.size (.int .i64 (W : Nat)) (.int .i64 (H : Nat)) (.slice (some ⟨r, o, none⟩) n c) ∧ RwG wr w.heap.size (.slice A' m c') m (Lib.byteCells (LN.data.toList ++ p)) ∧ RowsQ 1 tp W (pxL l (W * H)) y p ∧ Below w.heap.size w wr)) (fun _ iv _ => H - (intOf iv).toNat)
          case atStart => exact ⟨0, [], _, _, _, Nat.zero_le _, rfl, rfl, by omega, HST⟩
          case round =>
            obtain ⟨y, p, A', m, c', hy, rfl, rfl, hm, HV⟩ := hrel
            have x0 := HV.out.1.c0; have x1 := HV.out.1.c1; have x2 := HV.out.1.c2
            by_cases hlt : y < H
            · have hw5 : (y + 1) * 300000 = y * 300000 + 300000 := by omega
              go_wp2_with fail
              refine (HRW.out y hlt wr HV.out.2.2.2).mono ?_
              rintro e w6 ⟨Aq, cq, q, rfl, hq1, hq2, hq3, hg6, hb6⟩
              obtain ⟨A9, c9, w9, hrun, h9, u9⟩ := (HV.out.2.1.upd (Upd.of_fresh hb6) (fun _ _ => id)).appG (Nat.le_trans HV.out.2.2.2.size hb6.size) hg6 hq2 (by omega)
              have hlt9 : ∀ j, some j = (Value.slice A' m c').ownBlock → w.heap.size ≤ j := fun j e => (HV.out.2.1.lt j e.symm).1
              have h6b := HV.out.2.2.2.trans (hb6.mono HV.out.2.2.2.size)
              have HN : Hid (IB w9 w.heap.size (.int .i64 (W : Nat)) (.int .i64 (H : Nat)) (.slice (some ⟨r, o, none⟩) n c) ∧ RwG w9 w.heap.size (.slice A9 (m + q.length) c9) (m + q.length) (Lib.byteCells (LN.data.toList ++ (p ++ q))) ∧ RowsQ 1 tp W (pxL l (W * H)) (y + 1) (p ++ q) ∧ Below w.heap.size w w9) := Lib.hid ⟨IB.of ((HV.out.1.call hb6).blk.upd u9 (fun e => HV.out.2.1.ne_ HV.out.1.blk (by decide) e.symm)), by rw [← Lib.byteCells_append, List.append_assoc] at h9; exact h9, HV.out.2.2.1.step hq1, h6b.trans (u9.below h6b.size (fun j hj e => by have := hlt9 j e; omega))⟩
              have HRN := Lib.hid hrun
              clear hrun h9 u9 hg6 hb6 hq1 HV h6b hlt9 x0 x1 x2
              go_wp2_with (at_builtin; refine wpList_append_run rfl (.tmp 61) (.tmp 66) _ rfl rfl rfl HRN.out ?_)
              go_roundw
              case rel => exact ⟨_, _, _, _, _, _, _, _, _, _, _, _, _, _, _, ⟨y + 1, p ++ q, A9, m + q.length, c9, by omega, rfl, by go_num, by omega, HN⟩, rfl⟩
              case measure => simp [intOf]; omega
            · obtain rfl : y = H := by omega
              go_wp2_with fail
              go_ret2
              exact .inr (.inr ⟨by rw [hn]; exact HG.out, by omega, A', m, c', LN.data.toList ++ p, rfl, by simp only [Int.toNat_natCast]; rw [← HLN.out]; exact HV.out.2.2.1.file, HV.out.2.1, HV.out.2.2.2⟩)
        · subst h14
          have hgk : kGr 4 = false := rfl
          rw [hgk, if_neg (by simp)] at HGS
          have z := fin.out wc S HCB.out HIC.out
          have HLN := HGS
          have hsz := HSZ.out.1
          obtain ⟨LN, hLN⟩ : ∃ LN, S = LN := ⟨_, rfl⟩
          rw [hLN] at z HLN hsz ⊢
          have HST : Hid (IB (Lib.bytesWorld wc 5 LN) w.heap.size (.int .i64 (W : Nat)) (.int .i64 (H : Nat)) (.slice (some ⟨r, o, none⟩) n c) ∧ RwG (Lib.bytesWorld wc 5 LN) w.heap.size (.slice (some ⟨wc.heap.size, 0, none⟩) LN.size (grownCap wc LN.size 0 5)) LN.size (Lib.byteCells (LN.data.toList ++ [])) ∧ RowsQ 4 tp W (pxL l (W * H)) 0 [] ∧ Below w.heap.size w (Lib.bytesWorld wc 5 LN)) := Lib.hid ⟨z.1, by rw [List.append_nil]; exact z.2.1, rowsQ_zero 4 tp W _, z.2.2⟩
          clear z fin HCB HIC HKN
          go_wp2_with fail
          go_loopw [9, 10] (fun v iv wr => ∃ (y : Nat) (p : List UInt8) (A' : Option Addr) (m c' : Nat), y ≤ H ∧ v = .slice A' m c' ∧ iv = .int .i64 (y : Int) ∧ m ≤ 1000 + y * 300000 ∧ Hid (IB wr w.heap.size (.int .i64 (W : Nat)) (.int .i64 (H : Nat)) (.slice (some ⟨r, o, none⟩) n c) ∧ RwG wr w.heap.size (.slice A' m c') m (Lib.byteCells (LN.data.toList ++ p)) ∧ RowsQ 4 tp W (pxL l (W * H)) y p ∧ Below w.heap.size w wr)) (fun _ iv _ => H - (intOf iv).toNat)
          case atStart => exact ⟨0, [], _, _, _, Nat.zero_le _, rfl, rfl, by omega, HST⟩
          case round =>
            obtain ⟨y, p, A', m, c', hy, rfl, rfl, hm, HV⟩ := hrel
            have x0 := HV.out.1.c0; have x1 := HV.out.1.c1; have x2 := HV.out.1.c2
            by_cases hlt : y < H
            · have hw5 : (y + 1) * 300000 = y * 300000 + 300000 := by omega
              go_wp2_with fail
              refine (HRW.out y hlt wr HV.out.2.2.2).mono ?_
              rintro e w6 ⟨Aq, cq, q, rfl, hq1, hq2, hq3, hg6, hb6⟩
              obtain ⟨A9, c9, w9, hrun, h9, u9⟩ := (HV.out.2.1.upd (Upd.of_fresh hb6) (fun _ _ => id)).appG (Nat.le_trans HV.out.2.2.2.size hb6.size) hg6 hq2 (by omega)
              have hlt9 : ∀ j, some j = (Value.slice A' m c').ownBlock → w.heap.size ≤ j := fun j e => (HV.out.2.1.lt j e.symm).1
              have h6b := HV.out.2.2.2.trans (hb6.mono HV.out.2.2.2.size)
              have HN : Hid (IB w9 w.heap.size (.int .i64 (W : Nat)) (.int .i64 (H : Nat)) (.slice (some ⟨r, o, none⟩) n c) ∧ RwG w9 w.heap.size (.slice A9 (m + q.length) c9) (m + q.length) (Lib.byteCells (LN.data.toList ++ (p ++ q))) ∧ RowsQ 4 tp W (pxL l (W * H)) (y + 1) (p ++ q) ∧ Below w.heap.size w w9) := Lib.hid ⟨IB.of ((HV.out.1.call hb6).blk.upd u9 (fun e => HV.out.2.1.ne_ HV.out.1.blk (by decide) e.symm)), by rw [← Lib.byteCells_append, List.append_assoc] at h9; exact h9, HV.out.2.2.1.step hq1, h6b.trans (u9.below h6b.size (fun j hj e => by have := hlt9 j e; omega))⟩
              have HRN := Lib.hid hrun
              clear hrun h9 u9 hg6 hb6 hq1 HV h6b hlt9 x0 x1 x2
              go_wp2_with (at_builtin; refine wpList_append_run rfl (.tmp 61) (.tmp 66) _ rfl rfl rfl HRN.out ?_)
              go_roundw
              case rel => exact ⟨_, _, _, _, _, _, _, _, _, _, _, _, _, _, _, ⟨y + 1, p ++ q, A9, m + q.length, c9, by omega, rfl, by go_num, by omega, HN⟩, rfl⟩
              case measure => simp [intOf]; omega
            · obtain rfl : y = H := by omega
              go_wp2_with fail
              go_ret2
              exact .inr (.inr ⟨by rw [hn]; exact HG.out, by omega, A', m, c', LN.data.toList ++ p, rfl, by simp only [Int.toNat_natCast]; rw [← HLN.out]; exact HV.out.2.2.1.file, HV.out.2.1, HV.out.2.2.2⟩)
        · have d1 : ((k : Int) != 1) = true := by rw [bne_iff_ne]; omega
          have d4 : ((k : Int) != 4) = true := by rw [bne_iff_ne]; omega
          rw [hgk, if_pos rfl] at HGS
          have HLN := HGS
          have hszS := HSZ.out.1
          have hszT := HSZ.out.2
          go_wp2_with fail
          refine (HIT.out tp HR.out.2.2.2 wc HPC.out).mono ?_
          rintro e w3 ⟨rfl, hb3⟩
          have HB3 := Lib.hid (HCB.out.trans (hb3.mono HCB.out.size))
          have HI3 := Lib.hid (HIC.out.call hb3)
          have hszL : (S ++ itS tp ++ ByteArray.mk #[10]).size = S.size + (itS tp).size + 1 := by rw [ByteArray.size_append, ByteArray.size_append, mk1_size]
          have z := fin.out w3 (S ++ itS tp ++ ByteArray.mk #[10]) HB3.out HI3.out
          have hsz : (S ++ itS tp ++ ByteArray.mk #[10]).size ≤ 1000 := by omega
          clear hb3 fin HCB HIC HKN
          go_wp2_with fail
          rw [← hszL]
          obtain ⟨LN, hLN⟩ : ∃ LN, S ++ itS tp ++ ByteArray.mk #[10] = LN := ⟨_, rfl⟩
          rw [hLN] at z HLN hsz ⊢
          have HST : Hid (IB (Lib.bytesWorld w3 5 LN) w.heap.size (.int .i64 (W : Nat)) (.int .i64 (H : Nat)) (.slice (some ⟨r, o, none⟩) n c) ∧ RwG (Lib.bytesWorld w3 5 LN) w.heap.size (.slice (some ⟨w3.heap.size, 0, none⟩) LN.size (grownCap w3 LN.size 0 5)) LN.size (Lib.byteCells (LN.data.toList ++ [])) ∧ RowsQ k tp W (pxL l (W * H)) 0 [] ∧ Below w.heap.size w (Lib.bytesWorld w3 5 LN)) := Lib.hid ⟨z.1, by rw [List.append_nil]; exact z.2.1, rowsQ_zero k tp W _, z.2.2⟩
          clear z hLN hszL
          go_loopw [9, 10] (fun v iv wr => ∃ (y : Nat) (p : List UInt8) (A' : Option Addr) (m c' : Nat), y ≤ H ∧ v = .slice A' m c' ∧ iv = .int .i64 (y : Int) ∧ m ≤ 1000 + y * 300000 ∧ Hid (IB wr w.heap.size (.int .i64 (W : Nat)) (.int .i64 (H : Nat)) (.slice (some ⟨r, o, none⟩) n c) ∧ RwG wr w.heap.size (.slice A' m c') m (Lib.byteCells (LN.data.toList ++ p)) ∧ RowsQ k tp W (pxL l (W * H)) y p ∧ Below w.heap.size w wr)) (fun _ iv _ => H - (intOf iv).toNat)
          case atStart => exact ⟨0, [], _, _, _, Nat.zero_le _, rfl, rfl, by omega, HST⟩
          case round =>
            obtain ⟨y, p, A', m, c', hy, rfl, rfl, hm, HV⟩ := hrel
            have x0 := HV.out.1.c0; have x1 := HV.out.1.c1; have x2 := HV.out.1.c2
            by_cases hlt : y < H
            · have hw5 : (y + 1) * 300000 = y * 300000 + 300000 := by omega
              go_wp2_with fail
              refine (HRW.out y hlt wr HV.out.2.2.2).mono ?_
              rintro e w6 ⟨Aq, cq, q, rfl, hq1, hq2, hq3, hg6, hb6⟩
              obtain ⟨A9, c9, w9, hrun, h9, u9⟩ := (HV.out.2.1.upd (Upd.of_fresh hb6) (fun _ _ => id)).appG (Nat.le_trans HV.out.2.2.2.size hb6.size) hg6 hq2 (by omega)
              have hlt9 : ∀ j, some j = (Value.slice A' m c').ownBlock → w.heap.size ≤ j := fun j e => (HV.out.2.1.lt j e.symm).1
              have h6b := HV.out.2.2.2.trans (hb6.mono HV.out.2.2.2.size)
              have HN : Hid (IB w9 w.heap.size (.int .i64 (W : Nat)) (.int .i64 (H : Nat)) (.slice (some ⟨r, o, none⟩) n c) ∧ RwG w9 w.heap.size (.slice A9 (m + q.length) c9) (m + q.length) (Lib.byteCells (LN.data.toList ++ (p ++ q))) ∧ RowsQ k tp W (pxL l (W * H)) (y + 1) (p ++ q) ∧ Below w.heap.size w w9) := Lib.hid ⟨IB.of ((HV.out.1.call hb6).blk.upd u9 (fun e => HV.out.2.1.ne_ HV.out.1.blk (by decide) e.symm)), by rw [← Lib.byteCells_append, List.append_assoc] at h9; exact h9, HV.out.2.2.1.step hq1, h6b.trans (u9.below h6b.size (fun j hj e => by have := hlt9 j e; omega))⟩
              have HRN := Lib.hid hrun
              clear hrun h9 u9 hg6 hb6 hq1 HV h6b hlt9 x0 x1 x2
              go_wp2_with (at_builtin; refine wpList_append_run rfl (.tmp 61) (.tmp 66) _ rfl rfl rfl HRN.out ?_)
              go_roundw
              case rel => exact ⟨y + 1, p ++ q, A9, m + q.length, c9, by omega, rfl, by go_num, by omega, HN⟩
              case measure => simp [intOf]; omega
            · obtain rfl : y = H := by omega
              go_wp2_with fail
              go_ret2
              exact .inr (.inr ⟨by rw [hn]; exact HG.out, by omega, A', m, c', LN.data.toList ++ p, rfl, by simp only [Int.toNat_natCast]; rw [← HLN.out]; exact HV.out.2.2.1.file, HV.out.2.1, HV.out.2.2.2⟩)
    · have hdn : ((top < 1) ∨ (¬ top < 1 ∧ (65535 : Int) < top)) := by omega
      have HQ : Hid (∀ w9, Below w.heap.size w w9 → EncQ w (W : Nat) (H : Nat) l (k : Nat) top (.returned (.tuple #[.slice none 0 0, .int .i64 2])) w9) := Lib.hid (fun w9 h9 => .inr (.inl ⟨by rw [hn]; exact HG.out, by omega, rfl, h9⟩))
      clear hsm hn4
      rcases hdn with d1 | ⟨d1, d2⟩
      · go_wp2_with fail
        go_ret2
        exact HQ.out _ HB2.out
      · go_wp2_with fail
        go_ret2
        exact HQ.out _ HB2.out
  · have HQ : Hid (∀ w9, Below w.heap.size w w9 → EncQ w (W : Nat) (H : Nat) l kind top (.returned (.tuple #[.slice none 0 0, .int .i64 2])) w9) := Lib.hid (fun w9 h9 => .inr (.inl ⟨by rw [hn]; exact HG.out, by omega, rfl, h9⟩))
    clear hsm hn4
    have hdn : ((kind < 1) ∨ (¬ kind < 1 ∧ (6 : Int) < kind)) := by omega
    rcases hdn with d1 | ⟨d1, d2⟩
    · go_wp2_with fail
      go_ret2
      exact HQ.out _ HB2.out
    · go_wp2_with fail
      go_ret2
      exact HQ.out _ HB2.out
end Go.Proofs.YtfbokhdimffabaaGreatDoor
