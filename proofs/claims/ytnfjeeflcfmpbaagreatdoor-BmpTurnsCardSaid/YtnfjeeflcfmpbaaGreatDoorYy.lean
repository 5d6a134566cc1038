/- The image of the numbers: the walk. -/
import Derived.Test.YtnfjeeflcfmpbaaGreatDoorYx
set_option linter.unusedVariables false
set_option linter.unusedSimpArgs false
namespace Go.Proofs.YtnfjeeflcfmpbaaGreatDoor
open Go.ChangeShapes Go.WideShapes Go.ChangeAt Go.RowKit Go.Shelf

theorem RwN.keepR {w w' : World} {ad : Addr} {W H g : Nat} {L : List Nat} (h : RwN w (pcsV ad W H) (pcsN L W H)) (u : Upd (· = g) w w') (h1 : ad.block < g) (_ : True) : RwN w' (pcsV ad W H) (pcsN L W H) :=
  ⟨h.1, fun i q1 q2 => by
    obtain ⟨A, c, e, hv⟩ := h.2 i q1 q2
    refine ⟨A, c, e, (hv.upd u (Nat.le_refl _) (fun a ha hl hb => ?_)).more u.size⟩
    have e2 : A = some (ad.add (W * i)) := by
      have : (pcsV ad W H)[i] = .slice (some (ad.add (W * i))) W W := by simp [pcsV]
      rw [this] at e
      injection e with e _ _
      exact e.symm
    rw [ha] at e2
    injection e2 with e2
    subst e2
    rw [block_of_add] at hb
    omega⟩
set_option maxRecDepth 100000 in
set_option maxHeartbeats 8000000 in
theorem image_any (al dn : Bool) (s p k0 n0 D : Int) (W H M c gm : Nat) (A : Option Addr) (L : List Nat) (hW1 : 1 ≤ W) (hW : W ≤ 4096) (hH1 : 1 ≤ H) (hH : H ≤ 4096) (hf : W * H ≤ 65536) (hM : W * H = M) (hL : L.length = M) (hmc : M ≤ c) (hv : ∀ v ∈ L, v < 4294967296) (B : Nat) (w : World) (hr : Vs w B A (nV L)) (hB : B ≤ w.heap.size) (hT : Tab32 w) (hB1 : 0 < w.heap.size) (hm : Blk w gm 80 (mkC 16711680 65280 255 (mask3 al : Nat))) :
    Calls Tryz.prog 25 #[hdV s p (W : Nat) (H : Nat) dn D k0 n0, .slice A M c, cfV gm] w (ImR w ⟨W, H, 0, flatL (colsK al (ordN dn L W H) M) M⟩) := by
  have hL2 : L.length = W * H := by rw [hL, hM]
  have HLEN : Hid ((ordN dn L W H).length = M) := Lib.hid (by rw [ordN_length dn hL2, hM])
  have HLT : Hid (∀ v ∈ ordN dn L W H, v < 4294967296) := Lib.hid (fun v h => hv v (ordN_mem dn hL2 h))
  have HORD : Hid (ordN dn L W H = (if dn then pcsN L W H else (pcsN L W H).reverse).flatten) := Lib.hid rfl
  generalize ordN dn L W H = LR at *
  have hM1 : 1 ≤ M := by rw [← hM]; exact Nat.mul_le_mul hW1 hH1
  have HMAY : Hid (mayB (W : Int) (H : Int) = true) := Lib.hid (by
    have e : (W : Int) * (H : Int) = (M : Int) := by rw [← Int.natCast_mul, hM]
    rw [hM] at hf
    simp only [mayB, sideB, e, Bool.and_eq_true, decide_eq_true_eq]
    omega)
  obtain ⟨ad, rfl, _, _⟩ := hr (by rw [nV_length]; omega)
  have hMb : M ≤ 65536 := by omega
  have HM := Lib.hid hM
  have HL2 := Lib.hid hL2
  clear hf hM hL hv hL2
  obtain ⟨bel, hsz, hb1, hb2⟩ := boxes2 w (hdC s p (W : Nat) (H : Nat) dn D k0 n0) (imgC 0 0 none 0 0) 55 26
  obtain ⟨i0, hti, hz0, hz1, hz2⟩ := info_parts info_col
  go_enter Tryz.func25, Tryz.ntmps25
  go_upto_region 1 with (fail)
  have HR1 := Lib.hid (hr.below (bel.mono hB)); have HT1 := Lib.hid (hT.below bel hB1); have HMk := Lib.hid (hm.upd (Upd.of_fresh bel) id)
  generalize (w.alloc (.cells (hdC s p (W : Nat) (H : Nat) dn D k0 n0) 55)).alloc (.cells (imgC 0 0 none 0 0) 26) = w1 at *
  have HB := Lib.hid hb1; have HZ := Lib.hid hb2; have HBel := Lib.hid bel
  have c2 : w1.cell? ⟨w.heap.size, 2, none⟩ = some (.int .i64 (W : Nat)) := hb1.cell 2
  have hgm := hm.lt
  clear hr hT hm hb1 hb2 bel
  go_wp2_with fail
  refine (chunk32_any w1 (some ad) M c W hW1).mono ?_
  rintro e w2 ⟨rfl, rfl⟩
  obtain ⟨bc, hbc⟩ : ∃ bc, w1.heap.size = bc := ⟨_, rfl⟩
  have hbx := ((Below.refl w1.heap.size w1).alloc (Nat.le_refl _) (.cells #[.slice (some ad) M c] 63)).alloc (by simp) (.cells #[.int .i64 (W : Nat)] 3)
  have HC1 : Hid (Blk ((w1.alloc (.cells #[.slice (some ad) M c] 63)).alloc (.cells #[.int .i64 (W : Nat)] 3)) bc 63 #[.slice (some ad) M c]) := Lib.hid (by rw [← hbc]; exact (Blk.new w1 _ _).alloc _)
  have HC2 : Hid (Blk ((w1.alloc (.cells #[.slice (some ad) M c] 63)).alloc (.cells #[.int .i64 (W : Nat)] 3)) (bc + 1) 3 #[.int .i64 (W : Nat)]) := Lib.hid (by
    rw [← hbc, ← World.size_alloc w1 (.cells #[.slice (some ad) M c] 63)]
    exact Blk.new (w1.alloc (.cells #[.slice (some ad) M c] 63)) _ _)
  rw [hbc]
  have hsz2 : ((w1.alloc (.cells #[.slice (some ad) M c] 63)).alloc (.cells #[.int .i64 (W : Nat)] 3)).heap.size = w1.heap.size + 1 + 1 := by simp
  have HB2 := Lib.hid (HB.out.upd (Upd.of_fresh hbx) id); have HZ2 := Lib.hid (HZ.out.upd (Upd.of_fresh hbx) id); have HMk2 := Lib.hid (HMk.out.upd (Upd.of_fresh hbx) id)
  have HBel2 := Lib.hid (HBel.out.trans (hbx.mono HBel.out.size)); have HR2 := Lib.hid (HR1.out.below (hbx.mono (by omega))); have HT2 := Lib.hid (HT1.out.below hbx (by show 0 < _; omega))
  generalize (w1.alloc (.cells #[.slice (some ad) M c] 63)).alloc (.cells #[.int .i64 (W : Nat)] 3) = w2 at *
  clear hbx HB HZ HMk HBel HR1 HT1 c2
  go_wp2_with fail
  refine (collect_any w2 bc W H M c ad hW1 HM.out hmc (by omega) (by omega) HC1.out HC2.out).mono ?_
  rintro e w3 ⟨A3, c3, rfl, o3, hb3⟩
  clear HC1 HC2
  have hs3 := hb3.size
  have HB3 := Lib.hid (HB2.out.upd (Upd.of_fresh hb3) id); have HZ3 := Lib.hid (HZ2.out.upd (Upd.of_fresh hb3) id); have HMk3 := Lib.hid (HMk2.out.upd (Upd.of_fresh hb3) id)
  have HBel3 := Lib.hid (HBel2.out.trans (hb3.mono HBel2.out.size)); have HR3 := Lib.hid (HR2.out.below (hb3.mono (by omega))); have HT3 := Lib.hid (HT2.out.below hb3 (by show 0 < _; omega))
  obtain ⟨g3, rfl, hc3, hcm3, hg31, hg32⟩ := row_form o3 (by omega)
  have HO3 := Lib.hid o3
  have h4 : w3.cell? ⟨w.heap.size, 4, none⟩ = some (.bool dn) := HB3.out.cell 4
  have hsl : ∀ i, i < H → ∃ A n c, (pcsV ad W H).getD i undef = .slice A n c := by
    intro i hi
    refine ⟨some (ad.add (W * i)), W, W, ?_⟩
    rw [List.getD_eq_getElem?_getD, List.getElem?_eq_getElem (by simp [pcsV]; exact hi), Option.getD_some]
    simp [pcsV]
  have HRV := Lib.hid (rev32_any w3 w2.heap.size g3 H c3 (pcsV ad W H) (by omega) (by omega) hsl o3)
  clear hb3 HB2 HZ2 HMk2 HBel2 HR2 HT2 o3 hsl
  cases dn
  all_goals
    go_upto_region 4 with (first | (go_at_call 66; refine HRV.out.mono ?_; rintro e w4 ⟨rfl, o4, u4⟩))
    have HF : ∀ (w4 : World) (LLs : List (List Nat)) (PV : List Value), w4.ownsRow w2.heap.size 63 1 (.slice (some ⟨g3, 0, none⟩) H c3) H PV → Upd (· = g3) w3 w4 → RwN w4 PV LLs → LR = LLs.flatten →
        ∃ hd, Hid (Blk w4 w.heap.size 55 hd ∧ hd[2]? = some (.int .i64 (W : Nat)) ∧ hd[3]? = some (.int .i64 (H : Nat))) ∧ Hid (Blk w4 (w.heap.size + 1) 26 (imgC 0 0 none 0 0)) ∧ Hid (Blk w4 gm 80 (mkC 16711680 65280 255 (mask3 al : Nat))) ∧ Hid (Below w.heap.size w w4) ∧ Hid (Tab32 w4) ∧ w3.heap.size ≤ w4.heap.size := by
      intro w4 LLs PV o4 u4 _ _
      have hbb : Below w2.heap.size w3 w4 := u4.below hs3 (fun j hj e => by omega)
      exact ⟨_, Lib.hid ⟨HB3.out.upd u4 (by omega), rfl, rfl⟩, Lib.hid (HZ3.out.upd u4 (by omega)), Lib.hid (HMk3.out.upd u4 (by omega)), Lib.hid (HBel3.out.trans (hbb.mono (by omega))), Lib.hid (HT3.out.below hbb (by show 0 < _; omega)), u4.size⟩
    have HPR := pcs_rwn HR3.out (by omega) HL2.out
    first
      | (obtain ⟨hd, HB4, HZ4, HMk4, HBel4, HT4, hs4⟩ := HF w4 _ _ o4 u4 ((HPR.keepR u4 (by omega) trivial).reverse) HORD.out
         have HO4 := Lib.hid o4
         have HRW4 : Hid (RwN w4 (pcsV ad W H).reverse (pcsN L W H).reverse) := Lib.hid ((HPR.keepR u4 (by omega) trivial).reverse)
         have HLR : Hid (LR = ((pcsN L W H).reverse).flatten) := Lib.hid HORD.out
         clear o4 u4
         clear HF HPR HB3 HZ3 HMk3 HBel3 HT3 h4 HRV HO3 HR3 hs4)
      | (obtain ⟨hd, HB4, HZ4, HMk4, HBel4, HT4, hs4⟩ := HF w3 _ _ HO3.out (Upd.refl _ w3) HPR HORD.out
         have HO4 := HO3
         have HRW4 : Hid (RwN w3 (pcsV ad W H) (pcsN L W H)) := Lib.hid HPR
         have HLR : Hid (LR = (pcsN L W H).flatten) := Lib.hid HORD.out
         clear HF HPR HB3 HZ3 HMk3 HBel3 HT3 h4 HRV HO3 HR3 hs3 hg32 hs4
         have hs3 : True := trivial
         generalize w3 = w4 at *)
    clear hs3
    have hg34 := (HO4.out.lt g3 rfl).2
    have hw4 := HBel4.out.size
    obtain ⟨b4, hb4⟩ : ∃ b4, w4.heap.size = b4 := ⟨_, rfl⟩
    go_upto_region 5 with (at_make; refine wpList_make_own _ rfl (.const (.int .i64 0)) (.tmp 27) 68 rfl w4.heap.size 49 i0 _ 4 Tryz.underlying68 hti hz0 hz1 .i64 .i64 (M : Nat) M rfl rfl rfl (by rw [hz2]; omega) (by unfold maxLen; omega) (Nat.le_refl _) ?_; intro w5 hown5 hg5)
    have u5 : Upd No w4 w5 := (Upd.of_grown hg5).mono (fun k _ h => by simp at h)
    have hs5 := u5.size
    have HB5 := Lib.hid (HB4.out.1.upd u5 id); have HZ5 := Lib.hid (HZ4.out.upd u5 id); have HMk5 := Lib.hid (HMk4.out.upd u5 id)
    have HBel5 := Lib.hid (HBel4.out.trans (u5.fresh.mono HBel4.out.size)); have HT5 := Lib.hid (HT4.out.below u5.fresh (by show 0 < _; omega))
    have HO5 := Lib.hid (own_upd HO4.out u5 (fun _ _ => id)); have HRW5 := Lib.hid (HRW4.out.call u5.fresh)
    have HD2 := Lib.hid HB4.out.2.1; have HD3 := Lib.hid HB4.out.2.2
    have HC5 := Lib.hid hown5
    clear HB4 HZ4 HMk4 HBel4 HT4 HO4 HRW4 u5 hown5 hg5 hz0 hz1 hz2 hti
    try rw [hb4]
    rw [hb4] at HC5 hs5 hg34 hw4
    go_wp2_with fail
    refine (concat32_any w5 w2.heap.size g3 H c3 _ _ (by omega) (by omega) HO5.out HRW5.out M (by rw [← HLR.out]; exact HLEN.out) (by omega)).mono ?_
    rintro e w6 ⟨A6, c6, rfl, o6, hb6⟩
    rw [← HLR.out] at o6
    have hs6 := hb6.size
    obtain ⟨gn, rfl, hc6, hcm6, hgn1, hgn2⟩ := row_form o6 (by omega)
    have hst : ImS w hd al gm w5.heap.size gn c6 LR b4 0 (.slice (some ⟨b4, 0, none⟩) 0 M) w6 :=
      ⟨HB5.out.upd (Upd.of_fresh hb6) id, HZ5.out.upd (Upd.of_fresh hb6) id, HMk5.out.upd (Upd.of_fresh hb6) id, by rw [HLEN.out]; exact o6, HT5.out.below hb6 (by show 0 < _; omega), hB1, ⟨_, _, rfl, own_upd HC5.out (Upd.of_fresh hb6) (fun _ _ => id)⟩, hw4, HBel5.out.trans (hb6.mono HBel5.out.size), by omega⟩
    have HST := Lib.hid hst
    clear hst HB5 HZ5 HMk5 HBel5 HT5 HO5 HRW5 HC5 o6 hb6 HLR HORD
    go_wp2_with fail
    go_loopw [9, 32] (fun v i wr => ∃ k : Nat, k ≤ M ∧ i = .int .i64 (k : Int) ∧ Hid (ImS w hd al gm w5.heap.size gn c6 LR b4 k v wr)) (fun _ i _ => M - (intOf i).toNat)
    case atStart => exact ⟨0, Nat.zero_le _, rfl, HST⟩
    case round =>
      clear HST
      obtain ⟨k, hk, rfl, HX⟩ := hrel
      have hlr := HLEN.out
      by_cases hlt : k < M
      · have hkl : k < LR.length := by omega
        obtain ⟨Ac, cc, rfl, oc⟩ := HX.out.row
        have hvk := HLT.out _ (List.getElem_mem hkl)
        have kc : wr.cell? ⟨gn, k, none⟩ = some (.int .u32 ((LR[k] : Nat) : Int)) := by
          rw [HX.out.nm.cellAt k (by omega)]
          simp [nV, hkl]
        have HCF := Lib.hid (cfun_any al LR[k] gm hvk wr HX.out.tb (by have := HX.out.bel.size; omega) HX.out.mb)
        have HSU := Lib.hid (fun (V2 w9 : World) (A9 : Option Addr) (c9 : Nat) => HX.out.step (V2 := V2) (w9 := w9) (A9 := A9) (c9 := c9) (V1 := wr) hkl oc)
        have HOC := Lib.hid oc
        generalize LR[k] = v at *
        generalize colP al v = x at *
        have i1 : (k : Int) < (M : Int) := by omega
        clear oc hvk hlr
        go_wp2_with fail
        refine HCF.out.mono ?_
        rintro e w7 ⟨rfl, hb7⟩
        clear kc HCF
        go_upto_region 11 with (fail)
        have hb8 := hb7.alloc hb7.size (.cells #[.int .u16 x.r, .int .u16 x.g, .int .u16 x.b, .int .u16 x.a] 49)
        have hcb := Blk.new w7 49 #[.int .u16 x.r, .int .u16 x.g, .int .u16 x.b, .int .u16 x.a]
        obtain ⟨bx, hbx⟩ : ∃ bx, w7.heap.size = bx := ⟨_, rfl⟩
        rw [hbx] at hcb
        rw [hbx]
        have hs8 := hb8.size
        generalize w7.alloc (.cells #[.int .u16 x.r, .int .u16 x.g, .int .u16 x.b, .int .u16 x.a] 49) = w8 at *
        have hb9 := hb8.alloc hb8.size (.cells #[.int .u16 x.r, .int .u16 x.g, .int .u16 x.b, .int .u16 x.a] 49)
        have hbase := HX.out.bel2
        have e0 : w8.cell? ⟨bx, 0, none⟩ = some (.int .u16 x.r) := hcb.cell 0
        have e1 : w8.cell? ⟨bx, 1, none⟩ = some (.int .u16 x.g) := hcb.cell 1
        have e2 : w8.cell? ⟨bx, 2, none⟩ = some (.int .u16 x.b) := hcb.cell 2
        have e3 : w8.cell? ⟨bx, 3, none⟩ = some (.int .u16 x.a) := hcb.cell 3
        obtain ⟨A9, c9, w9, hrun, o9, hg9⟩ := append_cols b4 (w8.alloc (.cells #[.int .u16 x.r, .int .u16 x.g, .int .u16 x.b, .int .u16 x.a] 49)) (.slice Ac k cc) k _ (own_upd HOC.out (Upd.of_fresh hb9) (fun _ _ => id)) (by rw [World.size_alloc]; omega) _ _ 1 1 [x] rfl (cs_lit w8 x) (by omega) 68
        have HN := Lib.hid (HSU.out _ w9 A9 c9 hb9 o9 hg9)
        have HRN := Lib.hid hrun
        clear hrun o9 hg9 hb9 hcb hb8 hb7 HX HOC HSU hbase hbx
        go_wp2_with (at_builtin; refine wpList_append_run rfl (.tmp 45) (.tmp 47) _ rfl rfl rfl HRN.out ?_)
        go_roundw
        case rel => exact ⟨k + 1, by omega, by go_num, HN.out⟩
        case measure => simp [intOf]; omega
      · obtain rfl : M = k := by omega
        obtain ⟨Ac, cc, rfl, oc⟩ := HX.out.row
        obtain ⟨gc, rfl, hc2, hcm2, hgc1, hgc2⟩ := crow_form oc (by omega)
        have hcl : (colsK al LR M).length = M := by unfold colsK; rw [List.length_map, List.length_take]; omega
        have d2 : wr.cell? ⟨w.heap.size, 2, none⟩ = some (.int .i64 (W : Nat)) := by rw [HX.out.hb.cell]; exact HD2.out
        have d3 : wr.cell? ⟨w.heap.size, 3, none⟩ = some (.int .i64 (H : Nat)) := by rw [HX.out.hb.cell]; exact HD3.out
        have HO := Lib.hid (ofC_any W H M cc gc 0 (colsK al LR M) hcl HM.out HMAY.out wr.heap.size wr (by have h9 := oc; rw [← List.append_nil (colsV (colsK al LR M))] at h9; exact Cs.of_own h9 hgc2) (Nat.le_refl _))
        have HZ7 := Lib.hid HX.out.zb
        have HBel7 := Lib.hid HX.out.bel
        have hMM := HM.out
        have hsr := HX.out.bel2
        clear oc HX hcl
        obtain ⟨N, hN⟩ : ∃ N, (flatL (colsK al LR M) M).length = N := ⟨_, rfl⟩
        obtain ⟨fl, hfl⟩ : ∃ fl, flatL (colsK al LR M) M = fl := ⟨_, rfl⟩
        have HFL := Lib.hid hfl
        rw [hfl] at hN
        have HN := Lib.hid hN
        clear hfl hN
        have HMM := Lib.hid hMM
        clear hMM
        go_wp2_with fail
        refine HO.out.mono ?_
        rintro e w7 ⟨g, r7, c7, rfl, hcg, hb7⟩
        have HZ8 := Lib.hid (HZ7.out.upd (Upd.of_fresh hb7) id)
        have HBel8 := Lib.hid (HBel7.out.trans (hb7.mono HBel7.out.size))
        have HOI := Lib.hid (ofImg_any hcg)
        rw [HMM.out, HFL.out] at HOI
        have hs7 := hb7.size
        clear hb7 hcg HO HZ7 HBel7 d2 d3
        go_wp2_with fail
        refine HOI.out.mono ?_
        rintro e w8 ⟨A8, c8, rfl, o8, hb8⟩
        dsimp only at o8 ⊢
        have hzb := IB.of (HZ8.out.upd (Upd.of_fresh hb8) id)
        have HP := Lib.hid (IB.put hzb (.int .i64 (W : Nat)) (.int .i64 (H : Nat)) (.slice A8 fl.length c8) w.heap.size (by omega))
        have HOw := Lib.hid (own_other (own_low o8 (show w.heap.size ≤ w7.heap.size by omega)) hzb.blk (by decide) HP.out.2.2)
        have HBel9 := Lib.hid (HBel8.out.trans ((hb8.mono HBel8.out.size).trans HP.out.2.1))
        obtain ⟨_, d0, d1, d2, f0, f1, f2⟩ := hzb
        clear o8 hb8 HOI HZ8 HBel8
        go_wp2_with fail
        have n0 := HP.out.1.c0; have n1 := HP.out.1.c1; have n2 := HP.out.1.c2
        refine bodyPost_ret (v := .tuple #[imgV W H A8 fl.length c8, .int .i64 0]) (by simp [results, Tryz.results25, go_sem, n0, n1, n2]) rfl ?_
        rw [HFL.out]
        exact ⟨A8, c8, rfl, HOw.out, HBel9.out⟩
end Go.Proofs.YtnfjeeflcfmpbaaGreatDoor
