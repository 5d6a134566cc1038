/- Paste, the document's, walked. -/
import Derived.Test.YtkfomjdmdgddlaaQy
namespace Go.Proofs.Ytkfomjdmdgddlaa
open Go.ChangeShapes Go.WideShapes Go.ChangeAt Go.RowKit

set_option maxRecDepth 100000 in
set_option maxHeartbeats 4000000 in
theorem refPaste_any (W H : Int) (A : Option Addr) (n c : Nat) (l : List Int) (hn : l.length = n) (P Q : Int) (A' : Option Addr) (n' c' : Nat) (m : List Int) (hn' : m.length = n') (B : Nat) (w : World) (h : Us w B A l) (h' : Us w B A' m) (hB : B ≤ w.heap.size)
    (x y : Int) (hx : -9223372036854775808 ≤ x ∧ x ≤ 9223372036854775807) (hy : -9223372036854775808 ≤ y ∧ y ≤ 9223372036854775807) :
    Calls Try.prog 23 #[imgV W H A n c, imgV P Q A' n' c', .int .i64 x, .int .i64 y] w (ImR w (pasI W H l P Q m x y)) := by
  obtain ⟨w1, hw1, hf, hsz⟩ := FrP.new w W H A n c P Q A' n' c'
  have HW1 := Lib.hid hw1
  have HF := Lib.hid hf
  have HV := Lib.hid (Vs.below h (hf.bel.mono hB))
  have HV' := Lib.hid (Vs.below h' (hf.bel.mono hB))
  have HX := Lib.hid (And.intro hx hy)
  clear hw1 hf h h' hx hy
  go_enter Try.func23, Try.ntmps23
  go_upto_region 1 with (fail)
  rw [HW1.out]
  clear HW1
  have q0 := HF.out.im.c0; have q1 := HF.out.im.c1; have q2 := HF.out.im.c2
  go_wp2_with fail
  refine (refGood_any W H A n c w1).mono ?_
  rintro e w2 ⟨rfl, hb2⟩
  have hs2 := Nat.le_trans HF.out.bel.size hb2.size
  have HF2 := Lib.hid (HF.out.call hb2)
  have HV2 := Lib.hid (Vs.below HV.out (hb2.mono (by have := HF.out.bel.size; omega)))
  have HW2 := Lib.hid (Vs.below HV'.out (hb2.mono (by have := HF.out.bel.size; omega)))
  clear HF HV HV' hb2 q0 q1 q2 hsz
  cases hg : goodB W H n with
  | false =>
    have HE : Hid (pasI W H l P Q m x y = errI 6) := Lib.hid (by unfold pasI; rw [hn, if_neg (by rw [hg]; simp)])
    obtain ⟨_, d0, d1, d2, f0, f1, f2⟩ := HF2.out.z
    have HP := Lib.hid (HF2.out.put (.int .i64 0) (.int .i64 0) (.slice none 0 0))
    clear hg
    go_wp2_with fail
    have n0 := HP.out.1.c0; have n1 := HP.out.1.c1; have n2 := HP.out.1.c2
    refine bodyPost_ret (v := .tuple #[imgV 0 0 none 0 0, .int .i64 6]) (by simp [results, Try.results23, go_sem, n0, n1, n2]) rfl ?_
    rw [HE.out]
    exact ImR.err HP.out.2.1
  | true =>
    have HG := Lib.hid hg
    have q0 := HF2.out.ip.c0; have q1 := HF2.out.ip.c1; have q2 := HF2.out.ip.c2
    clear hg
    go_wp2_with fail
    refine (refGood_any P Q A' n' c' w2).mono ?_
    rintro e w3 ⟨rfl, hb3⟩
    have hs3 := Nat.le_trans hs2 hb3.size
    have HF3 := Lib.hid (HF2.out.call hb3)
    have HV3 := Lib.hid (Vs.below HV2.out (hb3.mono (by omega)))
    have HW3 := Lib.hid (Vs.below HW2.out (hb3.mono (by omega)))
    clear HF2 HV2 HW2 hb3 q0 q1 q2 hs2
    cases hg2 : goodB P Q n' with
    | false =>
      have HE : Hid (pasI W H l P Q m x y = errI 6) := Lib.hid (by unfold pasI; rw [hn', if_neg (by rw [hg2]; simp)])
      obtain ⟨_, d0, d1, d2, f0, f1, f2⟩ := HF3.out.z
      have HP := Lib.hid (HF3.out.put (.int .i64 0) (.int .i64 0) (.slice none 0 0))
      clear hg2
      go_wp2_with fail
      have n0 := HP.out.1.c0; have n1 := HP.out.1.c1; have n2 := HP.out.1.c2
      refine bodyPost_ret (v := .tuple #[imgV 0 0 none 0 0, .int .i64 6]) (by simp [results, Try.results23, go_sem, n0, n1, n2]) rfl ?_
      rw [HE.out]
      exact ImR.err HP.out.2.1
    | true =>
      obtain ⟨W, H, rfl, rfl, hn4, hfew, hw1, hw2, hh1, hh2⟩ := goodB_nat HG.out
      obtain ⟨P, Q, rfl, rfl, hn4', hfew', hp1, hp2, hq1, hq2⟩ := goodB_nat hg2
      have HE : Hid (pasI W H l P Q m x y = ⟨W, H, 0, refPL l W m P Q x y H⟩) := Lib.hid (by
        unfold pasI
        rw [hn, hn', if_pos ⟨HG.out, hg2⟩, pas_same (hn.trans hn4) (hn'.trans hn4') hw2 hh2 hp2 hq2 hp1 hq1 x y HX.out.1 HX.out.2])
      have hn0 : 0 < n := by have := Nat.mul_pos hw1 hh1; omega
      obtain ⟨r2, o2, rfl, hrB2, hsm2⟩ := Us.smp HW3.out (by have := Nat.mul_pos hp1 hq1; omega)
      have HN4 := Lib.hid hn4
      have HN4' := Lib.hid hn4'
      have HFEW := Lib.hid hfew
      have HFEW' := Lib.hid hfew'
      have HSM2 := Lib.hid hsm2
      have HCp := Lib.hid (copy_any W H A n c l hn B w3 HV3.out (by omega) (by omega))
      have q0 := HF3.out.im.c0; have q1 := HF3.out.im.c1; have q2 := HF3.out.im.c2
      clear hg2 hsm2 HV3 HW3 HG hn4 hn4' hfew hfew'
      go_wp2_with fail
      refine HCp.out.mono ?_
      rintro e w4 ⟨A4, c4, rfl, ho4, hb4⟩
      obtain ⟨r4, rfl, hc4, _⟩ := row_form ho4 hn0
      have HPO0 : Hid (PO w3 w4.heap.size r4 c4 n (W : Int) (H : Int) l (w4.alloc (.cells #[.int .i64 W, .int .i64 H, .slice (some ⟨r4, 0, none⟩) n c4] 24))) := Lib.hid (PO.fresh ho4 hb4)
      have HFC : Hid (∀ wr, Below w3.heap.size w3 wr → FrP w W H A n c P Q (some ⟨r2, o2, none⟩) n' c' wr) := Lib.hid (fun wr hb => HF3.out.call hb)
      obtain ⟨g, hg⟩ : ∃ g, w4.heap.size = g := ⟨_, rfl⟩
      have HGG := Lib.hid hg
      clear hg
      clear HF3 HCp ho4 hb4 q0 q1 q2
      go_wp2_with fail
      rw [HGG.out] at HPO0 ⊢
      generalize (w4.alloc (.cells #[.int .i64 W, .int .i64 H, .slice (some ⟨r4, 0, none⟩) n c4] 24)) = w5 at *
      clear HGG
      go_loopw [11] (fun i wr => ∃ k : Nat, k ≤ H ∧ i = .int .i64 (k : Int) ∧ Hid (PO w3 g r4 c4 n W H (refPL l W m P Q x y k) wr)) (fun i _ => H - (intOf i).toNat)
      case atStart => exact ⟨0, Nat.zero_le _, rfl, HPO0⟩
      case round =>
        obtain ⟨k, hk, rfl, HPO⟩ := hrel
        clear HPO0
        have hF := HFC.out _ HPO.out.bel
        have k1 := hF.im.c1
        by_cases hlk : k < H
        · clear hF
          go_wp2_with fail
          obtain ⟨wo, hwo⟩ : ∃ wo : World, wo = wr := ⟨_, rfl⟩
          subst hwo
          clear k1
          go_loopw [12] (fun i wr => ∃ j : Nat, j ≤ W ∧ i = .int .i64 (j : Int) ∧ Hid (PO w3 g r4 c4 n W H (rowR (refPL l W m P Q x y k) W m P Q x y k j) wr)) (fun i _ => W - (intOf i).toNat)
          case atStart => exact ⟨0, Nat.zero_le _, rfl, HPO⟩
          case round =>
            clear HPO
            obtain ⟨j, hj, rfl, HPO⟩ := hrel
            have hF := HFC.out _ HPO.out.bel
            have k0 := hF.im.c0
            by_cases hlj : j < W
            · have b0 := hF.ip.c0; have b1 := hF.ip.c1
              have s1 : wrap64 ((k : Int) - (Q : Int)) = (k : Int) - (Q : Int) := IntWalk.wrap64_in _ (by omega)
              have s2 : wrap64 ((j : Int) - (P : Int)) = (j : Int) - (P : Int) := IntWalk.wrap64_in _ (by omega)
              have HNo : Hid (¬ covB P Q x y j k → PO w3 g r4 c4 n W H (rowR (refPL l W m P Q x y k) W m P Q x y k (j + 1)) wr) := Lib.hid (fun hc => by rw [rowR, if_neg hc]; exact HPO.out)
              by_cases t1 : y ≤ (k : Int)
              case neg =>
                have HD : Hid (¬ covB P Q x y j k) := Lib.hid (fun hc => t1 hc.1)
                clear hF HPO
                go_wp2_with fail
                go_roundw
                case rel => exact ⟨j + 1, by omega, by go_num, Lib.hid (HNo.out HD.out)⟩
                case measure => simp [intOf]; omega
              by_cases t2 : x ≤ (j : Int)
              case neg =>
                have HD : Hid (¬ covB P Q x y j k) := Lib.hid (fun hc => t2 hc.2.1)
                clear hF HPO
                go_wp2_with fail
                go_roundw
                case rel => exact ⟨j + 1, by omega, by go_num, Lib.hid (HNo.out HD.out)⟩
                case measure => simp [intOf]; omega
              by_cases t3 : (k : Int) - (Q : Int) < y
              case neg =>
                have HD : Hid (¬ covB P Q x y j k) := Lib.hid (fun hc => t3 hc.2.2.1)
                clear hF HPO
                go_wp2_with fail
                go_roundw
                case rel => exact ⟨j + 1, by omega, by go_num, Lib.hid (HNo.out HD.out)⟩
                case measure => simp [intOf]; omega
              by_cases t4 : (j : Int) - (P : Int) < x
              case neg =>
                have HD : Hid (¬ covB P Q x y j k) := Lib.hid (fun hc => t4 hc.2.2.2)
                clear hF HPO
                go_wp2_with fail
                go_roundw
                case rel => exact ⟨j + 1, by omega, by go_num, Lib.hid (HNo.out HD.out)⟩
                case measure => simp [intOf]; omega
              obtain ⟨I, hI⟩ : ∃ I : Nat, ((j : Int) - x).toNat = I := ⟨_, rfl⟩
              obtain ⟨K, hK⟩ : ∃ K : Nat, ((k : Int) - y).toNat = K := ⟨_, rfl⟩
              have s3 : IntKind.i64.wrap ((j : Int) - x) = (I : Int) := by rw [IntWalk.i64_in _ (by omega)]; omega
              have s4 : IntKind.i64.wrap ((k : Int) - y) = (K : Int) := by rw [IntWalk.i64_in _ (by omega)]; omega
              have hIP : I < P := by omega
              have hKQ : K < Q := by omega
              obtain ⟨z, hz⟩ : ∃ z, pxAt m (4 * (K * P + I)) = z := ⟨_, rfl⟩
              have HStep : Hid (rowR (refPL l W m P Q x y k) W m P Q x y k (j + 1) = setQ (rowR (refPL l W m P Q x y k) W m P Q x y k j) (4 * (k * W + j)) z) := Lib.hid (by rw [rowR, if_pos ⟨t1, t2, t3, t4⟩, hI, hK, hz])
              obtain ⟨U, Wf, hU0, hU1, hU2⟩ := names_of wr
              have HPu : Hid (∀ u, PO w3 g r4 c4 n W H (rowR (refPL l W m P Q x y k) W m P Q x y k j) (Wf u)) := Lib.hid (fun u => HPO.out.call (hU1 u))
              have HFu : Hid (∀ u, FrP w W H A n c P Q (some ⟨r2, o2, none⟩) n' c' (Wf u)) := Lib.hid (fun u => HFC.out _ (HPu.out u).bel)
              have HPx : Hid (∀ u, Calls Try.prog 28 #[imgV P Q (some ⟨r2, o2, none⟩) n' c', .int .i64 (I : Int), .int .i64 (K : Int)] (Wf u) fun e w' => e = .returned (colV z) ∧ ∃ u', w' = Wf u') := Lib.hid (fun u => by
                rw [← hz]
                exact (pixel_any (c := c') hn' HN4'.out HFEW'.out (HSM2.out.below (HPu.out u).bel (by omega)) I K hIP hKQ).mono (fun e w' ⟨h1, h2⟩ => ⟨h1, hU2 u w' h2⟩))
              have HPut : Hid (∀ u, Calls Try.prog 47 #[imgV W H (some ⟨r4, 0, none⟩) n c4, .int .i64 (j : Int), .int .i64 (k : Int), colV z] (Wf u) fun e w' => e = .returned (.tuple #[]) ∧ PO w3 g r4 c4 n W H (rowR (refPL l W m P Q x y k) W m P Q x y k (j + 1)) w') := Lib.hid (fun u => by
                refine (put_any (HPu.out u).ow HN4.out HFEW.out j k hlj hlk z _ rfl).mono ?_
                rintro e w' ⟨h1, h2, h3⟩
                rw [HStep.out]
                exact ⟨h1, (HPu.out u).next h2 h3⟩)
              have a0 := fun u => (HPu.out u).im.c0; have a1 := fun u => (HPu.out u).im.c1; have a2 := fun u => (HPu.out u).im.c2
              have e0 := fun u => (HFu.out u).ip.c0; have e1 := fun u => (HFu.out u).ip.c1; have e2 := fun u => (HFu.out u).ip.c2
              have HU0 := Lib.hid hU0
              have hne : Nonempty U := by obtain ⟨u, _⟩ := hU0; exact ⟨u⟩
              clear hF HPO HNo HPu HFu HStep hU0 hU1 hU2 hI hK hz
              go_upto_region 11 with (fail)
              clear b0 b1 s1 s2 k0 t1 t2 t3 t4
              refine wp_region_class (fun w' => ∃ u, w' = Wf u) 11 (by kernel_rfl) (by kernel_rfl) HU0.out ?_
              simp only [List.take_succ_cons, List.take_zero, List.drop_succ_cons, List.drop_zero]
              repeat (go_big_quiet_step ((go_at_call 28; exact HPx.out _)))
              refine wpQuiet_nil ?_
              rintro _ ⟨u, rfl⟩
              clear HU0 HPx a0 a1 a2 e0 e1 e2
              go_wp2_with (fail)
              refine (HPut.out u).mono ?_
              rintro e wx ⟨rfl, hpo⟩
              have HPN := Lib.hid hpo
              clear HPut hpo
              go_wp2_with fail
              go_roundw
              case rel => exact ⟨j + 1, by omega, by go_num, HPN⟩
              case measure => simp [intOf]; omega
            · obtain rfl : j = W := by omega
              clear hF
              go_wp2_with fail
              go_roundw
              case rel => exact ⟨k + 1, by omega, by go_num, HPO⟩
              case measure => simp [intOf]; omega
        · obtain rfl : k = H := by omega
          have hLl := HPO.out.len
          obtain ⟨_, m0, m1, m2, _, _, _⟩ := HPO.out.im
          obtain ⟨_, d0, d1, d2, f0, f1, f2⟩ := hF.z
          have HP := Lib.hid (hF.put (.int .i64 W) (.int .i64 k) (.slice (some ⟨r4, 0, none⟩) n c4))
          have HOE := Lib.hid (own_other (own_low HPO.out.ow hs3) hF.z.blk (by decide) HP.out.2.2)
          clear hF
          go_wp2_with fail
          have n0 := HP.out.1.c0; have n1 := HP.out.1.c1; have n2 := HP.out.1.c2
          refine bodyPost_ret (v := .tuple #[imgV W k (some ⟨r4, 0, none⟩) n c4, .int .i64 0]) (by simp [results, Try.results23, go_sem, n0, n1, n2]) rfl ?_
          rw [HE.out]
          exact ImR.of hLl HOE.out HP.out.2.1
end Go.Proofs.Ytkfomjdmdgddlaa
