/- Crop, the document's. -/
import Derived.Test.YtkfomjdmdgddlaaQl
import Derived.Test.YtkfomjdmdgddlaaCt
namespace Go.Proofs.Ytkfomjdmdgddlaa
open Go.ChangeShapes Go.WideShapes Go.ChangeAt Go.RowKit

/-- The worlds that a world becomes where nothing of it is changed, each by a name. -/
theorem names_of (wr : World) : ∃ (U : Type) (Wf : U → World), (∃ u, wr.drew = Wf u) ∧ (∀ u, Upd No wr (Wf u)) ∧ ∀ u w', Below (Wf u).heap.size (Wf u) w' → ∃ u', w' = Wf u' :=
  ⟨{ w' : World // Upd No wr w' }, Subtype.val, ⟨⟨wr.drew, (Upd.refl No wr).drew⟩, rfl⟩, fun u => u.2, fun u w' h => ⟨⟨w', u.2.trans (Upd.of_fresh h)⟩, rfl⟩⟩
theorem take_px (l : List Int) (F i : Nat) (h : F + 4 * i + 4 ≤ l.length) : (l.drop F).take (4 * (i + 1)) = (l.drop F).take (4 * i) ++ colQ (pxAt l (F + 4 * i)) := by
  have e : 4 * (i + 1) = 4 * i + 4 := by omega
  rw [e, List.take_add, List.drop_drop]
  congr 1
  generalize F + 4 * i = k at h
  have h0 : k < l.length := by omega
  have h1 : k + 1 < l.length := by omega
  have h2 : k + 1 + 1 < l.length := by omega
  have h3 : k + 1 + 1 + 1 < l.length := by omega
  have e4 : (l.drop k).take 4 = [l[k], l[k + 1], l[k + 1 + 1], l[k + 1 + 1 + 1]] := by
    rw [List.drop_eq_getElem_cons h0, List.drop_eq_getElem_cons h1, List.drop_eq_getElem_cons h2, List.drop_eq_getElem_cons h3]
    rfl
  rw [e4]
  have g : ∀ j (hj : j < l.length), l.getD j 0 = l[j] := fun j hj => by simp [List.getD, hj]
  unfold colQ pxAt
  dsimp only
  rw [g k h0, g (k + 1) h1, g (k + 2) h2, g (k + 3) h3]
set_option maxRecDepth 100000 in
theorem within_any (x y p q W H : Int) (hW : 0 ≤ W ∧ W ≤ 4096) (hH : 0 ≤ H ∧ H ≤ 4096) (w : World) : Calls Try.prog 44 #[.int .i64 x, .int .i64 y, .int .i64 p, .int .i64 q, .int .i64 W, .int .i64 H] w fun e w' => e = .returned (.bool (inB x y p q W H)) ∧ w' = w := by
  go_enter Try.func44, Try.ntmps44
  by_cases h1 : (1 : Int) ≤ p
  case neg =>
    have HE : Hid (inB x y p q W H = false) := Lib.hid (by simp [inB, h1])
    go_wp2_with fail
    go_ret
    exact ⟨ret_bl HE.out.symm, rfl⟩
  by_cases h2 : (1 : Int) ≤ q
  case neg =>
    have HE : Hid (inB x y p q W H = false) := Lib.hid (by simp [inB, h2])
    go_wp2_with fail
    go_ret
    exact ⟨ret_bl HE.out.symm, rfl⟩
  by_cases h3 : (0 : Int) ≤ x
  case neg =>
    have HE : Hid (inB x y p q W H = false) := Lib.hid (by simp [inB, h3])
    go_wp2_with fail
    go_ret
    exact ⟨ret_bl HE.out.symm, rfl⟩
  by_cases h4 : (0 : Int) ≤ y
  case neg =>
    have HE : Hid (inB x y p q W H = false) := Lib.hid (by simp [inB, h4])
    go_wp2_with fail
    go_ret
    exact ⟨ret_bl HE.out.symm, rfl⟩
  by_cases h5 : p ≤ W
  case neg =>
    have HE : Hid (inB x y p q W H = false) := Lib.hid (by simp [inB]; omega)
    go_wp2_with fail
    go_ret
    exact ⟨ret_bl HE.out.symm, rfl⟩
  by_cases h6 : q ≤ H
  case neg =>
    have HE : Hid (inB x y p q W H = false) := Lib.hid (by simp [inB]; omega)
    go_wp2_with fail
    go_ret
    exact ⟨ret_bl HE.out.symm, rfl⟩
  have s1 : wrap64 (W - p) = W - p := IntWalk.wrap64_in _ (by omega)
  have s2 : wrap64 (H - q) = H - q := IntWalk.wrap64_in _ (by omega)
  by_cases h7 : x ≤ W - p
  case neg =>
    have HE : Hid (inB x y p q W H = false) := Lib.hid (by simp [inB, h7])
    go_wp2_with fail
    go_ret
    exact ⟨ret_bl HE.out.symm, rfl⟩
  have HE : Hid (inB x y p q W H = decide (y ≤ H - q)) := Lib.hid (by simp [inB, h1, h2, h3, h4, h7])
  go_wp2_with fail
  go_ret
  exact ⟨ret_bl HE.out.symm, rfl⟩
set_option maxRecDepth 100000 in
set_option maxHeartbeats 4000000 in
theorem refCrop_any (W H : Int) (A : Option Addr) (n c : Nat) (l : List Int) (hn : l.length = n) (B : Nat) (w : World) (h : Us w B A l) (hB : B ≤ w.heap.size) (x y p q : Int) :
    Calls Try.prog 21 #[imgV W H A n c, .agg #[.int .i64 x, .int .i64 y, .int .i64 p, .int .i64 q]] w (ImR w (cropI W H l x y p q)) := by
  obtain ⟨w1, hw1, hf, hsz⟩ := FrC.new w W H A n c x y p q
  have HW1 := Lib.hid hw1
  have HF := Lib.hid hf
  have HSZ := Lib.hid hsz
  have HV := Lib.hid (Vs.below h (hf.bel.mono hB))
  clear hw1 hf hsz h
  go_enter Try.func21, Try.ntmps21
  go_upto_region 1 with (fail)
  rw [HW1.out]
  clear HW1
  have q0 := HF.out.im.c0; have q1 := HF.out.im.c1; have q2 := HF.out.im.c2
  go_wp2_with fail
  refine (refGood_any W H A n c w1).mono ?_
  rintro e w2 ⟨rfl, hb2⟩
  have hs2 := Nat.le_trans HF.out.bel.size hb2.size
  have HF2 := Lib.hid (HF.out.call hb2)
  have HV2 := Lib.hid (Vs.below HV.out (hb2.mono (by have := HF.out.bel.size; omega)))
  clear HF HV hb2 q0 q1 q2
  cases hg : goodB W H n with
  | false =>
    have HE : Hid (cropI W H l x y p q = errI 6) := Lib.hid (by unfold cropI; rw [hn, if_neg (by rw [hg]; simp)])
    obtain ⟨_, d0, d1, d2, f0, f1, f2⟩ := HF2.out.z
    have HP := Lib.hid (HF2.out.put (.int .i64 0) (.int .i64 0) (.slice none 0 0))
    clear hg
    go_wp2_with fail
    have n0 := HP.out.1.c0; have n1 := HP.out.1.c1; have n2 := HP.out.1.c2
    refine bodyPost_ret (v := .tuple #[imgV 0 0 none 0 0, .int .i64 6]) (by simp [results, Try.results21, go_sem, n0, n1, n2]) rfl ?_
    rw [HE.out]
    exact ImR.err HP.out.2.1
  | true =>
    obtain ⟨W, H, rfl, rfl, hn4, hfew, hw1, hw2, hh1, hh2⟩ := goodB_nat hg
    obtain ⟨r, o, rfl, hrB, hsm⟩ := Us.smp HV2.out (by have := Nat.mul_pos hw1 hh1; omega)
    have HG := Lib.hid hg
    have HN4 := Lib.hid hn4
    have HFEW := Lib.hid hfew
    have q0 := HF2.out.im.c0; have q1 := HF2.out.im.c1; have q2 := HF2.out.im.c2
    have r0 := HF2.out.r0; have r1 := HF2.out.r1; have r2 := HF2.out.r2; have r3 := HF2.out.r3
    have HSM := Lib.hid hsm
    have HHo := Lib.hid (within_any x y p q (W : Int) (H : Int) (by omega) (by omega) w2)
    clear hg hsm HV2 hn4 hfew
    go_wp2_with fail
    refine HHo.out.mono ?_
    rintro e w3 ⟨rfl, rfl⟩
    clear HHo
    cases hi : inB x y p q (W : Int) (H : Int) with
    | false =>
      have HE : Hid (cropI W H l x y p q = errI 2) := Lib.hid (by unfold cropI; rw [hn, if_pos HG.out, if_neg (by rw [hi]; simp)])
      obtain ⟨_, d0, d1, d2, f0, f1, f2⟩ := HF2.out.z
      have HP := Lib.hid (HF2.out.put (.int .i64 0) (.int .i64 0) (.slice none 0 0))
      clear hi
      go_wp2_with fail
      have n0 := HP.out.1.c0; have n1 := HP.out.1.c1; have n2 := HP.out.1.c2
      refine bodyPost_ret (v := .tuple #[imgV 0 0 none 0 0, .int .i64 2]) (by simp [results, Try.results21, go_sem, n0, n1, n2]) rfl ?_
      rw [HE.out]
      exact ImR.err HP.out.2.1
    | true =>
      obtain ⟨i1, i2, i3, i4, i5, i6⟩ := inB_bd hi
      obtain ⟨X, rfl⟩ : ∃ X : Nat, x = (X : Int) := ⟨x.toNat, by omega⟩
      obtain ⟨Y, rfl⟩ : ∃ Y : Nat, y = (Y : Int) := ⟨y.toNat, by omega⟩
      obtain ⟨P, rfl⟩ : ∃ P : Nat, p = (P : Int) := ⟨p.toNat, by omega⟩
      obtain ⟨Q, rfl⟩ : ∃ Q : Nat, q = (Q : Int) := ⟨q.toNat, by omega⟩
      have HE : Hid (cropI W H l X Y P Q = ⟨P, Q, 0, partL l W X Y P Q⟩) := Lib.hid (by unfold cropI; rw [hn, if_pos HG.out, if_pos hi]; simp)
      have hQ2 : Q ≤ 4096 := by omega
      have hP2 : P ≤ 4096 := by omega
      have hX2 : X ≤ 4096 := by omega
      have hY2 : Y ≤ 4096 := by omega
      have HXY := Lib.hid (show X + P ≤ W ∧ Y + Q ≤ H by omega)
      have HPQ := Lib.hid (show P * Q ≤ 65536 from Nat.le_trans (Nat.mul_le_mul (by omega) (by omega)) HFEW.out)
      have HLN := Lib.hid (hn.trans HN4.out)
      clear hi i1 i2 i3 i4 i5 i6
      have HFC : Hid (∀ S w', Upd S w3 w' → (∀ k, k ≤ w.heap.size + 1 + 1 → ¬ S k) → FrC w W H (some ⟨r, o, none⟩) n c X Y P Q w') := Lib.hid (fun S w' hu hS => HF2.out.upd hu hS)
      have hzz := HF2.out.z.blk.lt
      have hSt : Hid (GI w3 w3.heap.size P Q [] (w3.alloc (.cells #[.int .i64 P, .int .i64 Q, .slice none 0 0] 24))) := Lib.hid ⟨none, 0, Nat.le_refl _, Blk.new w3 _ _, ⟨rfl, .inl ⟨rfl, rfl⟩⟩, (Below.refl _ _).alloc (Nat.le_refl _) _⟩
      have hup : Hid (∀ L wr, GI w3 w3.heap.size P Q L wr → FrC w W H (some ⟨r, o, none⟩) n c X Y P Q wr) := Lib.hid (fun L wr ⟨_, _, _, _, _, hb⟩ => HFC.out _ wr (Upd.of_below hb) (fun k hk e => by omega))
      clear q0 q1 q2
      go_wp2_with fail
      clear r0 r1 r2 r3
      go_loopw [7] (fun i wr => ∃ k : Nat, k ≤ Q ∧ i = .int .i64 (k : Int) ∧ Hid (GI w3 w3.heap.size P Q (partL l W X Y P k) wr)) (fun i _ => Q - (intOf i).toNat)
      case atStart => exact ⟨0, Nat.zero_le _, rfl, hSt⟩
      case round =>
        obtain ⟨k, hk, rfl, HGI⟩ := hrel
        have hF := hup.out _ _ HGI.out
        have r3 := hF.r3
        by_cases hlt : k < Q
        · clear hF
          go_wp2_with fail
          obtain ⟨wo, hwo⟩ : ∃ wo : World, wo = wr := ⟨_, rfl⟩
          subst hwo
          clear r3
          go_loopw [8] (fun i wr => ∃ j : Nat, j ≤ P ∧ i = .int .i64 (j : Int) ∧ Hid (GI w3 w3.heap.size P Q (partL l W X Y P k ++ (l.drop (4 * ((Y + k) * W + X))).take (4 * j)) wr)) (fun i _ => P - (intOf i).toNat)
          case atStart => exact ⟨0, Nat.zero_le _, rfl, Lib.hid (by simpa using HGI.out)⟩
          case round =>
            clear HGI
            obtain ⟨j, hj, rfl, HGI⟩ := hrel
            have hF := hup.out _ _ HGI.out
            have r2 := hF.r2
            by_cases hlj : j < P
            · obtain ⟨A, cr, hm, hbm, ho, hb⟩ := HGI.out
              have hplc := place_lt (W := W) (H := H) (X := X + j) (Y := Y + k) (n := 1) (by have := HXY.out.1; omega) (by have := HXY.out.2; omega)
              have hpl2 := place_lt (W := P) (H := Q) (X := j) (Y := k) (n := 1) (by omega) hlt
              have hll : (partL l W X Y P k ++ (l.drop (4 * ((Y + k) * W + X))).take (4 * j)).length ≤ 262144 := by
                have e1 := partL_length HLN.out HXY.out.1 k (show Y + k ≤ H by have := HXY.out.2; omega)
                rw [List.length_append, e1, List.length_take]
                have e2 := HPQ.out
                rw [Nat.mul_comm k P] at hpl2
                generalize P * k = a at *
                generalize P * Q = b at *
                omega
              have hidx : 4 * ((Y + k) * W + (X + j)) = 4 * ((Y + k) * W + X) + 4 * j := by omega
              have htk := take_px l (4 * ((Y + k) * W + X)) j (by have := HLN.out; omega)
              obtain ⟨U, Wf, hU0, hU1, hU2⟩ := names_of wr
              have HPx : Hid (∀ u, Calls Try.prog 28 #[imgV W H (some ⟨r, o, none⟩) n c, .int .i64 ((X + j : Nat) : Int), .int .i64 ((Y + k : Nat) : Int)] (Wf u) fun e w' => e = .returned (colV (pxAt l (4 * ((Y + k) * W + (X + j))))) ∧ ∃ u', w' = Wf u') := Lib.hid (fun u =>
                (pixel_any (c := c) hn HN4.out HFEW.out ((HSM.out.below hb (by omega)).keep ((hU1 u).block r (by have := hb.size; omega) id)) (X + j) (Y + k) (by have := HXY.out.1; omega) (by have := HXY.out.2; omega)).mono (fun e w' ⟨h1, h2⟩ => ⟨h1, hU2 u w' h2⟩))
              rw [hidx] at HPx
              rw [← hidx] at htk
              generalize hL : partL l W X Y P k ++ (l.drop (4 * ((Y + k) * W + X))).take (4 * j) = L at *
              have HLS : Hid (partL l W X Y P k ++ (l.drop (4 * ((Y + k) * W + X))).take (4 * (j + 1)) = L ++ colQ (pxAt l (4 * ((Y + k) * W + X) + 4 * j))) := Lib.hid (by rw [htk, hidx, ← List.append_assoc, hL])
              generalize pxAt l (4 * ((Y + k) * W + X) + 4 * j) = z at HPx HLS
              have HAd : Hid (∀ u, Calls Try.prog 43 #[imgV P Q A L.length cr, colV z] (Wf u) fun e w' => ∃ A' c', e = .returned (imgV P Q A' (L.length + 4) c') ∧ (IB w' w3.heap.size (.int .i64 P) (.int .i64 Q) (.slice A L.length cr) ∧ GI w3 w3.heap.size P Q (L ++ colQ z) (((w'.setCell ⟨w3.heap.size, 0, none⟩ (.int .i64 P)).setCell ⟨w3.heap.size, 1, none⟩ (.int .i64 Q)).setCell ⟨w3.heap.size, 2, none⟩ (.slice A' (L.length + 4) c')))) := Lib.hid (fun u => by
                have hub := (hU1 u).fresh
                refine (add_any P Q A L.length cr L z w3.heap.size (Wf u) (own_upd ho (hU1 u) (fun _ _ => id)) (Nat.le_trans hb.size hub.size) (by omega)).mono ?_
                rintro e w' ⟨A', c', rfl, ho', hu'⟩
                exact ⟨A', c', rfl, GI.step (W' := (P : Int)) (H' := (Q : Int)) (hbm.upd (hU1 u) id) (own_upd ho (hU1 u) (fun _ _ => id)) (hb.trans (hub.mono hb.size)) ho' hu' (Nat.le_refl _)⟩)
              have hfm : ∀ u, FrC w W H (some ⟨r, o, none⟩) n c X Y P Q (Wf u) := fun u => hF.upd (hU1 u) (fun _ _ => id)
              have hbo : ∀ u, IB (Wf u) w3.heap.size (.int .i64 P) (.int .i64 Q) (.slice A L.length cr) := fun u => IB.of (hbm.upd (hU1 u) id)
              have a0 := fun u => (hbo u).c0; have a1 := fun u => (hbo u).c1; have a2 := fun u => (hbo u).c2
              have b0 := fun u => (hfm u).im.c0; have b1 := fun u => (hfm u).im.c1; have b2 := fun u => (hfm u).im.c2
              have e0 := fun u => (hfm u).r0; have e1 := fun u => (hfm u).r1
              obtain ⟨Z, hZ⟩ : ∃ Z, X + j = Z := ⟨_, rfl⟩
              obtain ⟨V, hV⟩ : ∃ V, Y + k = V := ⟨_, rfl⟩
              rw [hZ, hV] at HPx
              have s1 : IntKind.i64.wrap ((X : Int) + (j : Int)) = (Z : Int) := by rw [IntWalk.i64_in _ (by omega)]; omega
              have s2 : IntKind.i64.wrap ((Y : Int) + (k : Int)) = (V : Int) := by rw [IntWalk.i64_in _ (by omega)]; omega
              have HU0 := Lib.hid hU0
              have hne : Nonempty U := by obtain ⟨u, _⟩ := hU0; exact ⟨u⟩
              clear hm hbm ho hb hplc hpl2 hll hidx htk hL hZ hV hfm hbo hF hU0 hU1 hU2
              go_wp2_with fail
              refine wp_region_class (fun w' => ∃ u, w' = Wf u) 11 (by kernel_rfl) (by kernel_rfl) HU0.out ?_
              simp only [List.take_succ_cons, List.take_zero, List.drop_succ_cons, List.drop_zero]
              repeat (go_big_quiet_step ((go_at_call 28; exact HPx.out _)))
              refine wpQuiet_nil ?_
              rintro _ ⟨u, rfl⟩
              clear HU0 HPx a0 a1 a2 b0 b1 b2 e0 e1
              go_wp2_with (fail)
              refine (HAd.out u).mono ?_
              rintro e wx ⟨A', c', rfl, hbx, hg⟩
              have HGG := Lib.hid hg
              clear HAd hg
              have x0 := hbx.c0; have x1 := hbx.c1; have x2 := hbx.c2
              obtain ⟨_, _, _, _, g0, g1, g2⟩ := hbx
              go_wp2_with fail
              go_roundw
              case rel => exact ⟨j + 1, by omega, by go_num, by rw [HLS.out]; exact HGG⟩
              case measure => simp [intOf]; omega
            · obtain rfl : j = P := by omega
              clear hF
              go_wp2_with fail
              go_roundw
              case rel => exact ⟨k + 1, by omega, by go_num, HGI⟩
              case measure => simp [intOf]; omega
        · obtain rfl : k = Q := by omega
          obtain ⟨A, cr, hm, hbm, ho, hb⟩ := HGI.out
          obtain ⟨_, m0, m1, m2, _, _, _⟩ := IB.of hbm
          obtain ⟨_, d0, d1, d2, f0, f1, f2⟩ := hF.z
          have HP := Lib.hid (hF.put (.int .i64 P) (.int .i64 k) (.slice A (partL l W X Y P k).length cr))
          have HOE := Lib.hid (own_other (own_low ho (show w.heap.size ≤ w3.heap.size by omega)) hF.z.blk (by decide) HP.out.2.2)
          clear hF hbm ho hb hm
          generalize partL l W X Y P k = L at *
          go_wp2_with fail
          have n0 := HP.out.1.c0; have n1 := HP.out.1.c1; have n2 := HP.out.1.c2
          refine bodyPost_ret (v := .tuple #[imgV P k A L.length cr, .int .i64 0]) (by simp [results, Try.results21, go_sem, n0, n1, n2]) rfl ?_
          rw [HE.out]
          exact ⟨A, cr, rfl, HOE.out, HP.out.2.1⟩
end Go.Proofs.Ytkfomjdmdgddlaa
