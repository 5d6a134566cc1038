/- An image is a grid of its pixels, and a grid an image: for any image, good or not. -/
import Derived.Test.YtkfomjdmdgddlaaQq
import Derived.Test.YtkfomjdmdgddlaaQgd
import Derived.Test.YtkfomjdmdgddlaaQt
import Derived.Deep.CondSized
namespace Go.Proofs.Ytkfomjdmdgddlaa
open Go.ChangeShapes Go.WideShapes Go.ChangeAt Go.RowKit
namespace RasterGrids

theorem neq_same (z : Col) (w : World) : (binOp .neq 30 (colV z) (colV z)).run Try.prog w = .ok (.bool false) w := by simp [go_sem, Try.underlying30]
theorem place_div {k X : Nat} (_ : k ≤ 65536) : (k : Int).tmod (X : Int) = ((k % X : Nat) : Int) ∧ (k : Int).tdiv (X : Int) = ((k / X : Nat) : Int) := ⟨by rw [Int.ofNat_tmod], by rw [Int.ofNat_tdiv]⟩
set_option maxHeartbeats 4000000 in
set_option maxRecDepth 100000 in
theorem walk (x y : Int) (A : Option Addr) (c : Nat) (l : List Int) (w : World) (_ : -9223372036854775808 ≤ x ∧ x ≤ 9223372036854775807) (_ : -9223372036854775808 ≤ y ∧ y ≤ 9223372036854775807) (hbs : Us w w.heap.size A l) (_ : ∀ v ∈ l, 0 ≤ v ∧ v ≤ 65535) (hl : l.length * 2 ≤ 140737488351232) :
    Calls Try.prog 7 #[.agg #[.int .i64 x, .int .i64 y, .slice A l.length c]] w fun e w' => e = .returned (.bool true) ∧ Below w.heap.size w w' := by
  obtain ⟨n, hn⟩ : ∃ n, l.length = n := ⟨_, rfl⟩
  rw [hn] at hl ⊢
  obtain ⟨w1, hw1, hi, hb⟩ := newImg x y A n c w
  have HW1 := Lib.hid hw1
  have HB1 := Lib.hid hb
  have HM1 := Lib.hid hi
  have HV1 := Lib.hid (Vs.below hbs hb)
  have HN := Lib.hid hn
  clear hw1 hi hb hbs hn
  go_enter Try.func7, Try.ntmps7
  go_upto_region 1 with (fail)
  rw [HW1.out]
  clear HW1
  go_wp2_with fail
  refine (wakes_any w1).mono ?_
  rintro e w2 ⟨rfl, hb2⟩
  have HB2 := Lib.hid (HB1.out.trans (hb2.mono HB1.out.size))
  have HM2 := Lib.hid (HM1.out.call hb2)
  have HV2 := Lib.hid (Vs.below HV1.out (hb2.mono HB1.out.size))
  clear HB1 HM1 HV1 hb2
  have q0 := HM2.out.c0; have q1 := HM2.out.c1; have q2 := HM2.out.c2
  have hs2 := HB2.out.size
  have HOwn := Lib.hid (own_any x y A n c l HN.out w.heap.size w2 HV2.out hs2 (by omega))
  go_wp2_with fail
  refine HOwn.out.mono ?_
  rintro e w3 ⟨A1, c1, rfl, ho3, hb3⟩
  have HGr := Lib.hid (grid_any x y A1 n c1 l HN.out (row_room ho3).1 w3.heap.size w3 (Vs.of_own ho3) (Nat.le_refl _))
  have HB3 := Lib.hid (HB2.out.trans (hb3.mono hs2))
  have HM3 := Lib.hid (HM2.out.call hb3)
  have HV3 := Lib.hid (Vs.below HV2.out (hb3.mono hs2))
  clear HB2 HM2 HV2 ho3 hb3 q0 q1 q2 hs2 HOwn
  go_wp2_with fail
  refine HGr.out.mono ?_
  intro e w4 hgr
  have hbb : Below w3.heap.size w3 w4 := by rcases hgr with ⟨_, _, h⟩ | ⟨_, _, _, _, _, _, h⟩ <;> exact h
  have hs3 := HB3.out.size
  have HB4 := Lib.hid (HB3.out.trans (hbb.mono hs3))
  have HM4 := Lib.hid (HM3.out.call hbb)
  have HV4 := Lib.hid (Vs.below HV3.out (hbb.mono hs3))
  clear HB3 HM3 HV3 hbb HGr
  have q0 := HM4.out.c0; have q1 := HM4.out.c1; have q2 := HM4.out.c2
  have HGd := Lib.hid (refGood_any x y A n c w4)
  rcases hgr with ⟨hg, rfl, _⟩ | ⟨hg, g, r, c', rfl, hcg, _⟩
  · rw [HN.out] at hg
    rw [hg] at HGd
    clear hg
    go_wp2_with fail
    refine HGd.out.mono ?_
    rintro e w5 ⟨rfl, hb5⟩
    have HB5 := Lib.hid (HB4.out.trans (hb5.mono HB4.out.size))
    clear HB4 HM4 HV4 hb5 HGd q0 q1 q2
    go_wp2_with fail
    go_ret
    exact ⟨rfl, HB5.out⟩
  · rw [HN.out] at hg
    rw [hg] at HGd
    obtain ⟨W, H, rfl, rfl, hn4, hfew, hw1, hw2, hh1, hh2⟩ := goodB_nat hg
    simp only [Int.toNat_natCast] at hcg
    have HCG := Lib.hid hcg
    have HN4 := Lib.hid hn4
    have HFEW := Lib.hid hfew
    clear hg hcg hn4 hfew
    go_wp2_with fail
    refine HGd.out.mono ?_
    rintro e w5 ⟨rfl, hb5⟩
    have hs4 := HB4.out.size
    have HB5 := Lib.hid (HB4.out.trans (hb5.mono hs4))
    have HM5 := Lib.hid (HM4.out.call hb5)
    have HV5 := Lib.hid (Vs.below HV4.out (hb5.mono hs4))
    have HCG5 := Lib.hid (HCG.out.call hb5)
    clear HB4 HM4 HV4 HCG hb5 HGd q0 q1 q2
    have q0 := HM5.out.c0; have q1 := HM5.out.c1; have q2 := HM5.out.c2
    have HWV : Hid (∀ k, Calls Try.prog 25 #[.pointer (some ⟨g, 0, none⟩)] (w5.drewN k) fun e w' => e = .returned (.int .i64 (W : Int)) ∧ w' = w5.drewN k) := Lib.hid (fun k => wC_any (HCG5.out.upd ((Upd.refl No w5).drewN k) id id))
    have HHV : Hid (∀ k, Calls Try.prog 26 #[.pointer (some ⟨g, 0, none⟩)] (w5.drewN k) fun e w' => e = .returned (.int .i64 (H : Int)) ∧ w' = w5.drewN k) := Lib.hid (fun k => hC_any (HCG5.out.upd ((Upd.refl No w5).drewN k) id id))
    go_wp2_with fail
    go_quiet ((first | (go_at_call 25; exact Calls.quiet_of_same (HWV.out _)) | (go_at_call 26; exact Calls.quiet_of_same (HHV.out _))))
    obtain ⟨w6, hw6⟩ : ∃ w6, w5.drewN nq = w6 := ⟨_, rfl⟩
    have hb56 := below_drewN (Below.refl w5.heap.size w5) nq
    rw [hw6] at hb56 ⊢
    have hs5 := HB5.out.size
    have HB6 := Lib.hid (HB5.out.trans (hb56.mono hs5))
    have HM6 := Lib.hid (HM5.out.call hb56)
    have HV6 := Lib.hid (Vs.below HV5.out (hb56.mono hs5))
    have HCG6 := Lib.hid (HCG5.out.call hb56)
    clear HB5 HM5 HV5 HCG5 hb56 hw6 HWV HHV q0 q1 q2
    have q0 := HM6.out.c0; have q1 := HM6.out.c1; have q2 := HM6.out.c2
    obtain ⟨M, hM⟩ : ∃ M, W * H = M := ⟨_, rfl⟩
    have HCe := Lib.hid (cellsC_any HCG6.out)
    rw [hM] at HCe
    have HMM := Lib.hid hM
    have hM0 : 0 < M := by rw [← hM]; exact Nat.mul_pos hw1 hh1
    have hM2 : M ≤ 65536 := by rw [← hM]; exact HFEW.out
    have m1 : wrap64 ((W : Int) * (H : Int)) = (M : Int) := by rw [← Int.natCast_mul, hM]; exact IntWalk.wrap64_in _ (by omega)
    clear hM
    go_wp2_with fail
    refine HCe.out.mono ?_
    rintro e w7 ⟨r7, c7, rfl, ho7, hb7⟩
    have hs6 := HB6.out.size
    have HB7 := Lib.hid (HB6.out.trans (hb7.mono hs6))
    have HM7 := Lib.hid (HM6.out.call hb7)
    have HV7 := Lib.hid (Vs.below HV6.out (hb7.mono hs6))
    have HCG7 := Lib.hid (HCG6.out.call hb7)
    have HO7 := Lib.hid ho7
    clear HB6 HM6 HV6 HCG6 ho7 hb7 HCe q0 q1 q2
    have q0 := HM7.out.c0; have q1 := HM7.out.c1; have q2 := HM7.out.c2
    go_wp2_with fail
    clear m1
    have hs7 := HB7.out.size
    obtain ⟨r0, o0, hA, hrB, hsm⟩ := Us.smp HV7.out (by rw [HN.out]; have := HN4.out; have := HMM.out; omega)
    subst hA
    have HSM := Lib.hid hsm
    have HLc := Lib.hid (pxL_length l M)
    have HPx : Hid (∀ k, k < M → pxAt l (4 * k) = (pxL l M).getD k col0) := Lib.hid (fun k hk => (pxL_get l M k hk).symm)
    clear hsm q0 q1 q2
    go_loopw [60] (fun i wr => ∃ k : Nat, k ≤ M ∧ i = .int .i64 (k : Int) ∧ Hid (Below w7.heap.size w7 wr)) (fun i _ => M - (intOf i).toNat)
    case atStart => exact ⟨0, Nat.zero_le _, rfl, Lib.hid (Below.refl _ _)⟩
    case round =>
      obtain ⟨k, hk, rfl, HBr⟩ := hrel
      by_cases hlk : k < M
      · have hXY : k % W < W ∧ k / W < H := ⟨Nat.mod_lt _ hw1, Nat.div_lt_of_lt_mul (by rw [HMM.out]; exact hlk)⟩
        have hkk : k / W * W + k % W = k := by rw [Nat.mul_comm]; exact Nat.div_add_mod k W
        obtain ⟨d1, d2⟩ := place_div (k := k) (X := W) (by omega)
        generalize k % W = X at hXY hkk d1
        generalize k / W = Y at hXY hkk d2
        have ho := own_upd HO7.out (Upd.of_fresh HBr.out) (fun _ _ => id)
        have hkl : k < (pxL l M).length := by rw [HLc.out]; exact hlk
        have hcs : Cs wr wr.heap.size (some ⟨r7, 0, none⟩) (pxL l M) := by
          have h := ho
          rw [← List.append_nil (colsV (pxL l M))] at h
          exact Cs.of_own h (ho.lt r7 rfl).2
        obtain ⟨b, off, e0, _, x0, x1, x2, x3⟩ := hcs.at_ hkl
        injection e0 with e0
        injection e0 with e1 e2
        subst e1 e2
        have hgd : (pxL l M)[k] = pxAt l (4 * k) := by rw [HPx.out k hlk] <;> simp [List.getD, List.getElem?_eq_getElem hkl]
        rw [hgd] at x0 x1 x2 x3
        simp only [Nat.zero_add] at x0 x1 x2 x3
        obtain ⟨U, Wf, hU0, hU1, hU2⟩ := names_of wr
        have HPixel : Hid (∀ u, Calls Try.prog 28 #[imgV W H (some ⟨r0, o0, none⟩) n c, .int .i64 (X : Int), .int .i64 (Y : Int)] (Wf u) fun e w' => e = .returned (colV (pxAt l (4 * k))) ∧ ∃ u', w' = Wf u') := Lib.hid (fun u => by
          have h := pixel_any (c := c) HN.out HN4.out HFEW.out ((HSM.out.below HBr.out (by omega)).below ((hU1 u).fresh) (by have := HBr.out.size; omega)) X Y hXY.1 hXY.2
          rw [hkk] at h
          exact h.mono (fun e w' ⟨h1, h2⟩ => ⟨h1, hU2 u w' h2⟩))
        have hfm : ∀ u, IB (Wf u) w.heap.size (.int .i64 W) (.int .i64 H) (.slice (some ⟨r0, o0, none⟩) n c) := fun u => IB.of ((HM7.out.call HBr.out).blk.upd (hU1 u) id)
        have a0 := fun u => (hfm u).c0; have a1 := fun u => (hfm u).c1; have a2 := fun u => (hfm u).c2
        have hxu : ∀ (u : U) (p : Addr), p.block < wr.heap.size → (Wf u).cell? p = wr.cell? p := fun u p hp => (hU1 u).fresh.cell hp
        have hr7 : r7 < wr.heap.size := (ho.lt r7 rfl).2
        have z0 := fun u => (hxu u ⟨r7, k * 4, none⟩ hr7).trans x0; have z1 := fun u => (hxu u ⟨r7, k * 4 + 1, none⟩ hr7).trans x1; have z2 := fun u => (hxu u ⟨r7, k * 4 + 2, none⟩ hr7).trans x2; have z3 := fun u => (hxu u ⟨r7, k * 4 + 3, none⟩ hr7).trans x3
        generalize pxAt l (4 * k) = z at HPixel z0 z1 z2 z3
        have hW0 : ¬ (W : Int) = 0 := by omega
        have s1 : IntKind.i64.wrap ((k : Int).tmod (W : Int)) = (X : Int) := by rw [d1]; have := hXY.1; exact IntWalk.i64_in _ (by omega)
        have s2 : IntKind.i64.wrap ((k : Int).tdiv (W : Int)) = (Y : Int) := by rw [d2]; have := hXY.2; exact IntWalk.i64_in _ (by omega)
        have s3 : IntKind.i64.wrap (X : Int) = (X : Int) := by have := hXY.1; exact IntWalk.i64_in _ (by omega)
        have s4 : IntKind.i64.wrap (Y : Int) = (Y : Int) := by have := hXY.2; exact IntWalk.i64_in _ (by omega)
        have HBu : Hid (∀ u, Below w7.heap.size w7 (Wf u)) := Lib.hid (fun u => HBr.out.trans ((hU1 u).fresh.mono HBr.out.size))
        have HU0 := Lib.hid hU0
        have hne : Nonempty U := by obtain ⟨u, _⟩ := hU0; exact ⟨u⟩
        have hneq : ∀ w' : World, (binOp .neq 30 (colV z) (colV z)).run Try.prog w' = .ok (.bool false) w' := neq_same z
        have i0 : (0 : Int) ≤ (k : Int) := by omega
        have i1 : (k : Int) < (M : Int) := by omega
        clear hU0 hU1 hU2 hfm hxu ho hkl hcs x0 x1 x2 x3 hgd hkk hr7 HBr hXY
        go_wp2_with fail
        refine wp_region_class (fun w' => ∃ u, w' = Wf u) 14 (by kernel_rfl) (by kernel_rfl) HU0.out ?_
        simp only [List.take_succ_cons, List.take_zero, List.drop_succ_cons, List.drop_zero]
        repeat (go_big_quiet_step (fail))
        go_big_quiet_want
        go_big_quiet_op
        refine ⟨_, HPixel.out, ?_⟩
        go_big_quiet_on
        refine wpQuiet_nil ?_
        rintro _ ⟨u, rfl⟩
        have HBn := Lib.hid (HBu.out u)
        clear HU0 HPixel HBu a0 a1 a2 z0 z1 z2 z3 d1 d2 s1 s2 s3 s4
        go_wp2_with fail
        go_roundw
        case rel => exact ⟨k + 1, by omega, by go_num, HBn⟩
        case measure => simp [intOf]; omega
      · obtain rfl : k = M := by omega
        have hb8 := HBr.out
        have hs8 := hb8.size
        have HB8 := Lib.hid (HB7.out.trans (hb8.mono hs7))
        have HM8 := Lib.hid (HM7.out.call hb8)
        have HV8 := Lib.hid (Vs.below HV7.out (hb8.mono hs7))
        have hof := ofImg_any (HCG7.out.call hb8)
        rw [flatL_all l (W * H) (HN.out.trans HN4.out)] at hof
        have HOf := Lib.hid hof
        clear hof hb8 hs8 HBr HCG7 HO7 HM7 HV7
        go_wp2_with fail
        refine HOf.out.mono ?_
        rintro e w8 ⟨A8, c8, rfl, ho8, hb8⟩
        dsimp only at ho8 ⊢
        rw [HN.out] at ho8 ⊢
        have hs8 := HB8.out.size
        obtain ⟨wx, hwx, hix, hbx⟩ := newImg (W : Int) (H : Int) A8 n c8 w8
        have hb89 := hb8.trans (hbx.mono hb8.size)
        have HWX := Lib.hid hwx
        have HIX := Lib.hid hix
        have HOX := Lib.hid (own_upd ho8 (Upd.of_fresh hbx) (fun _ _ => id))
        have HB9 := Lib.hid (HB8.out.trans (hb89.mono hs8))
        have HM9 := Lib.hid (HM8.out.call hb89)
        have HV9 := Lib.hid (Vs.below HV8.out (hb89.mono hs8))
        clear hwx hix hbx ho8 hb8 hb89 HB8 HM8 HV8 HOf
        go_upto_region 18 with (fail)
        rw [HWX.out]
        clear HWX
        go_wp2_with fail
        refine (ofImg_nil wx).mono ?_
        rintro e w10 ⟨rfl, hb10⟩
        have hs9 := HB9.out.size
        obtain ⟨wy, hwy, hiy, hby⟩ := newImg 0 0 none 0 0 w10
        have hb11 := hb10.trans (hby.mono hb10.size)
        have HWY := Lib.hid hwy
        have HIY := Lib.hid hiy
        have HOY := Lib.hid (own_upd HOX.out (Upd.of_fresh hb11) (fun _ _ => id))
        have HIX2 := Lib.hid (HIX.out.call hb11)
        have HB11 := Lib.hid (HB9.out.trans (hb11.mono hs9))
        have HM11 := Lib.hid (HM9.out.call hb11)
        have HV11 := Lib.hid (Vs.below HV9.out (hb11.mono hs9))
        clear hwy hiy hby hb10 hb11 HB9 HM9 HV9 HIX HOX
        go_upto_region 19 with (fail)
        rw [HWY.out]
        clear HWY
        have q0 := HM11.out.c0; have q1 := HM11.out.c1; have q2 := HM11.out.c2
        have x0 := HIX2.out.c0; have x1 := HIX2.out.c1; have x2 := HIX2.out.c2
        have hs11 := HB11.out.size
        have HSa := Lib.hid (refSame_any W H A8 n c8 l W H (some ⟨r0, o0, none⟩) n c l HN.out HN.out wy.heap.size wy (Vs.of_own HOY.out) (fun hp => by obtain ⟨ad, h1, h2, h3⟩ := HV11.out hp; exact ⟨ad, h1, Nat.lt_of_lt_of_le h2 hs11, h3⟩) (Nat.le_refl _) (Nat.le_trans (row_room HOY.out).1 (row_room HOY.out).2))
        go_wp2_with fail
        refine HSa.out.mono ?_
        rintro e w12 ⟨rfl, hb12⟩
        rw [sameB_self]
        have HB12 := Lib.hid (HB11.out.trans (hb12.mono hs11))
        have HY12 := Lib.hid (HIY.out.call hb12)
        clear HM11 HV11 HIX2 HIY HB11 HOY hb12 HSa q0 q1 q2 x0 x1 x2
        have y2 := HY12.out.c2
        go_wp2_with fail
        go_ret
        exact ⟨rfl, HB12.out⟩
set_option maxRecDepth 100000 in
theorem lifted (os : Os) (started : os.Started) (H : Type) (enc : TypeId × Value → H) :
    ReturnsInHanded {} Try.checked os 7 .any (Rows.rasterGridsSpec.pre6 enc Try.prog Try.f7 Rows.rasterGridsRow.domain false) (Rows.rasterGridsSpec.post enc Try.prog Try.f7 false true false false) := by
  refine returnsInHanded_of_change_sized (C := Try.checked) prog_own started (by kernel_rfl) Try.func7
    (ChangeSpec.witness6 (enc := enc) (C := Try.checked) false ⟨#[], #[.agg #[.int .i64 0, .int .i64 0, .slice none 0 0]], []⟩ 8 (by kernel_rfl) (by kernel_rfl) (by kernel_rfl) (by kernel_rfl)) ?_
  intro W base args ds gs before hval0 hW hcnd hsz _
  have hval : ∀ (j : Nat) t v, Try.f7.params[j]? = some t → args[j]? = some v → Value.okWide Try.prog W .any base t v := hval0
  have hW' := hW
  obtain ⟨p, q, hA0, hV, rfl, hfz, hnd⟩ := hW
  have hA : DataW.TrodAll enc Try.prog W 0 (fun _ => true) true Try.f7.params.toList args.toList ds p := hA0
  rw [Try.params7] at hA hval
  obtain ⟨v0, vs0, d0, ds0, p0, q0, hargs, rfl, rfl, h0, r0⟩ := trodAll_cons hA
  obtain ⟨rfl, rfl, rfl⟩ := trodAll_nil r0
  obtain rfl : args = #[v0] := by cases args; simp_all
  obtain ⟨rfl, rfl⟩ := trodVars_none hV
  obtain ⟨x0, y0, A0, l0, c0, rfl, bx0, by0, hb0, hk0, hd0⟩ := open_image (hval 0 24 v0 rfl rfl) h0
  have hl0 : l0.length * 2 ≤ 140737488351232 := by
    obtain ⟨_, _, _, rfl, hdd⟩ := hd0
    rcases hdd with ⟨_, rfl⟩ | ⟨e, s, rfl, hle⟩
    · simp
    · have hpz := sized_part hsz (j := 0) (t := 24) rfl rfl Try.underlying24
      have this : (e.length + s.length) * Try.prog.bytesOf 28 ≤ reachBytes := sized_slice hpz (j := 2) (t := 22) (e := 28) rfl rfl Try.underlying22
      rw [bytes_u16] at this
      unfold reachBytes at this
      omega
  have lt0 : ∀ x ∈ p0, x.block < W.heap.size := by obtain ⟨m, hm⟩ := h0; exact DataW.trod_lt m _ _ _ hm
  clear hA0 hval0
  refine (walk x0 y0 A0 c0 l0 W bx0 by0 hb0 hk0 hl0).mono fun e W' ⟨he, bel⟩ => ?_
  subst he
  exact ⟨_, rfl, _, _, _, [], _, [], hW', trodAll_mk1 (shut_bool Try.underlying4 _), (trodAll_cons_mk (Below.trod prog_laid (by kernel_rfl) (of_decide_eq_true (by kernel_rfl)) h0 bel lt0) trodAll_mk0), rfl, bel.frame _, fun h => by cases h⟩

theorem over : Rows.rasterGridsRow.holds Try.pinned (OpenSpec.ofChange Rows.rasterGridsSpec) :=
  OpenClaim.holds_of_wide 7 Try.f7 rfl rfl rfl rfl rfl rfl rfl ⟨rfl, rfl, rfl, rfl, rfl⟩ rfl rfl rfl rfl rfl (by kernel_rfl) Try.func7 (by kernel_rfl)
    (of_decide_eq_true (by kernel_rfl)) (by unfold Func.isWrapper; first | (rw [if_pos (by decide +kernel)]; kernel_rfl) | (rw [if_neg (by decide +kernel)]; exact ⟨rfl, rfl⟩))
    (fun os started H enc _ => lifted os started H enc)
end RasterGrids

theorem rasterGrids_holds : Rows.RasterGridsSaid := RasterGrids.over
#print axioms rasterGrids_holds
end Go.Proofs.Ytkfomjdmdgddlaa
