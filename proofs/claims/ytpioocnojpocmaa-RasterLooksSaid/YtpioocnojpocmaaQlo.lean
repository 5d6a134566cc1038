/- Which images are good, which are alike, and the pixel at any place, are told as the document tells them: for any two images, good or not, and any place. -/
import Derived.Test.YtpioocnojpocmaaQq
import Derived.Deep.CondSized
namespace Go.Proofs.Ytpioocnojpocmaa
open Go.ChangeShapes Go.WideShapes Go.ChangeAt Go.RowKit
namespace RasterLooks

theorem cb_store {w1 w9 : World} {ob : Nat} {x : Col} (h : CB w9 ob x) (hB : Below w1.heap.size w1 w9) (hob : w1.heap.size ≤ ob) (y : Col) : CB ((((w9.setCell ⟨ob, 0, none⟩ (.int .u16 y.r)).setCell ⟨ob, 1, none⟩ (.int .u16 y.g)).setCell ⟨ob, 2, none⟩ (.int .u16 y.b)).setCell ⟨ob, 3, none⟩ (.int .u16 y.a)) ob y ∧
    Below w1.heap.size w1 ((((w9.setCell ⟨ob, 0, none⟩ (.int .u16 y.r)).setCell ⟨ob, 1, none⟩ (.int .u16 y.g)).setCell ⟨ob, 2, none⟩ (.int .u16 y.b)).setCell ⟨ob, 3, none⟩ (.int .u16 y.a)) :=
  have t := CB.put h y w1.heap.size hob
  ⟨t.1, hB.trans t.2⟩
theorem cb_alloc {w1 w9 : World} (hB : Below w1.heap.size w1 w9) (y : Col) : CB (w9.alloc (.cells #[.int .u16 y.r, .int .u16 y.g, .int .u16 y.b, .int .u16 y.a] 30)) w9.heap.size y ∧ Below w1.heap.size w1 (w9.alloc (.cells #[.int .u16 y.r, .int .u16 y.g, .int .u16 y.b, .int .u16 y.a] 30)) :=
  ⟨CB.of (Blk.new w9 _ _), hB.alloc hB.size _⟩
theorem belowStep {w w1 w2 : World} (h : Below w.heap.size w w1) (hb : Below w1.heap.size w1 w2) : Below w.heap.size w w2 := h.trans (hb.mono h.size)
/-- A place's box. -/
structure PB (w : World) (g : Nat) (a b : Int) : Prop where
  blk : Blk w g 26 #[.int .i64 a, .int .i64 b]
  c0 : w.cell? ⟨g, 0, none⟩ = some (.int .i64 a)
  c1 : w.cell? ⟨g, 1, none⟩ = some (.int .i64 b)
theorem PB.of {w : World} {g : Nat} {a b : Int} (h : Blk w g 26 #[.int .i64 a, .int .i64 b]) : PB w g a b := ⟨h, by rw [h.cell]; rfl, by rw [h.cell]; rfl⟩
theorem PB.call {w w' : World} {g : Nat} {a b : Int} (h : PB w g a b) (hb : Below w.heap.size w w') : PB w' g a b := PB.of (h.blk.upd (Upd.of_fresh hb) id)

set_option maxHeartbeats 4000000 in
set_option maxRecDepth 100000 in
theorem walk (x y : Int) (A : Option Addr) (c : Nat) (l : List Int) (x' y' : Int) (A' : Option Addr) (c' : Nat) (l' : List Int) (p q : Int) (w : World) (_ : -9223372036854775808 ≤ x ∧ x ≤ 9223372036854775807) (_ : -9223372036854775808 ≤ y ∧ y ≤ 9223372036854775807) (hbs : Us w w.heap.size A l) (_ : ∀ v ∈ l, 0 ≤ v ∧ v ≤ 65535) (hl : l.length * 2 ≤ 140737488351232)
    (_ : -9223372036854775808 ≤ x' ∧ x' ≤ 9223372036854775807) (_ : -9223372036854775808 ≤ y' ∧ y' ≤ 9223372036854775807) (hbs' : Us w w.heap.size A' l') (_ : ∀ v ∈ l', 0 ≤ v ∧ v ≤ 65535) (hl' : l'.length * 2 ≤ 140737488351232) (_ : -9223372036854775808 ≤ p ∧ p ≤ 9223372036854775807) (_ : -9223372036854775808 ≤ q ∧ q ≤ 9223372036854775807) :
    Calls Try.prog 3 #[.agg #[.int .i64 x, .int .i64 y, .slice A l.length c], .agg #[.int .i64 x', .int .i64 y', .slice A' l'.length c'], .agg #[.int .i64 p, .int .i64 q]] w fun e w' => e = .returned (.bool true) ∧ Below w.heap.size w w' := by
  obtain ⟨n, hn⟩ : ∃ n, l.length = n := ⟨_, rfl⟩
  obtain ⟨n', hn'⟩ : ∃ n, l'.length = n := ⟨_, rfl⟩
  rw [hn] at hl ⊢
  rw [hn'] at hl' ⊢
  obtain ⟨b0, bs, b1, b2, b3⟩ := boxes3 w #[.int .i64 x, .int .i64 y, .slice A n c] #[.int .i64 x', .int .i64 y', .slice A' n' c'] #[.int .i64 p, .int .i64 q] 24 24 26
  obtain ⟨w1, hw1⟩ : ∃ w1, ((w.alloc (.cells #[.int .i64 x, .int .i64 y, .slice A n c] 24)).alloc (.cells #[.int .i64 x', .int .i64 y', .slice A' n' c'] 24)).alloc (.cells #[.int .i64 p, .int .i64 q] 26) = w1 := ⟨_, rfl⟩
  rw [hw1] at b0 bs b1 b2 b3
  have HW1 := Lib.hid hw1
  have HB1 := Lib.hid b0
  have HM1 := Lib.hid (IB.of b1)
  have HO1 := Lib.hid (IB.of b2)
  have HP1 := Lib.hid (PB.of b3)
  have HV1 := Lib.hid (Vs.below hbs b0)
  have HX1 := Lib.hid (Vs.below hbs' b0)
  have HN := Lib.hid hn; have HN' := Lib.hid hn'
  clear hw1 b0 bs b1 b2 b3 hbs hbs' hn hn'
  go_enter Try.func3, Try.ntmps3
  go_upto_region 1 with (fail)
  rw [HW1.out]
  clear HW1
  go_wp2_with fail
  refine (wakes_any w1).mono ?_
  rintro e w2 ⟨rfl, hb2⟩
  have HB2 := Lib.hid (HB1.out.trans (hb2.mono HB1.out.size))
  have HM2 := Lib.hid (HM1.out.call hb2)
  have HO2 := Lib.hid (HO1.out.call hb2)
  have HP2 := Lib.hid (HP1.out.call hb2)
  have HV2 := Lib.hid (Vs.below HV1.out (hb2.mono HB1.out.size))
  have HX2 := Lib.hid (Vs.below HX1.out (hb2.mono HB1.out.size))
  clear HB1 HM1 HO1 HP1 HV1 HX1 hb2
  have q0 := HM2.out.c0; have q1 := HM2.out.c1; have q2 := HM2.out.c2
  have p0 := HP2.out.c0; have p1 := HP2.out.c1
  have hs2 := HB2.out.size
  have hfull : Hid (∀ w', Below w2.heap.size w2 w' → (Below w2.heap.size w2 w' ∧ w'.cell? ⟨w.heap.size, 0, none⟩ = some (.int .i64 x) ∧ w'.cell? ⟨w.heap.size, 1, none⟩ = some (.int .i64 y) ∧ w'.cell? ⟨w.heap.size, 2, none⟩ = some (.slice A n c) ∧ w'.cell? ⟨w.heap.size + 1 + 1, 0, none⟩ = some (.int .i64 p) ∧ w'.cell? ⟨w.heap.size + 1 + 1, 1, none⟩ = some (.int .i64 q))) :=
    Lib.hid fun w' hb => ⟨hb, (HM2.out.call hb).c0, (HM2.out.call hb).c1, (HM2.out.call hb).c2, (HP2.out.call hb).c0, (HP2.out.call hb).c1⟩
  have HOwn : Hid (∀ w', Below w2.heap.size w2 w' → Calls Try.prog 12 #[.agg #[.int .i64 x, .int .i64 y, .slice A n c]] w' fun e w'' => ∃ A1 c1, e = .returned (imgV x y A1 n c1) ∧ w''.ownsRow w'.heap.size 28 1 (.slice A1 n c1) n (usV l) ∧ Below w'.heap.size w' w'' ∧ Below w2.heap.size w2 w'') :=
    Lib.hid fun w' hb => (own_any x y A n c l HN.out w.heap.size w' (Vs.below HV2.out (hb.mono hs2)) (by have := hb.size; omega) (by omega)).mono (fun e w'' ⟨A1, c1, h1, h2, h3⟩ => ⟨A1, c1, h1, h2, h3, hb.trans (h3.mono hb.size)⟩)
  have HAt : Hid (∀ w6 base A1 c1, w6.ownsRow base 28 1 (.slice A1 n c1) n (usV l) → ∀ w7, Upd No w6 w7 → Calls Try.prog 11 #[imgV x y A1 n c1, .int .i64 p, .int .i64 q] w7 fun e w8 => e = .returned (.tuple #[colV (atPx x y l p q), .bool (atOk x y n p q)]) ∧ Below w7.heap.size w7 w8) :=
    Lib.hid fun w6 base A1 c1 ho w7 hu => have h := own_upd ho hu (fun _ _ => id); at_any x y A1 n c1 l HN.out (row_room h).1 (row_room h).2 w7.heap.size w7 (Vs.of_own h) (Nat.le_refl _) p q
  generalize hz : atPx x y l p q = z at HAt
  have HZ := Lib.hid hz
  clear hz
  go_upto_region 3 with (fail)
  go_cut [7, 8] from 14 to 22 (fun v u wx => ∃ ob, v = .pointer (some ⟨ob, 0, none⟩) ∧ u = .bool (atOk x y n p q) ∧ Hid (CB wx ob z) ∧ Hid (w2.heap.size ≤ ob) ∧ Hid (Below w2.heap.size w2 wx))
  case first =>
    go_region_held3 (fun w' => Below w2.heap.size w2 w' ∧ w'.cell? ⟨w.heap.size, 0, none⟩ = some (.int .i64 x) ∧ w'.cell? ⟨w.heap.size, 1, none⟩ = some (.int .i64 y) ∧ w'.cell? ⟨w.heap.size, 2, none⟩ = some (.slice A n c) ∧ w'.cell? ⟨w.heap.size + 1 + 1, 0, none⟩ = some (.int .i64 p) ∧ w'.cell? ⟨w.heap.size + 1 + 1, 1, none⟩ = some (.int .i64 q))
      (first | exact hfull.out _ (cb_store HK8.out hc8 hob8 _).2 | exact hfull.out _ hc8 | exact hfull.out _ hc6 | exact hfull.out _ (hc8.alloc hc8.size _) | exact hfull.out _ (hc6.alloc hc6.size _) | exact hfull.out _ (Below.refl _ _) | exact hfull.out _ (Below.drew (Below.refl _ _)) | exact hfull.out _ (Below.drew (And.left (by assumption))) | exact hfull.out _ (Below.alloc (And.left (by assumption)) (Below.size (And.left (by assumption))) _) | exact hfull.out _ (Below.alloc (by assumption) (Below.size (by assumption)) _) | exact hfull.out _ (by assumption))
      ((first
        | (go_at_call 12; refine (HOwn.out _ (And.left (by assumption))).mono ?_; rintro e w6 ⟨A1, c1, rfl, ho6, hb6, hc6⟩)
        | (go_at_call 11; refine (HAt.out _ _ _ _ ho6 _ (by first | exact Upd.refl No _ | exact (Upd.refl No _).alloc _)).mono ?_; rintro e w8 ⟨rfl, hb8⟩; have hc8 : Below w2.heap.size w2 w8 := (Below.trans (And.left (by assumption)) (hb8.mono (Below.size (And.left (by assumption))))); first | (have hk8 : CB w8 w2.heap.size col0 := CB.of (((Blk.new w2.drew 30 #[.int .u16 0, .int .u16 0, .int .u16 0, .int .u16 0]).upd (Upd.of_fresh hb6) id).upd (Upd.of_fresh hb8) id); have HK8 := Lib.hid hk8; obtain ⟨_, d0, d1, d2, d3, f0, f1, f2, f3⟩ := hk8; have hob8 : w2.heap.size ≤ w2.heap.size := Nat.le_refl _) | (have hk8 : CB w8 w6.heap.size col0 := CB.of ((Blk.new w6 30 #[.int .u16 0, .int .u16 0, .int .u16 0, .int .u16 0]).upd (Upd.of_fresh hb8) id); have HK8 := Lib.hid hk8; obtain ⟨_, d0, d1, d2, d3, f0, f1, f2, f3⟩ := hk8; have hob8 : w2.heap.size ≤ w6.heap.size := hc6.size) | skip)))
    all_goals
      go_wp2_with fail
      go_meet
      first
        | exact ⟨_, rfl, rfl, Lib.hid (cb_store HK8.out hc8 hob8 z).1, Lib.hid hob8, Lib.hid (cb_store HK8.out hc8 hob8 z).2⟩
        | exact ⟨_, rfl, rfl, Lib.hid (cb_alloc hc8 z).1, Lib.hid hc8.size, Lib.hid (cb_alloc hc8 z).2⟩
  case rest =>
    obtain ⟨ob, rfl, rfl, HC3, HO3, HB3⟩ := hcut
    obtain ⟨w3, hw3⟩ : ∃ w3 : World, w3 = wc := ⟨_, rfl⟩
    rw [← hw3] at HC3 HB3 ⊢
    clear hw3 hfull HOwn HAt q0 q1 q2 p0 p1
    have HM3 := Lib.hid (HM2.out.call HB3.out)
    have HI3 := Lib.hid (HO2.out.call HB3.out)
    have HP3 := Lib.hid (HP2.out.call HB3.out)
    have HV3 := Lib.hid (Vs.below HV2.out (HB3.out.mono hs2))
    have HX3 := Lib.hid (Vs.below HX2.out (HB3.out.mono hs2))
    have HL3 := Lib.hid (HB2.out.trans (HB3.out.mono hs2))
    clear HM2 HO2 HP2 HV2 HX2 HB2 HB3
    have q0 := HM3.out.c0; have q1 := HM3.out.c1; have q2 := HM3.out.c2
    have p0 := HP3.out.c0; have p1 := HP3.out.c1
    go_wp2_with fail
    refine (refAt_any x y A n c l HN.out w.heap.size w3 HV3.out HL3.out.size p q).mono ?_
    rintro e w4 ⟨rfl, hb4⟩
    rw [HZ.out]
    have hbx := (Below.refl w4.heap.size w4).alloc (Nat.le_refl _) (.cells #[.int .u16 z.r, .int .u16 z.g, .int .u16 z.b, .int .u16 z.a] 30)
    have hcx := CB.of (x := z) (Blk.new w4 30 #[.int .u16 z.r, .int .u16 z.g, .int .u16 z.b, .int .u16 z.a])
    obtain ⟨w5, hw5⟩ : ∃ w5, w4.alloc (.cells #[.int .u16 z.r, .int .u16 z.g, .int .u16 z.b, .int .u16 z.a] 30) = w5 := ⟨_, rfl⟩
    rw [hw5] at hbx hcx
    have hb45 := hb4.trans (hbx.mono hb4.size)
    have HW5 := Lib.hid hw5
    have HD5 := Lib.hid hcx
    have HC5 := Lib.hid (HC3.out.call hb45)
    have HM5 := Lib.hid (HM3.out.call hb45)
    have HI5 := Lib.hid (HI3.out.call hb45)
    have HL5 := Lib.hid (HL3.out.trans (hb45.mono HL3.out.size))
    have HV5 := Lib.hid (Vs.below HV3.out (hb45.mono HL3.out.size))
    have HX5 := Lib.hid (Vs.below HX3.out (hb45.mono HL3.out.size))
    clear hw5 hbx hcx hb4 hb45 HC3 HM3 HI3 HP3 HL3 HV3 HX3 HO3 q0 q1 q2 p0 p1 hs2
    go_upto_region 5 with (fail)
    rw [HW5.out]
    clear HW5
    have hs5 := HL5.out.size
    have hfull : Hid (∀ w', Below w5.heap.size w5 w' → (Below w5.heap.size w5 w' ∧ (w'.cell? ⟨w.heap.size, 0, none⟩ = some (.int .i64 x) ∧ w'.cell? ⟨w.heap.size, 1, none⟩ = some (.int .i64 y) ∧ w'.cell? ⟨w.heap.size, 2, none⟩ = some (.slice A n c)) ∧ (w'.cell? ⟨w.heap.size + 1, 0, none⟩ = some (.int .i64 x') ∧ w'.cell? ⟨w.heap.size + 1, 1, none⟩ = some (.int .i64 y') ∧ w'.cell? ⟨w.heap.size + 1, 2, none⟩ = some (.slice A' n' c')) ∧
      (w'.cell? ⟨ob, 0, none⟩ = some (.int .u16 z.r) ∧ w'.cell? ⟨ob, 1, none⟩ = some (.int .u16 z.g) ∧ w'.cell? ⟨ob, 2, none⟩ = some (.int .u16 z.b) ∧ w'.cell? ⟨ob, 3, none⟩ = some (.int .u16 z.a)) ∧ w'.cell? ⟨w4.heap.size, 0, none⟩ = some (.int .u16 z.r) ∧ w'.cell? ⟨w4.heap.size, 1, none⟩ = some (.int .u16 z.g) ∧ w'.cell? ⟨w4.heap.size, 2, none⟩ = some (.int .u16 z.b) ∧ w'.cell? ⟨w4.heap.size, 3, none⟩ = some (.int .u16 z.a))) :=
      Lib.hid fun w' hb => ⟨hb, ⟨(HM5.out.call hb).c0, (HM5.out.call hb).c1, (HM5.out.call hb).c2⟩, ⟨(HI5.out.call hb).c0, (HI5.out.call hb).c1, (HI5.out.call hb).c2⟩, ⟨(HC5.out.call hb).c0, (HC5.out.call hb).c1, (HC5.out.call hb).c2, (HC5.out.call hb).c3⟩, (HD5.out.call hb).c0, (HD5.out.call hb).c1, (HD5.out.call hb).c2, (HD5.out.call hb).c3⟩
    have HOm : Hid (∀ w', Below w5.heap.size w5 w' → Calls Try.prog 12 #[.agg #[.int .i64 x, .int .i64 y, .slice A n c]] w' fun e w'' => ∃ A1 c1, e = .returned (imgV x y A1 n c1) ∧ w''.ownsRow w'.heap.size 28 1 (.slice A1 n c1) n (usV l) ∧ Below w'.heap.size w' w'' ∧ Below w5.heap.size w5 w'') :=
      Lib.hid fun w' hb => (own_any x y A n c l HN.out w.heap.size w' (Vs.below HV5.out (hb.mono hs5)) (by have := hb.size; omega) (by omega)).mono (fun e w'' ⟨A1, c1, h1, h2, h3⟩ => ⟨A1, c1, h1, h2, h3, hb.trans (h3.mono hb.size)⟩)
    have HOo : Hid (∀ w', Below w5.heap.size w5 w' → Calls Try.prog 12 #[.agg #[.int .i64 x', .int .i64 y', .slice A' n' c']] w' fun e w'' => ∃ A1 c1, e = .returned (imgV x' y' A1 n' c1) ∧ w''.ownsRow w'.heap.size 28 1 (.slice A1 n' c1) n' (usV l') ∧ Below w'.heap.size w' w'' ∧ Below w5.heap.size w5 w'') :=
      Lib.hid fun w' hb => (own_any x' y' A' n' c' l' HN'.out w.heap.size w' (Vs.below HX5.out (hb.mono hs5)) (by have := hb.size; omega) (by omega)).mono (fun e w'' ⟨A1, c1, h1, h2, h3⟩ => ⟨A1, c1, h1, h2, h3, hb.trans (h3.mono hb.size)⟩)
    have HS : Hid (∀ (x1 y1 : Int) (l1 : List Int) (n1 : Nat) (x2 y2 : Int) (l2 : List Int) (n2 : Nat) (w9 : World) (b1 b2 : Nat) (A1 A2 : Option Addr) (c1 c2 : Nat), w9.ownsRow b1 28 1 (.slice A1 n1 c1) n1 (usV l1) → w9.ownsRow b2 28 1 (.slice A2 n2 c2) n2 (usV l2) → Calls Try.prog 16 #[imgV x1 y1 A1 n1 c1, imgV x2 y2 A2 n2 c2] w9 fun e w'' => e = .returned (.bool (sameB x1 y1 l1 x2 y2 l2)) ∧ Below w9.heap.size w9 w'') :=
      Lib.hid fun x1 y1 l1 n1 x2 y2 l2 n2 w9 b1 b2 A1 A2 c1 c2 h1 h2 => same_any x1 y1 A1 n1 c1 l1 x2 y2 A2 n2 c2 l2 ((usV_length l1).symm.trans (own_len h1)) ((usV_length l2).symm.trans (own_len h2)) w9.heap.size w9 (Vs.of_own h1) (Vs.of_own h2) (Nat.le_refl _) (Nat.le_trans (row_room h1).1 (row_room h1).2)
    have hsm : sameB x y l x y l = true := sameB_self x y l
    have HRs : Hid (∀ w', Below w5.heap.size w5 w' → Calls Try.prog 17 #[.agg #[.int .i64 x, .int .i64 y, .slice A n c], .agg #[.int .i64 x', .int .i64 y', .slice A' n' c']] w' fun e w'' => e = .returned (.bool (sameB x y l x' y' l')) ∧ Below w'.heap.size w' w'') :=
      Lib.hid fun w' hb => refSame_any x y A n c l x' y' A' n' c' l' HN.out HN'.out w.heap.size w' (Vs.below HV5.out (hb.mono hs5)) (Vs.below HX5.out (hb.mono hs5)) (by have := hb.size; omega) (by unfold maxLen; omega)
    have HGd : Hid (∀ (A1 : Option Addr) (c1 : Nat) (w' : World), Calls Try.prog 14 #[imgV x y A1 n c1] w' fun e w'' => e = .returned (.bool (goodB x y n)) ∧ Below w'.heap.size w' w'') := Lib.hid fun A1 c1 w' => good_any x y A1 n c1 w'
    have HGr : Hid (∀ (A1 : Option Addr) (c1 : Nat) (w' : World), Calls Try.prog 15 #[imgV x y A1 n c1] w' fun e w'' => e = .returned (.bool (goodB x y n)) ∧ Below w'.heap.size w' w'') := Lib.hid fun A1 c1 w' => refGood_any x y A1 n c1 w'
    generalize goodB x y n = gb at *
    have hq : ∀ w' : World, (binOp .eql 30 (colV z) (colV z)).run Try.prog w' = .ok (.bool true) w' := fun w' => by rw [eql_col]; simp
    generalize atOk x y n p q = ak at *
    have hc6 : Below w5.heap.size w5 w5.drew := (Below.refl _ _).drew
    go_region_held3 (fun w' => Below w5.heap.size w5 w' ∧ (w'.cell? ⟨w.heap.size, 0, none⟩ = some (.int .i64 x) ∧ w'.cell? ⟨w.heap.size, 1, none⟩ = some (.int .i64 y) ∧ w'.cell? ⟨w.heap.size, 2, none⟩ = some (.slice A n c)) ∧ (w'.cell? ⟨w.heap.size + 1, 0, none⟩ = some (.int .i64 x') ∧ w'.cell? ⟨w.heap.size + 1, 1, none⟩ = some (.int .i64 y') ∧ w'.cell? ⟨w.heap.size + 1, 2, none⟩ = some (.slice A' n' c')) ∧
      (w'.cell? ⟨ob, 0, none⟩ = some (.int .u16 z.r) ∧ w'.cell? ⟨ob, 1, none⟩ = some (.int .u16 z.g) ∧ w'.cell? ⟨ob, 2, none⟩ = some (.int .u16 z.b) ∧ w'.cell? ⟨ob, 3, none⟩ = some (.int .u16 z.a)) ∧ w'.cell? ⟨w4.heap.size, 0, none⟩ = some (.int .u16 z.r) ∧ w'.cell? ⟨w4.heap.size, 1, none⟩ = some (.int .u16 z.g) ∧ w'.cell? ⟨w4.heap.size, 2, none⟩ = some (.int .u16 z.b) ∧ w'.cell? ⟨w4.heap.size, 3, none⟩ = some (.int .u16 z.a))
      (exact hfull.out _ hc6)
      ((first
        | (go_at_call 12; (first | (have hp0 := ho6) | skip); refine (HOm.out _ hc6).mono ?_; rintro e w6 ⟨A1, c1, rfl, ho6, hb6, hc6⟩; (first | (have hp6 := own_upd hp0 (Upd.of_fresh hb6) (fun _ _ => id)) | skip))
        | (go_at_call 12; (first | (have hp0 := ho6) | skip); refine (HOo.out _ hc6).mono ?_; rintro e w6 ⟨A1, c1, rfl, ho6, hb6, hc6⟩; (first | (have hp6 := own_upd hp0 (Upd.of_fresh hb6) (fun _ _ => id)) | skip))
        | (go_at_call 14; refine (HGd.out _ _ _).mono ?_; rintro e w6 ⟨rfl, hb6⟩; have hc6 := belowStep hc6 hb6)
        | (go_at_call 15; refine (HGr.out _ _ _).mono ?_; rintro e w6 ⟨rfl, hb6⟩; have hc6 := belowStep hc6 hb6)
        | (go_at_call 16; refine (HS.out _ _ _ _ _ _ _ _ _ _ _ _ _ _ _ hp6 ho6).mono ?_; rintro e w6 ⟨rfl, hb6⟩; have hc6 := belowStep hc6 hb6)
        | (go_at_call 17; refine (HRs.out _ hc6).mono ?_; rintro e w6 ⟨rfl, hb6⟩; have hc6 := belowStep hc6 hb6)))
    all_goals
      have HE := Lib.hid (HL5.out.trans (hc6.mono hs5))
      clear hc6 hb6 hfull
      go_wp2_with fail
      go_ret
      exact ⟨rfl, HE.out⟩
set_option maxRecDepth 100000 in
theorem lifted (os : Os) (started : os.Started) (H : Type) (enc : TypeId × Value → H) :
    ReturnsInHanded {} Try.checked os 3 .any (Rows.rasterLooksSpec.pre6 enc Try.prog Try.f3 Rows.rasterLooksRow.domain false) (Rows.rasterLooksSpec.post enc Try.prog Try.f3 false true false false) := by
  refine returnsInHanded_of_change_sized (C := Try.checked) prog_own started (by kernel_rfl) Try.func3
    (ChangeSpec.witness6 (enc := enc) (C := Try.checked) false ⟨#[], #[.agg #[.int .i64 0, .int .i64 0, .slice none 0 0], .agg #[.int .i64 0, .int .i64 0, .slice none 0 0], .agg #[.int .i64 0, .int .i64 0]], []⟩ 8 (by kernel_rfl) (by kernel_rfl) (by kernel_rfl) (by kernel_rfl)) ?_
  intro W base args ds gs before hval0 hW hcnd hsz _
  have hval : ∀ (j : Nat) t v, Try.f3.params[j]? = some t → args[j]? = some v → Value.okWide Try.prog W .any base t v := hval0
  have hW' := hW
  obtain ⟨p, q, hA0, hV, rfl, hfz, hnd⟩ := hW
  have hA : DataW.TrodAll enc Try.prog W 0 (fun _ => true) true Try.f3.params.toList args.toList ds p := hA0
  rw [Try.params3] at hA hval
  obtain ⟨v0, vs0, d0, ds0, p0, q0, hargs, rfl, rfl, h0, r0⟩ := trodAll_cons hA
  obtain ⟨v1, vs1, d1, ds1, p1, q1, rfl, rfl, rfl, h1, r1⟩ := trodAll_cons r0
  obtain ⟨v2, vs2, d2, ds2, p2, q2, rfl, rfl, rfl, h2, r2⟩ := trodAll_cons r1
  obtain ⟨rfl, rfl, rfl⟩ := trodAll_nil r2
  obtain rfl : args = #[v0, v1, v2] := by cases args; simp_all
  obtain ⟨rfl, rfl⟩ := trodVars_none hV
  obtain ⟨x0, y0, A0, l0, c0, rfl, bx0, by0, hb0, hk0, hd0⟩ := open_image (hval 0 24 v0 rfl rfl) h0
  obtain ⟨x1, y1, A1, l1, c1, rfl, bx1, by1, hb1, hk1, hd1⟩ := open_image (hval 1 24 v1 rfl rfl) h1
  obtain ⟨x2, y2, rfl, bx2, by2⟩ := open_point (hval 2 26 v2 rfl rfl) h2
  have hl0 : l0.length * 2 ≤ 140737488351232 := by
    obtain ⟨_, _, _, rfl, hdd⟩ := hd0
    rcases hdd with ⟨_, rfl⟩ | ⟨e, s, rfl, hle⟩
    · simp
    · have hpz := sized_part hsz (j := 0) (t := 24) rfl rfl Try.underlying24
      have this : (e.length + s.length) * Try.prog.bytesOf 28 ≤ reachBytes := sized_slice hpz (j := 2) (t := 22) (e := 28) rfl rfl Try.underlying22
      rw [bytes_u16] at this
      unfold reachBytes at this
      omega
  have hl1 : l1.length * 2 ≤ 140737488351232 := by
    obtain ⟨_, _, _, rfl, hdd⟩ := hd1
    rcases hdd with ⟨_, rfl⟩ | ⟨e, s, rfl, hle⟩
    · simp
    · have hpz := sized_part hsz (j := 1) (t := 24) rfl rfl Try.underlying24
      have this : (e.length + s.length) * Try.prog.bytesOf 28 ≤ reachBytes := sized_slice hpz (j := 2) (t := 22) (e := 28) rfl rfl Try.underlying22
      rw [bytes_u16] at this
      unfold reachBytes at this
      omega
  have lt0 : ∀ x ∈ p0, x.block < W.heap.size := by obtain ⟨m, hm⟩ := h0; exact DataW.trod_lt m _ _ _ hm
  have lt1 : ∀ x ∈ p1, x.block < W.heap.size := by obtain ⟨m, hm⟩ := h1; exact DataW.trod_lt m _ _ _ hm
  have lt2 : ∀ x ∈ p2, x.block < W.heap.size := by obtain ⟨m, hm⟩ := h2; exact DataW.trod_lt m _ _ _ hm
  clear hA0 hval0
  refine (walk x0 y0 A0 c0 l0 x1 y1 A1 c1 l1 x2 y2 W bx0 by0 hb0 hk0 hl0 bx1 by1 hb1 hk1 hl1 bx2 by2).mono fun e W' ⟨he, bel⟩ => ?_
  subst he
  exact ⟨_, rfl, _, _, _, [], _, [], hW', trodAll_mk1 (shut_bool Try.underlying4 _), (trodAll_cons_mk (Below.trod prog_laid (by kernel_rfl) (of_decide_eq_true (by kernel_rfl)) h0 bel lt0) (trodAll_cons_mk (Below.trod prog_laid (by kernel_rfl) (of_decide_eq_true (by kernel_rfl)) h1 bel lt1) (trodAll_cons_mk (Below.trod prog_laid (by kernel_rfl) (of_decide_eq_true (by kernel_rfl)) h2 bel lt2) trodAll_mk0))), rfl, bel.frame _, fun h => by cases h⟩

theorem over : Rows.rasterLooksRow.holds Try.pinned (OpenSpec.ofChange Rows.rasterLooksSpec) :=
  OpenClaim.holds_of_wide 3 Try.f3 rfl rfl rfl rfl rfl rfl rfl ⟨rfl, rfl, rfl, rfl, rfl⟩ rfl rfl rfl rfl rfl (by kernel_rfl) Try.func3 (by kernel_rfl)
    (of_decide_eq_true (by kernel_rfl)) (by unfold Func.isWrapper; first | (rw [if_pos (by decide +kernel)]; kernel_rfl) | (rw [if_neg (by decide +kernel)]; exact ⟨rfl, rfl⟩))
    (fun os started H enc _ => lifted os started H enc)
end RasterLooks

theorem rasterLooks_holds : Rows.RasterLooksSaid := RasterLooks.over
#print axioms rasterLooks_holds
end Go.Proofs.Ytpioocnojpocmaa
