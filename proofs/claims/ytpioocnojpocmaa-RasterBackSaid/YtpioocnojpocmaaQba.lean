/- A part that is cut out and laid in again at its place changes nothing: for any image, good or not, and any part. -/
import Derived.Test.YtpioocnojpocmaaQq
import Derived.Test.YtpioocnojpocmaaQx
import Derived.Deep.CondSized
import Derived.Deep.DeepCutAuto
namespace Go.Proofs.Ytpioocnojpocmaa
open Go.ChangeShapes Go.WideShapes Go.ChangeAt Go.RowKit
namespace RasterBack

/-- An image that was answered: its box, its samples; all of it newer than w2. -/
structure QO (w2 : World) (g : Nat) (A : Option Addr) (c n : Nat) (W H : Int) (L : List Int) (wr : World) : Prop where
  hg : w2.heap.size ≤ g
  im : IB wr g (.int .i64 W) (.int .i64 H) (.slice A n c)
  ow : wr.ownsRow w2.heap.size 28 1 (.slice A n c) n (usV L)
  bel : Below w2.heap.size w2 wr
section
variable {w2 wr w' : World} {g c n : Nat} {A : Option Addr} {W H : Int} {L : List Int}
theorem QO.call (h : QO w2 g A c n W H L wr) (b : Below wr.heap.size wr w') : QO w2 g A c n W H L w' :=
  ⟨h.hg, h.im.call b, own_upd h.ow (Upd.of_fresh b) (fun _ _ => id), h.bel.trans (b.mono h.bel.size)⟩
theorem QO.made {a b d : Value} (hg : w2.heap.size ≤ g) (hb : IB wr g a b d) (ho : wr.ownsRow w2.heap.size 28 1 (.slice A n c) n (usV L)) (hbl : Below w2.heap.size w2 wr) :
    QO w2 g A c n W H L (((wr.setCell ⟨g, 0, none⟩ (.int .i64 W)).setCell ⟨g, 1, none⟩ (.int .i64 H)).setCell ⟨g, 2, none⟩ (.slice A n c)) := by
  obtain ⟨t1, t2, t3⟩ := IB.put hb (.int .i64 W) (.int .i64 H) (.slice A n c) w2.heap.size hg
  exact ⟨hg, t1, own_other ho hb.blk (by decide) t3, hbl.trans t2⟩
theorem QO.fresh (ho : wr.ownsRow w2.heap.size 28 1 (.slice A n c) n (usV L)) (hbl : Below w2.heap.size w2 wr) :
    QO w2 wr.heap.size A c n W H L (wr.alloc (.cells #[.int .i64 W, .int .i64 H, .slice A n c] 24)) :=
  ⟨hbl.size, IB.of (Blk.new wr _ _), own_upd ho ((Upd.refl No wr).alloc _) (fun _ _ => id), hbl.alloc hbl.size _⟩
end
theorem ib_store {w1 w9 : World} {ob : Nat} {a b d : Value} (h : IB w9 ob a b d) (hB : Below w1.heap.size w1 w9) (hob : w1.heap.size ≤ ob) (x y z : Value) : Below w1.heap.size w1 (((w9.setCell ⟨ob, 0, none⟩ x).setCell ⟨ob, 1, none⟩ y).setCell ⟨ob, 2, none⟩ z) :=
  hB.trans (IB.put h x y z w1.heap.size hob).2.1
/-- A rectangle's box. -/
structure RB (w : World) (g : Nat) (a b c d : Int) : Prop where
  blk : Blk w g 44 #[.int .i64 a, .int .i64 b, .int .i64 c, .int .i64 d]
  c0 : w.cell? ⟨g, 0, none⟩ = some (.int .i64 a)
  c1 : w.cell? ⟨g, 1, none⟩ = some (.int .i64 b)
  c2 : w.cell? ⟨g, 2, none⟩ = some (.int .i64 c)
  c3 : w.cell? ⟨g, 3, none⟩ = some (.int .i64 d)
theorem RB.of {w : World} {g : Nat} {a b c d : Int} (h : Blk w g 44 #[.int .i64 a, .int .i64 b, .int .i64 c, .int .i64 d]) : RB w g a b c d := ⟨h, by rw [h.cell]; rfl, by rw [h.cell]; rfl, by rw [h.cell]; rfl, by rw [h.cell]; rfl⟩
theorem RB.call {w w' : World} {g : Nat} {a b c d : Int} (h : RB w g a b c d) (hb : Below w.heap.size w w') : RB w' g a b c d := RB.of (h.blk.upd (Upd.of_fresh hb) id)

set_option maxHeartbeats 8000000 in
set_option maxRecDepth 100000 in
theorem walk (x y : Int) (A : Option Addr) (c : Nat) (l : List Int) (X Y P Q : Int) (w : World) (_ : -9223372036854775808 ≤ x ∧ x ≤ 9223372036854775807) (_ : -9223372036854775808 ≤ y ∧ y ≤ 9223372036854775807) (hbs : Us w w.heap.size A l) (_ : ∀ v ∈ l, 0 ≤ v ∧ v ≤ 65535) (hl : l.length * 2 ≤ 140737488351232)
    (hX : -9223372036854775808 ≤ X ∧ X ≤ 9223372036854775807) (hY : -9223372036854775808 ≤ Y ∧ Y ≤ 9223372036854775807) (hP : -9223372036854775808 ≤ P ∧ P ≤ 9223372036854775807) (hQ : -9223372036854775808 ≤ Q ∧ Q ≤ 9223372036854775807) :
    Calls Try.prog 6 #[.agg #[.int .i64 x, .int .i64 y, .slice A l.length c], .agg #[.int .i64 X, .int .i64 Y, .int .i64 P, .int .i64 Q]] w fun e w' => e = .returned (.bool true) ∧ Below w.heap.size w w' := by
  obtain ⟨n, hn⟩ : ∃ n, l.length = n := ⟨_, rfl⟩
  rw [hn] at hl ⊢
  obtain ⟨b0, bs, b1, b2⟩ := boxes2 w #[.int .i64 x, .int .i64 y, .slice A n c] #[.int .i64 X, .int .i64 Y, .int .i64 P, .int .i64 Q] 24 44
  obtain ⟨w1, hw1⟩ : ∃ w1, (w.alloc (.cells #[.int .i64 x, .int .i64 y, .slice A n c] 24)).alloc (.cells #[.int .i64 X, .int .i64 Y, .int .i64 P, .int .i64 Q] 44) = w1 := ⟨_, rfl⟩
  rw [hw1] at b0 bs b1 b2
  have HW1 := Lib.hid hw1
  have HB1 := Lib.hid b0
  have HM1 := Lib.hid (IB.of b1)
  have HR1 := Lib.hid (RB.of b2)
  have HV1 := Lib.hid (Vs.below hbs b0)
  have HN := Lib.hid hn
  have HXY := Lib.hid (And.intro hX hY)
  have HPQ := Lib.hid (And.intro hP hQ)
  clear hw1 b0 bs b1 b2 hbs hn hX hY hP hQ
  go_enter Try.func6, Try.ntmps6
  go_upto_region 1 with (fail)
  rw [HW1.out]
  clear HW1
  go_wp2_with fail
  refine (wakes_any w1).mono ?_
  rintro e w2 ⟨rfl, hb2⟩
  have HB2 := Lib.hid (HB1.out.trans (hb2.mono HB1.out.size))
  have HM2 := Lib.hid (HM1.out.call hb2)
  have HR2 := Lib.hid (HR1.out.call hb2)
  have HV2 := Lib.hid (Vs.below HV1.out (hb2.mono HB1.out.size))
  clear HB1 HM1 HR1 HV1 hb2
  have q0 := HM2.out.c0; have q1 := HM2.out.c1; have q2 := HM2.out.c2
  have r0 := HR2.out.c0; have r1 := HR2.out.c1; have r2 := HR2.out.c2; have r3 := HR2.out.c3
  have hs2 := HB2.out.size
  have hfull : Hid (∀ w', Below w2.heap.size w2 w' → (Below w2.heap.size w2 w' ∧ (w'.cell? ⟨w.heap.size, 0, none⟩ = some (.int .i64 x) ∧ w'.cell? ⟨w.heap.size, 1, none⟩ = some (.int .i64 y) ∧ w'.cell? ⟨w.heap.size, 2, none⟩ = some (.slice A n c)) ∧ w'.cell? ⟨w.heap.size + 1, 0, none⟩ = some (.int .i64 X) ∧ w'.cell? ⟨w.heap.size + 1, 1, none⟩ = some (.int .i64 Y) ∧ w'.cell? ⟨w.heap.size + 1, 2, none⟩ = some (.int .i64 P) ∧ w'.cell? ⟨w.heap.size + 1, 3, none⟩ = some (.int .i64 Q))) :=
    Lib.hid fun w' hb => ⟨hb, ⟨(HM2.out.call hb).c0, (HM2.out.call hb).c1, (HM2.out.call hb).c2⟩, (HR2.out.call hb).c0, (HR2.out.call hb).c1, (HR2.out.call hb).c2, (HR2.out.call hb).c3⟩
  have HOwn : Hid (∀ w', Below w2.heap.size w2 w' → Calls Try.prog 12 #[.agg #[.int .i64 x, .int .i64 y, .slice A n c]] w' fun e w'' => ∃ A1 c1, e = .returned (imgV x y A1 n c1) ∧ w''.ownsRow w'.heap.size 28 1 (.slice A1 n c1) n (usV l) ∧ Below w'.heap.size w' w'' ∧ Below w2.heap.size w2 w'') :=
    Lib.hid fun w' hb => (own_any x y A n c l HN.out w.heap.size w' (Vs.below HV2.out (hb.mono hs2)) (by have := hb.size; omega) (by omega)).mono (fun e w'' ⟨A1, c1, h1, h2, h3⟩ => ⟨A1, c1, h1, h2, h3, hb.trans (h3.mono hb.size)⟩)
  obtain ⟨res, hres⟩ : ∃ res, cropI x y l X Y P Q = res := ⟨_, rfl⟩
  obtain ⟨k, hk⟩ : ∃ k, res.l.length = k := ⟨_, rfl⟩
  have HCr : Hid (∀ w6 base A1 c1, w6.ownsRow base 28 1 (.slice A1 n c1) n (usV l) → ∀ w7, Upd No w6 w7 → Calls Try.prog 20 #[imgV x y A1 n c1, .agg #[.int .i64 X, .int .i64 Y, .int .i64 P, .int .i64 Q]] w7 fun e w8 => ∃ A' c', e = .returned (.tuple #[imgV res.W res.H A' k c', .int .i64 res.E]) ∧ w8.ownsRow w7.heap.size 28 1 (.slice A' k c') k (usV res.l) ∧ Below w7.heap.size w7 w8) :=
    Lib.hid fun w6 base A1 c1 ho w7 hu => by
      have h := own_upd ho hu (fun _ _ => id)
      have := crop_any x y A1 n c1 l HN.out (row_room h).1 (row_room h).2 w7.heap.size w7 (Vs.of_own h) (Nat.le_refl _) X Y P Q HPQ.out.1.2 HPQ.out.2.2
      rw [hres] at this
      refine this.mono ?_
      rintro e w8 ⟨A', c', rfl, h2, h3⟩
      rw [hk] at h2 ⊢
      exact ⟨A', c', rfl, h2, h3⟩
  go_upto_region 3 with (fail)
  go_cut [5, 6] from 13 to 19 (fun v u wx => ∃ ob A5 c5, v = .pointer (some ⟨ob, 0, none⟩) ∧ u = .int .i64 res.E ∧ Hid (QO w2 ob A5 c5 k res.W res.H res.l wx))
  case first =>
    go_region_held3 (fun w' => Below w2.heap.size w2 w' ∧ (w'.cell? ⟨w.heap.size, 0, none⟩ = some (.int .i64 x) ∧ w'.cell? ⟨w.heap.size, 1, none⟩ = some (.int .i64 y) ∧ w'.cell? ⟨w.heap.size, 2, none⟩ = some (.slice A n c)) ∧ w'.cell? ⟨w.heap.size + 1, 0, none⟩ = some (.int .i64 X) ∧ w'.cell? ⟨w.heap.size + 1, 1, none⟩ = some (.int .i64 Y) ∧ w'.cell? ⟨w.heap.size + 1, 2, none⟩ = some (.int .i64 P) ∧ w'.cell? ⟨w.heap.size + 1, 3, none⟩ = some (.int .i64 Q))
      (first | exact hfull.out _ (ib_store HK8.out hc8 hob8 _ _ _) | exact hfull.out _ hc8 | exact hfull.out _ hc6 | exact hfull.out _ (hc8.alloc hc8.size _) | exact hfull.out _ (hc6.alloc hc6.size _) | exact hfull.out _ (Below.refl _ _) | exact hfull.out _ (Below.drew (Below.refl _ _)) | exact hfull.out _ (Below.drew (And.left (by assumption))) | exact hfull.out _ (Below.alloc (And.left (by assumption)) (Below.size (And.left (by assumption))) _) | exact hfull.out _ (Below.alloc (by assumption) (Below.size (by assumption)) _) | exact hfull.out _ (by assumption))
      ((first
        | (go_at_call 12; refine (HOwn.out _ (And.left (by assumption))).mono ?_; rintro e w6 ⟨A1, c1, rfl, ho6, hb6, hc6⟩)
        | (go_at_call 20; refine (HCr.out _ _ _ _ ho6 _ (by first | exact Upd.refl No _ | exact (Upd.refl No _).alloc _)).mono ?_; rintro e w8 ⟨A8, c8, rfl, ho8, hb8⟩; have hc8 : Below w2.heap.size w2 w8 := (Below.trans (And.left (by assumption)) (hb8.mono (Below.size (And.left (by assumption))))); have ho9 : w8.ownsRow w2.heap.size 28 1 (.slice A8 k c8) k (usV res.l) := own_low ho8 (Below.size (And.left (by assumption))); (first | (have hk8 : IB w8 w2.heap.size (.int .i64 0) (.int .i64 0) (.slice none 0 0) := IB.of (((Blk.new w2.drew 24 #[.int .i64 0, .int .i64 0, .slice none 0 0]).upd (Upd.of_fresh hb6) id).upd (Upd.of_fresh hb8) id); have HK8 := Lib.hid hk8; obtain ⟨_, d0, d1, d2, f0, f1, f2⟩ := hk8; have hob8 : w2.heap.size ≤ w2.heap.size := Nat.le_refl _) | (have hk8 : IB w8 w6.heap.size (.int .i64 0) (.int .i64 0) (.slice none 0 0) := IB.of ((Blk.new w6 24 #[.int .i64 0, .int .i64 0, .slice none 0 0]).upd (Upd.of_fresh hb8) id); have HK8 := Lib.hid hk8; obtain ⟨_, d0, d1, d2, f0, f1, f2⟩ := hk8; have hob8 : w2.heap.size ≤ w6.heap.size := hc6.size) | skip))))
    all_goals
      go_wp2_with fail
      go_meet
      first
        | exact ⟨_, A8, c8, rfl, rfl, Lib.hid (QO.made hob8 HK8.out ho9 hc8)⟩
        | exact ⟨_, A8, c8, rfl, rfl, Lib.hid (QO.fresh ho9 hc8)⟩
  case rest =>
    obtain ⟨ob, A5, c5, rfl, rfl, HQ⟩ := hcut
    have HBc := HQ.out.bel
    have HM3 := Lib.hid (HM2.out.call HBc)
    have HR3 := Lib.hid (HR2.out.call HBc)
    have HV3 := Lib.hid (Vs.below HV2.out (HBc.mono hs2))
    have HB3 := Lib.hid (HB2.out.trans (HBc.mono hs2))
    clear hfull HOwn HCr HBc HM2 HR2 HV2 HB2 q0 q1 q2 r0 r1 r2 r3
    rcases crop_cases x y l X Y P Q with he | ⟨pl, hcr, hpa⟩
    · rw [hres] at he
      have m2 := HQ.out.im.c2
      have hk0 : k = 0 := by rcases he with he | he <;> (subst he; exact hk.symm)
      have hE : Hid (res.E = 6 ∨ res.E = 2) := Lib.hid (by rcases he with he | he <;> (subst he; simp [errI]))
      subst hk0
      clear hres hk he
      generalize res.E = E at *
      rcases hE.out with hE1 | hE1
      all_goals
        subst hE1
        go_wp2_with fail
        go_ret
        exact ⟨rfl, HB3.out⟩
    · have hre : res = ⟨P, Q, 0, pl⟩ := hres.symm.trans hcr
      subst hre
      dsimp only at hk HQ ⊢
      have HK := Lib.hid hk
      have HCI := Lib.hid hcr
      have HPI := Lib.hid hpa
      clear hres hcr hpa hk
      obtain ⟨w3, hw3⟩ : ∃ w3 : World, w3 = wc := ⟨_, rfl⟩
      rw [← hw3] at HQ HM3 HR3 HV3 HB3 ⊢
      clear hw3
      have hs3 := HB3.out.size
      have hfull : Hid (∀ w', Below w3.heap.size w3 w' → (Below w3.heap.size w3 w' ∧ (w'.cell? ⟨w.heap.size, 0, none⟩ = some (.int .i64 x) ∧ w'.cell? ⟨w.heap.size, 1, none⟩ = some (.int .i64 y) ∧ w'.cell? ⟨w.heap.size, 2, none⟩ = some (.slice A n c)) ∧ (w'.cell? ⟨ob, 0, none⟩ = some (.int .i64 P) ∧ w'.cell? ⟨ob, 1, none⟩ = some (.int .i64 Q) ∧ w'.cell? ⟨ob, 2, none⟩ = some (.slice A5 k c5)) ∧ w'.cell? ⟨w.heap.size + 1, 0, none⟩ = some (.int .i64 X) ∧ w'.cell? ⟨w.heap.size + 1, 1, none⟩ = some (.int .i64 Y))) :=
        Lib.hid fun w' hb => ⟨hb, ⟨(HM3.out.call hb).c0, (HM3.out.call hb).c1, (HM3.out.call hb).c2⟩, ⟨(HQ.out.im.call hb).c0, (HQ.out.im.call hb).c1, (HQ.out.im.call hb).c2⟩, (HR3.out.call hb).c0, (HR3.out.call hb).c1⟩
      have HOwn : Hid (∀ w', Below w3.heap.size w3 w' → Calls Try.prog 12 #[.agg #[.int .i64 x, .int .i64 y, .slice A n c]] w' fun e w'' => ∃ A1 c1, e = .returned (imgV x y A1 n c1) ∧ w''.ownsRow w'.heap.size 28 1 (.slice A1 n c1) n (usV l) ∧ Below w'.heap.size w' w'' ∧ Below w3.heap.size w3 w'') :=
        Lib.hid fun w' hb => (own_any x y A n c l HN.out w.heap.size w' (Vs.below HV3.out (hb.mono hs3)) (by have := hb.size; omega) (by omega)).mono (fun e w'' ⟨A1, c1, h1, h2, h3⟩ => ⟨A1, c1, h1, h2, h3, hb.trans (h3.mono hb.size)⟩)
      have HPs : Hid (∀ w6 base A1 c1, w6.ownsRow base 28 1 (.slice A1 n c1) n (usV l) → ∀ w7, Upd No w6 w7 → Below w3.heap.size w3 w7 → Calls Try.prog 22 #[imgV x y A1 n c1, .agg #[.int .i64 P, .int .i64 Q, .slice A5 k c5], .int .i64 X, .int .i64 Y] w7 fun e w8 => ∃ A' c', e = .returned (.tuple #[imgV x y A' n c', .int .i64 0]) ∧ w8.ownsRow w7.heap.size 28 1 (.slice A' n c') n (usV l) ∧ Below w7.heap.size w7 w8) :=
        Lib.hid fun w6 base A1 c1 ho w7 hu hb => by
          have h := own_upd ho hu (fun _ _ => id)
          have h5 := (HQ.out.call hb).ow
          have := paste_any x y A1 n c1 l HN.out P Q A5 k c5 pl HK.out (row_room h5).1 (row_room h5).2 w7.heap.size w7 (Vs.of_own h) (Vs.of_own h5) (Nat.le_refl _) X Y HXY.out.1 HXY.out.2
          rw [HPI.out] at this
          refine this.mono ?_
          rintro e w8 ⟨A', c', rfl, h2, h3⟩
          dsimp only at h2 ⊢
          rw [HN.out] at h2 ⊢
          exact ⟨A', c', rfl, h2, h3⟩
      have q0 := HM3.out.c0; have q1 := HM3.out.c1; have q2 := HM3.out.c2
      have r0 := HR3.out.c0; have r1 := HR3.out.c1
      have p0 := HQ.out.im.c0; have p1 := HQ.out.im.c1; have p2 := HQ.out.im.c2
      go_upto_region 6 with (fail)
      go_cut [7, 8] from 26 to 36 (fun v u wx => ∃ ox A6 c6, v = .pointer (some ⟨ox, 0, none⟩) ∧ u = .int .i64 0 ∧ Hid (QO w3 ox A6 c6 n x y l wx))
      case first =>
        go_region_held3 (fun w' => Below w3.heap.size w3 w' ∧ (w'.cell? ⟨w.heap.size, 0, none⟩ = some (.int .i64 x) ∧ w'.cell? ⟨w.heap.size, 1, none⟩ = some (.int .i64 y) ∧ w'.cell? ⟨w.heap.size, 2, none⟩ = some (.slice A n c)) ∧ (w'.cell? ⟨ob, 0, none⟩ = some (.int .i64 P) ∧ w'.cell? ⟨ob, 1, none⟩ = some (.int .i64 Q) ∧ w'.cell? ⟨ob, 2, none⟩ = some (.slice A5 k c5)) ∧ w'.cell? ⟨w.heap.size + 1, 0, none⟩ = some (.int .i64 X) ∧ w'.cell? ⟨w.heap.size + 1, 1, none⟩ = some (.int .i64 Y))
          (first | exact hfull.out _ (ib_store HK8.out hc8 hob8 _ _ _) | exact hfull.out _ hc8 | exact hfull.out _ hc6 | exact hfull.out _ (hc8.alloc hc8.size _) | exact hfull.out _ (hc6.alloc hc6.size _) | exact hfull.out _ (Below.refl _ _) | exact hfull.out _ (Below.drew (Below.refl _ _)) | exact hfull.out _ (Below.drew (And.left (by assumption))) | exact hfull.out _ (Below.alloc (And.left (by assumption)) (Below.size (And.left (by assumption))) _) | exact hfull.out _ (Below.alloc (by assumption) (Below.size (by assumption)) _) | exact hfull.out _ (by assumption))
          ((first
            | (go_at_call 12; refine (HOwn.out _ (And.left (by assumption))).mono ?_; rintro e w6 ⟨A1, c1, rfl, ho6, hb6, hc6⟩)
            | (go_at_call 22; refine (HPs.out _ _ _ _ ho6 _ (by first | exact Upd.refl No _ | exact (Upd.refl No _).alloc _) (And.left (by assumption))).mono ?_; rintro e w8 ⟨A8, c8, rfl, ho8, hb8⟩; have hc8 : Below w3.heap.size w3 w8 := (Below.trans (And.left (by assumption)) (hb8.mono (Below.size (And.left (by assumption))))); have ho9 : w8.ownsRow w3.heap.size 28 1 (.slice A8 n c8) n (usV l) := own_low ho8 (Below.size (And.left (by assumption))); (first | (have hk8 : IB w8 w3.heap.size (.int .i64 0) (.int .i64 0) (.slice none 0 0) := IB.of (((Blk.new w3.drew 24 #[.int .i64 0, .int .i64 0, .slice none 0 0]).upd (Upd.of_fresh hb6) id).upd (Upd.of_fresh hb8) id); have HK8 := Lib.hid hk8; obtain ⟨_, d0, d1, d2, f0, f1, f2⟩ := hk8; have hob8 : w3.heap.size ≤ w3.heap.size := Nat.le_refl _) | (have hk8 : IB w8 w6.heap.size (.int .i64 0) (.int .i64 0) (.slice none 0 0) := IB.of ((Blk.new w6 24 #[.int .i64 0, .int .i64 0, .slice none 0 0]).upd (Upd.of_fresh hb8) id); have HK8 := Lib.hid hk8; obtain ⟨_, d0, d1, d2, f0, f1, f2⟩ := hk8; have hob8 : w3.heap.size ≤ w6.heap.size := hc6.size) | skip))))
        all_goals
          go_wp2_with fail
          go_meet
          first
            | exact ⟨_, A8, c8, rfl, rfl, Lib.hid (QO.made hob8 HK8.out ho9 hc8)⟩
            | exact ⟨_, A8, c8, rfl, rfl, Lib.hid (QO.fresh ho9 hc8)⟩
      case rest =>
        obtain ⟨ox, A6, c6, rfl, rfl, HX⟩ := hcut
        have HBc := HX.out.bel
        have HM4 := Lib.hid (HM3.out.call HBc)
        have HR4 := Lib.hid (HR3.out.call HBc)
        have HV4 := Lib.hid (Vs.below HV3.out (HBc.mono hs3))
        have HB4 := Lib.hid (HB3.out.trans (HBc.mono hs3))
        have HQ4 := Lib.hid (HQ.out.call HBc)
        clear hfull HOwn HPs HBc HM3 HR3 HV3 HB3 HQ q0 q1 q2 r0 r1 p0 p1 p2 HPI
        have x0 := HX.out.im.c0; have x1 := HX.out.im.c1; have x2 := HX.out.im.c2
        have r0 := HR4.out.c0; have r1 := HR4.out.c1; have r2 := HR4.out.c2; have r3 := HR4.out.c3
        have HCr := Lib.hid (crop_any x y A6 n c6 l HN.out (row_room HX.out.ow).1 (row_room HX.out.ow).2 wc.heap.size wc (Vs.of_own HX.out.ow) (Nat.le_refl _) X Y P Q HPQ.out.1.2 HPQ.out.2.2)
        rw [HCI.out] at HCr
        go_wp2_with fail
        refine HCr.out.mono ?_
        rintro e w5 ⟨A7, c7, rfl, ho7, hb7⟩
        dsimp only at ho7 ⊢
        rw [HK.out] at ho7 ⊢
        obtain ⟨w8, hw8, hi8, hb8⟩ := newImg P Q A7 k c7 w5
        have hb58 := hb7.trans (hb8.mono hb7.size)
        have HW8 := Lib.hid hw8
        have HY8 := Lib.hid hi8
        have HO8 := Lib.hid (own_upd ho7 (Upd.of_fresh hb8) (fun _ _ => id))
        have HX8 := Lib.hid (HX.out.call hb58)
        have HM8 := Lib.hid (HM4.out.call hb58)
        have HV8 := Lib.hid (Vs.below HV4.out (hb58.mono HB4.out.size))
        have HQ8 := Lib.hid (HQ4.out.call hb58)
        have HB8 := Lib.hid (HB4.out.trans (hb58.mono HB4.out.size))
        clear hw8 hi8 ho7 hb7 hb8 hb58 HX HM4 HV4 HQ4 HB4 HR4 HCr x0 x1 x2 r0 r1 r2 r3
        go_upto_region 8 with (fail)
        rw [HW8.out]
        clear HW8
        have q0 := HM8.out.c0; have q1 := HM8.out.c1; have q2 := HM8.out.c2
        have x0 := HX8.out.im.c0; have x1 := HX8.out.im.c1; have x2 := HX8.out.im.c2
        have y0 := HY8.out.c0; have y1 := HY8.out.c1; have y2 := HY8.out.c2
        have p0 := HQ8.out.im.c0; have p1 := HQ8.out.im.c1; have p2 := HQ8.out.im.c2
        have hs8 := HB8.out.size
        go_wp2_with fail
        refine (refSame_any x y A6 n c6 l x y A n c l HN.out HN.out w8.heap.size w8 (Vs.of_own HX8.out.ow) (fun hp => by obtain ⟨ad, h1, h2, h3⟩ := HV8.out hp; exact ⟨ad, h1, Nat.lt_of_lt_of_le h2 hs8, h3⟩) (Nat.le_refl _) (Nat.le_trans (row_room HX8.out.ow).1 (row_room HX8.out.ow).2)).mono ?_
        rintro e w9 ⟨rfl, hb9⟩
        rw [sameB_self]
        have HY9 := Lib.hid (HY8.out.call hb9)
        have HO9 := Lib.hid (own_upd HO8.out (Upd.of_fresh hb9) (fun _ _ => id))
        have HQ9 := Lib.hid (HQ8.out.call hb9)
        have HB9 := Lib.hid (HB8.out.trans (hb9.mono hs8))
        clear HY8 HO8 HX8 HM8 HV8 HQ8 HB8 hb9 q0 q1 q2 x0 x1 x2 y0 y1 y2 p0 p1 p2
        have y0 := HY9.out.c0; have y1 := HY9.out.c1; have y2 := HY9.out.c2
        have p0 := HQ9.out.im.c0; have p1 := HQ9.out.im.c1; have p2 := HQ9.out.im.c2
        go_wp2_with fail
        refine (refSame_any P Q A7 k c7 pl P Q A5 k c5 pl HK.out HK.out w9.heap.size w9 (Vs.of_own HO9.out) (Vs.of_own HQ9.out.ow) (Nat.le_refl _) (Nat.le_trans (row_room HO9.out).1 (row_room HO9.out).2)).mono ?_
        rintro e w10 ⟨rfl, hb10⟩
        rw [sameB_self]
        have HB10 := Lib.hid (HB9.out.trans (hb10.mono HB9.out.size))
        clear HY9 HO9 HQ9 HB9 hb10 y0 y1 y2 p0 p1 p2
        go_wp2_with fail
        go_ret
        exact ⟨rfl, HB10.out⟩
set_option maxRecDepth 100000 in
theorem lifted (os : Os) (started : os.Started) (H : Type) (enc : TypeId × Value → H) :
    ReturnsInHanded {} Try.checked os 6 .any (Rows.rasterBackSpec.pre6 enc Try.prog Try.f6 Rows.rasterBackRow.domain false) (Rows.rasterBackSpec.post enc Try.prog Try.f6 false true false false) := by
  refine returnsInHanded_of_change_sized (C := Try.checked) prog_own started (by kernel_rfl) Try.func6
    (ChangeSpec.witness6 (enc := enc) (C := Try.checked) false ⟨#[], #[.agg #[.int .i64 0, .int .i64 0, .slice none 0 0], .agg #[.int .i64 0, .int .i64 0, .int .i64 0, .int .i64 0]], []⟩ 8 (by kernel_rfl) (by kernel_rfl) (by kernel_rfl) (by kernel_rfl)) ?_
  intro W base args ds gs before hval0 hW hcnd hsz _
  have hval : ∀ (j : Nat) t v, Try.f6.params[j]? = some t → args[j]? = some v → Value.okWide Try.prog W .any base t v := hval0
  have hW' := hW
  obtain ⟨p, q, hA0, hV, rfl, hfz, hnd⟩ := hW
  have hA : DataW.TrodAll enc Try.prog W 0 (fun _ => true) true Try.f6.params.toList args.toList ds p := hA0
  rw [Try.params6] at hA hval
  obtain ⟨v0, vs0, d0, ds0, p0, q0, hargs, rfl, rfl, h0, r0⟩ := trodAll_cons hA
  obtain ⟨v1, vs1, d1, ds1, p1, q1, rfl, rfl, rfl, h1, r1⟩ := trodAll_cons r0
  obtain ⟨rfl, rfl, rfl⟩ := trodAll_nil r1
  obtain rfl : args = #[v0, v1] := by cases args; simp_all
  obtain ⟨rfl, rfl⟩ := trodVars_none hV
  obtain ⟨x0, y0, A0, l0, c0, rfl, bx0, by0, hb0, hk0, hd0⟩ := open_image (hval 0 24 v0 rfl rfl) h0
  obtain ⟨x1, y1, z1, t1, rfl, bx1, by1, bz1, bt1⟩ := open_rect (hval 1 44 v1 rfl rfl) h1
  have hl0 : l0.length * 2 ≤ 140737488351232 := by
    obtain ⟨_, _, _, rfl, hdd⟩ := hd0
    rcases hdd with ⟨_, rfl⟩ | ⟨e, s, rfl, hle⟩
    · simp
    · have hpz := sized_part hsz (j := 0) (t := 24) rfl rfl Try.underlying24
      have this : (e.length + s.length) * Try.prog.bytesOf 28 ≤ reachBytes := sized_slice hpz (j := 2) (t := 22) (e := 28) rfl rfl Try.underlying22
      rw [bytes_u16] at this
      unfold reachBytes at this
      omega
  have lt0 : ∀ x ∈ p0, x.block < W.heap.size := by obtain ⟨m, hm⟩ := h0; exact DataW.trod_lt m _ _ _ hm
  have lt1 : ∀ x ∈ p1, x.block < W.heap.size := by obtain ⟨m, hm⟩ := h1; exact DataW.trod_lt m _ _ _ hm
  clear hA0 hval0
  refine (walk x0 y0 A0 c0 l0 x1 y1 z1 t1 W bx0 by0 hb0 hk0 hl0 bx1 by1 bz1 bt1).mono fun e W' ⟨he, bel⟩ => ?_
  subst he
  exact ⟨_, rfl, _, _, _, [], _, [], hW', trodAll_mk1 (shut_bool Try.underlying4 _), (trodAll_cons_mk (Below.trod prog_laid (by kernel_rfl) (of_decide_eq_true (by kernel_rfl)) h0 bel lt0) (trodAll_cons_mk (Below.trod prog_laid (by kernel_rfl) (of_decide_eq_true (by kernel_rfl)) h1 bel lt1) trodAll_mk0)), rfl, bel.frame _, fun h => by cases h⟩

theorem over : Rows.rasterBackRow.holds Try.pinned (OpenSpec.ofChange Rows.rasterBackSpec) :=
  OpenClaim.holds_of_wide 6 Try.f6 rfl rfl rfl rfl rfl rfl rfl ⟨rfl, rfl, rfl, rfl, rfl⟩ rfl rfl rfl rfl rfl (by kernel_rfl) Try.func6 (by kernel_rfl)
    (of_decide_eq_true (by kernel_rfl)) (by unfold Func.isWrapper; first | (rw [if_pos (by decide +kernel)]; kernel_rfl) | (rw [if_neg (by decide +kernel)]; exact ⟨rfl, rfl⟩))
    (fun os started H enc _ => lifted os started H enc)
end RasterBack

theorem rasterBack_holds : Rows.RasterBackSaid := RasterBack.over
#print axioms rasterBack_holds
end Go.Proofs.Ytpioocnojpocmaa
