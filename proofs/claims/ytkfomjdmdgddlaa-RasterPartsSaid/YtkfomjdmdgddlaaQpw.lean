/- Parts of any image are cut out, and images are laid over others at any place, as the document says: for any two images, good or not, and any part. -/
import Derived.Test.YtkfomjdmdgddlaaQq
import Derived.Test.YtkfomjdmdgddlaaQz
import Derived.Deep.CondSized
import Derived.Deep.DeepCutAuto
namespace Go.Proofs.Ytkfomjdmdgddlaa
open Go.ChangeShapes Go.WideShapes Go.ChangeAt Go.RowKit
namespace RasterParts

/-- An image that was answered: its box, its samples; all of it newer than w2. -/
structure QO (w2 : World) (g : Nat) (A : Option Addr) (c n : Nat) (W H : Int) (L : List Int) (wr : World) : Prop where
  hg : w2.heap.size ≤ g
  im : IB wr g (.int .i64 W) (.int .i64 H) (.slice A n c)
  ow : wr.ownsRow w2.heap.size 28 1 (.slice A n c) n (usV L)
  bel : Below w2.heap.size w2 wr
section
variable {w2 wr w' : World} {g c n : Nat} {A : Option Addr} {W H : Int} {L : List Int}
theorem QO.call (h : QO w2 g A c n W H L wr) (b : Below wr.heap.size wr w') : QO w2 g A c n W H L w' :=
  ⟨h.hg, h.im.call b, own_upd h.ow (Upd.of_fresh b) (fun _ _ => id), h.bel.trans (b.mono h.bel.size)⟩
theorem QO.made {a b d : Value} (hg : w2.heap.size ≤ g) (hb : IB wr g a b d) (ho : wr.ownsRow w2.heap.size 28 1 (.slice A n c) n (usV L)) (hbl : Below w2.heap.size w2 wr) :
    QO w2 g A c n W H L (((wr.setCell ⟨g, 0, none⟩ (.int .i64 W)).setCell ⟨g, 1, none⟩ (.int .i64 H)).setCell ⟨g, 2, none⟩ (.slice A n c)) := by
  obtain ⟨t1, t2, t3⟩ := IB.put hb (.int .i64 W) (.int .i64 H) (.slice A n c) w2.heap.size hg
  exact ⟨hg, t1, own_other ho hb.blk (by decide) t3, hbl.trans t2⟩
theorem QO.fresh (ho : wr.ownsRow w2.heap.size 28 1 (.slice A n c) n (usV L)) (hbl : Below w2.heap.size w2 wr) :
    QO w2 wr.heap.size A c n W H L (wr.alloc (.cells #[.int .i64 W, .int .i64 H, .slice A n c] 24)) :=
  ⟨hbl.size, IB.of (Blk.new wr _ _), own_upd ho ((Upd.refl No wr).alloc _) (fun _ _ => id), hbl.alloc hbl.size _⟩
end
theorem ib_store {w1 w9 : World} {ob : Nat} {a b d : Value} (h : IB w9 ob a b d) (hB : Below w1.heap.size w1 w9) (hob : w1.heap.size ≤ ob) (x y z : Value) : Below w1.heap.size w1 (((w9.setCell ⟨ob, 0, none⟩ x).setCell ⟨ob, 1, none⟩ y).setCell ⟨ob, 2, none⟩ z) :=
  hB.trans (IB.put h x y z w1.heap.size hob).2.1
/-- A rectangle's box. -/
structure RB (w : World) (g : Nat) (a b c d : Int) : Prop where
  blk : Blk w g 44 #[.int .i64 a, .int .i64 b, .int .i64 c, .int .i64 d]
  c0 : w.cell? ⟨g, 0, none⟩ = some (.int .i64 a)
  c1 : w.cell? ⟨g, 1, none⟩ = some (.int .i64 b)
  c2 : w.cell? ⟨g, 2, none⟩ = some (.int .i64 c)
  c3 : w.cell? ⟨g, 3, none⟩ = some (.int .i64 d)
theorem RB.of {w : World} {g : Nat} {a b c d : Int} (h : Blk w g 44 #[.int .i64 a, .int .i64 b, .int .i64 c, .int .i64 d]) : RB w g a b c d := ⟨h, by rw [h.cell]; rfl, by rw [h.cell]; rfl, by rw [h.cell]; rfl, by rw [h.cell]; rfl⟩
theorem RB.call {w w' : World} {g : Nat} {a b c d : Int} (h : RB w g a b c d) (hb : Below w.heap.size w w') : RB w' g a b c d := RB.of (h.blk.upd (Upd.of_fresh hb) id)

set_option maxHeartbeats 8000000 in
set_option maxRecDepth 100000 in
theorem walk (x y : Int) (A : Option Addr) (c : Nat) (l : List Int) (x' y' : Int) (A' : Option Addr) (c' : Nat) (l' : List Int) (X Y P Q : Int) (w : World) (_ : -9223372036854775808 ≤ x ∧ x ≤ 9223372036854775807) (_ : -9223372036854775808 ≤ y ∧ y ≤ 9223372036854775807) (hbs : Us w w.heap.size A l) (_ : ∀ v ∈ l, 0 ≤ v ∧ v ≤ 65535) (hl : l.length * 2 ≤ 140737488351232)
    (_ : -9223372036854775808 ≤ x' ∧ x' ≤ 9223372036854775807) (_ : -9223372036854775808 ≤ y' ∧ y' ≤ 9223372036854775807) (hbs' : Us w w.heap.size A' l') (_ : ∀ v ∈ l', 0 ≤ v ∧ v ≤ 65535) (hl' : l'.length * 2 ≤ 140737488351232)
    (hX : -9223372036854775808 ≤ X ∧ X ≤ 9223372036854775807) (hY : -9223372036854775808 ≤ Y ∧ Y ≤ 9223372036854775807) (hP : -9223372036854775808 ≤ P ∧ P ≤ 9223372036854775807) (hQ : -9223372036854775808 ≤ Q ∧ Q ≤ 9223372036854775807) :
    Calls Try.prog 5 #[.agg #[.int .i64 x, .int .i64 y, .slice A l.length c], .agg #[.int .i64 x', .int .i64 y', .slice A' l'.length c'], .agg #[.int .i64 X, .int .i64 Y, .int .i64 P, .int .i64 Q]] w fun e w' => e = .returned (.bool true) ∧ Below w.heap.size w w' := by
  obtain ⟨n, hn⟩ : ∃ n, l.length = n := ⟨_, rfl⟩
  obtain ⟨n', hn'⟩ : ∃ n', l'.length = n' := ⟨_, rfl⟩
  rw [hn] at hl ⊢
  rw [hn'] at hl' ⊢
  obtain ⟨b0, bs, b1, b2, b3⟩ := boxes3 w #[.int .i64 x, .int .i64 y, .slice A n c] #[.int .i64 x', .int .i64 y', .slice A' n' c'] #[.int .i64 X, .int .i64 Y, .int .i64 P, .int .i64 Q] 24 24 44
  obtain ⟨w1, hw1⟩ : ∃ w1, ((w.alloc (.cells #[.int .i64 x, .int .i64 y, .slice A n c] 24)).alloc (.cells #[.int .i64 x', .int .i64 y', .slice A' n' c'] 24)).alloc (.cells #[.int .i64 X, .int .i64 Y, .int .i64 P, .int .i64 Q] 44) = w1 := ⟨_, rfl⟩
  rw [hw1] at b0 bs b1 b2 b3
  have HW1 := Lib.hid hw1
  have HB1 := Lib.hid b0
  have HM1 := Lib.hid (IB.of b1)
  have HK1 := Lib.hid (IB.of b2)
  have HR1 := Lib.hid (RB.of b3)
  have HV1 := Lib.hid (Vs.below hbs b0)
  have HU1 := Lib.hid (Vs.below hbs' b0)
  have HN := Lib.hid hn
  have HN' := Lib.hid hn'
  have HXY := Lib.hid (And.intro hX hY)
  have HPQ := Lib.hid (And.intro hP hQ)
  clear hw1 b0 bs b1 b2 b3 hbs hbs' hn hn' hX hY hP hQ
  go_enter Try.func5, Try.ntmps5
  go_upto_region 1 with (fail)
  rw [HW1.out]
  clear HW1
  go_wp2_with fail
  refine (wakes_any w1).mono ?_
  rintro e w2 ⟨rfl, hb2⟩
  have HB2 := Lib.hid (HB1.out.trans (hb2.mono HB1.out.size))
  have HM2 := Lib.hid (HM1.out.call hb2)
  have HK2 := Lib.hid (HK1.out.call hb2)
  have HR2 := Lib.hid (HR1.out.call hb2)
  have HV2 := Lib.hid (Vs.below HV1.out (hb2.mono HB1.out.size))
  have HU2 := Lib.hid (Vs.below HU1.out (hb2.mono HB1.out.size))
  clear HB1 HM1 HK1 HR1 HV1 HU1 hb2
  have q0 := HM2.out.c0; have q1 := HM2.out.c1; have q2 := HM2.out.c2
  have r0 := HR2.out.c0; have r1 := HR2.out.c1; have r2 := HR2.out.c2; have r3 := HR2.out.c3
  have hs2 := HB2.out.size
  have hfull : Hid (∀ w', Below w2.heap.size w2 w' → Below w2.heap.size w2 w' ∧ (w'.cell? ⟨w.heap.size, 0, none⟩ = some (.int .i64 x) ∧ w'.cell? ⟨w.heap.size, 1, none⟩ = some (.int .i64 y) ∧ w'.cell? ⟨w.heap.size, 2, none⟩ = some (.slice A n c)) ∧ w'.cell? ⟨w.heap.size + 1 + 1, 0, none⟩ = some (.int .i64 X) ∧ w'.cell? ⟨w.heap.size + 1 + 1, 1, none⟩ = some (.int .i64 Y) ∧ w'.cell? ⟨w.heap.size + 1 + 1, 2, none⟩ = some (.int .i64 P) ∧ w'.cell? ⟨w.heap.size + 1 + 1, 3, none⟩ = some (.int .i64 Q)) :=
    Lib.hid fun w' hb => ⟨hb, ⟨(HM2.out.call hb).c0, (HM2.out.call hb).c1, (HM2.out.call hb).c2⟩, (HR2.out.call hb).c0, (HR2.out.call hb).c1, (HR2.out.call hb).c2, (HR2.out.call hb).c3⟩
  have HOwn : Hid (∀ w', Below w2.heap.size w2 w' → Calls Try.prog 12 #[.agg #[.int .i64 x, .int .i64 y, .slice A n c]] w' fun e w'' => ∃ A1 c1, e = .returned (imgV x y A1 n c1) ∧ w''.ownsRow w'.heap.size 28 1 (.slice A1 n c1) n (usV l) ∧ Below w'.heap.size w' w'' ∧ Below w2.heap.size w2 w'') :=
    Lib.hid fun w' hb => (own_any x y A n c l HN.out w.heap.size w' (Vs.below HV2.out (hb.mono hs2)) (by have := hb.size; omega) (by omega)).mono (fun e w'' ⟨A1, c1, h1, h2, h3⟩ => ⟨A1, c1, h1, h2, h3, hb.trans (h3.mono hb.size)⟩)
  obtain ⟨res, hres⟩ : ∃ res, cropI x y l X Y P Q = res := ⟨_, rfl⟩
  obtain ⟨k, hk⟩ : ∃ k, res.l.length = k := ⟨_, rfl⟩
  have HCr : Hid (∀ w6 base A1 c1, w6.ownsRow base 28 1 (.slice A1 n c1) n (usV l) → ∀ w7, Upd No w6 w7 → Calls Try.prog 20 #[imgV x y A1 n c1, .agg #[.int .i64 X, .int .i64 Y, .int .i64 P, .int .i64 Q]] w7 fun e w8 => ∃ A' c', e = .returned (.tuple #[imgV res.W res.H A' k c', .int .i64 res.E]) ∧ w8.ownsRow w7.heap.size 28 1 (.slice A' k c') k (usV res.l) ∧ Below w7.heap.size w7 w8) :=
    Lib.hid fun w6 base A1 c1 ho w7 hu => by
      have h := own_upd ho hu (fun _ _ => id)
      have := crop_any x y A1 n c1 l HN.out (row_room h).1 (row_room h).2 w7.heap.size w7 (Vs.of_own h) (Nat.le_refl _) X Y P Q HPQ.out.1.2 HPQ.out.2.2
      rw [hres] at this
      refine this.mono ?_
      rintro e w8 ⟨A', c', rfl, h2, h3⟩
      rw [hk] at h2 ⊢
      exact ⟨A', c', rfl, h2, h3⟩
  go_upto_region 3 with (fail)
  go_cut [7, 8] from 17 to 23 (fun v u wx => ∃ ob A5 c5, v = .pointer (some ⟨ob, 0, none⟩) ∧ u = .int .i64 res.E ∧ Hid (QO w2 ob A5 c5 k res.W res.H res.l wx))
  case first =>
    go_region_held3 (fun w' => Below w2.heap.size w2 w' ∧ (w'.cell? ⟨w.heap.size, 0, none⟩ = some (.int .i64 x) ∧ w'.cell? ⟨w.heap.size, 1, none⟩ = some (.int .i64 y) ∧ w'.cell? ⟨w.heap.size, 2, none⟩ = some (.slice A n c)) ∧ w'.cell? ⟨w.heap.size + 1 + 1, 0, none⟩ = some (.int .i64 X) ∧ w'.cell? ⟨w.heap.size + 1 + 1, 1, none⟩ = some (.int .i64 Y) ∧ w'.cell? ⟨w.heap.size + 1 + 1, 2, none⟩ = some (.int .i64 P) ∧ w'.cell? ⟨w.heap.size + 1 + 1, 3, none⟩ = some (.int .i64 Q))
      (first | exact hfull.out _ (ib_store HK8.out hc8 hob8 _ _ _) | exact hfull.out _ hc8 | exact hfull.out _ hc6 | exact hfull.out _ (hc8.alloc hc8.size _) | exact hfull.out _ (hc6.alloc hc6.size _) | exact hfull.out _ (Below.refl _ _) | exact hfull.out _ (Below.drew (Below.refl _ _)) | exact hfull.out _ (Below.drew (And.left (by assumption))) | exact hfull.out _ (Below.alloc (And.left (by assumption)) (Below.size (And.left (by assumption))) _) | exact hfull.out _ (Below.alloc (by assumption) (Below.size (by assumption)) _) | exact hfull.out _ (by assumption))
      ((first
        | (go_at_call 12; refine (HOwn.out _ (And.left (by assumption))).mono ?_; rintro e w6 ⟨A1, c1, rfl, ho6, hb6, hc6⟩)
        | (go_at_call 20; refine (HCr.out _ _ _ _ ho6 _ (by first | exact Upd.refl No _ | exact (Upd.refl No _).alloc _)).mono ?_; rintro e w8 ⟨A8, c8, rfl, ho8, hb8⟩; have hc8 : Below w2.heap.size w2 w8 := (Below.trans (And.left (by assumption)) (hb8.mono (Below.size (And.left (by assumption))))); have ho9 : w8.ownsRow w2.heap.size 28 1 (.slice A8 k c8) k (usV res.l) := own_low ho8 (Below.size (And.left (by assumption))); (first | (have hk8 : IB w8 w2.heap.size (.int .i64 0) (.int .i64 0) (.slice none 0 0) := IB.of (((Blk.new w2.drew 24 #[.int .i64 0, .int .i64 0, .slice none 0 0]).upd (Upd.of_fresh hb6) id).upd (Upd.of_fresh hb8) id); have HK8 := Lib.hid hk8; obtain ⟨_, d0, d1, d2, f0, f1, f2⟩ := hk8; have hob8 : w2.heap.size ≤ w2.heap.size := Nat.le_refl _) | (have hk8 : IB w8 w6.heap.size (.int .i64 0) (.int .i64 0) (.slice none 0 0) := IB.of ((Blk.new w6 24 #[.int .i64 0, .int .i64 0, .slice none 0 0]).upd (Upd.of_fresh hb8) id); have HK8 := Lib.hid hk8; obtain ⟨_, d0, d1, d2, f0, f1, f2⟩ := hk8; have hob8 : w2.heap.size ≤ w6.heap.size := hc6.size) | skip))))
    all_goals
      go_wp2_with fail
      go_meet
      first
        | exact ⟨_, A8, c8, rfl, rfl, Lib.hid (QO.made hob8 HK8.out ho9 hc8)⟩
        | exact ⟨_, A8, c8, rfl, rfl, Lib.hid (QO.fresh ho9 hc8)⟩
  case rest =>
    obtain ⟨oa, A5, c5, rfl, rfl, HQ⟩ := hcut
    have HBc := HQ.out.bel
    have HM3 := Lib.hid (HM2.out.call HBc)
    have HK3 := Lib.hid (HK2.out.call HBc)
    have HR3 := Lib.hid (HR2.out.call HBc)
    have HV3 := Lib.hid (Vs.below HV2.out (HBc.mono hs2))
    have HU3 := Lib.hid (Vs.below HU2.out (HBc.mono hs2))
    have HB3 := Lib.hid (HB2.out.trans (HBc.mono hs2))
    have HK := Lib.hid hk
    clear hfull HOwn HCr HBc HM2 HK2 HR2 HV2 HU2 HB2 q0 q1 q2 r0 r1 r2 r3 hk
    have q0 := HM3.out.c0; have q1 := HM3.out.c1; have q2 := HM3.out.c2
    have r0 := HR3.out.c0; have r1 := HR3.out.c1; have r2 := HR3.out.c2; have r3 := HR3.out.c3
    have HRC := Lib.hid (refCrop_any x y A n c l HN.out w.heap.size wc HV3.out HB3.out.size X Y P Q)
    rw [hres] at HRC
    clear hres
    go_wp2_with fail
    refine HRC.out.mono ?_
    rintro e w4 ⟨A6, c6, rfl, ho6, hb6⟩
    rw [HK.out] at ho6 ⊢
    have HQ6 := Lib.hid (QO.fresh (W := res.W) (H := res.H) ho6 hb6)
    have HZ4 := Lib.hid (hb6.alloc hb6.size (.cells #[.int .i64 res.W, .int .i64 res.H, .slice A6 k c6] 24))
    obtain ⟨ob, hob⟩ : ∃ ob, w4.heap.size = ob := ⟨_, rfl⟩
    have HOB := Lib.hid hob
    clear hob
    clear ho6 hb6 q0 q1 q2 r0 r1 r2 r3 HRC
    go_upto_region 5 with (fail)
    rw [HOB.out] at HQ6 ⊢
    obtain ⟨w3, hw3⟩ : ∃ w3, (w4.alloc (.cells #[.int .i64 res.W, .int .i64 res.H, .slice A6 k c6] 24)) = w3 := ⟨_, rfl⟩
    rw [hw3] at HQ6 HZ4 ⊢
    have HM4 := Lib.hid (HM3.out.call HZ4.out)
    have HK4 := Lib.hid (HK3.out.call HZ4.out)
    have HR4 := Lib.hid (HR3.out.call HZ4.out)
    have HV4 := Lib.hid (Vs.below HV3.out (HZ4.out.mono HB3.out.size))
    have HU4 := Lib.hid (Vs.below HU3.out (HZ4.out.mono HB3.out.size))
    have HB4 := Lib.hid (HB3.out.trans (HZ4.out.mono HB3.out.size))
    have HQ4 := Lib.hid (HQ.out.call HZ4.out)
    clear hw3 HOB HZ4 HM3 HK3 HR3 HV3 HU3 HB3 HQ
    have hs3 := HB4.out.size
    have hfull : Hid (∀ w', Below w3.heap.size w3 w' → Below w3.heap.size w3 w' ∧ (w'.cell? ⟨w.heap.size, 0, none⟩ = some (.int .i64 x) ∧ w'.cell? ⟨w.heap.size, 1, none⟩ = some (.int .i64 y) ∧ w'.cell? ⟨w.heap.size, 2, none⟩ = some (.slice A n c)) ∧ (w'.cell? ⟨w.heap.size + 1, 0, none⟩ = some (.int .i64 x') ∧ w'.cell? ⟨w.heap.size + 1, 1, none⟩ = some (.int .i64 y') ∧ w'.cell? ⟨w.heap.size + 1, 2, none⟩ = some (.slice A' n' c')) ∧ w'.cell? ⟨w.heap.size + 1 + 1, 0, none⟩ = some (.int .i64 X) ∧ w'.cell? ⟨w.heap.size + 1 + 1, 1, none⟩ = some (.int .i64 Y)) :=
      Lib.hid fun w' hb => ⟨hb, ⟨(HM4.out.call hb).c0, (HM4.out.call hb).c1, (HM4.out.call hb).c2⟩, ⟨(HK4.out.call hb).c0, (HK4.out.call hb).c1, (HK4.out.call hb).c2⟩, (HR4.out.call hb).c0, (HR4.out.call hb).c1⟩
    have HOwn : Hid (∀ w', Below w3.heap.size w3 w' → Calls Try.prog 12 #[.agg #[.int .i64 x, .int .i64 y, .slice A n c]] w' fun e w'' => ∃ A1 c1, e = .returned (imgV x y A1 n c1) ∧ w''.ownsRow w'.heap.size 28 1 (.slice A1 n c1) n (usV l) ∧ Below w'.heap.size w' w'' ∧ Below w3.heap.size w3 w'') :=
      Lib.hid fun w' hb => (own_any x y A n c l HN.out w.heap.size w' (Vs.below HV4.out (hb.mono hs3)) (by have := hb.size; omega) (by omega)).mono (fun e w'' ⟨A1, c1, h1, h2, h3⟩ => ⟨A1, c1, h1, h2, h3, hb.trans (h3.mono hb.size)⟩)
    have HOwn' : Hid (∀ w', Below w3.heap.size w3 w' → Calls Try.prog 12 #[.agg #[.int .i64 x', .int .i64 y', .slice A' n' c']] w' fun e w'' => ∃ A1 c1, e = .returned (imgV x' y' A1 n' c1) ∧ w''.ownsRow w'.heap.size 28 1 (.slice A1 n' c1) n' (usV l') ∧ Below w'.heap.size w' w'' ∧ Below w3.heap.size w3 w'') :=
      Lib.hid fun w' hb => (own_any x' y' A' n' c' l' HN'.out w.heap.size w' (Vs.below HU4.out (hb.mono hs3)) (by have := hb.size; omega) (by omega)).mono (fun e w'' ⟨A1, c1, h1, h2, h3⟩ => ⟨A1, c1, h1, h2, h3, hb.trans (h3.mono hb.size)⟩)
    obtain ⟨rep, hrep⟩ : ∃ rep, pasI x y l x' y' l' X Y = rep := ⟨_, rfl⟩
    obtain ⟨k2, hk2⟩ : ∃ k2, rep.l.length = k2 := ⟨_, rfl⟩
    have HPs : Hid (∀ w6 base A1 c1, w6.ownsRow base 28 1 (.slice A1 n c1) n (usV l) → ∀ w7 base' A2 c2, w7.ownsRow base' 28 1 (.slice A2 n' c2) n' (usV l') → Upd No w6 w7 → ∀ w8, Upd No w7 w8 → Calls Try.prog 22 #[imgV x y A1 n c1, imgV x' y' A2 n' c2, .int .i64 X, .int .i64 Y] w8 fun e w9 => ∃ A' c', e = .returned (.tuple #[imgV rep.W rep.H A' k2 c', .int .i64 rep.E]) ∧ w9.ownsRow w8.heap.size 28 1 (.slice A' k2 c') k2 (usV rep.l) ∧ Below w8.heap.size w8 w9) :=
      Lib.hid fun w6 base A1 c1 ho w7 base' A2 c2 ho' hu w8 hu' => by
        have h := own_upd ho (hu.trans hu') (fun _ _ => id)
        have h' := own_upd ho' hu' (fun _ _ => id)
        have := paste_any x y A1 n c1 l HN.out x' y' A2 n' c2 l' HN'.out (row_room h').1 (row_room h').2 w8.heap.size w8 (Vs.of_own h) (Vs.of_own h') (Nat.le_refl _) X Y HXY.out.1 HXY.out.2
        rw [hrep] at this
        refine this.mono ?_
        rintro e w9 ⟨A', c', rfl, h2, h3⟩
        rw [hk2] at h2 ⊢
        exact ⟨A', c', rfl, h2, h3⟩
    have q0 := HM4.out.c0; have q1 := HM4.out.c1; have q2 := HM4.out.c2
    have p0 := HK4.out.c0; have p1 := HK4.out.c1; have p2 := HK4.out.c2
    have r0 := HR4.out.c0; have r1 := HR4.out.c1
    go_cut [11, 12] from 30 to 41 (fun v u wx => ∃ ox A5 c5, v = .pointer (some ⟨ox, 0, none⟩) ∧ u = .int .i64 rep.E ∧ Hid (QO w3 ox A5 c5 k2 rep.W rep.H rep.l wx))
    case first =>
      go_region_held3 (fun w' => Below w3.heap.size w3 w' ∧ (w'.cell? ⟨w.heap.size, 0, none⟩ = some (.int .i64 x) ∧ w'.cell? ⟨w.heap.size, 1, none⟩ = some (.int .i64 y) ∧ w'.cell? ⟨w.heap.size, 2, none⟩ = some (.slice A n c)) ∧ (w'.cell? ⟨w.heap.size + 1, 0, none⟩ = some (.int .i64 x') ∧ w'.cell? ⟨w.heap.size + 1, 1, none⟩ = some (.int .i64 y') ∧ w'.cell? ⟨w.heap.size + 1, 2, none⟩ = some (.slice A' n' c')) ∧ w'.cell? ⟨w.heap.size + 1 + 1, 0, none⟩ = some (.int .i64 X) ∧ w'.cell? ⟨w.heap.size + 1 + 1, 1, none⟩ = some (.int .i64 Y))
        (first | exact hfull.out _ (ib_store HK9.out hc9 hob9 _ _ _) | exact hfull.out _ hc9 | exact hfull.out _ hc7 | exact hfull.out _ hc6 | exact hfull.out _ (hc9.alloc hc9.size _) | exact hfull.out _ (hc7.alloc hc7.size _) | exact hfull.out _ (hc6.alloc hc6.size _) | exact hfull.out _ (Below.refl _ _) | exact hfull.out _ (Below.drew (Below.refl _ _)) | exact hfull.out _ (Below.drew (And.left (by assumption))) | exact hfull.out _ (Below.alloc (And.left (by assumption)) (Below.size (And.left (by assumption))) _) | exact hfull.out _ (Below.alloc (by assumption) (Below.size (by assumption)) _) | exact hfull.out _ (by assumption))
        ((first
          | (go_at_call 12; (first | (with_reducible refine (HOwn.out _ (And.left (by assumption))).mono ?_; rintro e w6 ⟨A1, c1, rfl, ho6, hb6, hc6⟩) | (with_reducible refine (HOwn'.out _ (And.left (by assumption))).mono ?_; rintro e w7 ⟨A2, c2, rfl, ho7, hb7, hc7⟩; have hu7 : Upd No w6 w7 := (by first | exact Upd.of_fresh hb7 | exact ((Upd.refl No w6).alloc _).trans (Upd.of_fresh hb7)))))
          | (go_at_call 22; refine (HPs.out _ _ _ _ ho6 _ _ _ _ ho7 hu7 _ (by first | exact Upd.refl No _ | exact (Upd.refl No _).alloc _)).mono ?_; rintro e w9 ⟨A9, c9, rfl, ho9, hb9⟩; have hc9 : Below w3.heap.size w3 w9 := (Below.trans (And.left (by assumption)) (hb9.mono (Below.size (And.left (by assumption))))); have ho10 : w9.ownsRow w3.heap.size 28 1 (.slice A9 k2 c9) k2 (usV rep.l) := own_low ho9 (Below.size (And.left (by assumption))); (first | (have hk9 : IB w9 w3.heap.size (.int .i64 0) (.int .i64 0) (.slice none 0 0) := IB.of ((((Blk.new w3.drew 24 #[.int .i64 0, .int .i64 0, .slice none 0 0]).upd (Upd.of_fresh hb6) id).upd (Upd.of_fresh hb7) id).upd (Upd.of_fresh hb9) id); have HK9 := Lib.hid hk9; obtain ⟨_, d0, d1, d2, f0, f1, f2⟩ := hk9; have hob9 : w3.heap.size ≤ w3.heap.size := Nat.le_refl _) | (have hk9 : IB w9 w6.heap.size (.int .i64 0) (.int .i64 0) (.slice none 0 0) := IB.of (((Blk.new w6 24 #[.int .i64 0, .int .i64 0, .slice none 0 0]).upd (Upd.of_fresh hb7) id).upd (Upd.of_fresh hb9) id); have HK9 := Lib.hid hk9; obtain ⟨_, d0, d1, d2, f0, f1, f2⟩ := hk9; have hob9 : w3.heap.size ≤ w6.heap.size := hc6.size) | (have hk9 : IB w9 w7.heap.size (.int .i64 0) (.int .i64 0) (.slice none 0 0) := IB.of ((Blk.new w7 24 #[.int .i64 0, .int .i64 0, .slice none 0 0]).upd (Upd.of_fresh hb9) id); have HK9 := Lib.hid hk9; obtain ⟨_, d0, d1, d2, f0, f1, f2⟩ := hk9; have hob9 : w3.heap.size ≤ w7.heap.size := hc7.size) | skip))))
      all_goals
        go_wp2_with fail
        go_meet
        first
          | exact ⟨_, A9, c9, rfl, rfl, Lib.hid (QO.made hob9 HK9.out ho10 hc9)⟩
          | exact ⟨_, A9, c9, rfl, rfl, Lib.hid (QO.fresh ho10 hc9)⟩
    case rest =>
      obtain ⟨ox, A9, c9, rfl, rfl, HX⟩ := hcut
      have HBc := HX.out.bel
      have HM5 := Lib.hid (HM4.out.call HBc)
      have HK5 := Lib.hid (HK4.out.call HBc)
      have HR5 := Lib.hid (HR4.out.call HBc)
      have HV5 := Lib.hid (Vs.below HV4.out (HBc.mono hs3))
      have HU5 := Lib.hid (Vs.below HU4.out (HBc.mono hs3))
      have HB5 := Lib.hid (HB4.out.trans (HBc.mono hs3))
      have HQ5 := Lib.hid (HQ4.out.call HBc)
      have HQ7 := Lib.hid (HQ6.out.call HBc)
      have HK2' := Lib.hid hk2
      clear hfull HOwn HOwn' HPs HBc HM4 HK4 HR4 HV4 HU4 HB4 HQ4 HQ6 q0 q1 q2 r0 r1 p0 p1 p2 hk2
      have q0 := HM5.out.c0; have q1 := HM5.out.c1; have q2 := HM5.out.c2
      have p0 := HK5.out.c0; have p1 := HK5.out.c1; have p2 := HK5.out.c2
      have r0 := HR5.out.c0; have r1 := HR5.out.c1
      have HRP := Lib.hid (refPaste_any x y A n c l HN.out x' y' A' n' c' l' HN'.out w.heap.size wc HV5.out HU5.out HB5.out.size X Y HXY.out.1 HXY.out.2)
      rw [hrep] at HRP
      clear hrep
      go_wp2_with fail
      refine HRP.out.mono ?_
      rintro e w6 ⟨A7, c7, rfl, ho7, hb7⟩
      rw [HK2'.out] at ho7 ⊢
      have HY6 := Lib.hid (QO.fresh (W := rep.W) (H := rep.H) ho7 hb7)
      have HZ6 := Lib.hid (hb7.alloc hb7.size (.cells #[.int .i64 rep.W, .int .i64 rep.H, .slice A7 k2 c7] 24))
      obtain ⟨oy, hoy⟩ : ∃ oy, w6.heap.size = oy := ⟨_, rfl⟩
      have HOY := Lib.hid hoy
      clear hoy
      clear ho7 hb7 q0 q1 q2 p0 p1 p2 r0 r1 HRP
      go_upto_region 7 with (fail)
      rw [HOY.out] at HY6 ⊢
      obtain ⟨w8, hw8⟩ : ∃ w8, (w6.alloc (.cells #[.int .i64 rep.W, .int .i64 rep.H, .slice A7 k2 c7] 24)) = w8 := ⟨_, rfl⟩
      rw [hw8] at HY6 HZ6 ⊢
      have HB8 := Lib.hid (HB5.out.trans (HZ6.out.mono HB5.out.size))
      have HQ8 := Lib.hid (HQ5.out.call HZ6.out)
      have HP8 := Lib.hid (HQ7.out.call HZ6.out)
      have HX8 := Lib.hid (HX.out.call HZ6.out)
      clear hw8 HOY HZ6 HM5 HK5 HR5 HV5 HU5 HB5 HQ5 HQ7 HX
      have a0 := HQ8.out.im.c0; have a1 := HQ8.out.im.c1; have a2 := HQ8.out.im.c2
      have b0 := HP8.out.im.c0; have b1 := HP8.out.im.c1; have b2 := HP8.out.im.c2
      have HS1 := Lib.hid (refSame_any res.W res.H A5 k c5 res.l res.W res.H A6 k c6 res.l HK.out HK.out w8.heap.size w8 (Vs.of_own HQ8.out.ow) (Vs.of_own HP8.out.ow) (Nat.le_refl _) (Nat.le_trans (row_room HQ8.out.ow).1 (row_room HQ8.out.ow).2))
      go_wp2_with fail
      refine HS1.out.mono ?_
      rintro e w9 ⟨rfl, hb9⟩
      rw [sameB_self]
      have HB9 := Lib.hid (HB8.out.trans (hb9.mono HB8.out.size))
      have HX9 := Lib.hid (HX8.out.call hb9)
      have HY9 := Lib.hid (HY6.out.call hb9)
      clear a0 a1 a2 b0 b1 b2 HS1 HB8 HQ8 HP8 HX8 HY6 hb9
      have a0 := HX9.out.im.c0; have a1 := HX9.out.im.c1; have a2 := HX9.out.im.c2
      have b0 := HY9.out.im.c0; have b1 := HY9.out.im.c1; have b2 := HY9.out.im.c2
      have HS2 := Lib.hid (refSame_any rep.W rep.H A9 k2 c9 rep.l rep.W rep.H A7 k2 c7 rep.l HK2'.out HK2'.out w9.heap.size w9 (Vs.of_own HX9.out.ow) (Vs.of_own HY9.out.ow) (Nat.le_refl _) (Nat.le_trans (row_room HX9.out.ow).1 (row_room HX9.out.ow).2))
      generalize res.E = E1 at *
      generalize rep.E = E2 at *
      go_wp2_with fail
      refine HS2.out.mono ?_
      rintro e w10 ⟨rfl, hb10⟩
      rw [sameB_self]
      have HB10 := Lib.hid (HB9.out.trans (hb10.mono HB9.out.size))
      clear HX9 HY9 HB9 hb10 a0 a1 a2 b0 b1 b2 HS2
      go_wp2_with fail
      go_ret
      exact ⟨rfl, HB10.out⟩
set_option maxRecDepth 100000 in
theorem lifted (os : Os) (started : os.Started) (H : Type) (enc : TypeId × Value → H) :
    ReturnsInHanded {} Try.checked os 5 .any (Rows.rasterPartsSpec.pre6 enc Try.prog Try.f5 Rows.rasterPartsRow.domain false) (Rows.rasterPartsSpec.post enc Try.prog Try.f5 false true false false) := by
  refine returnsInHanded_of_change_sized (C := Try.checked) prog_own started (by kernel_rfl) Try.func5
    (ChangeSpec.witness6 (enc := enc) (C := Try.checked) false ⟨#[], #[.agg #[.int .i64 0, .int .i64 0, .slice none 0 0], .agg #[.int .i64 0, .int .i64 0, .slice none 0 0], .agg #[.int .i64 0, .int .i64 0, .int .i64 0, .int .i64 0]], []⟩ 8 (by kernel_rfl) (by kernel_rfl) (by kernel_rfl) (by kernel_rfl)) ?_
  intro W base args ds gs before hval0 hW hcnd hsz _
  have hval : ∀ (j : Nat) t v, Try.f5.params[j]? = some t → args[j]? = some v → Value.okWide Try.prog W .any base t v := hval0
  have hW' := hW
  obtain ⟨p, q, hA0, hV, rfl, hfz, hnd⟩ := hW
  have hA : DataW.TrodAll enc Try.prog W 0 (fun _ => true) true Try.f5.params.toList args.toList ds p := hA0
  rw [Try.params5] at hA hval
  obtain ⟨v0, vs0, d0, ds0, p0, q0, hargs, rfl, rfl, h0, r0⟩ := trodAll_cons hA
  obtain ⟨v1, vs1, d1, ds1, p1, q1, rfl, rfl, rfl, h1, r1⟩ := trodAll_cons r0
  obtain ⟨v2, vs2, d2, ds2, p2, q2, rfl, rfl, rfl, h2, r2⟩ := trodAll_cons r1
  obtain ⟨rfl, rfl, rfl⟩ := trodAll_nil r2
  obtain rfl : args = #[v0, v1, v2] := by cases args; simp_all
  obtain ⟨rfl, rfl⟩ := trodVars_none hV
  obtain ⟨x0, y0, A0, l0, c0, rfl, bx0, by0, hb0, hk0, hd0⟩ := open_image (hval 0 24 v0 rfl rfl) h0
  obtain ⟨x1, y1, A1, l1, c1, rfl, bx1, by1, hb1, hk1, hd1⟩ := open_image (hval 1 24 v1 rfl rfl) h1
  obtain ⟨x2, y2, z2, t2, rfl, bx2, by2, bz2, bt2⟩ := open_rect (hval 2 44 v2 rfl rfl) h2
  have hl0 : l0.length * 2 ≤ 140737488351232 := by
    obtain ⟨_, _, _, rfl, hdd⟩ := hd0
    rcases hdd with ⟨_, rfl⟩ | ⟨e, s, rfl, hle⟩
    · simp
    · have hpz := sized_part hsz (j := 0) (t := 24) rfl rfl Try.underlying24
      have this : (e.length + s.length) * Try.prog.bytesOf 28 ≤ reachBytes := sized_slice hpz (j := 2) (t := 22) (e := 28) rfl rfl Try.underlying22
      rw [bytes_u16] at this
      unfold reachBytes at this
      omega
  have hl1 : l1.length * 2 ≤ 140737488351232 := by
    obtain ⟨_, _, _, rfl, hdd⟩ := hd1
    rcases hdd with ⟨_, rfl⟩ | ⟨e, s, rfl, hle⟩
    · simp
    · have hpz := sized_part hsz (j := 1) (t := 24) rfl rfl Try.underlying24
      have this : (e.length + s.length) * Try.prog.bytesOf 28 ≤ reachBytes := sized_slice hpz (j := 2) (t := 22) (e := 28) rfl rfl Try.underlying22
      rw [bytes_u16] at this
      unfold reachBytes at this
      omega
  have lt0 : ∀ x ∈ p0, x.block < W.heap.size := by obtain ⟨m, hm⟩ := h0; exact DataW.trod_lt m _ _ _ hm
  have lt1 : ∀ x ∈ p1, x.block < W.heap.size := by obtain ⟨m, hm⟩ := h1; exact DataW.trod_lt m _ _ _ hm
  have lt2 : ∀ x ∈ p2, x.block < W.heap.size := by obtain ⟨m, hm⟩ := h2; exact DataW.trod_lt m _ _ _ hm
  clear hA0 hval0
  refine (walk x0 y0 A0 c0 l0 x1 y1 A1 c1 l1 x2 y2 z2 t2 W bx0 by0 hb0 hk0 hl0 bx1 by1 hb1 hk1 hl1 bx2 by2 bz2 bt2).mono fun e W' ⟨he, bel⟩ => ?_
  subst he
  exact ⟨_, rfl, _, _, _, [], _, [], hW', trodAll_mk1 (shut_bool Try.underlying4 _), (trodAll_cons_mk (Below.trod prog_laid (by kernel_rfl) (of_decide_eq_true (by kernel_rfl)) h0 bel lt0) (trodAll_cons_mk (Below.trod prog_laid (by kernel_rfl) (of_decide_eq_true (by kernel_rfl)) h1 bel lt1) (trodAll_cons_mk (Below.trod prog_laid (by kernel_rfl) (of_decide_eq_true (by kernel_rfl)) h2 bel lt2) trodAll_mk0))), rfl, bel.frame _, fun h => by cases h⟩

theorem over : Rows.rasterPartsRow.holds Try.pinned (OpenSpec.ofChange Rows.rasterPartsSpec) :=
  OpenClaim.holds_of_wide 5 Try.f5 rfl rfl rfl rfl rfl rfl rfl ⟨rfl, rfl, rfl, rfl, rfl⟩ rfl rfl rfl rfl rfl (by kernel_rfl) Try.func5 (by kernel_rfl)
    (of_decide_eq_true (by kernel_rfl)) (by unfold Func.isWrapper; first | (rw [if_pos (by decide +kernel)]; kernel_rfl) | (rw [if_neg (by decide +kernel)]; exact ⟨rfl, rfl⟩))
    (fun os started H enc _ => lifted os started H enc)
end RasterParts

theorem rasterParts_holds : Rows.RasterPartsSaid := RasterParts.over
#print axioms rasterParts_holds
end Go.Proofs.Ytkfomjdmdgddlaa
