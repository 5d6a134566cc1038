/- Images that are handed in stay, those that are answered are new memory: for any two images, good or not, and any part. -/
import Derived.Test.YtkfomjdmdgddlaaQq
import Derived.Test.YtkfomjdmdgddlaaQz
import Derived.Test.YtkfomjdmdgddlaaQov
import Derived.Test.YtkfomjdmdgddlaaQsp
import Derived.Deep.CondSized
import Derived.Deep.DeepCutAuto
namespace Go.Proofs.Ytkfomjdmdgddlaa
open Go.ChangeShapes Go.WideShapes Go.ChangeAt Go.RowKit
/-- A row's beginning. -/
theorem own_cut {w : World} {base r n c : Nat} {l : List Int} {v : Value} (h : w.ownsRow base 28 1 (.slice (some ⟨r, 0, none⟩) (n + 1) c) (n + 1) (usV l ++ [v])) (hl : l.length = n) : w.ownsRow base 28 1 (.slice (some ⟨r, 0, none⟩) n c) n (usV l) ∧ w.cell? ⟨r, n, none⟩ = some v ∧ n + 1 ≤ c := by
  have hc : w.cell? ⟨r, n, none⟩ = some v := by
    have := h.cellAt n (by omega)
    rw [this, List.getElem?_append_right (by rw [usV_length]; omega), usV_length, hl, Nat.sub_self]
    rfl
  obtain ⟨h1, h2⟩ := h
  rcases h2 with ⟨h3, _⟩ | ⟨g, cap, cur, h3, h4, h5, h6, h7, h8, h9⟩
  · cases h3
  · injection h3 with e1 e2 e3
    injection e1 with e1
    injection e1 with e1
    subst e1 e3
    refine ⟨⟨by rw [usV_length]; omega, .inr ⟨r, c, cur, rfl, h4, h5, by omega, h7, h8, ?_⟩⟩, hc, h6⟩
    simp only [Nat.mul_one] at h9 ⊢
    have e := congrArg (List.take n) h9
    rw [List.take_take, Nat.min_eq_left (by omega)] at e
    rw [e, List.take_append_of_le_length (by rw [usV_length]; omega), List.take_of_length_le (by rw [usV_length]; omega)]
theorem QO.upd {w2 wr w' : World} {g c n : Nat} {A : Option Addr} {W H : Int} {L : List Int} {S : Nat → Prop} (h : QO w2 g A c n W H L wr) (u : Upd S wr w') (h1 : ¬ S g) (h2 : ∀ k, A.map (·.block) = some k → ¬ S k) (h3 : ∀ k, k < w2.heap.size → ¬ S k) : QO w2 g A c n W H L w' :=
  ⟨h.hg, IB.of (h.im.blk.upd u h1), own_upd h.ow u (fun k hk => h2 k (by rw [← own_block_sl A n c]; exact hk)), h.bel.trans (u.below h.bel.size h3)⟩
theorem QO.lt_row {w2 wr : World} {g c n : Nat} {A : Option Addr} {W H : Int} {L : List Int} (h : QO w2 g A c n W H L wr) : ∀ k, A.map (·.block) = some k → w2.heap.size ≤ k ∧ k < wr.heap.size := fun k hk => row_lt h.ow k hk
theorem QO.low {w0 w2 wr : World} {g c n : Nat} {A : Option Addr} {W H : Int} {L : List Int} (h : QO w2 g A c n W H L wr) (hb : Below w0.heap.size w0 w2) : QO w0 g A c n W H L wr :=
  ⟨Nat.le_trans hb.size h.hg, h.im, own_low h.ow hb.size, hb.trans (h.bel.mono hb.size)⟩
/-- A grid that was answered, or none. -/
def GV (base top : Nat) (pv : Option Addr) (w : World) : Prop := pv = none ∨ ∃ g r c W H l, pv = some ⟨g, 0, none⟩ ∧ CG w base g r c W H l ∧ g < top ∧ r < top
theorem GV.keep {base top : Nat} {pv : Option Addr} {w w' : World} {S : Nat → Prop} (h : GV base top pv w) (u : Upd S w w') (hS : ∀ k, base ≤ k → k < top → ¬ S k) : GV base top pv w' := by
  rcases h with h | ⟨g, r, c, W, H, l, h, hc, h1, h2⟩
  · exact .inl h
  · exact .inr ⟨g, r, c, W, H, l, h, hc.upd u (hS g hc.fresh h1) (hS r hc.form.2.2.1 h2), h1, h2⟩
theorem GV.set_ {base top : Nat} {pv : Option Addr} {w : World} (h : GV base top pv w) (z : Col) : Calls Try.prog 34 #[.pointer pv, .int .i64 0, .int .i64 0, colV z] w fun e w' => (∃ b, e = .returned (.bool b)) ∧ Upd (fun k => base ≤ k) w w' := by
  rcases h with rfl | ⟨g, r, c, W, H, l, rfl, hc, _, _⟩
  · exact (setC_nil w z).mono (fun e w' ⟨h1, h2⟩ => ⟨⟨_, h1⟩, (Upd.of_fresh h2).mono (fun _ _ h => h.elim)⟩)
  · exact (setC_any hc z).mono (fun e w' ⟨h1, h2⟩ => ⟨⟨_, h1⟩, h2.mono (fun k _ e => by have e : k = r := e; have := hc.form.2.2.1; omega)⟩)
theorem GrR.say {w w' : World} {W H : Int} {l : List Int} {e : Ending} (h : GrR w W H l e w') : ∃ pv ev, e = .returned (.tuple #[.pointer pv, .int .i64 ev]) ∧ GV w.heap.size w'.heap.size pv w' ∧ Below w.heap.size w w' := by
  rcases h with ⟨_, rfl, hb⟩ | ⟨_, g, r, c', rfl, hc, hb⟩
  · exact ⟨none, 6, rfl, .inl rfl, hb⟩
  · exact ⟨_, 0, rfl, .inr ⟨g, r, c', _, _, _, rfl, hc, hc.blk.lt, hc.form.2.2.2⟩, hb⟩
theorem crop_few (x y : Int) (l : List Int) (X Y P Q : Int) : (cropI x y l X Y P Q).l.length ≤ 1048576 := by
  cases hg : goodB x y l.length with
  | false => unfold cropI; rw [if_neg (by rw [hg]; simp)]; simp [errI]
  | true =>
    cases hi : inB X Y P Q x y with
    | false => unfold cropI; rw [if_pos hg, if_neg (by rw [hi]; simp)]; simp [errI]
    | true =>
      unfold cropI
      rw [if_pos hg, if_pos hi]
      obtain ⟨W, H, rfl, rfl, hn4, hfew, hw1, hw2, hh1, hh2⟩ := goodB_nat hg
      obtain ⟨i1, i2, i3, i4, i5, i6⟩ := inB_bd hi
      have hlen := partL_length (W := W) (H := H) (X := X.toNat) (Y := Y.toNat) (P := P.toNat) hn4 (by omega) Q.toNat (by omega)
      have hPQ : P.toNat * Q.toNat ≤ W * H := Nat.mul_le_mul (by omega) (by omega)
      simp only [Int.toNat_natCast]
      rw [hlen]
      omega
theorem paste_few (x y : Int) (l : List Int) (p q : Int) (m : List Int) (X Y : Int) (hX : -9223372036854775808 ≤ X ∧ X ≤ 9223372036854775807) (hY : -9223372036854775808 ≤ Y ∧ Y ≤ 9223372036854775807) : (pasI x y l p q m X Y).l.length ≤ 1048576 := by
  by_cases h : goodB x y l.length = true ∧ goodB p q m.length = true
  · unfold pasI
    rw [if_pos h]
    obtain ⟨W, H, rfl, rfl, hn4, hfew, hw1, hw2, hh1, hh2⟩ := goodB_nat h.1
    obtain ⟨P, Q, rfl, rfl, hm4, hfew', hp1, hp2, hq1, hq2⟩ := goodB_nat h.2
    show (pasL l (W : Int) (H : Int) m (P : Int) (Q : Int) X Y).length ≤ 1048576
    rw [pas_same hn4 hm4 hw2 hh2 hp2 hq2 hp1 hq1 X Y hX hY, refPL_length]
    omega
  · unfold pasI
    rw [if_neg h]
    simp [errI]
namespace RasterOwn

theorem ib_store {w1 w9 : World} {ob : Nat} {a b d : Value} (h : IB w9 ob a b d) (hB : Below w1.heap.size w1 w9) (hob : w1.heap.size ≤ ob) (x y z : Value) : Below w1.heap.size w1 (((w9.setCell ⟨ob, 0, none⟩ x).setCell ⟨ob, 1, none⟩ y).setCell ⟨ob, 2, none⟩ z) :=
  hB.trans (IB.put h x y z w1.heap.size hob).2.1
/-- A rectangle's box. -/
structure RB (w : World) (g : Nat) (a b c d : Int) : Prop where
  blk : Blk w g 44 #[.int .i64 a, .int .i64 b, .int .i64 c, .int .i64 d]
  c0 : w.cell? ⟨g, 0, none⟩ = some (.int .i64 a)
  c1 : w.cell? ⟨g, 1, none⟩ = some (.int .i64 b)
  c2 : w.cell? ⟨g, 2, none⟩ = some (.int .i64 c)
  c3 : w.cell? ⟨g, 3, none⟩ = some (.int .i64 d)
theorem RB.of {w : World} {g : Nat} {a b c d : Int} (h : Blk w g 44 #[.int .i64 a, .int .i64 b, .int .i64 c, .int .i64 d]) : RB w g a b c d := ⟨h, by rw [h.cell]; rfl, by rw [h.cell]; rfl, by rw [h.cell]; rfl, by rw [h.cell]; rfl⟩
theorem RB.call {w w' : World} {g : Nat} {a b c d : Int} (h : RB w g a b c d) (hb : Below w.heap.size w w') : RB w' g a b c d := RB.of (h.blk.upd (Upd.of_fresh hb) id)

/-- Where the walk stands in the fourth region. -/
def actO (m p r : Value) (b : Nat) (v7 v8 v23 v24 v25 v26 : Value) : Act := { tmps := #[m, p, r, .pointer (some ⟨b, 0, none⟩), .pointer (some ⟨b + 1, 0, none⟩), .pointer (some ⟨b + 1 + 1, 0, none⟩), .bool false, v7, v8, undef, undef, undef, undef, undef, undef, undef, undef, undef, undef, undef, undef, .bool true, .bool false, v23, v24, v25, v26, undef, undef, undef, undef, undef, undef, undef, undef, undef, undef, undef, undef, undef, undef, undef, undef, undef, undef, undef, undef, undef, undef, undef, undef, undef, undef, undef, undef, undef, undef, undef, undef, undef, undef, undef, undef, undef, undef, undef, undef, undef, undef, undef, undef, undef, undef, undef, undef, undef, undef, undef, undef, undef, undef, undef, undef, undef, undef, undef, undef, undef, undef, undef, undef, undef, undef, undef, undef, undef, undef, undef, undef, undef, undef, undef, undef, undef, undef, undef, undef, undef, undef, undef, undef, undef, undef, undef, undef, undef, undef, undef, undef, undef, undef, undef, undef, undef, undef, undef, undef], defers := [] }
set_option maxHeartbeats 8000000 in
set_option maxRecDepth 100000 in
theorem walk (x y : Int) (A : Option Addr) (c : Nat) (l : List Int) (x' y' : Int) (A' : Option Addr) (c' : Nat) (l' : List Int) (X Y P Q : Int) (w : World) (_ : -9223372036854775808 ≤ x ∧ x ≤ 9223372036854775807) (_ : -9223372036854775808 ≤ y ∧ y ≤ 9223372036854775807) (hbs : Us w w.heap.size A l) (hbd' : ∀ v ∈ l, 0 ≤ v ∧ v ≤ 65535) (hl : l.length * 2 ≤ 140737488351232)
    (_ : -9223372036854775808 ≤ x' ∧ x' ≤ 9223372036854775807) (_ : -9223372036854775808 ≤ y' ∧ y' ≤ 9223372036854775807) (hbs' : Us w w.heap.size A' l') (_ : ∀ v ∈ l', 0 ≤ v ∧ v ≤ 65535) (hl' : l'.length * 2 ≤ 140737488351232)
    (hX : -9223372036854775808 ≤ X ∧ X ≤ 9223372036854775807) (hY : -9223372036854775808 ≤ Y ∧ Y ≤ 9223372036854775807) (hP : -9223372036854775808 ≤ P ∧ P ≤ 9223372036854775807) (hQ : -9223372036854775808 ≤ Q ∧ Q ≤ 9223372036854775807) :
    Calls Try.prog 9 #[.agg #[.int .i64 x, .int .i64 y, .slice A l.length c], .agg #[.int .i64 x', .int .i64 y', .slice A' l'.length c'], .agg #[.int .i64 X, .int .i64 Y, .int .i64 P, .int .i64 Q]] w fun e w' => e = .returned (.bool true) ∧ Below w.heap.size w w' := by
  obtain ⟨n, hn⟩ : ∃ n, l.length = n := ⟨_, rfl⟩
  obtain ⟨n', hn'⟩ : ∃ n', l'.length = n' := ⟨_, rfl⟩
  rw [hn] at hl ⊢
  rw [hn'] at hl' ⊢
  obtain ⟨b0, bs, b1, b2, b3⟩ := boxes3 w #[.int .i64 x, .int .i64 y, .slice A n c] #[.int .i64 x', .int .i64 y', .slice A' n' c'] #[.int .i64 X, .int .i64 Y, .int .i64 P, .int .i64 Q] 24 24 44
  obtain ⟨w1, hw1⟩ : ∃ w1, ((w.alloc (.cells #[.int .i64 x, .int .i64 y, .slice A n c] 24)).alloc (.cells #[.int .i64 x', .int .i64 y', .slice A' n' c'] 24)).alloc (.cells #[.int .i64 X, .int .i64 Y, .int .i64 P, .int .i64 Q] 44) = w1 := ⟨_, rfl⟩
  rw [hw1] at b0 bs b1 b2 b3
  have HW1 := Lib.hid hw1
  have HB1 := Lib.hid b0
  have HM1 := Lib.hid (IB.of b1)
  have HK1 := Lib.hid (IB.of b2)
  have HR1 := Lib.hid (RB.of b3)
  have HV1 := Lib.hid (Vs.below hbs b0)
  have HU1 := Lib.hid (Vs.below hbs' b0)
  have HN := Lib.hid hn
  have HN' := Lib.hid hn'
  have HXY := Lib.hid (And.intro hX hY)
  have HPQ := Lib.hid (And.intro hP hQ)
  clear hw1 b0 bs b1 b2 b3 hbs hbs' hn hn' hX hY hP hQ
  go_enter Try.func9, Try.ntmps9
  go_upto_region 1 with (fail)
  rw [HW1.out]
  clear HW1
  go_wp2_with fail
  refine (wakes_any w1).mono ?_
  rintro e w2 ⟨rfl, hb2⟩
  have HB2 := Lib.hid (HB1.out.trans (hb2.mono HB1.out.size))
  have HM2 := Lib.hid (HM1.out.call hb2)
  have HK2 := Lib.hid (HK1.out.call hb2)
  have HR2 := Lib.hid (HR1.out.call hb2)
  have HV2 := Lib.hid (Vs.below HV1.out (hb2.mono HB1.out.size))
  have HU2 := Lib.hid (Vs.below HU1.out (hb2.mono HB1.out.size))
  clear HB1 HM1 HK1 HR1 HV1 HU1 hb2
  have q0 := HM2.out.c0; have q1 := HM2.out.c1; have q2 := HM2.out.c2
  have p0 := HK2.out.c0; have p1 := HK2.out.c1; have p2 := HK2.out.c2
  have hs2 := HB2.out.size
  have hfull : Hid (∀ w', Below w2.heap.size w2 w' → Below w2.heap.size w2 w' ∧ (w'.cell? ⟨w.heap.size, 0, none⟩ = some (.int .i64 x) ∧ w'.cell? ⟨w.heap.size, 1, none⟩ = some (.int .i64 y) ∧ w'.cell? ⟨w.heap.size, 2, none⟩ = some (.slice A n c)) ∧ (w'.cell? ⟨w.heap.size + 1, 0, none⟩ = some (.int .i64 x') ∧ w'.cell? ⟨w.heap.size + 1, 1, none⟩ = some (.int .i64 y') ∧ w'.cell? ⟨w.heap.size + 1, 2, none⟩ = some (.slice A' n' c'))) :=
    Lib.hid fun w' hb => ⟨hb, ⟨(HM2.out.call hb).c0, (HM2.out.call hb).c1, (HM2.out.call hb).c2⟩, (HK2.out.call hb).c0, (HK2.out.call hb).c1, (HK2.out.call hb).c2⟩
  have HOwn : Hid (∀ w', Below w2.heap.size w2 w' → Calls Try.prog 12 #[.agg #[.int .i64 x, .int .i64 y, .slice A n c]] w' fun e w'' => ∃ A1 c1, e = .returned (imgV x y A1 n c1) ∧ w''.ownsRow w'.heap.size 28 1 (.slice A1 n c1) n (usV l) ∧ Below w'.heap.size w' w'' ∧ Below w2.heap.size w2 w'') :=
    Lib.hid fun w' hb => (own_any x y A n c l HN.out w.heap.size w' (Vs.below HV2.out (hb.mono hs2)) (by have := hb.size; omega) (by omega)).mono (fun e w'' ⟨A1, c1, h1, h2, h3⟩ => ⟨A1, c1, h1, h2, h3, hb.trans (h3.mono hb.size)⟩)
  have HOwn' : Hid (∀ w', Below w2.heap.size w2 w' → Calls Try.prog 12 #[.agg #[.int .i64 x', .int .i64 y', .slice A' n' c']] w' fun e w'' => ∃ A1 c1, e = .returned (imgV x' y' A1 n' c1) ∧ w''.ownsRow w'.heap.size 28 1 (.slice A1 n' c1) n' (usV l') ∧ Below w'.heap.size w' w'' ∧ Below w2.heap.size w2 w'') :=
    Lib.hid fun w' hb => (own_any x' y' A' n' c' l' HN'.out w.heap.size w' (Vs.below HU2.out (hb.mono hs2)) (by have := hb.size; omega) (by omega)).mono (fun e w'' ⟨A1, c1, h1, h2, h3⟩ => ⟨A1, c1, h1, h2, h3, hb.trans (h3.mono hb.size)⟩)
  go_upto_region 3 with (fail)
  go_cut [7, 8] from 23 to 26 (fun v u wx => ∃ g7 g8 A5 c5 A6 c6, v = .pointer (some ⟨g7, 0, none⟩) ∧ u = .pointer (some ⟨g8, 0, none⟩) ∧ Hid (QO w2 g7 A5 c5 n x y l wx ∧ QO w2 g8 A6 c6 n' x' y' l' wx ∧ g7 ≠ g8 ∧ ∀ k, A5.map (·.block) = some k → A6.map (·.block) ≠ some k))
  case first =>
    refine wp_region_inv (fun D a wr => ∃ v7 v8 v23 v24 v25 v26 A1 A2 c1 c2 g7 g8, a = actO (imgV x y A n c) (imgV x' y' A' n' c') (.agg #[.int .i64 X, .int .i64 Y, .int .i64 P, .int .i64 Q]) w.heap.size v7 v8 v23 v24 v25 v26 ∧ (Did D 0 → v23 = imgV x y A n c) ∧ (Did D 2 → v25 = imgV x' y' A' n' c') ∧ (Did D 3 → Did D 1) ∧ (Did D 6 → Did D 1 ∧ Did D 4) ∧ (Did D 7 → Did D 3 ∧ Did D 5) ∧ TwoJ w2 x y n l x' y' n' l' (Did D) v7 v8 v24 v26 A1 A2 c1 c2 g7 g8 wr) (by kernel_rfl) (by kernel_rfl) ?start ?done ?step
    case start =>
      have h0 : ∀ j, ¬ Did (Array.replicate 8 false) j := fun j h => by unfold Did at h; rw [getD_replicate_false] at h; cases h
      exact ⟨undef, undef, undef, undef, undef, undef, none, none, 0, 0, 0, 0, rfl, fun h => absurd h (h0 _), fun h => absurd h (h0 _), fun h => absurd h (h0 _), fun h => absurd h (h0 _), fun h => absurd h (h0 _), ⟨(Below.refl _ _).drew, fun h => absurd h (h0 _), fun h => absurd h (h0 _), fun h => absurd h (h0 _), fun h => absurd h (h0 _), fun h => absurd h (h0 _)⟩⟩
    case done =>
      rintro D a wr hD ⟨v7, v8, v23, v24, v25, v26, A1, A2, c1, c2, g7, g8, rfl, _, _, _, _, _, hJ⟩
      obtain ⟨rfl, rfl, h1, h2, h3, h4⟩ := hJ.end_ (fun i hi => hD i (by simpa using hi))
      unfold actO
      go_wp2_with fail
      go_meet
      exact ⟨g7, g8, A1, c1, A2, c2, rfl, rfl, Lib.hid ⟨h1, h2, h3, h4⟩⟩
    case step =>
      intro i o hi D a wr hs hni hall hJ K hK
      have hi8 : i < 8 := by simpa using (Array.getElem?_eq_some_iff.1 hi).1
      have hs8 : i < D.size := by have e : D.size = 8 := (by simpa using hs); omega
      obtain ⟨v7, v8, v23, v24, v25, v26, A1, A2, c1, c2, g7, g8, rfl, k0, k2, k31, k61, k73, hJ⟩ := hJ
      have HD := Lib.hid (fun j (hj : j ≠ i) => (did_set hj : Did (D.setIfInBounds i true) j ↔ Did D j))
      have HN : Hid (Did (D.setIfInBounds i true) i) := Lib.hid (did_new hs8)
      obtain ⟨_, ⟨q0, q1, q2⟩, p0, p1, p2⟩ := hfull.out _ hJ.bel
      have HJ := Lib.hid hJ
      have HK := Lib.hid hK
      have HNI := Lib.hid hni
      have K0 := Lib.hid k0; have K2 := Lib.hid k2; have K31 := Lib.hid k31; have K61 := Lib.hid k61; have K73 := Lib.hid k73
      clear hfull hJ hs hK hs8 hni k0 k2 k31 k61 k73
      rcases i with _ | _ | _ | _ | _ | _ | _ | _ | i
      · injection hi with hi
        subst hi
        clear hall
        unfold actO
        go_wp2_with fail
        have d := HD.out
        exact HK.out _ _ ⟨v7, v8, imgV x y A n c, v24, v25, v26, A1, A2, c1, c2, g7, g8, rfl, fun _ => rfl, fun h => K2.out ((d 2 (by omega)).1 h), fun h => (d 1 (by omega)).2 (K31.out ((d 3 (by omega)).1 h)), fun h => ⟨(d 1 (by omega)).2 (K61.out ((d 6 (by omega)).1 h)).1, (d 4 (by omega)).2 (K61.out ((d 6 (by omega)).1 h)).2⟩, fun h => ⟨(d 3 (by omega)).2 (K73.out ((d 7 (by omega)).1 h)).1, (d 5 (by omega)).2 (K73.out ((d 7 (by omega)).1 h)).2⟩, HJ.out.on (Below.refl _ _) (d 1 (by omega)) (d 3 (by omega)) (d 4 (by omega)) (d 5 (by omega)) (d 6 (by omega)) (d 7 (by omega))⟩
      · injection hi with hi
        subst hi
        obtain rfl := K0.out (hall ⟨0, .data⟩ (by simp) rfl)
        clear hall
        have HC := Lib.hid (HOwn.out wr HJ.out.bel)
        unfold actO
        go_wp2_with fail
        refine HC.out.mono ?_
        rintro e w6 ⟨A6, c6, rfl, ho6, hb6, _⟩
        have HO6 := Lib.hid ho6; have HB6 := Lib.hid hb6
        clear ho6 hb6 HC
        go_wp2_with fail
        have d := HD.out
        have n6 : ¬ Did D 6 := fun h => HNI.out (K61.out h).1
        exact HK.out _ _ ⟨v7, v8, _, imgV x y A6 n c6, v25, v26, A6, A2, c6, c2, g7, g8, rfl, fun _ => rfl, fun h => K2.out ((d 2 (by omega)).1 h), fun h => HN.out, fun h => absurd ((d 6 (by omega)).1 h) n6, fun h => ⟨(d 3 (by omega)).2 (K73.out ((d 7 (by omega)).1 h)).1, (d 5 (by omega)).2 (K73.out ((d 7 (by omega)).1 h)).2⟩, HJ.out.one HNI.out HB6.out HO6.out (d 3 (by omega)) (d 4 (by omega)) (d 5 (by omega)) (d 6 (by omega)) (d 7 (by omega)) n6⟩
      · injection hi with hi
        subst hi
        clear hall
        unfold actO
        go_wp2_with fail
        have d := HD.out
        exact HK.out _ _ ⟨v7, v8, v23, v24, imgV x' y' A' n' c', v26, A1, A2, c1, c2, g7, g8, rfl, fun h => K0.out ((d 0 (by omega)).1 h), fun _ => rfl, fun h => (d 1 (by omega)).2 (K31.out ((d 3 (by omega)).1 h)), fun h => ⟨(d 1 (by omega)).2 (K61.out ((d 6 (by omega)).1 h)).1, (d 4 (by omega)).2 (K61.out ((d 6 (by omega)).1 h)).2⟩, fun h => ⟨(d 3 (by omega)).2 (K73.out ((d 7 (by omega)).1 h)).1, (d 5 (by omega)).2 (K73.out ((d 7 (by omega)).1 h)).2⟩, HJ.out.on (Below.refl _ _) (d 1 (by omega)) (d 3 (by omega)) (d 4 (by omega)) (d 5 (by omega)) (d 6 (by omega)) (d 7 (by omega))⟩
      · injection hi with hi
        subst hi
        obtain rfl := K2.out (hall ⟨2, .data⟩ (by simp) rfl)
        have hd1 : Did D 1 := hall ⟨1, .chain⟩ (by simp) rfl
        clear hall
        have HC := Lib.hid (HOwn'.out wr HJ.out.bel)
        have HD1 := Lib.hid hd1
        clear hd1
        unfold actO
        go_wp2_with fail
        refine HC.out.mono ?_
        rintro e w6 ⟨A6, c6, rfl, ho6, hb6, _⟩
        have HO6 := Lib.hid ho6; have HB6 := Lib.hid hb6
        clear ho6 hb6 HC
        go_wp2_with fail
        have d := HD.out
        have n7 : ¬ Did D 7 := fun h => HNI.out (K73.out h).1
        exact HK.out _ _ ⟨v7, v8, v23, v24, _, imgV x' y' A6 n' c6, A1, A6, c1, c6, g7, g8, rfl, fun h => K0.out ((d 0 (by omega)).1 h), fun _ => rfl, fun h => (d 1 (by omega)).2 HD1.out, fun h => ⟨(d 1 (by omega)).2 HD1.out, (d 4 (by omega)).2 (K61.out ((d 6 (by omega)).1 h)).2⟩, fun h => absurd ((d 7 (by omega)).1 h) n7, HJ.out.two HD1.out HB6.out HO6.out (d 1 (by omega)) (d 4 (by omega)) (d 5 (by omega)) (d 6 (by omega)) (d 7 (by omega)) n7⟩
      · injection hi with hi
        subst hi
        clear hall
        unfold actO
        go_wp2_with fail
        have d := HD.out
        have n6 : ¬ Did D 6 := fun h => HNI.out (K61.out h).2
        exact HK.out _ _ ⟨_, v8, v23, v24, v25, v26, A1, A2, c1, c2, wr.heap.size, g8, rfl, fun h => K0.out ((d 0 (by omega)).1 h), fun h => K2.out ((d 2 (by omega)).1 h), fun h => (d 1 (by omega)).2 (K31.out ((d 3 (by omega)).1 h)), fun h => absurd ((d 6 (by omega)).1 h) n6, fun h => ⟨(d 3 (by omega)).2 (K73.out ((d 7 (by omega)).1 h)).1, (d 5 (by omega)).2 (K73.out ((d 7 (by omega)).1 h)).2⟩, HJ.out.box _ _ _ _ rfl (d 1 (by omega)) (d 3 (by omega)) (d 5 (by omega)) (fun h => n6 ((d 6 (by omega)).1 h)) (d 7 (by omega))⟩
      · injection hi with hi
        subst hi
        clear hall
        unfold actO
        go_wp2_with fail
        have d := HD.out
        have n7 : ¬ Did D 7 := fun h => HNI.out (K73.out h).2
        exact HK.out _ _ ⟨v7, _, v23, v24, v25, v26, A1, A2, c1, c2, g7, wr.heap.size, rfl, fun h => K0.out ((d 0 (by omega)).1 h), fun h => K2.out ((d 2 (by omega)).1 h), fun h => (d 1 (by omega)).2 (K31.out ((d 3 (by omega)).1 h)), fun h => ⟨(d 1 (by omega)).2 (K61.out ((d 6 (by omega)).1 h)).1, (d 4 (by omega)).2 (K61.out ((d 6 (by omega)).1 h)).2⟩, fun h => absurd ((d 7 (by omega)).1 h) n7, HJ.out.box2 _ _ _ _ rfl (d 1 (by omega)) (d 3 (by omega)) (d 4 (by omega)) (fun h => n7 ((d 7 (by omega)).1 h)) (d 6 (by omega))⟩
      · injection hi with hi
        subst hi
        have hd4 : Did D 4 := hall ⟨4, .data⟩ (by simp) rfl
        have hd1 : Did D 1 := hall ⟨1, .data⟩ (by simp) rfl
        clear hall
        obtain ⟨rfl, _⟩ := HJ.out.e1 hd1
        obtain ⟨rfl, _, a, b, d0, hb7, _⟩ := HJ.out.e4 hd4
        obtain ⟨_, d0, d1, d2, f0, f1, f2⟩ := IB.of hb7
        have HD4 := Lib.hid hd4; have HD1 := Lib.hid hd1
        clear hd4 hd1 hb7
        unfold actO
        go_wp2_with fail
        have d := HD.out
        exact HK.out _ _ ⟨_, v8, v23, _, v25, v26, A1, A2, c1, c2, g7, g8, rfl, fun h => K0.out ((d 0 (by omega)).1 h), fun h => K2.out ((d 2 (by omega)).1 h), fun h => (d 1 (by omega)).2 (K31.out ((d 3 (by omega)).1 h)), fun h => ⟨(d 1 (by omega)).2 HD1.out, (d 4 (by omega)).2 HD4.out⟩, fun h => ⟨(d 3 (by omega)).2 (K73.out ((d 7 (by omega)).1 h)).1, (d 5 (by omega)).2 (K73.out ((d 7 (by omega)).1 h)).2⟩, HJ.out.put HD4.out (d 1 (by omega)) (d 3 (by omega)) (d 4 (by omega)) (d 5 (by omega)) (d 7 (by omega))⟩
      · injection hi with hi
        subst hi
        have hd5 : Did D 5 := hall ⟨5, .data⟩ (by simp) rfl
        have hd3 : Did D 3 := hall ⟨3, .data⟩ (by simp) rfl
        clear hall
        obtain ⟨rfl, _⟩ := HJ.out.e3 hd3
        obtain ⟨rfl, _, a, b, d0, hb7, _⟩ := HJ.out.e5 hd5
        obtain ⟨_, d0, d1, d2, f0, f1, f2⟩ := IB.of hb7
        have HD5 := Lib.hid hd5; have HD3 := Lib.hid hd3
        clear hd5 hd3 hb7
        unfold actO
        go_wp2_with fail
        have d := HD.out
        exact HK.out _ _ ⟨v7, _, v23, v24, v25, _, A1, A2, c1, c2, g7, g8, rfl, fun h => K0.out ((d 0 (by omega)).1 h), fun h => K2.out ((d 2 (by omega)).1 h), fun h => (d 1 (by omega)).2 (K31.out ((d 3 (by omega)).1 h)), fun h => ⟨(d 1 (by omega)).2 (K61.out ((d 6 (by omega)).1 h)).1, (d 4 (by omega)).2 (K61.out ((d 6 (by omega)).1 h)).2⟩, fun h => ⟨(d 3 (by omega)).2 HD3.out, (d 5 (by omega)).2 HD5.out⟩, HJ.out.put2 HD5.out (d 1 (by omega)) (d 3 (by omega)) (d 4 (by omega)) (d 5 (by omega)) (d 6 (by omega))⟩
      · omega
  case rest =>
    obtain ⟨g7, g8, A5, c5, A6, c6, rfl, rfl, HQ⟩ := hcut
    obtain ⟨hqi, hqf, hgg, hrr⟩ := HQ.out
    have hbc := hqi.bel
    have HB3 := Lib.hid (HB2.out.trans (hbc.mono hs2))
    have HM3 := Lib.hid (HM2.out.call hbc)
    have HK3 := Lib.hid (HK2.out.call hbc)
    have HR3 := Lib.hid (HR2.out.call hbc)
    have HV3 := Lib.hid (Vs.below HV2.out (hbc.mono hs2))
    have HU3 := Lib.hid (Vs.below HU2.out (hbc.mono hs2))
    have hg7 := hqi.hg
    have hg8 := hqf.hg
    clear hfull HOwn HOwn' HM3 HK3 HR3 HV3 HU3 HB3 q0 q1 q2 p0 p1 p2
    obtain ⟨i0, hi, hz0, hz1, hz2⟩ := info_parts info_u16
    have hwc := hbc.size
    obtain ⟨A7, c7, w7, hrun, ho7, hgr7, hat7⟩ := run_append_vs (P := Try.prog) (wc.alloc (.cells #[.int .u16 77] 28)) w2.heap.size 22 22 28 i0 (.int .u16 0) 2 Try.underlying22 hi hz0 hz1 hz2 rfl (.slice A5 n c5) n (usV l) (hqi.ow.alloc _) (wc.heap.size + 1) (some ⟨wc.heap.size, 0, none⟩) 1 1 [.int .u16 77] rfl (vs_one wc 28 (.int .u16 77)) (by intro u hu; simp at hu; subst hu; rfl) (by unfold maxLen; omega) (by omega) (by rw [World.size_alloc]; omega)
    obtain ⟨r7, rfl, _⟩ := row_form ho7 (by omega)
    obtain ⟨hin7, h77, hc7⟩ := own_cut ho7 HN.out
    have hal := (Upd.refl No wc).alloc (.cells #[.int .u16 77] 28)
    have hgu := Upd.of_grown hgr7
    have hbx7 := IB.of ((hqi.im.blk.upd hal id).upd hgu (fun e => own_img_ne (hqi.ow.alloc _) (hqi.im.blk.upd hal id) _ e.symm rfl))
    have hbx8 := IB.of ((hqf.im.blk.upd hal id).upd hgu (fun e => own_img_ne (hqi.ow.alloc _) (hqf.im.blk.upd hal id) _ e.symm rfl))
    have hrow8 := own_upd (own_upd hqf.ow hal (fun _ _ => id)) hgu (fun k hk e => by
      rw [own_block_sl] at hk e
      exact hrr k e.symm hk)
    have hb7 : Below w2.heap.size w2 w7 := (hbc.alloc hbc.size _).grown hgr7 (by rw [World.size_alloc]; omega) (fun q hq => (hqi.ow.lt q hq).1)
    have us := (Upd.refl (· = g7) w7).setCell (p := ⟨g7, 2, none⟩) (fun _ => rfl) (.slice (some ⟨r7, 0, none⟩) (n + 1) c7)
    have hs7 : Blk (w7.setCell ⟨g7, 2, none⟩ (.slice (some ⟨r7, 0, none⟩) (n + 1) c7)) g7 24 #[.int .i64 x, .int .i64 y, .slice (some ⟨r7, 0, none⟩) (n + 1) c7] := by simpa using hbx7.blk.set_ 2 (.slice (some ⟨r7, 0, none⟩) (n + 1) c7)
    obtain ⟨w8, hw8⟩ : ∃ w8, w7.setCell ⟨g7, 2, none⟩ (.slice (some ⟨r7, 0, none⟩) (n + 1) c7) = w8 := ⟨_, rfl⟩
    have us8 := (Upd.refl (· = g7) w8).setCell (p := ⟨g7, 2, none⟩) (fun _ => rfl) (.slice (some ⟨r7, 0, none⟩) n c7)
    rw [hw8] at us hs7
    have hs8 : Blk (w8.setCell ⟨g7, 2, none⟩ (.slice (some ⟨r7, 0, none⟩) n c7)) g7 24 #[.int .i64 x, .int .i64 y, .slice (some ⟨r7, 0, none⟩) n c7] := by simpa using hs7.set_ 2 (.slice (some ⟨r7, 0, none⟩) n c7)
    obtain ⟨w9, hw9⟩ : ∃ w9, w8.setCell ⟨g7, 2, none⟩ (.slice (some ⟨r7, 0, none⟩) n c7) = w9 := ⟨_, rfl⟩
    rw [hw9] at us8 hs8
    have u79 := us.trans us8
    have hr7g : ¬ r7 = g7 := own_img_ne hin7 hbx7.blk r7 rfl
    have hr7l : r7 < w7.heap.size := (hin7.lt r7 rfl).2
    have hin9 := own_upd hin7 u79 (fun k hk e => by simp [Value.ownBlock] at hk; subst hk; exact hr7g e)
    have h779 : w9.cell? ⟨r7, n, none⟩ = some (.int .u16 77) := (World.cell?_of_block (a := ⟨r7, n, none⟩) (u79.block r7 hr7l hr7g)).trans h77
    have hb9 : Below w2.heap.size w2 w9 := hb7.trans (u79.below hb7.size (fun k hk e => by have e : k = g7 := e; omega))
    have IN := Lib.hid (show QO w2 g7 (some ⟨r7, 0, none⟩) c7 n x y l w9 from ⟨hg7, IB.of hs8, hin9, hb9⟩)
    have FR := Lib.hid (show QO w2 g8 A6 c6 n' x' y' l' w9 from ⟨hg8, IB.of (hbx8.blk.upd u79 (fun e => hgg e.symm)), own_upd hrow8 u79 (own_img_ne hrow8 hbx7.blk), hb9⟩)
    have S77 := Lib.hid h779
    have HRN := Lib.hid hrun
    have q2 := hqi.im.c2
    have t2 := hbx7.c2; have tf := hbx7.f2
    have g2 := (IB.of hs7).c2; have gf := (IB.of hs7).f2
    have hb8 : Below w2.heap.size w2 w8 := hb7.trans (us.below hb7.size (fun k hk e => by have e : k = g7 := e; omega))
    have m2 := (HM2.out.call hb8).c2
    have HW8 := Lib.hid hw8; have HW9 := Lib.hid hw9
    have HC7 := Lib.hid hc7
    have HM9 := Lib.hid (HM2.out.call hb9)
    have HK9 := Lib.hid (HK2.out.call hb9)
    have HR9 := Lib.hid (HR2.out.call hb9)
    have HV9 := Lib.hid (Vs.below HV2.out (hb9.mono hs2))
    have HU9 := Lib.hid (Vs.below HU2.out (hb9.mono hs2))
    have HB9 := Lib.hid (HB2.out.trans (hb9.mono hs2))
    have hc7i : (n : Int) ≤ (c7 : Int) := by omega
    have hn1 : (n : Int) ≤ ((n + 1 : Nat) : Int) := by omega
    clear HM2 HK2 HR2 HV2 HU2 HB2 hqi hqf hrun ho7 hgr7 hat7 hin7 h77 hc7 hal hgu hbx7 hbx8 hrow8 hb7 us hs7 hw8 us8 hs8 hw9 u79 hr7l hin9 h779 hb9 hb8 HQ hrr hbc
    go_upto_region 5 with (at_builtin; refine wpList_append_run rfl (.tmp 28) (.tmp 29) _ rfl rfl rfl HRN.out ?_)
    rw [HW8.out]
    clear q2 t2 tf HRN
    go_upto_region 6 with (fail)
    rw [HW9.out]
    clear g2 gf m2 HW8 HW9 hc7i hn1
    have q0 := IN.out.im.c0; have q1 := IN.out.im.c1; have q2 := IN.out.im.c2
    have r0 := HR9.out.c0; have r1 := HR9.out.c1; have r2 := HR9.out.c2; have r3 := HR9.out.c3
    obtain ⟨res, hres⟩ : ∃ res, cropI x y l X Y P Q = res := ⟨_, rfl⟩
    obtain ⟨k, hk⟩ : ∃ k, res.l.length = k := ⟨_, rfl⟩
    have HKr := Lib.hid hk
    have HCr := crop_any x y (some ⟨r7, 0, none⟩) n c7 l HN.out (row_room IN.out.ow).1 (row_room IN.out.ow).2 w9.heap.size w9 (Vs.of_own IN.out.ow) (Nat.le_refl _) X Y P Q HPQ.out.1.2 HPQ.out.2.2
    rw [hres] at HCr
    have hkb : k ≤ 1048576 := by
      rw [← hk, ← hres]
      exact crop_few x y l X Y P Q
    have HCr := Lib.hid HCr
    clear hres hk
    go_wp2_with fail
    refine HCr.out.mono ?_
    rintro e w10 ⟨A8, c8, rfl, ho8, hb8⟩
    rw [HKr.out] at ho8 ⊢
    have hqa := QO.fresh (W := res.W) (H := res.H) ho8 hb8
    have hba := hb8.alloc hb8.size (.cells #[.int .i64 res.W, .int .i64 res.H, .slice A8 k c8] 24)
    obtain ⟨oa, hoa⟩ : ∃ oa, w10.heap.size = oa := ⟨_, rfl⟩
    have HOA := Lib.hid hoa
    clear ho8 hb8 hoa HCr q0 q1 q2 r0 r1 r2 r3
    go_upto_region 7 with (fail)
    obtain ⟨wA, hwA⟩ : ∃ wA, w10.alloc (.cells #[.int .i64 res.W, .int .i64 res.H, .slice A8 k c8] 24) = wA := ⟨_, rfl⟩
    rw [HOA.out] at hqa ⊢
    rw [hwA] at hqa hba ⊢
    have QA := Lib.hid hqa
    have BA := Lib.hid hba
    have BA0 := Lib.hid hba.size
    have LA := Lib.hid (fun k hk => hqa.lt_row k hk)
    clear hwA hqa HOA
    have q0 := (IN.out.call hba).im.c0; have q1 := (IN.out.call hba).im.c1; have q2 := (IN.out.call hba).im.c2
    have p0 := (FR.out.call hba).im.c0; have p1 := (FR.out.call hba).im.c1; have p2 := (FR.out.call hba).im.c2
    have r0 := (HR9.out.call hba).c0; have r1 := (HR9.out.call hba).c1
    obtain ⟨rep, hrep⟩ : ∃ rep, pasI x y l x' y' l' X Y = rep := ⟨_, rfl⟩
    obtain ⟨k2, hk2⟩ : ∃ k2, rep.l.length = k2 := ⟨_, rfl⟩
    have HK2r := Lib.hid hk2
    have hkb2 : k2 ≤ 1048576 := by
      rw [← hk2, ← hrep]
      exact paste_few x y l x' y' l' X Y HXY.out.1 HXY.out.2
    have HREP := Lib.hid hrep
    have HPs : Hid (∀ wz, Below w9.heap.size w9 wz → Calls Try.prog 22 #[imgV x y (some ⟨r7, 0, none⟩) n c7, imgV x' y' A6 n' c6, .int .i64 X, .int .i64 Y] wz fun e w' => ∃ A' c', e = .returned (.tuple #[imgV rep.W rep.H A' k2 c', .int .i64 rep.E]) ∧ w'.ownsRow wz.heap.size 28 1 (.slice A' k2 c') k2 (usV rep.l) ∧ Below wz.heap.size wz w') := Lib.hid (fun wz hb => by
      have h1 := (IN.out.call hb).ow
      have h2 := (FR.out.call hb).ow
      have := paste_any x y (some ⟨r7, 0, none⟩) n c7 l HN.out x' y' A6 n' c6 l' HN'.out (row_room h2).1 (row_room h2).2 wz.heap.size wz (Vs.of_own h1) (Vs.of_own h2) (Nat.le_refl _) X Y HXY.out.1 HXY.out.2
      rw [hrep] at this
      refine this.mono ?_
      rintro e w' ⟨A', c', rfl, h2, h3⟩
      rw [hk2] at h2 ⊢
      exact ⟨A', c', rfl, h2, h3⟩)
    clear hba hrep hk2
    go_wp2_with fail
    refine (HPs.out wA BA.out).mono ?_
    rintro e w11 ⟨A9, c9, rfl, ho9, hb9⟩
    have hqb := QO.fresh (W := rep.W) (H := rep.H) ho9 hb9
    have hbb := hb9.alloc hb9.size (.cells #[.int .i64 rep.W, .int .i64 rep.H, .slice A9 k2 c9] 24)
    obtain ⟨ob, hob⟩ : ∃ ob, w11.heap.size = ob := ⟨_, rfl⟩
    have HOB := Lib.hid hob
    clear ho9 hb9 hob q0 q1 q2 p0 p1 p2 r0 r1
    go_upto_region 8 with (fail)
    obtain ⟨wB, hwB⟩ : ∃ wB, w11.alloc (.cells #[.int .i64 rep.W, .int .i64 rep.H, .slice A9 k2 c9] 24) = wB := ⟨_, rfl⟩
    rw [HOB.out] at hqb ⊢
    rw [hwB] at hqb hbb ⊢
    have LB := Lib.hid (fun k hk => hqb.lt_row k hk)
    have QB := Lib.hid (hqb.low BA.out)
    have QA2 := Lib.hid (QA.out.call hbb)
    have hbb2 := BA.out.trans (hbb.mono BA.out.size)
    have BB := Lib.hid hbb2
    have HAB := Lib.hid hbb.size
    clear hwB hqb HOB hbb QA
    have q0 := (IN.out.call hbb2).im.c0; have q1 := (IN.out.call hbb2).im.c1; have q2 := (IN.out.call hbb2).im.c2
    have p0 := (FR.out.call hbb2).im.c0; have p1 := (FR.out.call hbb2).im.c1; have p2 := (FR.out.call hbb2).im.c2
    have r0 := (HR9.out.call hbb2).c0; have r1 := (HR9.out.call hbb2).c1
    clear hbb2
    go_wp2_with fail
    refine (HPs.out wB BB.out).mono ?_
    rintro e w12 ⟨A10, c10, rfl, ho10, hb10⟩
    have hqc := QO.fresh (W := rep.W) (H := rep.H) ho10 hb10
    have hbc := hb10.alloc hb10.size (.cells #[.int .i64 rep.W, .int .i64 rep.H, .slice A10 k2 c10] 24)
    obtain ⟨oc, hoc⟩ : ∃ oc, w12.heap.size = oc := ⟨_, rfl⟩
    have HOC := Lib.hid hoc
    clear ho10 hb10 hoc q0 q1 q2 p0 p1 p2 r0 r1 HPs
    go_upto_region 9 with (fail)
    obtain ⟨wC, hwC⟩ : ∃ wC, w12.alloc (.cells #[.int .i64 rep.W, .int .i64 rep.H, .slice A10 k2 c10] 24) = wC := ⟨_, rfl⟩
    rw [HOC.out] at hqc ⊢
    rw [hwC] at hqc hbc ⊢
    have LC := Lib.hid (fun k hk => hqc.lt_row k hk)
    have LO := Lib.hid hqc.im.blk.lt
    have QC := Lib.hid (hqc.low BB.out)
    have QA3 := Lib.hid (QA2.out.call hbc)
    have QB3 := Lib.hid (QB.out.call hbc)
    have hbc2 := BB.out.trans (hbc.mono BB.out.size)
    have BC := Lib.hid hbc2
    have HBC := Lib.hid hbc.size
    clear hwC hqc HOC hbc QA2 QB BA BB
    have q0 := (IN.out.call hbc2).im.c0; have q1 := (IN.out.call hbc2).im.c1; have q2 := (IN.out.call hbc2).im.c2
    have HGr := Lib.hid (grid_any x y (some ⟨r7, 0, none⟩) n c7 l HN.out (row_room IN.out.ow).1 wC.heap.size wC (Vs.of_own (IN.out.call hbc2).ow) (Nat.le_refl _))
    clear hbc2
    go_wp2_with fail
    refine HGr.out.mono ?_
    intro e wD hgr
    obtain ⟨pv, ev, rfl, hgv, hbd⟩ := hgr.say
    have GD := Lib.hid hgv
    have QA4 := Lib.hid (QA3.out.call hbd)
    have QB4 := Lib.hid (QB3.out.call hbd)
    have QC4 := Lib.hid (QC.out.call hbd)
    have hbd2 := BC.out.trans (hbd.mono BC.out.size)
    have BD := Lib.hid hbd2
    have HCD := Lib.hid hbd.size
    clear hgr hgv hbd HGr QA3 QB3 QC q0 q1 q2
    have q0 := (IN.out.call hbd2).im.c0; have q1 := (IN.out.call hbd2).im.c1; have q2 := (IN.out.call hbd2).im.c2
    have HDi := Lib.hid (distinct_any x y (some ⟨r7, 0, none⟩) n c7 l HN.out (row_room IN.out.ow).1 hbd' wD.heap.size wD (Vs.of_own (IN.out.call hbd2).ow) (Nat.le_refl _))
    obtain ⟨dl, hdl⟩ : ∃ dl, disL x y l = dl := ⟨_, rfl⟩
    rw [hdl] at HDi
    clear hbd2 hdl
    go_wp2_with fail
    refine HDi.out.mono ?_
    rintro e wE ⟨A11, c11, rfl, hod, hbe⟩
    obtain ⟨k3, hk3⟩ : ∃ k3, dl.length = k3 := ⟨_, rfl⟩
    rw [hk3] at hod ⊢
    have HOD := Lib.hid hod
    have QA5 := Lib.hid (QA4.out.call hbe)
    have QB5 := Lib.hid (QB4.out.call hbe)
    have QC5 := Lib.hid (QC4.out.call hbe)
    have GE := Lib.hid (GD.out.keep (Upd.of_fresh hbe) (fun _ _ _ => id))
    have BE := Lib.hid (BD.out.trans (hbe.mono BD.out.size))
    have HDE := Lib.hid hbe.size
    have LD := Lib.hid (fun k (hk : A11.map (·.block) = some k) => (hod.lt k (by rw [own_block_sl]; exact hk)).1)
    clear hod hbe HDi QA4 QB4 QC4 GD BD q0 q1 q2 hk3
    have q0 := QA5.out.im.c0; have q1 := QA5.out.im.c1; have q2 := QA5.out.im.c2
    have HSa := Lib.hid (spoil_any wE w9.heap.size res.W res.H A8 k c8 res.l QA5.out.ow hkb BE.out.size)
    go_wp2_with fail
    refine HSa.out.mono ?_
    rintro e wF ⟨rfl, huF⟩
    have lA := LA.out; have lB := LB.out; have lC := LC.out; have lD := LD.out; have sAB := HAB.out; have sBC := HBC.out; have sCD := HCD.out; have lO := LO.out; have s9A := BA0.out
    have QB6 := Lib.hid (QB5.out.upd huF (fun e => own_img_ne QA5.out.ow QB5.out.im.blk _ (by rw [own_block_sl]; exact e) rfl) (fun k hk e => by have := lA k e; have := lB k hk; omega) (fun k hk e => by have := lA k e; omega))
    have QC6 := Lib.hid (QC5.out.upd huF (fun e => own_img_ne QA5.out.ow QC5.out.im.blk _ (by rw [own_block_sl]; exact e) rfl) (fun k hk e => by have := lA k e; have := lC k hk; omega) (fun k hk e => by have := lA k e; omega))
    have GF := Lib.hid (GE.out.keep huF (fun k h1 h2 e => by have := lA k e; omega))
    have ODF := Lib.hid (own_upd HOD.out huF (fun k hk e => by rw [own_block_sl] at hk; have := lA k e; have := lD k hk; omega))
    have BF := Lib.hid (BE.out.trans (huF.below BE.out.size (fun k hk e => by have := lA k e; omega)))
    clear huF HSa QA5 QB5 QC5 GE HOD BE q0 q1 q2
    have q0 := QB6.out.im.c0; have q1 := QB6.out.im.c1; have q2 := QB6.out.im.c2
    have HSb := Lib.hid (spoil_any wF w9.heap.size rep.W rep.H A9 k2 c9 rep.l QB6.out.ow hkb2 BF.out.size)
    clear lA lB lC lD sAB sBC sCD lO s9A
    go_wp2_with fail
    refine HSb.out.mono ?_
    rintro e wG ⟨rfl, huG⟩
    have lB := LB.out; have lC := LC.out; have lD := LD.out; have sAB := HAB.out; have sBC := HBC.out; have sCD := HCD.out; have lO := LO.out; have s9A := BA0.out
    have QC7 := Lib.hid (QC6.out.upd huG (fun e => own_img_ne QB6.out.ow QC6.out.im.blk _ (by rw [own_block_sl]; exact e) rfl) (fun k hk e => by have := lB k e; have := lC k hk; omega) (fun k hk e => by have := lB k e; omega))
    have GG := Lib.hid (GF.out.keep huG (fun k h1 h2 e => by have := lB k e; omega))
    have ODG := Lib.hid (own_upd ODF.out huG (fun k hk e => by rw [own_block_sl] at hk; have := lB k e; have := lD k hk; omega))
    have BG := Lib.hid (BF.out.trans (huG.below BF.out.size (fun k hk e => by have := lB k e; omega)))
    clear huG HSb QB6 QC6 GF ODF BF q0 q1 q2 lB lC lD sAB sBC sCD lO s9A
    go_wp2_with fail
    go_loopw [78] (fun i wr => ∃ j : Nat, j ≤ k3 ∧ i = .int .i64 (j : Int) ∧ Hid ((∃ xs, wr.ownsRow wD.heap.size 30 4 (.slice A11 k3 c11) k3 xs) ∧ Upd (SpS A11) wG wr)) (fun i _ => k3 - (intOf i).toNat)
    case atStart => exact ⟨0, Nat.zero_le _, rfl, Lib.hid ⟨⟨_, ODG.out⟩, Upd.refl _ _⟩⟩
    case round =>
      obtain ⟨j, hj, rfl, HJ⟩ := hrel
      by_cases hlj : j < k3
      · obtain ⟨⟨xs, ho⟩, hu⟩ := HJ.out
        obtain ⟨gd, hgd, hcc, hcm, _⟩ := crow_form ho (by omega)
        subst hgd
        unfold maxLen at hcm
        have hxl := ho.1
        have e0 := crow_cell ho (j * 4) _ (List.getElem?_eq_getElem (by omega))
        have e1 := crow_cell ho (j * 4 + 1) _ (List.getElem?_eq_getElem (by omega))
        have e2 := crow_cell ho (j * 4 + 2) _ (List.getElem?_eq_getElem (by omega))
        have e3 := crow_cell ho (j * 4 + 3) _ (List.getElem?_eq_getElem (by omega))
        have f0 := ho.frozenAt (j * 4); have f1 := ho.frozenAt (j * 4 + 1); have f2 := ho.frozenAt (j * 4 + 2); have f3 := ho.frozenAt (j * 4 + 3)
        have o0 := (ho.stored (j * 4) (.int .u16 0)).1
        have o1 := (o0.stored (j * 4 + 1) (.int .u16 0)).1
        have o2 := (o1.stored (j * 4 + 2) (.int .u16 0)).1
        have o3 := (o2.stored (j * 4 + 3) (.int .u16 0)).1
        have us : Upd (SpS (some ⟨gd, 0, none⟩)) wG ((((wr.setCell ⟨gd, j * 4, none⟩ (.int .u16 0)).setCell ⟨gd, j * 4 + 1, none⟩ (.int .u16 0)).setCell ⟨gd, j * 4 + 2, none⟩ (.int .u16 0)).setCell ⟨gd, j * 4 + 3, none⟩ (.int .u16 0)) := (((hu.setCell (p := ⟨gd, j * 4, none⟩) (fun _ => rfl) _).setCell (p := ⟨gd, j * 4 + 1, none⟩) (fun _ => rfl) _).setCell (p := ⟨gd, j * 4 + 2, none⟩) (fun _ => rfl) _).setCell (p := ⟨gd, j * 4 + 3, none⟩) (fun _ => rfl) _
        have HN1 := Lib.hid (And.intro (Exists.intro _ o3) us)
        have i0 : (j : Int) < (k3 : Int) := by omega
        generalize xs[j * 4]'(by omega) = v0 at e0
        generalize xs[j * 4 + 1]'(by omega) = v1 at e1
        generalize xs[j * 4 + 2]'(by omega) = v2 at e2
        generalize xs[j * 4 + 3]'(by omega) = v3 at e3
        clear ho hu hxl o0 o1 o2 o3 us HJ
        go_wp2_with fail
        go_roundw
        case rel => exact ⟨j + 1, by omega, by go_num, HN1⟩
        case measure => simp [intOf]; omega
      · obtain ⟨_, huH⟩ := HJ.out
        have lC := LC.out; have lD := LD.out; have sAB := HAB.out; have sBC := HBC.out; have sCD := HCD.out; have lO := LO.out; have s9A := BA0.out
        have QC8 := Lib.hid (QC7.out.upd huH (fun e => by have := lD oc e; omega) (fun k hk e => by have := lD k e; have := lC k hk; omega) (fun k hk e => by have := lD k e; omega))
        have GH := Lib.hid (GG.out.keep huH (fun k h1 h2 e => by have := lD k e; omega))
        have BH := Lib.hid (BG.out.trans (huH.below BG.out.size (fun k hk e => by have := lD k e; omega)))
        have HSt := Lib.hid (GH.out.set_ ⟨5, 0, 0, 0⟩)
        clear huH HJ QC7 GG ODG BG lC lD sAB sBC sCD lO s9A
        go_wp2_with fail
        refine HSt.out.mono ?_
        rintro e wI ⟨⟨bb, rfl⟩, huI⟩
        have lC := LC.out; have sAB := HAB.out; have sBC := HBC.out; have lO := LO.out; have s9A := BA0.out
        have QC9 := Lib.hid (QC8.out.upd huI (fun e => by omega) (fun k hk e => by have := lC k hk; omega) (fun k hk e => by omega))
        have BI := Lib.hid (BH.out.trans (huI.below BH.out.size (fun k hk e => by omega)))
        clear huI HSt QC8 GH BH lC sAB sBC lO s9A
        have HM10 := HM9.out.call BI.out
        have HK10 := HK9.out.call BI.out
        have HR10 := HR9.out.call BI.out
        have q0 := HM10.c0; have q1 := HM10.c1; have q2 := HM10.c2
        have p0 := HK10.c0; have p1 := HK10.c1; have p2 := HK10.c2
        have r0 := HR10.c0; have r1 := HR10.c1
        have h9 := HB9.out.size
        have HRP := refPaste_any x y A n c l HN.out x' y' A' n' c' l' HN'.out w.heap.size wI (Vs.below HV9.out (BI.out.mono h9)) (Vs.below HU9.out (BI.out.mono h9)) (Nat.le_trans h9 BI.out.size) X Y HXY.out.1 HXY.out.2
        rw [HREP.out] at HRP
        have HRP := Lib.hid HRP
        clear HM10 HK10 HR10
        go_wp2_with fail
        refine HRP.out.mono ?_
        rintro e w13 ⟨A13, c13, rfl, ho13, hb13⟩
        rw [HK2r.out] at ho13 ⊢
        have hqw := QO.fresh (W := rep.W) (H := rep.H) ho13 hb13
        have hbw := hb13.alloc hb13.size (.cells #[.int .i64 rep.W, .int .i64 rep.H, .slice A13 k2 c13] 24)
        obtain ⟨ow, how⟩ : ∃ ow, w13.heap.size = ow := ⟨_, rfl⟩
        have HOW := Lib.hid how
        clear ho13 hb13 how HRP q0 q1 q2 p0 p1 p2 r0 r1
        go_upto_region 20 with (fail)
        obtain ⟨wJ, hwJ⟩ : ∃ wJ, w13.alloc (.cells #[.int .i64 rep.W, .int .i64 rep.H, .slice A13 k2 c13] 24) = wJ := ⟨_, rfl⟩
        rw [HOW.out] at hqw ⊢
        rw [hwJ] at hqw hbw ⊢
        have QW := Lib.hid hqw
        have QCJ := Lib.hid (QC9.out.call hbw)
        have BJ := Lib.hid (BI.out.trans (hbw.mono BI.out.size))
        clear hwJ hqw HOW hbw QC9 BI
        have QIN := Lib.hid (IN.out.call BJ.out)
        have QFR := Lib.hid (FR.out.call BJ.out)
        have QM := Lib.hid (HM9.out.call BJ.out)
        have QP := Lib.hid (HK9.out.call BJ.out)
        have VM : Hid (Vs wJ w.heap.size A (usV l)) := Lib.hid (Vs.below HV9.out (BJ.out.mono h9))
        have VP : Hid (Vs wJ w.heap.size A' (usV l')) := Lib.hid (Vs.below HU9.out (BJ.out.mono h9))
        have hr79 : r7 < w9.heap.size := (IN.out.ow.lt r7 rfl).2
        have C77 : Hid (wJ.cell? ⟨r7, n, none⟩ = some (.int .u16 77)) := Lib.hid ((BJ.out.cell (p := ⟨r7, n, none⟩) hr79).trans S77.out)
        have hsJ := BJ.out.size
        obtain ⟨U, Wf, hU0, hU1, hU2⟩ := names_of wJ
        have hup : ∀ u (p : Addr), p.block < wJ.heap.size → (Wf u).cell? p = wJ.cell? p := fun u p hp => (hU1 u).fresh.cell hp
        have s1 : Hid (∀ u, Calls Try.prog 17 #[imgV x y (some ⟨r7, 0, none⟩) n c7, imgV x y A n c] (Wf u) fun e w' => e = .returned (.bool true) ∧ ∃ u', w' = Wf u') := Lib.hid (fun u => by
          have ho := own_upd QIN.out.ow (hU1 u) (fun _ _ => id)
          have := refSame_any x y (some ⟨r7, 0, none⟩) n c7 l x y A n c l HN.out HN.out (Wf u).heap.size (Wf u) (Vs.of_own ho) (Vs.more (Vs.below VM.out ((hU1 u).fresh.mono (Nat.le_trans h9 hsJ))) (Nat.le_trans (Nat.le_trans h9 hsJ) (hU1 u).size)) (Nat.le_refl _) (Nat.le_trans (row_room ho).1 (row_room ho).2)
          rw [sameB_self] at this
          exact this.mono (fun e w' ⟨h1, h2⟩ => ⟨h1, hU2 u w' h2⟩))
        have s2 : Hid (∀ u, Calls Try.prog 17 #[imgV x' y' A6 n' c6, imgV x' y' A' n' c'] (Wf u) fun e w' => e = .returned (.bool true) ∧ ∃ u', w' = Wf u') := Lib.hid (fun u => by
          have ho := own_upd QFR.out.ow (hU1 u) (fun _ _ => id)
          have := refSame_any x' y' A6 n' c6 l' x' y' A' n' c' l' HN'.out HN'.out (Wf u).heap.size (Wf u) (Vs.of_own ho) (Vs.more (Vs.below VP.out ((hU1 u).fresh.mono (Nat.le_trans h9 hsJ))) (Nat.le_trans (Nat.le_trans h9 hsJ) (hU1 u).size)) (Nat.le_refl _) (Nat.le_trans (row_room ho).1 (row_room ho).2)
          rw [sameB_self] at this
          exact this.mono (fun e w' ⟨h1, h2⟩ => ⟨h1, hU2 u w' h2⟩))
        have s3 : Hid (∀ u, Calls Try.prog 17 #[imgV rep.W rep.H A10 k2 c10, imgV rep.W rep.H A13 k2 c13] (Wf u) fun e w' => e = .returned (.bool true) ∧ ∃ u', w' = Wf u') := Lib.hid (fun u => by
          have ho := own_upd QCJ.out.ow (hU1 u) (fun _ _ => id)
          have ho' := own_upd QW.out.ow (hU1 u) (fun _ _ => id)
          have := refSame_any rep.W rep.H A10 k2 c10 rep.l rep.W rep.H A13 k2 c13 rep.l HK2r.out HK2r.out (Wf u).heap.size (Wf u) (Vs.of_own ho) (Vs.of_own ho') (Nat.le_refl _) (Nat.le_trans (row_room ho).1 (row_room ho).2)
          rw [sameB_self] at this
          exact this.mono (fun e w' ⟨h1, h2⟩ => ⟨h1, hU2 u w' h2⟩))
        have im := fun u => IB.of (QM.out.blk.upd (hU1 u) id); have ip := fun u => IB.of (QP.out.blk.upd (hU1 u) id); have ii := fun u => IB.of (QIN.out.im.blk.upd (hU1 u) id); have jf := fun u => IB.of (QFR.out.im.blk.upd (hU1 u) id); have ic := fun u => IB.of (QCJ.out.im.blk.upd (hU1 u) id); have iw := fun u => IB.of (QW.out.im.blk.upd (hU1 u) id)
        have a0 := fun u => (im u).c0; have a1 := fun u => (im u).c1; have a2 := fun u => (im u).c2
        have b0 := fun u => (ip u).c0; have b1 := fun u => (ip u).c1; have b2 := fun u => (ip u).c2
        have d0 := fun u => (ii u).c0; have d1 := fun u => (ii u).c1; have d2 := fun u => (ii u).c2
        have e0 := fun u => (jf u).c0; have e1 := fun u => (jf u).c1; have e2 := fun u => (jf u).c2
        have f0 := fun u => (ic u).c0; have f1 := fun u => (ic u).c1; have f2 := fun u => (ic u).c2
        have g0 := fun u => (iw u).c0; have g1 := fun u => (iw u).c1; have g2 := fun u => (iw u).c2
        have k7 := fun u => (hup u ⟨r7, n, none⟩ (Nat.lt_of_lt_of_le hr79 hsJ)).trans C77.out
        have hFin : Hid (∀ u, Below w.heap.size w (Wf u)) := Lib.hid (fun u => (HB9.out.trans (BJ.out.mono h9)).trans ((hU1 u).fresh.mono (Nat.le_trans h9 hsJ)))
        have HU0 := Lib.hid hU0
        have hne : Nonempty U := by obtain ⟨u, _⟩ := hU0; exact ⟨u⟩
        have t1 : IntKind.i64.wrap ((n : Int) + 1) = ((n + 1 : Nat) : Int) := by rw [IntWalk.i64_in _ (by omega)]; omega
        have hc7 := HC7.out
        have t2 : ((n + 1 : Nat) : Int) ≤ (c7 : Int) := by omega
        have t3 : (n : Int) < ((n + 1 : Nat) : Int) := by omega
        clear im ip ii jf ic iw hup hU0 hU1 hU2 QM QP QIN QFR QCJ QW VM VP
        refine wp_region_class (fun w' => ∃ u, w' = Wf u) 28 (by kernel_rfl) (by kernel_rfl) HU0.out ?_
        simp only [List.take_succ_cons, List.take_zero, List.drop_succ_cons, List.drop_zero]
        repeat (go_big_quiet_step (fail))
        go_big_quiet_want
        go_big_quiet_op
        refine ⟨_, s1.out, ?_⟩
        go_big_quiet_on
        repeat (go_big_quiet_step (fail))
        go_big_quiet_want
        go_big_quiet_op
        refine ⟨_, s2.out, ?_⟩
        go_big_quiet_on
        repeat (go_big_quiet_step (fail))
        go_big_quiet_want
        go_big_quiet_op
        refine ⟨_, s3.out, ?_⟩
        go_big_quiet_on
        repeat (go_big_quiet_step (fail))
        refine wpQuiet_nil ?_
        rintro _ ⟨u, rfl⟩
        have HFu := Lib.hid (hFin.out u)
        clear HU0 s1 s2 s3 hFin a0 a1 a2 b0 b1 b2 d0 d1 d2 e0 e1 e2 f0 f1 f2 g0 g1 g2 k7
        go_wp2_with fail
        go_ret
        exact ⟨rfl, HFu.out⟩
set_option maxRecDepth 100000 in
theorem lifted (os : Os) (started : os.Started) (H : Type) (enc : TypeId × Value → H) :
    ReturnsInHanded {} Try.checked os 9 .any (Rows.rasterOwnSpec.pre6 enc Try.prog Try.f9 Rows.rasterOwnRow.domain false) (Rows.rasterOwnSpec.post enc Try.prog Try.f9 false true false false) := by
  refine returnsInHanded_of_change_sized (C := Try.checked) prog_own started (by kernel_rfl) Try.func9
    (ChangeSpec.witness6 (enc := enc) (C := Try.checked) false ⟨#[], #[.agg #[.int .i64 0, .int .i64 0, .slice none 0 0], .agg #[.int .i64 0, .int .i64 0, .slice none 0 0], .agg #[.int .i64 0, .int .i64 0, .int .i64 0, .int .i64 0]], []⟩ 8 (by kernel_rfl) (by kernel_rfl) (by kernel_rfl) (by kernel_rfl)) ?_
  intro W base args ds gs before hval0 hW hcnd hsz _
  have hval : ∀ (j : Nat) t v, Try.f9.params[j]? = some t → args[j]? = some v → Value.okWide Try.prog W .any base t v := hval0
  have hW' := hW
  obtain ⟨p, q, hA0, hV, rfl, hfz, hnd⟩ := hW
  have hA : DataW.TrodAll enc Try.prog W 0 (fun _ => true) true Try.f9.params.toList args.toList ds p := hA0
  rw [Try.params9] at hA hval
  obtain ⟨v0, vs0, d0, ds0, p0, q0, hargs, rfl, rfl, h0, r0⟩ := trodAll_cons hA
  obtain ⟨v1, vs1, d1, ds1, p1, q1, rfl, rfl, rfl, h1, r1⟩ := trodAll_cons r0
  obtain ⟨v2, vs2, d2, ds2, p2, q2, rfl, rfl, rfl, h2, r2⟩ := trodAll_cons r1
  obtain ⟨rfl, rfl, rfl⟩ := trodAll_nil r2
  obtain rfl : args = #[v0, v1, v2] := by cases args; simp_all
  obtain ⟨rfl, rfl⟩ := trodVars_none hV
  obtain ⟨x0, y0, A0, l0, c0, rfl, bx0, by0, hb0, hk0, hd0⟩ := open_image (hval 0 24 v0 rfl rfl) h0
  obtain ⟨x1, y1, A1, l1, c1, rfl, bx1, by1, hb1, hk1, hd1⟩ := open_image (hval 1 24 v1 rfl rfl) h1
  obtain ⟨x2, y2, z2, t2, rfl, bx2, by2, bz2, bt2⟩ := open_rect (hval 2 44 v2 rfl rfl) h2
  have hl0 : l0.length * 2 ≤ 140737488351232 := by
    obtain ⟨_, _, _, rfl, hdd⟩ := hd0
    rcases hdd with ⟨_, rfl⟩ | ⟨e, s, rfl, hle⟩
    · simp
    · have hpz := sized_part hsz (j := 0) (t := 24) rfl rfl Try.underlying24
      have this : (e.length + s.length) * Try.prog.bytesOf 28 ≤ reachBytes := sized_slice hpz (j := 2) (t := 22) (e := 28) rfl rfl Try.underlying22
      rw [bytes_u16] at this
      unfold reachBytes at this
      omega
  have hl1 : l1.length * 2 ≤ 140737488351232 := by
    obtain ⟨_, _, _, rfl, hdd⟩ := hd1
    rcases hdd with ⟨_, rfl⟩ | ⟨e, s, rfl, hle⟩
    · simp
    · have hpz := sized_part hsz (j := 1) (t := 24) rfl rfl Try.underlying24
      have this : (e.length + s.length) * Try.prog.bytesOf 28 ≤ reachBytes := sized_slice hpz (j := 2) (t := 22) (e := 28) rfl rfl Try.underlying22
      rw [bytes_u16] at this
      unfold reachBytes at this
      omega
  have lt0 : ∀ x ∈ p0, x.block < W.heap.size := by obtain ⟨m, hm⟩ := h0; exact DataW.trod_lt m _ _ _ hm
  have lt1 : ∀ x ∈ p1, x.block < W.heap.size := by obtain ⟨m, hm⟩ := h1; exact DataW.trod_lt m _ _ _ hm
  have lt2 : ∀ x ∈ p2, x.block < W.heap.size := by obtain ⟨m, hm⟩ := h2; exact DataW.trod_lt m _ _ _ hm
  clear hA0 hval0
  refine (walk x0 y0 A0 c0 l0 x1 y1 A1 c1 l1 x2 y2 z2 t2 W bx0 by0 hb0 hk0 hl0 bx1 by1 hb1 hk1 hl1 bx2 by2 bz2 bt2).mono fun e W' ⟨he, bel⟩ => ?_
  subst he
  exact ⟨_, rfl, _, _, _, [], _, [], hW', trodAll_mk1 (shut_bool Try.underlying4 _), (trodAll_cons_mk (Below.trod prog_laid (by kernel_rfl) (of_decide_eq_true (by kernel_rfl)) h0 bel lt0) (trodAll_cons_mk (Below.trod prog_laid (by kernel_rfl) (of_decide_eq_true (by kernel_rfl)) h1 bel lt1) (trodAll_cons_mk (Below.trod prog_laid (by kernel_rfl) (of_decide_eq_true (by kernel_rfl)) h2 bel lt2) trodAll_mk0))), rfl, bel.frame _, fun h => by cases h⟩

theorem over : Rows.rasterOwnRow.holds Try.pinned (OpenSpec.ofChange Rows.rasterOwnSpec) :=
  OpenClaim.holds_of_wide 9 Try.f9 rfl rfl rfl rfl rfl rfl rfl ⟨rfl, rfl, rfl, rfl, rfl⟩ rfl rfl rfl rfl rfl (by kernel_rfl) Try.func9 (by kernel_rfl)
    (of_decide_eq_true (by kernel_rfl)) (by unfold Func.isWrapper; first | (rw [if_pos (by decide +kernel)]; kernel_rfl) | (rw [if_neg (by decide +kernel)]; exact ⟨rfl, rfl⟩))
    (fun os started H enc _ => lifted os started H enc)
end RasterOwn

theorem rasterOwn_holds : Rows.RasterOwnSaid := RasterOwn.over
#print axioms rasterOwn_holds
end Go.Proofs.Ytkfomjdmdgddlaa
