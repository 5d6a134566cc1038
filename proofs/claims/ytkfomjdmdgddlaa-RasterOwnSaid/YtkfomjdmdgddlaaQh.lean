/- The pixel at a place: the program's way and the document's. -/
import Derived.Test.YtkfomjdmdgddlaaQg
namespace Go.Proofs.Ytkfomjdmdgddlaa
open Go.ChangeShapes Go.WideShapes Go.ChangeAt Go.RowKit

theorem goodB_nat {W H : Int} {n : Nat} (h : goodB W H n = true) : ∃ w h : Nat, W = (w : Int) ∧ H = (h : Int) ∧ n = 4 * (w * h) ∧ w * h ≤ 65536 ∧ 1 ≤ w ∧ w ≤ 4096 ∧ 1 ≤ h ∧ h ≤ 4096 := by
  simp only [goodB, Bool.and_eq_true, decide_eq_true_eq] at h
  obtain ⟨h1, h2⟩ := h
  obtain ⟨a1, a2, a3, a4, a5⟩ := mayB_bd h1
  obtain ⟨a, rfl⟩ : ∃ a : Nat, W = (a : Int) := ⟨W.toNat, by omega⟩
  obtain ⟨b, rfl⟩ : ∃ b : Nat, H = (b : Int) := ⟨H.toNat, by omega⟩
  rw [four_mul, ← Int.natCast_mul] at h2
  rw [← Int.natCast_mul] at a5
  exact ⟨a, b, rfl, rfl, by omega, by omega, by omega, by omega, by omega, by omega⟩
/-- The pixel at a place, or the zero colour. -/
def atOk (W H : Int) (n : Nat) (x y : Int) : Bool := goodB W H n && inB x y 1 1 W H
def atPx (W H : Int) (l : List Int) (x y : Int) : Col := if atOk W H l.length x y = true then pxAt l (4 * (y.toNat * W.toNat + x.toNat)) else col0
/-- A slice of samples: its room is enough. -/
theorem two_boxes (W H : Int) (A : Option Addr) (n c : Nat) (w : World) : ∃ W1, (w.alloc (.cells #[.int .i64 W, .int .i64 H, .slice A n c] 24)).alloc (.cells #[.int .u16 0, .int .u16 0, .int .u16 0, .int .u16 0] 30) = W1 ∧
    IB W1 w.heap.size (.int .i64 W) (.int .i64 H) (.slice A n c) ∧ CB W1 (w.heap.size + 1) col0 ∧ Below w.heap.size w W1 := by
  obtain ⟨h1, _, h2, h3⟩ := boxes2 w #[.int .i64 W, .int .i64 H, .slice A n c] #[.int .u16 0, .int .u16 0, .int .u16 0, .int .u16 0] 24 30
  exact ⟨_, rfl, IB.of h2, CB.of h3, h1⟩
/-- A colour's box that is written over. -/
theorem CB.put {w : World} {g : Nat} {x : Col} (h : CB w g x) (y : Col) (B : Nat) (hB : B ≤ g) : CB ((((w.setCell ⟨g, 0, none⟩ (.int .u16 y.r)).setCell ⟨g, 1, none⟩ (.int .u16 y.g)).setCell ⟨g, 2, none⟩ (.int .u16 y.b)).setCell ⟨g, 3, none⟩ (.int .u16 y.a)) g y ∧
    Below B w ((((w.setCell ⟨g, 0, none⟩ (.int .u16 y.r)).setCell ⟨g, 1, none⟩ (.int .u16 y.g)).setCell ⟨g, 2, none⟩ (.int .u16 y.b)).setCell ⟨g, 3, none⟩ (.int .u16 y.a)) :=
  ⟨CB.of (set4 h.blk _ _ _ _), (set4_upd w g _ _ _ _).below (by have := h.blk.lt; omega) (fun k hk e => by omega)⟩
theorem IB.call {w w' : World} {g : Nat} {x y z : Value} (h : IB w g x y z) (hb : Below w.heap.size w w') : IB w' g x y z := IB.of (h.blk.upd (Upd.of_fresh hb) id)
theorem CB.call {w w' : World} {g : Nat} {x : Col} (h : CB w g x) (hb : Below w.heap.size w w') : CB w' g x := CB.of (h.blk.upd (Upd.of_fresh hb) id)
set_option maxRecDepth 100000 in
set_option maxHeartbeats 2000000 in
theorem at_any (W H : Int) (A : Option Addr) (n c : Nat) (l : List Int) (hn : l.length = n) (hc : n ≤ c) (hcm : c ≤ maxLen) (B : Nat) (w : World) (h : Us w B A l) (hB : B ≤ w.heap.size) (x y : Int) :
    Calls Try.prog 11 #[imgV W H A n c, .int .i64 x, .int .i64 y] w fun e w' => e = .returned (.tuple #[colV (atPx W H l x y), .bool (atOk W H n x y)]) ∧ Below w.heap.size w w' := by
  obtain ⟨W1, hW1, hi, hz, hb⟩ := two_boxes W H A n c w
  have HW1 := Lib.hid hW1
  have HI := Lib.hid hi
  have HZ := Lib.hid hz
  have HB := Lib.hid hb
  have HV := Lib.hid (Vs.below h (hb.mono hB))
  clear hW1 hi hz hb h
  go_enter Try.func11, Try.ntmps11
  go_upto_region 1 with (fail)
  rw [HW1.out]
  clear HW1
  have q0 := HI.out.c0; have q1 := HI.out.c1; have q2 := HI.out.c2
  go_wp2_with fail
  refine (good_any W H A n c W1).mono ?_
  rintro e w2 ⟨rfl, hb2⟩
  have HI2 := Lib.hid (HI.out.call hb2)
  have HZ2 := Lib.hid (HZ.out.call hb2)
  have HB2 := Lib.hid (HB.out.trans (hb2.mono HB.out.size))
  have HV2 := Lib.hid (Vs.below HV.out (hb2.mono (by have := HB.out.size; omega)))
  clear HI HZ HB HV hb2 q0 q1 q2
  cases hg : goodB W H n with
  | false =>
    have HE : Hid (atOk W H n x y = false ∧ atPx W H l x y = col0) := Lib.hid (by
      have e1 : atOk W H n x y = false := by simp [atOk, hg]
      exact ⟨e1, by unfold atPx; rw [hn, e1]; rfl⟩)
    obtain ⟨b0, d0, d1, d2, d3, f0, f1, f2, f3⟩ := HZ2.out
    have HP := Lib.hid (CB.put HZ2.out col0 w.heap.size (by omega))
    clear b0 hg
    go_wp2_with fail
    have n0 := HP.out.1.c0; have n1 := HP.out.1.c1; have n2 := HP.out.1.c2; have n3 := HP.out.1.c3
    refine bodyPost_ret (v := .tuple #[colV col0, .bool false]) (by simp [col0] at n0 n1 n2 n3; simp [col0, results, Try.results11, go_sem, n0, n1, n2, n3]) rfl ?_
    exact ⟨by rw [HE.out.1, HE.out.2], HB2.out.trans HP.out.2⟩
  | true =>
    obtain ⟨W, H, rfl, rfl, hn4, hf, hw1, hw2, hh1, hh2⟩ := goodB_nat hg
    have HG := Lib.hid hg
    obtain ⟨r, o, rfl, hrB, hsm⟩ := Us.smp HV2.out (by have := Nat.mul_pos hw1 hh1; omega)
    have HSM := Lib.hid hsm
    have q0 := HI2.out.c0; have q1 := HI2.out.c1; have q2 := HI2.out.c2
    have HHo := Lib.hid (sizesHolds_any (W : Int) (H : Int) x y 1 1 (by omega) (by omega) (by omega) (by omega) w2)
    clear hg hsm
    go_wp2_with fail
    refine HHo.out.mono ?_
    rintro e w3 ⟨rfl, hb3⟩
    have HI3 := Lib.hid (HI2.out.call hb3)
    have HZ3 := Lib.hid (HZ2.out.call hb3)
    have HB3 := Lib.hid (HB2.out.trans (hb3.mono HB2.out.size))
    have HS3 := Lib.hid (HSM.out.below hb3 (by have := HB2.out.size; omega))
    clear HI2 HZ2 HV2 hb3 q0 q1 q2 HHo HSM
    cases hi : inB x y 1 1 (W : Int) (H : Int) with
    | false =>
      have HE : Hid (atOk W H n x y = false ∧ atPx W H l x y = col0) := Lib.hid (by
        have e1 : atOk W H n x y = false := by simp [atOk, hi]
        exact ⟨e1, by unfold atPx; rw [hn, e1]; rfl⟩)
      obtain ⟨b0, d0, d1, d2, d3, f0, f1, f2, f3⟩ := HZ3.out
      have HP := Lib.hid (CB.put HZ3.out col0 w.heap.size (by omega))
      clear b0 hi
      go_wp2_with fail
      have n0 := HP.out.1.c0; have n1 := HP.out.1.c1; have n2 := HP.out.1.c2; have n3 := HP.out.1.c3
      refine bodyPost_ret (v := .tuple #[colV col0, .bool false]) (by simp [col0] at n0 n1 n2 n3; simp [col0, results, Try.results11, go_sem, n0, n1, n2, n3]) rfl ?_
      exact ⟨by rw [HE.out.1, HE.out.2], HB3.out.trans HP.out.2⟩
    | true =>
      obtain ⟨_, _, i3, i4, i5, i6⟩ := inB_bd hi
      obtain ⟨X, rfl⟩ : ∃ X : Nat, x = (X : Int) := ⟨x.toNat, by omega⟩
      obtain ⟨Y, rfl⟩ : ∃ Y : Nat, y = (Y : Int) := ⟨y.toNat, by omega⟩
      have HE : Hid (atOk W H n X Y = true ∧ atPx W H l X Y = pxAt l (4 * (Y * W + X))) := Lib.hid (by
        have e1 : atOk W H n X Y = true := by simp [atOk, hi, HG.out]
        exact ⟨e1, by unfold atPx; rw [hn, e1]; simp⟩)
      have HRun := Lib.hid (run_any hn hn4 hc hcm hf HS3.out X Y 1 (by omega) (by omega) (by omega))
      have q0 := HI3.out.c0; have q1 := HI3.out.c1; have q2 := HI3.out.c2
      have HPL := Lib.hid (show 4 * (Y * W + X) + 4 ≤ l.length by have := place_lt (W := W) (H := H) (X := X) (Y := Y) (n := 1) (by omega) (by omega); omega)
      clear hi i3 i4 i5 i6 hn4
      go_wp2_with fail
      refine HRun.out.mono ?_
      rintro e w4 ⟨rfl, hb4, hs4, _⟩
      obtain ⟨p0, p1, p2, p3⟩ := (HS3.out.below hb4 (by have := HB3.out.size; omega)).px (k := 4 * (Y * W + X)) HPL.out
      have HZ4 := Lib.hid (HZ3.out.call hb4)
      have HB4 := Lib.hid (HB3.out.trans (hb4.mono HB3.out.size))
      clear hs4 hb4 HI3 HZ3 HS3 q0 q1 q2 HRun
      have HC := Lib.hid (color_any r (o + 4 * (Y * W + X)) (4 * 1) (c - 4 * (Y * W + X)) _ (by omega) w4 p0 p1 p2 p3)
      clear p0 p1 p2 p3
      generalize pxAt l (4 * (Y * W + X)) = z at *
      go_wp2_with fail
      refine HC.out.mono ?_
      rintro e w5 ⟨rfl, hb5⟩
      have HZ5 := Lib.hid (HZ4.out.call hb5)
      have HB5 := Lib.hid (HB4.out.trans (hb5.mono HB4.out.size))
      clear hb5 HZ4 HC
      obtain ⟨b0, d0, d1, d2, d3, f0, f1, f2, f3⟩ := HZ5.out
      have HP := Lib.hid (CB.put HZ5.out z w.heap.size (by omega))
      clear b0
      go_wp2_with fail
      have n0 := HP.out.1.c0; have n1 := HP.out.1.c1; have n2 := HP.out.1.c2; have n3 := HP.out.1.c3
      refine bodyPost_ret (v := .tuple #[colV z, .bool true]) (by simp [results, Try.results11, go_sem, n0, n1, n2, n3]) rfl ?_
      exact ⟨by rw [HE.out.1, HE.out.2], HB5.out.trans HP.out.2⟩
set_option maxRecDepth 100000 in
set_option maxHeartbeats 2000000 in
theorem refAt_any (W H : Int) (A : Option Addr) (n c : Nat) (l : List Int) (hn : l.length = n) (B : Nat) (w : World) (h : Us w B A l) (hB : B ≤ w.heap.size) (x y : Int) :
    Calls Try.prog 13 #[imgV W H A n c, .int .i64 x, .int .i64 y] w fun e w' => e = .returned (.tuple #[colV (atPx W H l x y), .bool (atOk W H n x y)]) ∧ Below w.heap.size w w' := by
  obtain ⟨W1, hW1, hi, hz, hb⟩ := two_boxes W H A n c w
  have HW1 := Lib.hid hW1
  have HI := Lib.hid hi
  have HZ := Lib.hid hz
  have HB := Lib.hid hb
  have HV := Lib.hid (Vs.below h (hb.mono hB))
  clear hW1 hi hz hb h
  go_enter Try.func13, Try.ntmps13
  go_upto_region 1 with (fail)
  rw [HW1.out]
  clear HW1
  have q0 := HI.out.c0; have q1 := HI.out.c1; have q2 := HI.out.c2
  go_wp2_with fail
  refine (refGood_any W H A n c W1).mono ?_
  rintro e w2 ⟨rfl, hb2⟩
  have HI2 := Lib.hid (HI.out.call hb2)
  have HZ2 := Lib.hid (HZ.out.call hb2)
  have HB2 := Lib.hid (HB.out.trans (hb2.mono HB.out.size))
  have HV2 := Lib.hid (Vs.below HV.out (hb2.mono (by have := HB.out.size; omega)))
  clear HI HZ HB HV hb2 q0 q1 q2
  cases hok : atOk W H n x y with
  | false =>
    have HE : Hid (atOk W H n x y = false ∧ atPx W H l x y = col0) := Lib.hid ⟨hok, by unfold atPx; rw [hn, hok]; rfl⟩
    have hcase : Hid (goodB W H n = true → 0 ≤ x → 0 ≤ y → x < W → ¬ y < H) := Lib.hid (by
      intro g1 g2 g3 g4 g5
      have : inB x y 1 1 W H = true := by simp only [inB, Bool.and_eq_true, decide_eq_true_eq]; omega
      simp [atOk, g1, this] at hok)
    clear hok
    obtain ⟨b0, d0, d1, d2, d3, f0, f1, f2, f3⟩ := HZ2.out
    have HP := Lib.hid (CB.put HZ2.out col0 w.heap.size (by omega))
    have q0 := HI2.out.c0; have q1 := HI2.out.c1
    clear b0
    have n0 := HP.out.1.c0; have n1 := HP.out.1.c1; have n2 := HP.out.1.c2; have n3 := HP.out.1.c3
    simp only [col0] at n0 n1 n2 n3
    by_cases g1 : goodB W H n = true
    case neg =>
      have g1' : goodB W H n = false := by simpa using g1
      clear g1
      rw [g1']
      go_wp2_with fail
      refine bodyPost_ret (v := .tuple #[colV col0, .bool false]) (by simp [col0, results, Try.results13, go_sem, n0, n1, n2, n3]) rfl ?_
      exact ⟨by rw [HE.out.1, HE.out.2], HB2.out.trans HP.out.2⟩
    rw [g1]
    have G1 := Lib.hid g1
    clear g1
    by_cases g2 : 0 ≤ x
    case neg =>
      go_wp2_with fail
      refine bodyPost_ret (v := .tuple #[colV col0, .bool false]) (by simp [col0, results, Try.results13, go_sem, n0, n1, n2, n3]) rfl ?_
      exact ⟨by rw [HE.out.1, HE.out.2], HB2.out.trans HP.out.2⟩
    by_cases g3 : 0 ≤ y
    case neg =>
      go_wp2_with fail
      refine bodyPost_ret (v := .tuple #[colV col0, .bool false]) (by simp [col0, results, Try.results13, go_sem, n0, n1, n2, n3]) rfl ?_
      exact ⟨by rw [HE.out.1, HE.out.2], HB2.out.trans HP.out.2⟩
    by_cases g4 : x < W
    case neg =>
      go_wp2_with fail
      refine bodyPost_ret (v := .tuple #[colV col0, .bool false]) (by simp [col0, results, Try.results13, go_sem, n0, n1, n2, n3]) rfl ?_
      exact ⟨by rw [HE.out.1, HE.out.2], HB2.out.trans HP.out.2⟩
    have g5 := hcase.out G1.out g2 g3 g4
    go_wp2_with fail
    refine bodyPost_ret (v := .tuple #[colV col0, .bool false]) (by simp [col0, results, Try.results13, go_sem, n0, n1, n2, n3]) rfl ?_
    exact ⟨by rw [HE.out.1, HE.out.2], HB2.out.trans HP.out.2⟩
  | true =>
    have hg : goodB W H n = true := by simp only [atOk, Bool.and_eq_true] at hok; exact hok.1
    have hin : inB x y 1 1 W H = true := by simp only [atOk, Bool.and_eq_true] at hok; exact hok.2
    have HE : Hid (atOk W H n x y = true ∧ atPx W H l x y = pxAt l (4 * (y.toNat * W.toNat + x.toNat))) := Lib.hid ⟨hok, by unfold atPx; rw [hn, hok]; simp⟩
    rw [hg]
    obtain ⟨W, H, rfl, rfl, hn4, hf, hw1, hw2, hh1, hh2⟩ := goodB_nat hg
    obtain ⟨r, o, rfl, hrB, hsm⟩ := Us.smp HV2.out (by have := Nat.mul_pos hw1 hh1; omega)
    obtain ⟨_, _, i3, i4, i5, i6⟩ := inB_bd hin
    obtain ⟨X, rfl⟩ : ∃ X : Nat, x = (X : Int) := ⟨x.toNat, by omega⟩
    obtain ⟨Y, rfl⟩ : ∃ Y : Nat, y = (Y : Int) := ⟨y.toNat, by omega⟩
    simp only [Int.toNat_natCast] at HE
    have HPx := Lib.hid (pixel_any (c := c) hn hn4 hf hsm X Y (by omega) (by omega))
    have q0 := HI2.out.c0; have q1 := HI2.out.c1; have q2 := HI2.out.c2
    have g4 : (X : Int) < (W : Int) := by omega
    have g5 : (Y : Int) < (H : Int) := by omega
    clear hok hg hin hsm i3 i4 i5 i6 hn4
    generalize pxAt l (4 * (Y * W + X)) = z at *
    go_wp2_with fail
    refine HPx.out.mono ?_
    rintro e w5 ⟨rfl, hb5⟩
    have HZ5 := Lib.hid (HZ2.out.call hb5)
    have HB5 := Lib.hid (HB2.out.trans (hb5.mono HB2.out.size))
    clear hb5 HZ2 HPx
    obtain ⟨b0, d0, d1, d2, d3, f0, f1, f2, f3⟩ := HZ5.out
    have HP := Lib.hid (CB.put HZ5.out z w.heap.size (by omega))
    clear b0
    go_wp2_with fail
    have n0 := HP.out.1.c0; have n1 := HP.out.1.c1; have n2 := HP.out.1.c2; have n3 := HP.out.1.c3
    refine bodyPost_ret (v := .tuple #[colV z, .bool true]) (by simp [results, Try.results13, go_sem, n0, n1, n2, n3]) rfl ?_
    exact ⟨by rw [HE.out.1, HE.out.2], HB5.out.trans HP.out.2⟩
end Go.Proofs.Ytkfomjdmdgddlaa
