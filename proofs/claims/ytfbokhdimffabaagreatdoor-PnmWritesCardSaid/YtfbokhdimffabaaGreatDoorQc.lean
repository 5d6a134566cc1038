/- Joined texts (a claim has at most 60 files): Qa Qb Qc. -/
import Derived.Test.YtfbokhdimffabaaGreatDoorAs
import Derived.Lib.Hide
import Derived.Lib.Walk
import Derived.WalkKit
import Derived.Handy
import Derived.Outline
import Derived.Lib.SliceRun
import Derived.BigQuiet
import Derived.Deep.QuietTactic
import Derived.Deep.LoopGhost
import Derived.Deep.RegionHeld3
import Derived.Deep.CutBlock
/- Samples as values; which sizes may be, which parts lie within, which images are good: the program's and the document's. -/
namespace Go.Proofs.YtfbokhdimffabaaGreatDoor
open Go.ChangeShapes Go.WideShapes Go.ChangeAt Go.RowKit

theorem ret_bl {a b : Bool} (h : a = b) : Ending.returned (.bool a) = .returned (.bool b) := by rw [h]
theorem add_off (b off j : Nat) : (⟨b, off, none⟩ : Addr).add j = ⟨b, off + j, none⟩ := by unfold Addr.add; split <;> simp_all
/-- Samples, as values. -/
def usV (l : List Int) : List Value := l.map fun n => .int .u16 n
theorem usV_length (l : List Int) : (usV l).length = l.length := by simp [usV]
theorem usV_get (l : List Int) (k : Nat) (hk : k < (usV l).length) : (usV l)[k] = .int .u16 (l[k]'(by simpa [usV] using hk)) := by simp [usV]
theorem usV_one (l : List Int) : ∀ u ∈ usV l, u.oneCell' = true := by
  intro u hu
  obtain ⟨b, _, rfl⟩ := List.mem_map.mp hu
  rfl
theorem usV_append (a b : List Int) : usV (a ++ b) = usV a ++ usV b := by simp [usV]
theorem usV_set (l : List Int) (k : Nat) (n : Int) : (usV l).set k (.int .u16 n) = usV (l.set k n) := by simp [usV, List.map_set]
theorem usV_part (l : List Int) (a b : Nat) : ((usV l).drop a).take b = usV ((l.drop a).take b) := by simp [usV]
/-- The slice value '.slice A l.length c' reads as the samples l. -/
def Us (w : World) (B : Nat) (A : Option Addr) (l : List Int) : Prop := Vs w B A (usV l)
theorem Us.at_ {w : World} {B : Nat} {A : Option Addr} {l : List Int} {k : Nat} (h : Us w B A l) (hk : k < l.length) : ∃ ad, A = some ad ∧ ad.block < B ∧ w.cell? (ad.add k) = some (.int .u16 l[k]) := by
  obtain ⟨ad, e, hb, hc⟩ := Vs.at_ (k := k) h (by rw [usV_length]; exact hk)
  exact ⟨ad, e, hb, by rw [hc, usV_get]⟩
theorem urow_at {w : World} {base : Nat} {e : TypeId} {g n c : Nat} {l : List Int} (h : w.ownsRow base e 1 (.slice (some ⟨g, 0, none⟩) n c) n (usV l)) (k : Nat) (hk : k < l.length) : w.cell? ⟨g, k, none⟩ = some (.int .u16 l[k]) := by
  have hl := own_len h
  rw [usV_length] at hl
  rw [h.cellAt k (by omega), List.getElem?_eq_getElem (by rw [usV_length]; exact hk), usV_get]
theorem urow_set {w : World} {base : Nat} {e : TypeId} {g n c : Nat} {l : List Int} (h : w.ownsRow base e 1 (.slice (some ⟨g, 0, none⟩) n c) n (usV l)) (k : Nat) (x : Int) : (w.setCell ⟨g, k, none⟩ (.int .u16 x)).ownsRow base e 1 (.slice (some ⟨g, 0, none⟩) n c) n (usV (l.set k x)) := by
  rw [← usV_set]
  exact (h.stored k _).1
theorem info_u16 : (Tryz.prog.info? 42).map (fun i => (i.zero, i.size, i.bytes)) = some (some (.int .u16 0), 1, 2) := by kernel_rfl
abbrev imgV (W H : Int) (A : Option Addr) (n c : Nat) : Value := .agg #[.int .i64 W, .int .i64 H, .slice A n c]
abbrev imgC (W H : Int) (A : Option Addr) (n c : Nat) : Array Value := #[.int .i64 W, .int .i64 H, .slice A n c]

def sideB (n : Int) : Bool := decide (1 ≤ n) && decide (n ≤ 4096)
def mayB (w h : Int) : Bool := sideB w && sideB h && decide (w * h ≤ 65536)
theorem mayB_bd {x y : Int} (h : mayB x y = true) : 1 ≤ x ∧ x ≤ 4096 ∧ 1 ≤ y ∧ y ≤ 4096 ∧ x * y ≤ 65536 := by
  simp only [mayB, sideB, Bool.and_eq_true, decide_eq_true_eq] at h
  omega
theorem side_any (n : Int) (w : World) : Calls Tryz.prog 70 #[.int .i64 n] w fun e w' => e = .returned (.bool (sideB n)) ∧ w' = w := by
  go_enter Tryz.func70, Tryz.ntmps70
  by_cases h1 : (1 : Int) ≤ n
  · go_wp2_with fail
    go_ret
    exact ⟨ret_bl (by simp [sideB, h1]), rfl⟩
  · go_wp2_with fail
    go_ret
    exact ⟨ret_bl (by simp [sideB]; omega), rfl⟩
theorem mayBe_any (x y : Int) (w : World) : Calls Tryz.prog 37 #[.int .i64 x, .int .i64 y] w fun e w' => e = .returned (.bool (mayB x y)) ∧ w' = w := by
  go_enter Tryz.func37, Tryz.ntmps37
  go_wp2_with fail
  refine (side_any x w).mono ?_
  rintro e w1 ⟨rfl, rfl⟩
  cases hx : sideB x with
  | false =>
    go_wp2_with fail
    go_ret
    exact ⟨ret_bl (by simp [mayB, hx]), rfl⟩
  | true =>
    go_wp2_with fail
    refine (side_any y w1).mono ?_
    rintro e w2 ⟨rfl, rfl⟩
    cases hy : sideB y with
    | false =>
      go_wp2_with fail
      go_ret
      exact ⟨ret_bl (by simp [mayB, hx, hy]), rfl⟩
    | true =>
      have HE : Hid (mayB x y = decide (x * y ≤ 65536)) := Lib.hid (by simp [mayB, hx, hy])
      have b1 : 0 ≤ x * y ∧ x * y ≤ 16777216 := by
        simp only [sideB, Bool.and_eq_true, decide_eq_true_eq] at hx hy
        have := Int.mul_le_mul hx.2 hy.2 (by omega) (by omega)
        have := Int.mul_nonneg (show 0 ≤ x by omega) (show 0 ≤ y by omega)
        omega
      have hwr : wrap64 (x * y) = x * y := IntWalk.wrap64_in _ (by omega)
      go_wp2_with fail
      go_ret
      exact ⟨ret_bl HE.out.symm, rfl⟩
/-- Does a part lie within? -/
def inB (x y w h W H : Int) : Bool := decide (1 ≤ w) && decide (1 ≤ h) && decide (0 ≤ x) && decide (0 ≤ y) && decide (x ≤ W - w) && decide (y ≤ H - h)
theorem inB_bd {x y p q W H : Int} (h : inB x y p q W H = true) : 1 ≤ p ∧ 1 ≤ q ∧ 0 ≤ x ∧ 0 ≤ y ∧ x + p ≤ W ∧ y + q ≤ H := by
  simp only [inB, Bool.and_eq_true, decide_eq_true_eq] at h
  omega
end Go.Proofs.YtfbokhdimffabaaGreatDoor

/- Which parts lie within, which images are good: the program's and the document's. -/
namespace Go.Proofs.YtfbokhdimffabaaGreatDoor
open Go.ChangeShapes Go.WideShapes Go.ChangeAt Go.RowKit

set_option maxRecDepth 100000 in
theorem fits_any (x y : Int) (w : World) : Calls Tryz.prog 63 #[.int .i64 x, .int .i64 y] w fun e w' => e = .returned (.bool (mayB x y)) ∧ w' = w := by
  go_enter Tryz.func63, Tryz.ntmps63
  by_cases h1 : (1 : Int) ≤ x
  case neg =>
    have HE : Hid (mayB x y = false) := Lib.hid (by simp [mayB, sideB, h1])
    go_wp2_with fail
    go_ret
    exact ⟨ret_bl HE.out.symm, rfl⟩
  by_cases h2 : (1 : Int) ≤ y
  case neg =>
    have HE : Hid (mayB x y = false) := Lib.hid (by simp [mayB, sideB, h2])
    go_wp2_with fail
    go_ret
    exact ⟨ret_bl HE.out.symm, rfl⟩
  by_cases h3 : x ≤ 4096
  case neg =>
    have HE : Hid (mayB x y = false) := Lib.hid (by simp [mayB, sideB, h3])
    go_wp2_with fail
    go_ret
    exact ⟨ret_bl HE.out.symm, rfl⟩
  by_cases h4 : y ≤ 4096
  case neg =>
    have HE : Hid (mayB x y = false) := Lib.hid (by simp [mayB, sideB, h4])
    go_wp2_with fail
    go_ret
    exact ⟨ret_bl HE.out.symm, rfl⟩
  have HE : Hid (mayB x y = decide (x * y ≤ 65536)) := Lib.hid (by simp [mayB, sideB, h1, h2, h3, h4])
  have b1 : 0 ≤ x * y ∧ x * y ≤ 16777216 := by
    have := Int.mul_le_mul h3 h4 (by omega) (by omega)
    have := Int.mul_nonneg (show 0 ≤ x by omega) (show 0 ≤ y by omega)
    omega
  have hwr : wrap64 (x * y) = x * y := IntWalk.wrap64_in _ (by omega)
  go_wp2_with fail
  go_ret
  exact ⟨ret_bl HE.out.symm, rfl⟩
/-- Is an image good, that has so many samples? -/
def goodB (W H : Int) (n : Nat) : Bool := mayB W H && decide ((n : Int) = 4 * W * H)
theorem four_mul (W H : Int) : 4 * W * H = 4 * (W * H) := Int.mul_assoc 4 W H
theorem four_wrap {W H : Int} (h : mayB W H = true) : wrap64 (4 * W) = 4 * W ∧ wrap64 (4 * W * H) = 4 * W * H := by
  obtain ⟨h1, h2, h3, h4, h5⟩ := mayB_bd h
  have := Int.mul_nonneg (show 0 ≤ W by omega) (show 0 ≤ H by omega)
  rw [four_mul]
  exact ⟨IntWalk.wrap64_in _ (by omega), IntWalk.wrap64_in _ (by omega)⟩
set_option maxRecDepth 100000 in
set_option maxHeartbeats 1000000 in
theorem good_any (W H : Int) (A : Option Addr) (n c : Nat) (w : World) : Calls Tryz.prog 53 #[imgV W H A n c] w fun e w' => e = .returned (.bool (goodB W H n)) ∧ Below w.heap.size w w' := by
  go_enter Tryz.func53, Tryz.ntmps53
  go_wp2_with fail
  have hx := Blk.new w 26 (imgC W H A n c)
  have HB := Lib.hid ((Below.refl w.heap.size w).alloc (Nat.le_refl _) (.cells (imgC W H A n c) 26))
  generalize w.alloc (.cells (imgC W H A n c) 26) = W1 at *
  have x0 := hx.cell 0; have x1 := hx.cell 1; have x2 := hx.cell 2
  simp only [List.getElem?_toArray, List.getElem?_cons_zero, List.getElem?_cons_succ] at x0 x1 x2
  clear hx
  go_wp2_with fail
  refine (mayBe_any W H W1).mono ?_
  rintro e w1 ⟨rfl, rfl⟩
  cases hm : mayB W H with
  | false =>
    have HE : Hid (goodB W H n = false) := Lib.hid (by simp [goodB, hm])
    go_wp2_with fail
    go_ret
    exact ⟨ret_bl HE.out.symm, HB.out⟩
  | true =>
    obtain ⟨e1, e2⟩ := four_wrap hm
    have HE : Hid (goodB W H n = decide ((n : Int) = 4 * W * H)) := Lib.hid (by simp [goodB, hm])
    clear hm
    by_cases hn : (n : Int) = 4 * W * H
    · have d1 : ((n : Int) == 4 * W * H) = true := by simp [hn]
      have HN := Lib.hid hn
      clear hn
      go_wp2_with fail
      go_ret
      exact ⟨ret_bl (by rw [HE.out]; simp [HN.out]), HB.out⟩
    · have d1 : ((n : Int) == 4 * W * H) = false := by simp [hn]
      have HN := Lib.hid hn
      clear hn
      go_wp2_with fail
      go_ret
      exact ⟨ret_bl (by rw [HE.out]; simp [HN.out]), HB.out⟩
set_option maxRecDepth 100000 in
set_option maxHeartbeats 1000000 in
theorem refGood_any (W H : Int) (A : Option Addr) (n c : Nat) (w : World) : Calls Tryz.prog 31 #[imgV W H A n c] w fun e w' => e = .returned (.bool (goodB W H n)) ∧ Below w.heap.size w w' := by
  go_enter Tryz.func31, Tryz.ntmps31
  go_wp2_with fail
  have hx := Blk.new w 26 (imgC W H A n c)
  have HB := Lib.hid ((Below.refl w.heap.size w).alloc (Nat.le_refl _) (.cells (imgC W H A n c) 26))
  generalize w.alloc (.cells (imgC W H A n c) 26) = W1 at *
  have x0 := hx.cell 0; have x1 := hx.cell 1; have x2 := hx.cell 2
  simp only [List.getElem?_toArray, List.getElem?_cons_zero, List.getElem?_cons_succ] at x0 x1 x2
  clear hx
  go_wp2_with fail
  refine (fits_any W H W1).mono ?_
  rintro e w1 ⟨rfl, rfl⟩
  cases hm : mayB W H with
  | false =>
    have HE : Hid (goodB W H n = false) := Lib.hid (by simp [goodB, hm])
    go_wp2_with fail
    go_ret
    exact ⟨ret_bl HE.out.symm, HB.out⟩
  | true =>
    obtain ⟨e1, e2⟩ := four_wrap hm
    have HE : Hid (goodB W H n = decide ((n : Int) = 4 * W * H)) := Lib.hid (by simp [goodB, hm])
    clear hm
    by_cases hn : (n : Int) = 4 * W * H
    · have d1 : ((n : Int) == 4 * W * H) = true := by simp [hn]
      have HN := Lib.hid hn
      clear hn
      go_wp2_with fail
      go_ret
      exact ⟨ret_bl (by rw [HE.out]; simp [HN.out]), HB.out⟩
    · have d1 : ((n : Int) == 4 * W * H) = false := by simp [hn]
      have HN := Lib.hid hn
      clear hn
      go_wp2_with fail
      go_ret
      exact ⟨ret_bl (by rw [HE.out]; simp [HN.out]), HB.out⟩
end Go.Proofs.YtfbokhdimffabaaGreatDoor

/- Copies of images; two images compared. -/
namespace Go.Proofs.YtfbokhdimffabaaGreatDoor
open Go.ChangeShapes Go.WideShapes Go.ChangeAt Go.RowKit

theorem set3 {w : World} {g : Nat} {t : TypeId} {a b c : Value} (h : Blk w g t #[a, b, c]) (x y z : Value) : Blk (((w.setCell ⟨g, 0, none⟩ x).setCell ⟨g, 1, none⟩ y).setCell ⟨g, 2, none⟩ z) g t #[x, y, z] := by
  simpa using ((h.set_ 0 x).set_ 1 y).set_ 2 z
theorem set3_upd (w : World) (g : Nat) (x y z : Value) : Upd (· = g) w (((w.setCell ⟨g, 0, none⟩ x).setCell ⟨g, 1, none⟩ y).setCell ⟨g, 2, none⟩ z) :=
  (((Upd.refl (· = g) w).setCell (p := ⟨g, 0, none⟩) (fun _ => rfl) _).setCell (p := ⟨g, 1, none⟩) (fun _ => rfl) _).setCell (p := ⟨g, 2, none⟩) (fun _ => rfl) _
/-- An image's box, and what it holds. -/
structure IB (w : World) (g : Nat) (x y z : Value) : Prop where
  blk : Blk w g 26 #[x, y, z]
  c0 : w.cell? ⟨g, 0, none⟩ = some x
  c1 : w.cell? ⟨g, 1, none⟩ = some y
  c2 : w.cell? ⟨g, 2, none⟩ = some z
  f0 : w.frozen? ⟨g, 0, none⟩ = false
  f1 : w.frozen? ⟨g, 1, none⟩ = false
  f2 : w.frozen? ⟨g, 2, none⟩ = false
theorem IB.of {w : World} {g : Nat} {x y z : Value} (h : Blk w g 26 #[x, y, z]) : IB w g x y z :=
  ⟨h, by rw [h.cell]; rfl, by rw [h.cell]; rfl, by rw [h.cell]; rfl, h.frozen 0, h.frozen 1, h.frozen 2⟩
theorem own_low {w : World} {base b : Nat} {e : TypeId} {size n : Nat} {v : Value} {xs : List Value} (h : w.ownsRow base e size v n xs) (hb : b ≤ base) : w.ownsRow b e size v n xs := by
  obtain ⟨q1, q2⟩ := h
  refine ⟨q1, ?_⟩
  rcases q2 with q | ⟨g', cap, cur, q1, q2, q3⟩
  · exact .inl q
  · exact .inr ⟨g', cap, cur, q1, by omega, q3⟩
set_option maxRecDepth 100000 in
set_option maxHeartbeats 1000000 in
theorem copy_any (W H : Int) (A : Option Addr) (n c : Nat) (l : List Int) (hn : l.length = n) (B : Nat) (w : World) (h : Us w B A l) (hB : B ≤ w.heap.size) (h47 : n * 2 ≤ 140737488355328) :
    Calls Tryz.prog 12 #[imgV W H A n c] w fun e w' => ∃ A' c', e = .returned (imgV W H A' n c') ∧ w'.ownsRow w.heap.size 42 1 (.slice A' n c') n (usV l) ∧ Below w.heap.size w w' := by
  obtain ⟨i0, hi, hz0, hz1, hz2⟩ := info_parts info_u16
  go_enter Tryz.func12, Tryz.ntmps12
  have hb0 := (Blk.new w 26 (imgC W H A n c)).alloc (.cells (imgC 0 0 none 0 0) 26)
  have hb1 := Blk.new (w.alloc (.cells (imgC W H A n c) 26)) 26 (imgC 0 0 none 0 0)
  have hbb := ((Below.refl w.heap.size w).alloc (Nat.le_refl _) (.cells (imgC W H A n c) 26)).alloc (by simp) (.cells (imgC 0 0 none 0 0) 26)
  rw [World.size_alloc] at hb1
  go_upto_region 1 with (fail)
  generalize (w.alloc (.cells (imgC W H A n c) 26)).alloc (.cells (imgC 0 0 none 0 0) 26) = W1 at *
  have HS : Hid (w.heap.size + 1 < W1.heap.size) := Lib.hid hb1.lt
  have k2 := fun o => (IB.of (hb0.alloc o)).c2
  have HB0 := Lib.hid hb0
  have HB1 := Lib.hid hb1
  have HBB := Lib.hid hbb
  have HV := Lib.hid (Vs.below h (hbb.mono hB))
  have hBs := hbb.size
  clear hb0 hb1 hbb h
  have hlit := Lib.hid (World.ownsRow_made (base := W1.heap.size) (e := 42) (size := 1) W1 #[] 0 (Nat.le_refl _) (by unfold maxLen; omega) rfl)
  have HLN := Lib.hid ((usV_length l).trans hn)
  go_wp2_with (at_builtin; refine wpList_append_vs _ rfl (.tmp 3) (.tmp 5) _ rfl W1.heap.size 42 i0 (.int .u16 0) 2 Tryz.underlying24 hi hz0 hz1 hz2 rfl (.slice (some ⟨W1.heap.size, 0, none⟩) 0 0) 0 [] rfl hlit.out B A n c (usV l) HLN.out rfl (Vs.alloc HV.out (by omega) _) (usV_one l) (by unfold maxLen; omega) (by omega) (by simp) ?_; intro A1 c1 w1 o1 hg1 _; simp only [Nat.zero_add, List.nil_append] at o1 ⊢; have HU1 := Lib.hid (((Upd.refl (fun k => some k = (Value.slice (some ⟨W1.heap.size, 0, none⟩) 0 0).ownBlock) W1).alloc _).trans (Upd.of_grown hg1)); have hbk := IB.of (HB0.out.upd HU1.out (by simp [Value.ownBlock]; have := HS.out; omega)); have k0 := hbk.c0; have k1 := hbk.c1; have k3 := hbk.c2; have q2 := hbk.f2; have hbz := IB.of (HB1.out.upd HU1.out (by simp [Value.ownBlock]; have := HS.out; omega)); have j0 := hbz.c0; have j1 := hbz.c1; have j2 := hbz.c2; have e0 := hbz.f0; have e1 := hbz.f1; have e2 := hbz.f2; have HZ1 := Lib.hid hbz.blk; have HG1 := Lib.hid hg1; clear hbk hbz hg1)
  have hu2 := (Upd.refl (· = w.heap.size) w1).setCell (p := ⟨w.heap.size, 2, none⟩) (fun _ => rfl) (.slice A1 n c1)
  have hz9 := set3 (HZ1.out.upd hu2 (by omega)) (.int .i64 W) (.int .i64 H) (.slice A1 n c1)
  have hu9 := set3_upd (w1.setCell ⟨w.heap.size, 2, none⟩ (.slice A1 n c1)) (w.heap.size + 1) (.int .i64 W) (.int .i64 H) (.slice A1 n c1)
  have n0 := (IB.of hz9).c0; have n1 := (IB.of hz9).c1; have n2 := (IB.of hz9).c2
  refine bodyPost_ret (v := imgV W H A1 n c1) (by simp [results, Tryz.results12, go_sem, n0, n1, n2]) rfl ?_
  have hs := HS.out
  refine ⟨A1, c1, rfl, ?_, ?_⟩
  · exact own_low (own_upd (own_upd o1 hu2 (fun k hk e => by have := (o1.lt k hk).1; omega)) hu9 (fun k hk e => by have := (o1.lt k hk).1; omega)) hBs
  · have hs1 := HU1.out.size
    exact ((HBB.out.trans (HU1.out.below hBs (fun k hk e => by simp [Value.ownBlock] at e; omega))).trans (hu2.below (by omega) (fun k hk e => by omega))).trans (hu9.below (by simp; omega) (fun k hk e => by omega))
theorem copy_n (W H : Int) (A : Option Addr) (n c : Nat) (l : List Int) (hn : l.length = n) (B : Nat) (w : World) (h : Us w B A l) (hB : B ≤ w.heap.size) (h47 : n * 2 ≤ 140737488355328) (w0 : World) (h0 : w0.heap.size = w.heap.size + 2) (hb : Below w.heap.size w w0) :
    Calls Tryz.prog 12 #[imgV W H A n c] w0 fun e w' => ∃ A' c', e = .returned (imgV W H A' n c') ∧ w'.ownsRow w.heap.size 42 1 (.slice A' n c') n (usV l) ∧ Upd No w0 w' ∧ ∀ k, A'.map (·.block) = some k → w.heap.size + 2 ≤ k := by
  refine (copy_any W H A n c l hn B w0 (Vs.below h (hb.mono hB)) (by omega) h47).mono ?_
  rintro e w' ⟨A1, c1, rfl, ho, hbw⟩
  exact ⟨A1, c1, rfl, own_low ho (by omega), Upd.of_fresh hbw, fun k hk => by have := (row_lt ho k hk).1; omega⟩
end Go.Proofs.YtfbokhdimffabaaGreatDoor
