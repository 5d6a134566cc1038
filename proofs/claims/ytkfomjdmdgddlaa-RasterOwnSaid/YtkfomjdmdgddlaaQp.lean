/- The small trial of layer 9's statements. -/
import Derived.Test.YtkfomjdmdgddlaaQo
namespace Go.Proofs.Ytkfomjdmdgddlaa
open Go.ChangeShapes Go.WideShapes Go.ChangeAt Go.RowKit

/-- A row's room. -/
theorem row_room {w : World} {base : Nat} {e : TypeId} {s : Nat} {A : Option Addr} {n c : Nat} {xs : List Value} (h : w.ownsRow base e s (.slice A n c) n xs) : n ≤ c ∧ c ≤ maxLen := by
  rcases h.2 with ⟨h1, rfl⟩ | ⟨g, cap, cur, h1, _, _, h2, h3, _⟩
  · injection h1 with _ _ h1
    subst h1
    exact ⟨Nat.le_refl _, Nat.zero_le _⟩
  · injection h1 with _ _ h1
    subst h1
    exact ⟨h2, h3⟩
abbrev col1 : Col := ⟨1, 2, 3, 4⟩
abbrev pix2 : List Int := [1, 2, 3, 4, 1, 2, 3, 4]
theorem wk_fill (w : World) : Calls Try.prog 18 #[.int .i64 2, .int .i64 1, .agg #[.int .u16 1, .int .u16 2, .int .u16 3, .int .u16 4]] w fun e w' => ∃ A c, e = .returned (.tuple #[imgV 2 1 A 8 c, .int .i64 0]) ∧ w'.ownsRow w.heap.size 28 1 (.slice A 8 c) 8 (usV pix2) ∧ Below w.heap.size w w' := by
  refine (fill_any 2 1 col1 w).mono ?_
  intro e w' h
  rw [show fillI 2 1 col1 = ⟨2, 1, 0, pix2⟩ by rfl] at h
  exact h
theorem wk_own (w : World) (B : Nat) (A : Option Addr) (c : Nat) (h : Us w B A pix2) (hB : B ≤ w.heap.size) : Calls Try.prog 12 #[imgV 2 1 A 8 c] w fun e w' => ∃ A' c', e = .returned (imgV 2 1 A' 8 c') ∧ w'.ownsRow w.heap.size 28 1 (.slice A' 8 c') 8 (usV pix2) ∧ Below w.heap.size w w' :=
  own_any 2 1 A 8 c pix2 rfl B w h hB (by omega)
theorem wk_good (w : World) (A : Option Addr) (c : Nat) : Calls Try.prog 14 #[imgV 2 1 A 8 c] w fun e w' => e = .returned (.bool true) ∧ Below w.heap.size w w' := by
  refine (good_any 2 1 A 8 c w).mono ?_
  rintro e w' ⟨rfl, h⟩
  exact ⟨ret_bl (by decide), h⟩
theorem wk_good0 (w : World) : Calls Try.prog 14 #[imgV 0 0 none 0 0] w fun e w' => e = .returned (.bool false) ∧ Below w.heap.size w w' := by
  refine (good_any 0 0 none 0 0 w).mono ?_
  rintro e w' ⟨rfl, h⟩
  exact ⟨ret_bl (by decide), h⟩
theorem wk_at (w : World) (base : Nat) (A : Option Addr) (c : Nat) (h : w.ownsRow base 28 1 (.slice A 8 c) 8 (usV pix2)) : Calls Try.prog 11 #[imgV 2 1 A 8 c, .int .i64 1, .int .i64 0] w fun e w' => e = .returned (.tuple #[.agg #[.int .u16 1, .int .u16 2, .int .u16 3, .int .u16 4], .bool true]) ∧ Below w.heap.size w w' := by
  refine (at_any 2 1 A 8 c pix2 rfl (row_room h).1 (row_room h).2 w.heap.size w (Vs.of_own h) (Nat.le_refl _) 1 0).mono ?_
  rintro e w' ⟨rfl, hb⟩
  refine ⟨?_, hb⟩
  rw [show atPx 2 1 pix2 1 0 = col1 by rfl, show atOk 2 1 8 1 0 = true by decide]
theorem wk_crop (w : World) (base : Nat) (A : Option Addr) (c : Nat) (h : w.ownsRow base 28 1 (.slice A 8 c) 8 (usV pix2)) : Calls Try.prog 20 #[imgV 2 1 A 8 c, .agg #[.int .i64 1, .int .i64 0, .int .i64 1, .int .i64 1]] w fun e w' => ∃ A' c', e = .returned (.tuple #[imgV 1 1 A' 4 c', .int .i64 0]) ∧ w'.ownsRow w.heap.size 28 1 (.slice A' 4 c') 4 (usV [1, 2, 3, 4]) ∧ Below w.heap.size w w' := by
  refine (crop_any 2 1 A 8 c pix2 rfl (row_room h).1 (row_room h).2 w.heap.size w (Vs.of_own h) (Nat.le_refl _) 1 0 1 1 (by omega) (by omega)).mono ?_
  intro e w' hi
  rw [show cropI 2 1 pix2 1 0 1 1 = ⟨1, 1, 0, [1, 2, 3, 4]⟩ by rfl] at hi
  exact hi
theorem wk_dist (w : World) (base : Nat) (A : Option Addr) (c : Nat) (h : w.ownsRow base 28 1 (.slice A 8 c) 8 (usV pix2)) : Calls Try.prog 31 #[imgV 2 1 A 8 c] w fun e w' => ∃ A' c', e = .returned (.slice A' 1 c') ∧ Below w.heap.size w w' := by
  refine (distinct_any 2 1 A 8 c pix2 rfl (row_room h).1 (by decide) w.heap.size w (Vs.of_own h) (Nat.le_refl _)).mono ?_
  rintro e w' ⟨A', c', he, _, hb⟩
  rw [show disL 2 1 pix2 = [col1] by rfl] at he
  exact ⟨A', c', he, hb⟩
set_option maxRecDepth 100000 in
set_option maxHeartbeats 2000000 in
theorem wakes_any (w : World) : Calls Try.prog 10 #[] w fun e w' => e = .returned (.bool true) ∧ Below w.heap.size w w' := by
  go_enter Try.func10, Try.ntmps10
  go_wp2_with fail
  refine (wk_fill w).mono ?_
  rintro e w1 ⟨A, c, rfl, ho, hb⟩
  obtain ⟨r, rfl, hrc, hrm, hr1, hr2⟩ := row_form ho (by omega)
  obtain ⟨w2, hw2, hi, hb2⟩ := newImg 2 1 (some ⟨r, 0, none⟩) 8 c w1
  have HW2 := Lib.hid hw2
  have HI := Lib.hid hi
  have HO := Lib.hid (own_upd ho (Upd.of_fresh hb2) (fun _ _ => id))
  have HB := Lib.hid (hb.trans (hb2.mono hb.size))
  clear hw2 hi ho hb hb2
  go_upto_region 2 with (fail)
  rw [HW2.out]
  clear HW2
  have q0 := HI.out.c0; have q1 := HI.out.c1; have q2 := HI.out.c2
  go_wp2_with fail
  refine (wk_own w2 w2.heap.size (some ⟨r, 0, none⟩) c (Vs.of_own HO.out) (Nat.le_refl _)).mono ?_
  rintro e w3 ⟨A3, c3, rfl, _, hb3⟩
  have HI3 := Lib.hid (HI.out.call hb3)
  have HO3 := Lib.hid (own_upd HO.out (Upd.of_fresh hb3) (fun _ _ => id))
  have HB3 := Lib.hid (HB.out.trans (hb3.mono HB.out.size))
  clear HI HO HB hb3 q0 q1 q2
  go_wp2_with fail
  refine (wk_good w3 A3 c3).mono ?_
  rintro e w4 ⟨rfl, hb4⟩
  have HI4 := Lib.hid (HI3.out.call hb4)
  have HO4 := Lib.hid (own_upd HO3.out (Upd.of_fresh hb4) (fun _ _ => id))
  have HB4 := Lib.hid (HB3.out.trans (hb4.mono HB3.out.size))
  clear HI3 HO3 HB3 hb4
  have q2 := HI4.out.c2
  have q6 : w4.cell? ⟨r, 6, none⟩ = some (.int .u16 3) := urow_at HO4.out 6 (by decide)
  go_wp2_with fail
  refine (wk_good0 w4).mono ?_
  rintro e w5 ⟨rfl, hb5⟩
  have HI5 := Lib.hid (HI4.out.call hb5)
  have HO5 := Lib.hid (own_upd HO4.out (Upd.of_fresh hb5) (fun _ _ => id))
  have HB5 := Lib.hid (HB4.out.trans (hb5.mono HB4.out.size))
  clear HI4 HO4 HB4 hb5 q2 q6
  have q0 := HI5.out.c0; have q1 := HI5.out.c1; have q2 := HI5.out.c2
  go_wp2_with fail
  refine (wk_own w5 w5.heap.size (some ⟨r, 0, none⟩) c (Vs.of_own HO5.out) (Nat.le_refl _)).mono ?_
  rintro e w6 ⟨A6, c6, rfl, ho6, hb6⟩
  have HI6 := Lib.hid (HI5.out.call hb6)
  have HO6 := Lib.hid (own_upd HO5.out (Upd.of_fresh hb6) (fun _ _ => id))
  have HB6 := Lib.hid (HB5.out.trans (hb6.mono HB5.out.size))
  have HA6 := Lib.hid ho6
  clear HI5 HO5 HB5 hb6 ho6 q0 q1 q2
  go_wp2_with fail
  refine (wk_at w6 _ A6 c6 HA6.out).mono ?_
  rintro e w7 ⟨rfl, hb7⟩
  have HI7 := Lib.hid (HI6.out.call hb7)
  have HO7 := Lib.hid (own_upd HO6.out (Upd.of_fresh hb7) (fun _ _ => id))
  have HB7 := Lib.hid (HB6.out.trans (hb7.mono HB6.out.size))
  clear HI6 HO6 HB6 HA6 hb7
  have hbx := (Below.refl w7.heap.size w7).alloc (Nat.le_refl _) (.cells #[.int .u16 1, .int .u16 2, .int .u16 3, .int .u16 4] 30)
  have hcx := CB.of (x := col1) (Blk.new w7 30 #[.int .u16 1, .int .u16 2, .int .u16 3, .int .u16 4])
  obtain ⟨w8, hw8⟩ : ∃ w8, w7.alloc (.cells #[.int .u16 1, .int .u16 2, .int .u16 3, .int .u16 4] 30) = w8 := ⟨_, rfl⟩
  rw [hw8] at hbx hcx
  have HW8 := Lib.hid hw8
  have HI8 := Lib.hid (HI7.out.call hbx)
  have HO8 := Lib.hid (own_upd HO7.out (Upd.of_fresh hbx) (fun _ _ => id))
  have HB8 := Lib.hid (HB7.out.trans (hbx.mono HB7.out.size))
  have HC8 := Lib.hid hcx
  clear hw8 hbx hcx HI7 HO7 HB7
  go_upto_region 5 with (fail)
  rw [HW8.out]
  clear HW8
  have q0 := HI8.out.c0; have q1 := HI8.out.c1; have q2 := HI8.out.c2
  go_wp2_with fail
  refine (wk_own w8 w8.heap.size (some ⟨r, 0, none⟩) c (Vs.of_own HO8.out) (Nat.le_refl _)).mono ?_
  rintro e w9 ⟨A9, c9, rfl, ho9, hb9⟩
  have HI9 := Lib.hid (HI8.out.call hb9)
  have HO9 := Lib.hid (own_upd HO8.out (Upd.of_fresh hb9) (fun _ _ => id))
  have HB9 := Lib.hid (HB8.out.trans (hb9.mono HB8.out.size))
  have HC9 := Lib.hid (HC8.out.call hb9)
  have HA9 := Lib.hid ho9
  clear HI8 HO8 HB8 HC8 hb9 ho9 q0 q1 q2
  go_wp2_with fail
  refine (wk_crop w9 _ A9 c9 HA9.out).mono ?_
  rintro e w10 ⟨A10, c10, rfl, _, hb10⟩
  have HI10 := Lib.hid (HI9.out.call hb10)
  have HO10 := Lib.hid (own_upd HO9.out (Upd.of_fresh hb10) (fun _ _ => id))
  have HB10 := Lib.hid (HB9.out.trans (hb10.mono HB9.out.size))
  have HC10 := Lib.hid (HC9.out.call hb10)
  clear HI9 HO9 HB9 HC9 HA9 hb10
  obtain ⟨w11, hw11, hi11, hb11⟩ := newImg 1 1 A10 4 c10 w10
  have HW11 := Lib.hid hw11
  have HI11 := Lib.hid (HI10.out.call hb11)
  have HO11 := Lib.hid (own_upd HO10.out (Upd.of_fresh hb11) (fun _ _ => id))
  have HB11 := Lib.hid (HB10.out.trans (hb11.mono HB10.out.size))
  have HC11 := Lib.hid (HC10.out.call hb11)
  have HP11 := Lib.hid hi11
  clear hw11 hi11 hb11 HI10 HO10 HB10 HC10
  go_upto_region 6 with (fail)
  rw [HW11.out]
  clear HW11
  have x3 := HC11.out.c3
  have p0 := HP11.out.c0
  have q0 := HI11.out.c0; have q1 := HI11.out.c1; have q2 := HI11.out.c2
  go_wp2_with fail
  refine (wk_own w11 w11.heap.size (some ⟨r, 0, none⟩) c (Vs.of_own HO11.out) (Nat.le_refl _)).mono ?_
  rintro e w12 ⟨A12, c12, rfl, ho12, hb12⟩
  have HB12 := Lib.hid (HB11.out.trans (hb12.mono HB11.out.size))
  have HA12 := Lib.hid ho12
  clear HI11 HO11 HB11 HC11 HP11 hb12 ho12 q0 q1 q2 x3 p0
  go_wp2_with fail
  refine (wk_dist w12 _ A12 c12 HA12.out).mono ?_
  rintro e w13 ⟨A13, c13, rfl, hb13⟩
  have HB13 := Lib.hid (HB12.out.trans (hb13.mono HB12.out.size))
  clear HB12 HA12 hb13
  go_wp2_with fail
  go_ret
  exact ⟨rfl, HB13.out⟩
end Go.Proofs.Ytkfomjdmdgddlaa
