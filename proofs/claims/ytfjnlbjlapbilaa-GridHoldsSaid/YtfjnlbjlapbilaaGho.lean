/- A grid holds its cells, row by row, at each place, and none outside; what is set is held: for every size, every list of cells and every place. -/
import Derived.Test.YtfjnlbjlapbilaaGs
import Derived.Deep.CondSized
namespace Go.Proofs.Ytfjnlbjlapbilaa
open Go.ChangeShapes Go.WideShapes Go.ChangeAt Go.RowKit
namespace GridHolds

set_option maxHeartbeats 4000000 in
set_option maxRecDepth 100000 in
theorem walk (x y : Int) (A : Option Addr) (c : Nat) (l : List Int) (p q : Int) (w : World) (hx : -9223372036854775808 ≤ x ∧ x ≤ 9223372036854775807) (hy : -9223372036854775808 ≤ y ∧ y ≤ 9223372036854775807) (hbs : Is w w.heap.size A l) (_ : ∀ x ∈ l, -9223372036854775808 ≤ x ∧ x ≤ 9223372036854775807) (hl : l.length ≤ 17592186043904)
    (hp : -9223372036854775808 ≤ p ∧ p ≤ 9223372036854775807) (hq : -9223372036854775808 ≤ q ∧ q ≤ 9223372036854775807) :
    Calls Try.prog 3 #[.agg #[.int .i64 x, .int .i64 y, .slice A l.length c], .int .i64 p, .int .i64 q] w fun e w' => e = .returned (.bool true) ∧ Below w.heap.size w w' := by
  obtain ⟨n, hn⟩ : ∃ n, l.length = n := ⟨_, rfl⟩
  rw [hn] at hl ⊢
  go_enter Try.func3, Try.ntmps3
  go_wp2_with fail
  have HC0 := Lib.hid (CSt.new (x := x) (y := y) (c := c) (n := n) hbs)
  generalize w.alloc (.cells #[.int .i64 x, .int .i64 y, .slice A n c] 24) = W0 at *
  refine (wakes_any W0).mono ?_
  rintro e w1 ⟨rfl, hb1⟩
  have hc1 := HC0.out.next hb1
  have k0 := hc1.c0; have k1 := hc1.c1; have k2 := hc1.c2
  have HC1 := Lib.hid hc1
  clear hb1 HC0 hc1 hbs
  go_wp2_with fail
  refine (both_any x y A c n l hn (by omega) w.heap.size w1 HC1.out.is_ (by have := HC1.out.lt; omega)).mono ?_
  intro e w2 hB
  unfold BothR at hB
  by_cases hg : Good x y n
  case neg =>
    rw [if_neg hg] at hB
    obtain ⟨rfl, hb2⟩ := hB
    have HC2 := Lib.hid (HC1.out.next hb2)
    clear hb2 k0 k1 k2 hg
    go_wp2_with fail
    go_ret
    exact ⟨rfl, (HC2.out.bel.alloc HC2.out.bel.size _)⟩
  rw [if_pos hg] at hB
  obtain ⟨g, r, c', rfl, hga, hrg, hb2⟩ := hB
  obtain ⟨hm, hnm⟩ := hg
  obtain ⟨b1, b2, b3, b4, b5⟩ := mayB_bd hm
  obtain ⟨X, rfl⟩ : ∃ X : Nat, x = (X : Int) := ⟨x.toNat, by omega⟩
  obtain ⟨Y, rfl⟩ : ∃ Y : Nat, y = (Y : Int) := ⟨y.toNat, by omega⟩
  simp only [Int.toNat_natCast] at hga
  have HNM : Hid (X * Y = n) := Lib.hid (by rw [← Int.natCast_mul] at hnm; omega)
  have HC2 := Lib.hid (HC1.out.next hb2)
  have HGA := Lib.hid hga
  have hs1 := HC1.out.lt
  have hb2s := hb2.size
  clear hm hnm b5 hga hb2 k0 k1 k2 HC1
  go_wp2_with fail
  have hb3 := (Below.refl w2.heap.size w2).alloc (Nat.le_refl _) (.cells #[.int .i64 (X : Int), .int .i64 (Y : Int), .slice A n c] 27)
  have hbx := Blk.new w2 27 #[.int .i64 (X : Int), .int .i64 (Y : Int), .slice A n c]
  have HC3 := Lib.hid (HC2.out.next hb3)
  have HGA3 := Lib.hid (HGA.out.below hb3)
  have hs3 : (w2.alloc (.cells #[.int .i64 (X : Int), .int .i64 (Y : Int), .slice A n c] 27)).heap.size = w2.heap.size + 1 := by simp
  have HF := Lib.hid HGA.out.fresh
  have hfm := HGA.out.form.2.2
  have hglt := HGA.out.blk.lt
  clear hb3 HC2 HGA
  generalize w2.alloc (.cells #[.int .i64 (X : Int), .int .i64 (Y : Int), .slice A n c] 27) = W3 at *
  have HBX := Lib.hid hbx
  have hx3 := blk3 hbx (Below.refl _ _)
  have m0 := hx3.2.1; have m1 := hx3.2.2.1; have m2 := hx3.2.2.2
  clear hbx hx3
  have k0 := HC3.out.c0; have k1 := HC3.out.c1; have k2 := HC3.out.c2
  refine (at_any HGA3.out p q).mono ?_
  rintro e w4 ⟨rfl, hb4⟩
  have hx4 := blk3 HBX.out hb4
  clear m0 m1 m2 k0 k1 k2
  replace HBX := Lib.hid hx4.1
  replace HC3 := Lib.hid (HC3.out.next hb4)
  replace HGA3 := Lib.hid (HGA3.out.below hb4)
  have m0 := hx4.2.1; have m1 := hx4.2.2.1; have m2 := hx4.2.2.2
  have k0 := HC3.out.c0; have k1 := HC3.out.c1; have k2 := HC3.out.c2
  have hs34 := hb4.size
  clear hx4 hb4
  have hfl := HF.out
  have key : (inB p q 1 1 X Y = true ∧ 0 ≤ p ∧ 0 ≤ q ∧ p < X ∧ q < Y) ∨ (inB p q 1 1 X Y = false ∧ (¬ 0 ≤ p ∨ (0 ≤ p ∧ ¬ 0 ≤ q) ∨ (0 ≤ p ∧ 0 ≤ q ∧ ¬ p < X) ∨ (0 ≤ p ∧ 0 ≤ q ∧ p < X ∧ ¬ q < Y))) := by
    have h := inB_iff p q X Y
    cases hi : inB p q 1 1 X Y with
    | true => left; rw [hi] at h; simpa using h
    | false => right; rw [hi] at h; simp at h; refine ⟨rfl, ?_⟩; omega
  rcases key with ⟨hi, i1, i2, i3, i4⟩ | ⟨hi, h⟩
  case inr =>
    have HV : Hid (cellV l X Y p q = 0) := Lib.hid (by unfold cellV; rw [if_neg (by rw [hi]; simp)])
    have HSet := Lib.hid (fun W (hW : GridAt W w1.heap.size 87 3 g r c' X Y (intsV l)) => (set_any hW p q 123456))
    rw [HV.out, hi]
    have HI := Lib.hid hi
    clear hi HV
    rcases h with i1 | ⟨i1, i2⟩ | ⟨i1, i2, i3⟩ | ⟨i1, i2, i3, i4⟩
    all_goals
      go_wp2_with fail
      refine (same_true HGA3.out A c n HNM.out w.heap.size HC3.out.is_ (by have := HC3.out.lt; omega) (X : Int) (Y : Int) rfl rfl).mono ?_
      rintro e w5 ⟨rfl, hb5⟩
      have hx5 := blk3 HBX.out hb5
      have HBX5 := Lib.hid hx5.1
      have HC5 := Lib.hid (HC3.out.next hb5)
      have HGA5 := Lib.hid (HGA3.out.below hb5)
      have HSW := Lib.hid (HSet.out w5 HGA5.out)
      clear hx5 k0 k1 k2 i1 hb5 m0 m1 m2
      go_wp2_with fail
      refine HSW.out.mono ?_
      rintro e w6 ⟨rfl, w6', hb6, hw6, _⟩
      obtain rfl := hw6 HI.out
      rw [HI.out]
      have hx6 := blk3 HBX5.out hb6
      have m0 := hx6.2.1; have m1 := hx6.2.2.1; have m2 := hx6.2.2.2
      replace HC5 := Lib.hid (HC5.out.next hb6)
      replace HGA5 := Lib.hid (HGA5.out.below hb6)
      clear hw6 hx6 hb6 HBX5 HSW
      go_wp2_with fail
      refine (same_true HGA5.out A c n HNM.out w.heap.size HC5.out.is_ (by have := HC5.out.lt; omega) (X : Int) (Y : Int) rfl rfl).mono ?_
      rintro e w7 ⟨rfl, hb7⟩
      have HC7 := Lib.hid (HC5.out.next hb7)
      go_wp2_with fail
      go_ret
      exact ⟨rfl, HC7.out.bel⟩
  obtain ⟨P, rfl⟩ : ∃ P : Nat, p = (P : Int) := ⟨p.toNat, by omega⟩
  obtain ⟨Q, rfl⟩ : ∃ Q : Nat, q = (Q : Int) := ⟨q.toNat, by omega⟩
  have hP : P < X := by omega
  have hQ : Q < Y := by omega
  have hpl := place_lt (n := 1) (show P + 1 ≤ X by omega) hQ
  have hfw := HGA3.out.few
  rw [HNM.out] at hpl hfw
  have hFl : Q * X + P < l.length := by rw [hn]; exact hpl
  have hbq : 0 ≤ (Q : Int) * (X : Int) ∧ (Q : Int) * (X : Int) + (P : Int) < (n : Int) := by rw [← Int.natCast_mul]; omega
  obtain ⟨hbq1, hbq2⟩ := hbq
  have HV : Hid (cellV l X Y P Q = l[Q * X + P]) := Lib.hid (by unfold cellV; rw [if_pos hi]; simp [List.getD, List.getElem?_eq_getElem hFl])
  have HSet := Lib.hid (fun W (hW : GridAt W w1.heap.size 87 3 g r c' X Y (intsV l)) => (set_any hW P Q 123456))
  simp only [Int.toNat_natCast] at HSet
  obtain ⟨ad, rfl, hadb, hcl⟩ := Is.at_ HC3.out.is_ hFl
  have hFn : Q * X + P < n := hpl
  obtain ⟨v, hv⟩ : ∃ v, l[Q * X + P] = v := ⟨_, rfl⟩
  rw [hv] at HV hcl
  have HI := Lib.hid hi
  rw [HV.out, hi]
  have HVV := Lib.hid hv
  clear hi hv
  go_wp2_with fail
  refine (same_true HGA3.out (some ad) c n HNM.out w.heap.size HC3.out.is_ (by have := HC3.out.lt; omega) (X : Int) (Y : Int) rfl rfl).mono ?_
  rintro e w5 ⟨rfl, hb5⟩
  have hx5 := blk3 HBX.out hb5
  have m0 := hx5.2.1; have m1 := hx5.2.2.1; have m2 := hx5.2.2.2
  have HBX5 := Lib.hid hx5.1
  have HC5 := Lib.hid (HC3.out.next hb5)
  have HGA5 := Lib.hid (HGA3.out.below hb5)
  have HSW := Lib.hid (HSet.out w5 HGA5.out)
  have kk0 := HC5.out.c0; have kk1 := HC5.out.c1; have kk2 := HC5.out.c2
  have hcl5 : w5.cell? (ad.add (Q * X + P)) = some (.int .i64 v) := (hb5.cell (p := ad.add (Q * X + P)) (by rw [block_of_add]; have := HC3.out.lt; omega)).trans hcl
  have hs5 := hb5.size
  have hcc : n ≤ c ∨ True := .inr trivial
  clear hx5 k0 k1 k2 hb5 hcl hcc
  go_wp2_with fail
  refine HSW.out.mono ?_
  rintro e w6 ⟨rfl, w5', hb5', _, hw6⟩
  have hw6 := hw6 HI.out
  rw [HI.out]
  replace HC5 := Lib.hid (HC5.out.next hb5')
  replace HGA5 := Lib.hid (HGA5.out.below hb5')
  replace HBX5 := Lib.hid (HBX5.out.upd (Upd.of_fresh hb5') id)
  have hs55 := hb5'.size
  clear hb5' HSW
  have hrw := hfm.2
  have hrb := hfm.1
  have HGA6 := Lib.hid (HGA5.out.set (by omega) (Q * X + P) 123456)
  have hu6 := set1_upd w5' r (Q * X + P) (.int .i64 123456)
  rw [← hw6] at HGA6 hu6
  have hs1b := hs1
  have HC6 := Lib.hid (HC5.out.upd hu6 (fun k hk e => by omega))
  have HBX6 := Lib.hid (HBX5.out.upd hu6 (fun e => by omega))
  have m0 : w6.cell? ⟨w2.heap.size, 0, none⟩ = some (.int .i64 (X : Int)) := by rw [HBX6.out.cell]; rfl
  have m1 : w6.cell? ⟨w2.heap.size, 1, none⟩ = some (.int .i64 (Y : Int)) := by rw [HBX6.out.cell]; rfl
  have m2 : w6.cell? ⟨w2.heap.size, 2, none⟩ = some (.slice (some ad) n c) := by rw [HBX6.out.cell]; rfl
  have hs6 := hu6.size
  clear hw6 hu6 kk0 kk1 kk2 hcl5
  go_wp2_with fail
  refine (own_n (some ad) c n l hn w.heap.size w6 HC6.out.is_ (by have := HC6.out.lt; omega) (by omega)).mono ?_
  rintro e w7 ⟨A7, c7, rfl, o7, hb7⟩
  obtain ⟨r7, rfl, h71, h72, h73, h74⟩ := row_form o7 (by omega)
  have HC7 := Lib.hid (HC6.out.next hb7)
  have HGA7 := Lib.hid (HGA6.out.below hb7)
  have HBX7 := Lib.hid (HBX6.out.upd (Upd.of_fresh hb7) id)
  have f2 := HBX7.out.frozen 2
  have q2 : w7.cell? ⟨w2.heap.size, 2, none⟩ = some (.slice (some ad) n c) := by rw [HBX7.out.cell]; rfl
  have O7 := Lib.hid o7
  clear o7 m0 m1 m2 hb7
  have hu8 := set1_upd w7 w2.heap.size 2 (.slice (some ⟨r7, 0, none⟩) n c7)
  have hB8 : Blk (w7.setCell ⟨w2.heap.size, 2, none⟩ (.slice (some ⟨r7, 0, none⟩) n c7)) w2.heap.size 27 #[.int .i64 (X : Int), .int .i64 (Y : Int), .slice (some ⟨r7, 0, none⟩) n c7] := by simpa using HBX7.out.set_ 2 (.slice (some ⟨r7, 0, none⟩) n c7)
  have HC8 := Lib.hid (HC7.out.upd hu8 (fun k hk e => by omega))
  have HGA8 := Lib.hid (HGA7.out.upd hu8 (fun e => by have := HF.out; omega) (fun e => by omega))
  have o8 := own_upd O7.out hu8 (fun k hk e => by simp [Value.ownBlock] at hk; omega)
  have j0 := HC8.out.c0
  have j2 : (w7.setCell ⟨w2.heap.size, 2, none⟩ (.slice (some ⟨r7, 0, none⟩) n c7)).cell? ⟨w2.heap.size, 2, none⟩ = some (.slice (some ⟨r7, 0, none⟩) n c7) := by rw [hB8.cell]; rfl
  have jc := row_at o8 (Q * X + P) hFl
  have jf : (w7.setCell ⟨w2.heap.size, 2, none⟩ (.slice (some ⟨r7, 0, none⟩) n c7)).frozen? ⟨r7, Q * X + P, none⟩ = false := o8.frozenAt _
  have hu9 := set1_upd (w7.setCell ⟨w2.heap.size, 2, none⟩ (.slice (some ⟨r7, 0, none⟩) n c7)) r7 (Q * X + P) (.int .i64 123456)
  have o9 := row_set o8 (Q * X + P) 123456
  have hB9 := hB8.upd hu9 (fun e => by omega)
  have HC9 := Lib.hid (HC8.out.upd hu9 (fun k hk e => by omega))
  have HGA9 := Lib.hid (HGA8.out.upd hu9 (fun e => by omega) (fun e => by omega))
  have n0 : ((w7.setCell ⟨w2.heap.size, 2, none⟩ (.slice (some ⟨r7, 0, none⟩) n c7)).setCell ⟨r7, Q * X + P, none⟩ (.int .i64 123456)).cell? ⟨w2.heap.size, 0, none⟩ = some (.int .i64 (X : Int)) := by rw [hB9.cell]; rfl
  have n1 : ((w7.setCell ⟨w2.heap.size, 2, none⟩ (.slice (some ⟨r7, 0, none⟩) n c7)).setCell ⟨r7, Q * X + P, none⟩ (.int .i64 123456)).cell? ⟨w2.heap.size, 1, none⟩ = some (.int .i64 (Y : Int)) := by rw [hB9.cell]; rfl
  have n2 : ((w7.setCell ⟨w2.heap.size, 2, none⟩ (.slice (some ⟨r7, 0, none⟩) n c7)).setCell ⟨r7, Q * X + P, none⟩ (.int .i64 123456)).cell? ⟨w2.heap.size, 2, none⟩ = some (.slice (some ⟨r7, 0, none⟩) n c7) := by rw [hB9.cell]; rfl
  have HV9 := Lib.hid (Vs.of_own o9)
  clear hu8 hB8 o8 hu9 o9 hB9
  go_wp2_with fail
  generalize (w7.setCell ⟨w2.heap.size, 2, none⟩ (.slice (some ⟨r7, 0, none⟩) n c7)).setCell ⟨r7, Q * X + P, none⟩ (.int .i64 123456) = W9 at *
  refine (same_true HGA9.out (some ⟨r7, 0, none⟩) c7 n HNM.out W9.heap.size HV9.out (Nat.le_refl _) (X : Int) (Y : Int) rfl rfl).mono ?_
  rintro e wf ⟨rfl, hbf⟩
  have HCF := Lib.hid (HC9.out.next hbf)
  go_wp2_with fail
  go_ret
  exact ⟨rfl, HCF.out.bel⟩

set_option maxRecDepth 100000 in
theorem lifted (os : Os) (started : os.Started) (H : Type) (enc : TypeId × Value → H) :
    ReturnsInHanded {} Try.checked os 3 .any (Rows.gridHoldsSpec.pre6 enc Try.prog Try.f3 Rows.gridHoldsRow.domain false) (Rows.gridHoldsSpec.post enc Try.prog Try.f3 false true false false) := by
  refine returnsInHanded_of_change_sized (C := Try.checked) prog_own started (by kernel_rfl) Try.func3
    (ChangeSpec.witness6 (enc := enc) (C := Try.checked) false ⟨#[], #[.agg #[.int .i64 0, .int .i64 0, .slice none 0 0], .int .i64 0, .int .i64 0], []⟩ 8 (by kernel_rfl) (by kernel_rfl) (by kernel_rfl) (by kernel_rfl)) ?_
  intro W base args ds gs before hval0 hW hcnd hsz _
  have hval : ∀ (j : Nat) t v, Try.f3.params[j]? = some t → args[j]? = some v → Value.okWide Try.prog W .any base t v := hval0
  have hW' := hW
  obtain ⟨p, q, hA0, hV, rfl, hfz, hnd⟩ := hW
  have hA : DataW.TrodAll enc Try.prog W 0 (fun _ => true) true Try.f3.params.toList args.toList ds p := hA0
  rw [Try.params3] at hA hval
  obtain ⟨v0, vs0, d0, ds0, p0, q0, hargs, rfl, rfl, h0, r0⟩ := trodAll_cons hA
  obtain ⟨v1, vs1, d1, ds1, p1, q1, rfl, rfl, rfl, h1, r1⟩ := trodAll_cons r0
  obtain ⟨v2, vs2, d2, ds2, p2, q2, rfl, rfl, rfl, h2, r2⟩ := trodAll_cons r1
  obtain ⟨rfl, rfl, rfl⟩ := trodAll_nil r2
  obtain rfl : args = #[v0, v1, v2] := by cases args; simp_all
  obtain ⟨rfl, rfl⟩ := trodVars_none hV
  obtain ⟨x0, y0, A0, l0, c0, rfl, bx0, by0, hb0, hk0, hd0⟩ := open_cells (hval 0 24 v0 rfl rfl) h0
  obtain ⟨a1, rfl, rfl, rfl, w1⟩ := open_int Try.underlying3 (hval 1 3 v1 rfl rfl) h1
  obtain ⟨a2, rfl, rfl, rfl, w2⟩ := open_int Try.underlying3 (hval 2 3 v2 rfl rfl) h2
  have hl0 : l0.length ≤ 17592186043904 := by
    obtain ⟨_, _, _, rfl, hdd⟩ := hd0
    rcases hdd with ⟨_, rfl⟩ | ⟨e, s, rfl, hle⟩
    · simp
    · have hpz := sized_part hsz (j := 0) (t := 24) rfl rfl Try.underlying24
      have this : (e.length + s.length) * Try.prog.bytesOf 3 ≤ reachBytes := sized_slice hpz (j := 2) (t := 22) (e := 3) rfl rfl Try.underlying22
      rw [bytes_int] at this
      unfold reachBytes at this
      omega
  have lt0 : ∀ x ∈ p0, x.block < W.heap.size := by obtain ⟨m, hm⟩ := h0; exact DataW.trod_lt m _ _ _ hm
  clear hA0 hval0
  refine (walk x0 y0 A0 c0 l0 a1 a2 W bx0 by0 hb0 hk0 hl0 (bounds_i64 w1) (bounds_i64 w2)).mono fun e W' ⟨he, bel⟩ => ?_
  subst he
  exact ⟨_, rfl, _, _, _, [], _, [], hW', trodAll_mk1 (shut_bool Try.underlying4 _), (trodAll_cons_mk (Below.trod prog_laid (by kernel_rfl) (of_decide_eq_true (by kernel_rfl)) h0 bel lt0) (trodAll_cons_mk (shut_int Try.underlying3 w1) (trodAll_cons_mk (shut_int Try.underlying3 w2) trodAll_mk0))), rfl, bel.frame _, fun h => by cases h⟩

theorem over : Rows.gridHoldsRow.holds Try.pinned (OpenSpec.ofChange Rows.gridHoldsSpec) :=
  OpenClaim.holds_of_wide 3 Try.f3 rfl rfl rfl rfl rfl rfl rfl ⟨rfl, rfl, rfl, rfl, rfl⟩ rfl rfl rfl rfl rfl (by kernel_rfl) Try.func3 (by kernel_rfl)
    (of_decide_eq_true (by kernel_rfl)) (by unfold Func.isWrapper; first | (rw [if_pos (by decide +kernel)]; kernel_rfl) | (rw [if_neg (by decide +kernel)]; exact ⟨rfl, rfl⟩))
    (fun os started H enc _ => lifted os started H enc)
end GridHolds

theorem gridHolds_holds : Rows.GridHoldsSaid := GridHolds.over
#print axioms gridHolds_holds
end Go.Proofs.Ytfjnlbjlapbilaa
