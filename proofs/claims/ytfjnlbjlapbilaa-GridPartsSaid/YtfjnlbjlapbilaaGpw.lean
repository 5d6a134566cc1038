/- Parts are cut out and laid in at their places, and only where they lie within: for every two sizes with their cells and every rectangle, no condition. -/
import Derived.Test.YtfjnlbjlapbilaaGps
import Derived.Test.YtfjnlbjlapbilaaGp
import Derived.Deep.CondSized
import Derived.Deep.CutBlock
namespace Go.Proofs.Ytfjnlbjlapbilaa
open Go.ChangeShapes Go.WideShapes Go.ChangeAt Go.RowKit
namespace GridParts

theorem ret_tt {a : Bool} (h : a = true) : Ending.returned (.bool a) = .returned (.bool true) := by rw [h]
set_option maxHeartbeats 8000000 in
set_option maxRecDepth 100000 in
theorem walk (x y : Int) (A : Option Addr) (c : Nat) (l : List Int) (x' y' : Int) (A' : Option Addr) (c' : Nat) (l' : List Int) (a b p q : Int) (w : World) (hx : -9223372036854775808 ≤ x ∧ x ≤ 9223372036854775807) (hy : -9223372036854775808 ≤ y ∧ y ≤ 9223372036854775807) (hbs : Is w w.heap.size A l) (_ : ∀ x ∈ l, -9223372036854775808 ≤ x ∧ x ≤ 9223372036854775807) (hl : l.length ≤ 17592186043904)
    (hx' : -9223372036854775808 ≤ x' ∧ x' ≤ 9223372036854775807) (hy' : -9223372036854775808 ≤ y' ∧ y' ≤ 9223372036854775807) (hbs' : Is w w.heap.size A' l') (_ : ∀ x ∈ l', -9223372036854775808 ≤ x ∧ x ≤ 9223372036854775807) (hl' : l'.length ≤ 17592186043904)
    (_ : -9223372036854775808 ≤ a ∧ a ≤ 9223372036854775807) (_ : -9223372036854775808 ≤ b ∧ b ≤ 9223372036854775807) (hp : -9223372036854775808 ≤ p ∧ p ≤ 9223372036854775807) (hq : -9223372036854775808 ≤ q ∧ q ≤ 9223372036854775807) :
    Calls Try.prog 4 #[.agg #[.int .i64 x, .int .i64 y, .slice A l.length c], .agg #[.int .i64 x', .int .i64 y', .slice A' l'.length c'], .agg #[.int .i64 a, .int .i64 b, .int .i64 p, .int .i64 q]] w fun e w' => e = .returned (.bool true) ∧ Below w.heap.size w w' := by
  obtain ⟨n, hn⟩ : ∃ n, l.length = n := ⟨_, rfl⟩
  rw [hn] at hl ⊢
  obtain ⟨n', hn'⟩ : ∃ n', l'.length = n' := ⟨_, rfl⟩
  rw [hn'] at hl' ⊢
  go_enter Try.func4, Try.ntmps4
  go_wp2_with fail
  have HS0 := Lib.hid (PSt.new (x := x) (y := y) (c := c) (n := n) (x' := x') (y' := y') (c' := c') (n' := n') (a := a) (b := b) (p := p) (q := q) hbs hbs')
  generalize ((w.alloc (.cells #[.int .i64 x, .int .i64 y, .slice A n c] 24)).alloc (.cells #[.int .i64 x', .int .i64 y', .slice A' n' c'] 24)).alloc (.cells #[.int .i64 a, .int .i64 b, .int .i64 p, .int .i64 q] 37) = W0 at *
  clear hbs hbs'
  refine (wakes_any W0).mono ?_
  rintro e w1 ⟨rfl, hb1⟩
  have HS1 := Lib.hid (HS0.out.next hb1)
  have k0 := HS1.out.k0; have k1 := HS1.out.k1; have k2 := HS1.out.k2
  clear hb1 HS0
  go_wp2_with fail
  refine (both_any x y A c n l hn (by omega) w.heap.size w1 HS1.out.i0 (by have := HS1.out.lt; omega)).mono ?_
  intro e w2 hB
  unfold BothR at hB
  by_cases hg : Good x y n
  case neg =>
    rw [if_neg hg] at hB
    obtain ⟨rfl, hb2⟩ := hB
    have HS2 := Lib.hid (HS1.out.next hb2)
    clear hb2 k0 k1 k2 hg
    go_wp2_with fail
    go_ret
    exact ⟨rfl, (HS2.out.bel.alloc HS2.out.bel.size _)⟩
  rw [if_pos hg] at hB
  obtain ⟨g, r, cg, rfl, hga, hrg, hb2⟩ := hB
  obtain ⟨hm, hnm⟩ := hg
  obtain ⟨b1, b2, b3, b4, b5⟩ := mayB_bd hm
  obtain ⟨X, rfl⟩ : ∃ X : Nat, x = (X : Int) := ⟨x.toNat, by omega⟩
  obtain ⟨Y, rfl⟩ : ∃ Y : Nat, y = (Y : Int) := ⟨y.toNat, by omega⟩
  simp only [Int.toNat_natCast] at hga
  have HNM : Hid (X * Y = n) := Lib.hid (by rw [← Int.natCast_mul] at hnm; omega)
  have hn6 : n ≤ 65536 := by have := hga.few; rw [HNM.out] at this; exact this
  have HS2 := Lib.hid (HS1.out.next hb2)
  have hlt1 := HS1.out.lt
  have hb2s := hb2.size
  have HG2 := Lib.hid hga
  clear hm hnm b5 hga hb2 k0 k1 k2 HS1
  go_upto_region 6 with (fail)
  have hb3 := (Below.refl w2.heap.size w2).alloc (Nat.le_refl _) (.cells #[.int .i64 (X : Int), .int .i64 (Y : Int), .slice A n c] 27)
  have HWB3 := Lib.hid (Blk.new w2 27 #[.int .i64 (X : Int), .int .i64 (Y : Int), .slice A n c])
  have HS3 := Lib.hid (HS2.out.next hb3)
  have HG3 := Lib.hid (HG2.out.below hb3)
  obtain ⟨wb, hwb⟩ : ∃ wb, w2.heap.size = wb := ⟨_, rfl⟩
  have hwbl : w.heap.size + 2 < wb := by omega
  rw [hwb] at HWB3
  have HRW : Hid (¬ r = wb) := Lib.hid (fun e => own_blk_ne HG3.out.row HWB3.out (by decide) (by subst e; rfl))
  have HGW : Hid (¬ g = wb) := Lib.hid (fun e => Blk.ne_ HG3.out.blk HWB3.out (by decide) e)
  have hrr : w.heap.size + 2 < r := by have := HG2.out.form.2.2.1; omega
  have hgr : w.heap.size + 2 < g := by omega
  generalize w2.alloc (.cells #[.int .i64 (X : Int), .int .i64 (Y : Int), .slice A n c] 27) = w3 at *
  rw [hwb]
  have r0 := HS3.out.r0; have r1 := HS3.out.r1; have r2 := HS3.out.r2; have r3 := HS3.out.r3
  clear hb3 HS2 HG2 hwb hb2s hlt1
  go_wp2_with fail
  refine (crop_any HG3.out a b p q hp.2 hq.2).mono ?_
  intro e w4 hcr
  obtain ⟨pv, ev, rfl, hpv, hb4⟩ := hcr.say
  have HPV := Lib.hid hpv
  have HS4 := Lib.hid (HS3.out.next hb4)
  have HG4 := Lib.hid (HG3.out.below hb4)
  have HWB4 := Lib.hid (HWB3.out.upd (Upd.of_fresh hb4) id)
  have r0 := HS4.out.r0; have r1 := HS4.out.r1; have r2 := HS4.out.r2; have r3 := HS4.out.r3
  have g0 : w4.cell? ⟨wb, 0, none⟩ = some (.int .i64 (X : Int)) := by rw [HWB4.out.cell]; rfl
  have g1 : w4.cell? ⟨wb, 1, none⟩ = some (.int .i64 (Y : Int)) := by rw [HWB4.out.cell]; rfl
  have g2 : w4.cell? ⟨wb, 2, none⟩ = some (.slice A n c) := by rw [HWB4.out.cell]; rfl
  clear hcr hpv hb4 HS3 HG3 HWB3
  go_wp2_with fail
  refine (refCrop_any X Y (by omega) (by omega) A c n l hn HNM.out hn6 w.heap.size w4 HS4.out.i0 HS4.out.bel.size a b p q).mono ?_
  intro e w5 hcr
  obtain ⟨fv, va, vb, Aq, mq, cq, rfl, hrv, hb5⟩ := hcr.say
  have HRV := Lib.hid hrv
  have HPV5 := Lib.hid hb5
  have HS5 := Lib.hid (HS4.out.next hb5)
  have HG5 := Lib.hid (HG4.out.below hb5)
  have HWB5 := Lib.hid (HWB4.out.upd (Upd.of_fresh hb5) id)
  clear hcr hrv hb5 HS4 HG4 HWB4 r0 r1 r2 r3 g0 g1 g2
  go_upto_region 8 with (fail)
  have hb6 := (Below.refl w5.heap.size w5).alloc (Nat.le_refl _) (.cells #[.int .i64 va, .int .i64 vb, .slice Aq mq cq] 27)
  have HQB6 := Lib.hid (Blk.new w5 27 #[.int .i64 va, .int .i64 vb, .slice Aq mq cq])
  have HS6 := Lib.hid (HS5.out.next hb6)
  have HG6 := Lib.hid (HG5.out.below hb6)
  have HWB6 := Lib.hid (HWB5.out.upd (Upd.of_fresh hb6) id)
  have HB6 := Lib.hid hb6
  have hs6 : (w5.alloc (.cells #[.int .i64 va, .int .i64 vb, .slice Aq mq cq] 27)).heap.size = w5.heap.size + 1 := by simp
  generalize w5.alloc (.cells #[.int .i64 va, .int .i64 vb, .slice Aq mq cq] 27) = w6 at *
  clear hb6 HS5 HG5 HWB5
  go_cut [78] from 59 to 77 (fun v wx => v = .bool false ∧ Hid (Below w6.heap.size w6 wx))
  case first =>
    rcases HPV.out with ⟨hi, rfl, rfl⟩ | ⟨hi, gp, rp, cp, rfl, rfl, hpg⟩
    · rcases HRV.out with ⟨_, rfl⟩ | ⟨hi2, _⟩
      · clear hi
        go_wp2_with fail
        go_meet
        exact ⟨rfl, Lib.hid (Below.refl _ _)⟩
      · rw [hi] at hi2; cases hi2
    · rcases HRV.out with ⟨hi2, _⟩ | ⟨_, rfl, rfl, rfl, hmq, his⟩
      · rw [hi] at hi2; cases hi2
      · obtain ⟨i1, i2, _⟩ := inB_bd hi
        have HPG6 := Lib.hid ((hpg.below HPV5.out).below HB6.out)
        have HIS6 := Lib.hid (Vs.below his HB6.out)
        have q0 : w6.cell? ⟨w5.heap.size, 0, none⟩ = some (.int .i64 va) := by rw [HQB6.out.cell]; rfl
        have q1 : w6.cell? ⟨w5.heap.size, 1, none⟩ = some (.int .i64 vb) := by rw [HQB6.out.cell]; rfl
        have q2 : w6.cell? ⟨w5.heap.size, 2, none⟩ = some (.slice Aq mq cq) := by rw [HQB6.out.cell]; rfl
        have e1 : va = ((va.toNat : Nat) : Int) := by omega
        have e2 : vb = ((vb.toNat : Nat) : Int) := by omega
        have HST := Lib.hid (same_true HPG6.out Aq cq mq hmq.symm w5.heap.size HIS6.out (by omega) va vb e1 e2)
        clear hi hpg his hmq e1 e2 i1 i2
        go_wp2_with fail
        refine HST.out.mono ?_
        rintro e w7 ⟨rfl, hb7⟩
        have HB7 := Lib.hid hb7
        clear hb7
        go_wp2_with fail
        go_meet
        exact ⟨rfl, HB7⟩
  case rest =>
    obtain ⟨rfl, hcut⟩ := hcut
    have HS7 := Lib.hid (HS6.out.next hcut.out)
    have HG7 := Lib.hid (HG6.out.below hcut.out)
    have HWB7 := Lib.hid (HWB6.out.upd (Upd.of_fresh hcut.out) id)
    obtain ⟨w7, hw7⟩ : ∃ w7 : World, w7 = wc := ⟨_, rfl⟩
    rw [← hw7] at HS7 HG7 HWB7 ⊢
    clear hw7 hcut HS6 HG6 HWB6 HQB6 HPV HRV HPV5 HB6 hs6
    have m0 := HS7.out.m0; have m1 := HS7.out.m1; have m2 := HS7.out.m2
    go_wp2_with fail
    refine (both_any x' y' A' c' n' l' hn' (by omega) w.heap.size w7 HS7.out.i1 (by have := HS7.out.lt; omega)).mono ?_
    intro e w8 hB
    unfold BothR at hB
    by_cases hg : Good x' y' n'
    case neg =>
      rw [if_neg hg] at hB
      obtain ⟨rfl, hb8⟩ := hB
      have HS8 := Lib.hid (HS7.out.next hb8)
      have HG8 := Lib.hid (HG7.out.below hb8)
      clear hb8 m0 m1 m2 hg HS7 HG7
      go_upto_region 12 with (fail)
      have hb9 := (Below.refl w8.heap.size w8).alloc (Nat.le_refl _) (.cells #[.int .i64 x', .int .i64 y', .slice A' n' c'] 27)
      have HS9 := Lib.hid (HS8.out.next hb9)
      have HG9 := Lib.hid (HG8.out.below hb9)
      generalize w8.alloc (.cells #[.int .i64 x', .int .i64 y', .slice A' n' c'] 27) = w9 at *
      clear hb9 HS8 HG8
      go_wp2_with fail
      refine (paste_nil HG9.out).mono ?_
      rintro e w10 ⟨rfl, rfl⟩
      go_wp2_with fail
      go_ret
      exact ⟨rfl, HS9.out.bel⟩
    rw [if_pos hg] at hB
    obtain ⟨gh, rh, ch, rfl, hgh, hrh, hb8⟩ := hB
    obtain ⟨hm, hnm⟩ := hg
    obtain ⟨d1, d2, d3, d4, d5⟩ := mayB_bd hm
    obtain ⟨X', rfl⟩ : ∃ X' : Nat, x' = (X' : Int) := ⟨x'.toNat, by omega⟩
    obtain ⟨Y', rfl⟩ : ∃ Y' : Nat, y' = (Y' : Int) := ⟨y'.toNat, by omega⟩
    simp only [Int.toNat_natCast] at hgh
    have HNM' : Hid (X' * Y' = n') := Lib.hid (by rw [← Int.natCast_mul] at hnm; omega)
    have hn6' : n' ≤ 65536 := by have := hgh.few; rw [HNM'.out] at this; exact this
    have HS8 := Lib.hid (HS7.out.next hb8)
    have HG8 := Lib.hid (HG7.out.below hb8)
    have HWB8 := Lib.hid (HWB7.out.upd (Upd.of_fresh hb8) id)
    have HH8 := Lib.hid hgh
    have hrlt := HG7.out.form.2.2.2
    have hwlt := HWB7.out.lt
    have hrhl := HH8.out.form.2.2.1
    have HNE : Hid (¬ rh = r) := Lib.hid (by omega)
    clear hm hnm d5 hgh hb8 m0 m1 m2 HS7 HG7 HWB7
    go_upto_region 13 with (fail)
    have hb9 := (Below.refl w8.heap.size w8).alloc (Nat.le_refl _) (.cells #[.int .i64 (X' : Int), .int .i64 (Y' : Int), .slice A' n' c'] 27)
    have HOB9 := Lib.hid (Blk.new w8 27 #[.int .i64 (X' : Int), .int .i64 (Y' : Int), .slice A' n' c'])
    have HS9 := Lib.hid (HS8.out.next hb9)
    have HG9 := Lib.hid (HG8.out.below hb9)
    have HWB9 := Lib.hid (HWB8.out.upd (Upd.of_fresh hb9) id)
    have HH9 := Lib.hid (HH8.out.below hb9)
    obtain ⟨o2, ho2⟩ : ∃ o2, w8.heap.size = o2 := ⟨_, rfl⟩
    have hwo : wb < o2 := by have := HWB8.out.lt; omega
    have hro : r < o2 := by have := HG8.out.form.2.2.2; omega
    have hol : w.heap.size + 2 < o2 := by omega
    rw [ho2] at HOB9
    generalize w8.alloc (.cells #[.int .i64 (X' : Int), .int .i64 (Y' : Int), .slice A' n' c'] 27) = w9 at *
    rw [ho2]
    have r0 := HS9.out.r0; have r1 := HS9.out.r1
    clear hb9 HS8 HG8 HWB8 HH8 ho2 hrlt hwlt hrhl
    go_wp2_with fail
    refine (paste_any HG9.out HH9.out HNE.out a b).mono ?_
    intro e w10 hpr
    obtain ⟨rfl, hg10, hu10⟩ := hpr.say HG9.out
    have HG10 := Lib.hid hg10
    have HS10 := Lib.hid (HS9.out.upd hu10 (fun k hk e => by omega))
    have HWB10 := Lib.hid (HWB9.out.upd hu10 (fun e => HRW.out e.symm))
    have HOB10 := Lib.hid (HOB9.out.upd hu10 (by omega))
    have HH10 := Lib.hid (HH9.out.upd hu10 (grid_row_ne HG9.out HH9.out) HNE.out)
    have r0 := HS10.out.r0; have r1 := HS10.out.r1
    have g0 : w10.cell? ⟨wb, 0, none⟩ = some (.int .i64 (X : Int)) := by rw [HWB10.out.cell]; rfl
    have g1 : w10.cell? ⟨wb, 1, none⟩ = some (.int .i64 (Y : Int)) := by rw [HWB10.out.cell]; rfl
    have g2 : w10.cell? ⟨wb, 2, none⟩ = some (.slice A n c) := by rw [HWB10.out.cell]; rfl
    have q0 : w10.cell? ⟨o2, 0, none⟩ = some (.int .i64 (X' : Int)) := by rw [HOB10.out.cell]; rfl
    have q1 : w10.cell? ⟨o2, 1, none⟩ = some (.int .i64 (Y' : Int)) := by rw [HOB10.out.cell]; rfl
    have q2 : w10.cell? ⟨o2, 2, none⟩ = some (.slice A' n' c') := by rw [HOB10.out.cell]; rfl
    have HRP := Lib.hid (fun W (h1 : Is W w.heap.size A l) (h2 : Is W w.heap.size A' l') (h3 : w.heap.size ≤ W.heap.size) => (refPaste_any X Y X' Y' (by omega) (by omega) A A' c n c' n' l l' hn HNM.out hn6 hn' HNM'.out hn6' w.heap.size W h1 h2 h3 a b).mono (fun _ _ k => RPasteR.say h1 h3 k))
    have hw10 := hu10.size
    clear hpr hg10 hu10 HS9 HG9 HWB9 HOB9 HH9
    generalize pasteC l X Y a b l' X' Y' = L at *
    generalize pasteE a b X' Y' X Y = pe at *
    go_wp2_with fail
    refine (HRP.out w10 HS10.out.i0 HS10.out.i1 HS10.out.bel.size).mono ?_
    rintro e w11 ⟨A9, c9, rfl, his, hor, hb11⟩
    have hn0 : 0 < n := by rw [← HNM.out]; exact HG10.out.pos
    have hA9 : ∀ ad, A9 = some ad → ad.block < w.heap.size ∨ w10.heap.size ≤ ad.block := by
      intro ad he
      rcases hor with rfl | ⟨k, hk, rfl⟩
      · obtain ⟨ad', he', h2, _⟩ := HS10.out.i0 (by rw [intsV_length, hn]; exact hn0)
        rw [he] at he'
        injection he' with he'
        subst he'
        exact .inl h2
      · injection he with he
        subst he
        exact .inr hk
    have HS11 := Lib.hid (HS10.out.next hb11)
    have HG11 := Lib.hid (HG10.out.below hb11)
    have HWB11 := Lib.hid (HWB10.out.upd (Upd.of_fresh hb11) id)
    have HOB11 := Lib.hid (HOB10.out.upd (Upd.of_fresh hb11) id)
    have HH11 := Lib.hid (HH10.out.below hb11)
    have hw11 := hb11.size
    have HI11 := Lib.hid his
    have g0 : w11.cell? ⟨wb, 0, none⟩ = some (.int .i64 (X : Int)) := by rw [HWB11.out.cell]; rfl
    have g1 : w11.cell? ⟨wb, 1, none⟩ = some (.int .i64 (Y : Int)) := by rw [HWB11.out.cell]; rfl
    have g2 : w11.cell? ⟨wb, 2, none⟩ = some (.slice A n c) := by rw [HWB11.out.cell]; rfl
    have f0 := HWB11.out.frozen 0
    have f1 := HWB11.out.frozen 1
    have f2 := HWB11.out.frozen 2
    have hrlt := HG10.out.form.2.2.2
    have hwlt := HWB10.out.lt
    clear his hor hb11 HS10 HG10 HWB10 HOB10 HH10 HRP q0 q1 q2 r0 r1
    go_upto_region 15 with (fail)
    have hu12 := set3_upd w11 wb (.int .i64 (X : Int)) (.int .i64 (Y : Int)) (.slice A9 n c9)
    have HWB12 := Lib.hid (set3 HWB11.out (.int .i64 (X : Int)) (.int .i64 (Y : Int)) (.slice A9 n c9))
    have HS12 := Lib.hid (HS11.out.upd hu12 (fun k hk e => by omega))
    have HG12 := Lib.hid (HG11.out.upd hu12 HGW.out HRW.out)
    have HOB12 := Lib.hid (HOB11.out.upd hu12 (by omega))
    have HH12 := Lib.hid (HH11.out.upd hu12 (fun e => Blk.ne_ HH11.out.blk HWB11.out (by decide) e) (fun e => own_blk_ne HH11.out.row HWB11.out (by decide) (by subst e; rfl)))
    have HI12 := Lib.hid (Vs.upd HI11.out hu12 (Nat.le_refl _) (fun ad he _ => by have := hA9 ad he; omega))
    obtain ⟨I9, hI9⟩ : ∃ I9, w11.heap.size = I9 := ⟨_, rfl⟩
    rw [hI9] at HI12
    obtain ⟨w12, hw12⟩ : ∃ w12 : World, ((w11.setCell ⟨wb, 0, none⟩ (.int .i64 (X : Int))).setCell ⟨wb, 1, none⟩ (.int .i64 (Y : Int))).setCell ⟨wb, 2, none⟩ (.slice A9 n c9) = w12 := ⟨_, rfl⟩
    rw [hw12] at hu12 HWB12 HS12 HG12 HOB12 HH12 HI12 ⊢
    have hI12 : I9 ≤ w12.heap.size := by have := hu12.size; omega
    clear hw12 hu12 HS11 HG11 HWB11 HOB11 HH11 HI11 g0 g1 g2 f0 f1 f2
    have g0 : w12.cell? ⟨wb, 0, none⟩ = some (.int .i64 (X : Int)) := by rw [HWB12.out.cell]; rfl
    have g1 : w12.cell? ⟨wb, 1, none⟩ = some (.int .i64 (Y : Int)) := by rw [HWB12.out.cell]; rfl
    have g2 : w12.cell? ⟨wb, 2, none⟩ = some (.slice A9 n c9) := by rw [HWB12.out.cell]; rfl
    go_wp2_with fail
    refine (same_true HG12.out A9 c9 n HNM.out I9 HI12.out hI12 (X : Int) (Y : Int) rfl rfl).mono ?_
    rintro e w13 ⟨rfl, hb13⟩
    have HS13 := Lib.hid (HS12.out.next hb13)
    have HG13 := Lib.hid (HG12.out.below hb13)
    have HWB13 := Lib.hid (HWB12.out.upd (Upd.of_fresh hb13) id)
    have HOB13 := Lib.hid (HOB12.out.upd (Upd.of_fresh hb13) id)
    have HH13 := Lib.hid (HH12.out.below hb13)
    have HI13 := Lib.hid (Vs.below HI12.out (hb13.mono hI12))
    have hI13 : I9 ≤ w13.heap.size := by have := hb13.size; omega
    have q0 : w13.cell? ⟨o2, 0, none⟩ = some (.int .i64 (X' : Int)) := by rw [HOB13.out.cell]; rfl
    have q1 : w13.cell? ⟨o2, 1, none⟩ = some (.int .i64 (Y' : Int)) := by rw [HOB13.out.cell]; rfl
    have q2 : w13.cell? ⟨o2, 2, none⟩ = some (.slice A' n' c') := by rw [HOB13.out.cell]; rfl
    clear hb13 HS12 HG12 HWB12 HOB12 HH12 HI12 g0 g1 g2
    go_wp2_with fail
    refine (same_true HH13.out A' c' n' HNM'.out w.heap.size HS13.out.i1 HS13.out.bel.size (X' : Int) (Y' : Int) rfl rfl).mono ?_
    rintro e w14 ⟨rfl, hb14⟩
    have HS14 := Lib.hid (HS13.out.next hb14)
    have HG14 := Lib.hid (HG13.out.below hb14)
    have HWB14 := Lib.hid (HWB13.out.upd (Upd.of_fresh hb14) id)
    have HI14 := Lib.hid (Vs.below HI13.out (hb14.mono hI13))
    have hI14 : I9 ≤ w14.heap.size := by have := hb14.size; omega
    clear hb14 HS13 HG13 HWB13 HOB13 HH13 HI13 q0 q1 q2
    go_wp2_with fail
    refine (paste_self HG14.out).mono ?_
    rintro e w15 ⟨rfl, hg15, hu15⟩
    have HG15 := Lib.hid hg15
    have HS15 := Lib.hid (HS14.out.upd hu15 (fun k hk e => by omega))
    have HWB15 := Lib.hid (HWB14.out.upd hu15 (fun e => HRW.out e.symm))
    have HI15 := Lib.hid (Vs.upd HI14.out hu15 hI14 (fun ad he _ => by have := hA9 ad he; omega))
    have hI15 : I9 ≤ w15.heap.size := by have := hu15.size; omega
    clear hg15 hu15 HS14 HG14 HWB14 HI14
    have g0 : w15.cell? ⟨wb, 0, none⟩ = some (.int .i64 (X : Int)) := by rw [HWB15.out.cell]; rfl
    have g1 : w15.cell? ⟨wb, 1, none⟩ = some (.int .i64 (Y : Int)) := by rw [HWB15.out.cell]; rfl
    have g2 : w15.cell? ⟨wb, 2, none⟩ = some (.slice A9 n c9) := by rw [HWB15.out.cell]; rfl
    go_wp2_with fail
    refine (same_true HG15.out A9 c9 n HNM.out I9 HI15.out hI15 (X : Int) (Y : Int) rfl rfl).mono ?_
    rintro e w16 ⟨rfl, hb16⟩
    have HS16 := Lib.hid (HS15.out.next hb16)
    clear hb16 g0 g1 g2
    go_wp2_with fail
    go_ret
    exact ⟨rfl, HS16.out.bel⟩

set_option maxRecDepth 100000 in
theorem lifted (os : Os) (started : os.Started) (H : Type) (enc : TypeId × Value → H) :
    ReturnsInHanded {} Try.checked os 4 .any (Rows.gridPartsSpec.pre6 enc Try.prog Try.f4 Rows.gridPartsRow.domain false) (Rows.gridPartsSpec.post enc Try.prog Try.f4 false true false false) := by
  refine returnsInHanded_of_change_sized (C := Try.checked) prog_own started (by kernel_rfl) Try.func4
    (ChangeSpec.witness6 (enc := enc) (C := Try.checked) false ⟨#[], #[.agg #[.int .i64 0, .int .i64 0, .slice none 0 0], .agg #[.int .i64 0, .int .i64 0, .slice none 0 0], .agg #[.int .i64 0, .int .i64 0, .int .i64 0, .int .i64 0]], []⟩ 8 (by kernel_rfl) (by kernel_rfl) (by kernel_rfl) (by kernel_rfl)) ?_
  intro W base args ds gs before hval0 hW hcnd hsz _
  have hval : ∀ (j : Nat) t v, Try.f4.params[j]? = some t → args[j]? = some v → Value.okWide Try.prog W .any base t v := hval0
  have hW' := hW
  obtain ⟨p, q, hA0, hV, rfl, hfz, hnd⟩ := hW
  have hA : DataW.TrodAll enc Try.prog W 0 (fun _ => true) true Try.f4.params.toList args.toList ds p := hA0
  rw [Try.params4] at hA hval
  obtain ⟨v0, vs0, d0, ds0, p0, q0, hargs, rfl, rfl, h0, r0⟩ := trodAll_cons hA
  obtain ⟨v1, vs1, d1, ds1, p1, q1, rfl, rfl, rfl, h1, r1⟩ := trodAll_cons r0
  obtain ⟨v2, vs2, d2, ds2, p2, q2, rfl, rfl, rfl, h2, r2⟩ := trodAll_cons r1
  obtain ⟨rfl, rfl, rfl⟩ := trodAll_nil r2
  obtain rfl : args = #[v0, v1, v2] := by cases args; simp_all
  obtain ⟨rfl, rfl⟩ := trodVars_none hV
  obtain ⟨x0, y0, A0, l0, c0, rfl, bx0, by0, hb0, hk0, hd0⟩ := open_cells (hval 0 24 v0 rfl rfl) h0
  obtain ⟨x1, y1, A1, l1, c1, rfl, bx1, by1, hb1, hk1, hd1⟩ := open_cells (hval 1 24 v1 rfl rfl) h1
  obtain ⟨x2, y2, z2, t2, rfl, bx2, by2, bz2, bt2⟩ := open_rect (hval 2 37 v2 rfl rfl) h2
  have hl0 : l0.length ≤ 17592186043904 := by
    obtain ⟨_, _, _, rfl, hdd⟩ := hd0
    rcases hdd with ⟨_, rfl⟩ | ⟨e, s, rfl, hle⟩
    · simp
    · have hpz := sized_part hsz (j := 0) (t := 24) rfl rfl Try.underlying24
      have this : (e.length + s.length) * Try.prog.bytesOf 3 ≤ reachBytes := sized_slice hpz (j := 2) (t := 22) (e := 3) rfl rfl Try.underlying22
      rw [bytes_int] at this
      unfold reachBytes at this
      omega
  have hl1 : l1.length ≤ 17592186043904 := by
    obtain ⟨_, _, _, rfl, hdd⟩ := hd1
    rcases hdd with ⟨_, rfl⟩ | ⟨e, s, rfl, hle⟩
    · simp
    · have hpz := sized_part hsz (j := 1) (t := 24) rfl rfl Try.underlying24
      have this : (e.length + s.length) * Try.prog.bytesOf 3 ≤ reachBytes := sized_slice hpz (j := 2) (t := 22) (e := 3) rfl rfl Try.underlying22
      rw [bytes_int] at this
      unfold reachBytes at this
      omega
  have lt0 : ∀ x ∈ p0, x.block < W.heap.size := by obtain ⟨m, hm⟩ := h0; exact DataW.trod_lt m _ _ _ hm
  have lt1 : ∀ x ∈ p1, x.block < W.heap.size := by obtain ⟨m, hm⟩ := h1; exact DataW.trod_lt m _ _ _ hm
  have lt2 : ∀ x ∈ p2, x.block < W.heap.size := by obtain ⟨m, hm⟩ := h2; exact DataW.trod_lt m _ _ _ hm
  clear hA0 hval0
  refine (walk x0 y0 A0 c0 l0 x1 y1 A1 c1 l1 x2 y2 z2 t2 W bx0 by0 hb0 hk0 hl0 bx1 by1 hb1 hk1 hl1 bx2 by2 bz2 bt2).mono fun e W' ⟨he, bel⟩ => ?_
  subst he
  exact ⟨_, rfl, _, _, _, [], _, [], hW', trodAll_mk1 (shut_bool Try.underlying4 _), (trodAll_cons_mk (Below.trod prog_laid (by kernel_rfl) (of_decide_eq_true (by kernel_rfl)) h0 bel lt0) (trodAll_cons_mk (Below.trod prog_laid (by kernel_rfl) (of_decide_eq_true (by kernel_rfl)) h1 bel lt1) (trodAll_cons_mk (Below.trod prog_laid (by kernel_rfl) (of_decide_eq_true (by kernel_rfl)) h2 bel lt2) trodAll_mk0))), rfl, bel.frame _, fun h => by cases h⟩

theorem over : Rows.gridPartsRow.holds Try.pinned (OpenSpec.ofChange Rows.gridPartsSpec) :=
  OpenClaim.holds_of_wide 4 Try.f4 rfl rfl rfl rfl rfl rfl rfl ⟨rfl, rfl, rfl, rfl, rfl⟩ rfl rfl rfl rfl rfl (by kernel_rfl) Try.func4 (by kernel_rfl)
    (of_decide_eq_true (by kernel_rfl)) (by unfold Func.isWrapper; first | (rw [if_pos (by decide +kernel)]; kernel_rfl) | (rw [if_neg (by decide +kernel)]; exact ⟨rfl, rfl⟩))
    (fun os started H enc _ => lifted os started H enc)
end GridParts

theorem gridParts_holds : Rows.GridPartsSaid := GridParts.over
#print axioms gridParts_holds
end Go.Proofs.Ytfjnlbjlapbilaa
