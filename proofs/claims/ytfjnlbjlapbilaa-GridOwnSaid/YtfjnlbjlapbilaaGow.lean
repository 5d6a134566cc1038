/- Cells that are handed in stay and aren't kept; cells and parts that are answered are new memory: for every size and every list of cells. -/
import Derived.Test.YtfjnlbjlapbilaaGs
import Derived.Deep.CondSized
namespace Go.Proofs.Ytfjnlbjlapbilaa
open Go.ChangeShapes Go.WideShapes Go.ChangeAt Go.RowKit
namespace GridOwn

set_option maxHeartbeats 4000000 in
set_option maxRecDepth 100000 in
theorem walk (x y : Int) (A : Option Addr) (c : Nat) (l : List Int) (w : World) (hx : -9223372036854775808 ≤ x ∧ x ≤ 9223372036854775807) (hy : -9223372036854775808 ≤ y ∧ y ≤ 9223372036854775807) (hbs : Is w w.heap.size A l) (_ : ∀ x ∈ l, -9223372036854775808 ≤ x ∧ x ≤ 9223372036854775807) (hl : l.length ≤ 17592186043904) :
    Calls Try.prog 10 #[.agg #[.int .i64 x, .int .i64 y, .slice A l.length c]] w fun e w' => e = .returned (.bool true) ∧ Below w.heap.size w w' := by
  obtain ⟨n, hn⟩ : ∃ n, l.length = n := ⟨_, rfl⟩
  rw [hn] at hl ⊢
  go_enter Try.func10, Try.ntmps10
  go_wp2_with fail
  have HC0 := Lib.hid (CSt.new (x := x) (y := y) (c := c) (n := n) hbs)
  generalize w.alloc (.cells #[.int .i64 x, .int .i64 y, .slice A n c] 24) = W0 at *
  refine (wakes_any W0).mono ?_
  rintro e w1 ⟨rfl, hb1⟩
  have hc1 := HC0.out.next hb1
  have k2 := hc1.c2
  have HC1 := Lib.hid hc1
  clear hb1 HC0 hc1 hbs
  go_wp2_with fail
  refine (own_n A c n l hn w.heap.size w1 HC1.out.is_ (by have := HC1.out.lt; omega) (by omega)).mono ?_
  rintro e w2 ⟨Ai, ci, rfl, oi, hb2⟩
  have hc2 := HC1.out.next hb2
  have k0 := hc2.c0; have k1 := hc2.c1
  have HC2 := Lib.hid hc2
  have hs1 := HC1.out.lt
  clear hb2 hc2 k2
  go_wp2_with fail
  refine (of_all x y Ai ci n l hn w2 (Vs.of_own oi)).mono ?_
  rintro e w3 ⟨p, rfl, hp1, hp2, hb3⟩
  have HC3 := Lib.hid (HC2.out.next hb3)
  have OI := Lib.hid (own_upd oi (Upd.of_fresh hb3) (fun _ _ => id))
  have hil := row_lt oi
  have hs2 := hb3.size
  have HG : Hid (ofErr x y n = 0 ↔ Good x y n) := Lib.hid (ofErr_iff x y n)
  obtain ⟨E, hE⟩ : ∃ E, ofErr x y n = E := ⟨_, rfl⟩
  rw [hE] at HG hp1 hp2 ⊢
  have HP1 := Lib.hid hp1; have HP2 := Lib.hid hp2
  clear hp1 hp2 hb3 oi k0 k1 hE
  go_wp2_with fail
  go_loopw [29] (fun i wr => ∃ k : Nat, k ≤ n ∧ i = .int .i64 (k : Int) ∧ Hid (∃ l', wr.ownsRow w1.heap.size 3 1 (.slice Ai n ci) n (intsV l')) ∧ Hid (Upd (fun k => Ai.map (·.block) = some k) w3 wr)) (fun i _ => n - (intOf i).toNat)
  case atStart => exact ⟨0, by omega, rfl, Lib.hid ⟨l, OI.out⟩, Lib.hid (Upd.refl _ _)⟩
  case round =>
    obtain ⟨k, hk, rfl, HO, HU⟩ := hrel
    by_cases hlt : k < n
    · obtain ⟨l', ho⟩ := HO.out
      obtain ⟨gi, rfl, hg1, hg2, hg3, hg4⟩ := row_form ho (by omega)
      have hl' := own_len ho
      rw [intsV_length] at hl'
      have q1 := row_at ho k (by omega)
      have q2 : wr.frozen? ⟨gi, k, none⟩ = false := ho.frozenAt _
      have HO2 := Lib.hid (row_set ho k (-7))
      have HU2 := Lib.hid (HU.out.then (set1_upd wr gi k (.int .i64 (-7))) (fun i _ e => by subst e; rfl))
      clear ho HO
      go_wp2_with fail
      go_roundw
      case rel => exact ⟨k + 1, by omega, by go_num, Lib.hid ⟨_, HO2.out⟩, HU2⟩
      case measure => simp [intOf]; omega
    · obtain ⟨wo, hwo⟩ : ∃ wo : World, wo = wr := ⟨_, rfl⟩
      subst hwo
      have hu := HU.out
      have hap : ∀ k, Ai.map (·.block) = some k → w1.heap.size ≤ k ∧ k < w2.heap.size := hil
      have HC4 := Lib.hid (HC3.out.upd hu (fun k hk e => by have := hap k e; omega))
      have HP4 : Hid (E = 0 → ∃ g r c', p = some ⟨g, 0, none⟩ ∧ GridAt wo w2.heap.size 87 3 g r c' x.toNat y.toNat (intsV l) ∧ r < g) := Lib.hid (fun e => by
        obtain ⟨g, r, c', h1, h2, h3⟩ := HP2.out e
        exact ⟨g, r, c', h1, h2.upd hu (fun e => by have := hap g e; have := h2.fresh; omega) (fun e => by have := hap r e; have := h2.form.2.2.1; omega), h3⟩)
      have hs4 := hu.size
      clear hu HO HU HP2 HC3 OI
      by_cases hE : E = 0
      case neg =>
        obtain rfl := HP1.out hE
        have d : (E != 0) = true := by simp [hE]
        clear hE
        go_wp2_with fail
        go_ret
        exact ⟨rfl, HC4.out.bel⟩
      subst hE
      obtain ⟨g, r, c', rfl, hga, hrg⟩ := HP4.out rfl
      obtain ⟨hm, hnm⟩ := HG.out.1 rfl
      obtain ⟨b1, b2, b3, b4, b5⟩ := mayB_bd hm
      obtain ⟨X, rfl⟩ : ∃ X : Nat, x = (X : Int) := ⟨x.toNat, by omega⟩
      obtain ⟨Y, rfl⟩ : ∃ Y : Nat, y = (Y : Int) := ⟨y.toNat, by omega⟩
      simp only [Int.toNat_natCast] at hga
      have HNM : Hid (X * Y = n) := Lib.hid (by rw [← Int.natCast_mul] at hnm; omega)
      have hfw := hga.few
      rw [HNM.out] at hfw
      have hn0 : 0 < n := by rw [← HNM.out]; exact hga.pos
      have HGA := Lib.hid hga
      have k0 := HC4.out.c0; have k1 := HC4.out.c1; have k2 := HC4.out.c2
      clear hga hm hnm b5 HP4 HP1 HG
      go_wp2_with fail
      have hb5 := (Below.refl wo.heap.size wo).alloc (Nat.le_refl _) (.cells #[.int .i64 (X : Int), .int .i64 (Y : Int), .slice A n c] 27)
      have hbx := Blk.new wo 27 #[.int .i64 (X : Int), .int .i64 (Y : Int), .slice A n c]
      have HC5 := Lib.hid (HC4.out.next hb5)
      have HGA5 := Lib.hid (HGA.out.below hb5)
      have hs5 : (wo.alloc (.cells #[.int .i64 (X : Int), .int .i64 (Y : Int), .slice A n c] 27)).heap.size = wo.heap.size + 1 := by simp
      have hfr := HGA.out.fresh
      have hfm := HGA.out.form.2.2
      have hglt := HGA.out.blk.lt
      clear hb5 HC4 HGA k0 k1 k2
      generalize wo.alloc (.cells #[.int .i64 (X : Int), .int .i64 (Y : Int), .slice A n c] 27) = W5 at *
      have HBX := Lib.hid hbx
      clear hbx
      have hc5 := cells_any HGA5.out (intsV_one l)
      rw [HNM.out] at hc5
      refine hc5.mono ?_
      rintro e w6 ⟨rx, cx, rfl, ox, hb6⟩
      clear hc5
      have HC6 := Lib.hid (HC5.out.next hb6)
      have HGA6 := Lib.hid (HGA5.out.below hb6)
      have HBX6 := Lib.hid (HBX.out.upd (Upd.of_fresh hb6) id)
      have hrx := row_lt ox rx rfl
      have OX := Lib.hid ox
      have hs6 := hb6.size
      have hw5 := HC5.out.lt
      clear hb6 ox HC5 HGA5 HBX
      go_wp2_with fail
      go_loopw [51] (fun i wr => ∃ k : Nat, k ≤ n ∧ i = .int .i64 (k : Int) ∧ Hid (∃ l', wr.ownsRow W5.heap.size 3 1 (.slice (some ⟨rx, 0, none⟩) n cx) n (intsV l')) ∧ Hid (Upd (· = rx) w6 wr)) (fun i _ => n - (intOf i).toNat)
      case atStart => exact ⟨0, by omega, rfl, Lib.hid ⟨l, OX.out⟩, Lib.hid (Upd.refl _ _)⟩
      case round =>
        obtain ⟨k, hk, rfl, HO, HU⟩ := hrel
        by_cases hlt : k < n
        · obtain ⟨l', ho⟩ := HO.out
          have hl' := own_len ho
          rw [intsV_length] at hl'
          have q1 := row_at ho k (by omega)
          have q2 : wr.frozen? ⟨rx, k, none⟩ = false := ho.frozenAt _
          have HO2 := Lib.hid (row_set ho k (-8))
          have HU2 := Lib.hid (HU.out.then (set1_upd wr rx k (.int .i64 (-8))) (fun i _ e => e))
          clear ho HO
          go_wp2_with fail
          go_roundw
          case rel => exact ⟨k + 1, by omega, by go_num, Lib.hid ⟨_, HO2.out⟩, HU2⟩
          case measure => simp [intOf]; omega
        · have hu := HU.out
          obtain ⟨l7, ho7⟩ := HO.out
          have HC7 := Lib.hid (HC6.out.upd hu (fun k hk e => by have e : k = rx := e; have := hrx.1; omega))
          have HGA7 := Lib.hid (HGA6.out.upd hu (fun e => by have e : g = rx := e; have := hrx.1; omega) (fun e => by have e : r = rx := e; have := hrx.1; omega))
          have HBX7 := Lib.hid (HBX6.out.upd hu (fun e => by have e : wo.heap.size = rx := e; have := hrx.1; omega))
          have hs7 := hu.size
          have O7 := Lib.hid ho7
          clear hu HO HU ho7 HC6 HGA6 HBX6 OX
          go_wp2_with fail
          obtain ⟨i0, hi, hz0, hz1, hz2⟩ := info_parts info_int
          obtain ⟨wp, hwp⟩ : ∃ wp : World, wp = wr := ⟨_, rfl⟩
          subst hwp
          go_loopw [8, 10] (fun v i wr => ∃ (k m cr : Nat) (A8 : Option Addr), k ≤ 20 ∧ m ≤ n + k ∧ i = .int .i64 (k : Int) ∧ v = .slice A8 m cr ∧ Hid (∃ l', wr.ownsRow W5.heap.size 3 1 (.slice A8 m cr) m (intsV l')) ∧ Hid (Upd (fun k => W5.heap.size ≤ k) wp wr)) (fun _ i _ => 20 - (intOf i).toNat)
          case atStart => exact ⟨0, n, cx, _, by omega, by omega, rfl, rfl, Lib.hid ⟨l7, O7.out⟩, Lib.hid (Upd.refl _ _)⟩
          case round =>
            obtain ⟨k, m, cr, A8, hk, hmn, rfl, rfl, HO, HU⟩ := hrel
            have hs8 := HU.out.size
            by_cases hlt : k < 20
            · obtain ⟨l', ho⟩ := HO.out
              have HO1 := Lib.hid ho
              clear HO ho
              go_wp2_with (at_builtin; refine wpList_append_vs _ rfl (.tmp 62) (.tmp 63) _ rfl W5.heap.size 3 i0 (.int .i64 0) 8 Try.underlying22 hi hz0 hz1 hz2 rfl (.slice A8 m cr) m (intsV l') rfl (HO1.out.alloc _) (wr.heap.size + 1) (some ⟨wr.heap.size, 0, none⟩) 1 1 [.int .i64 (-9)] rfl rfl (vs_lit wr 3 [.int .i64 (-9)] _ (by omega)) (by simp [Value.oneCell']) (by unfold maxLen; omega) (by omega) (by simp; omega) ?_; intro A9 c9 w9 o9 hg9 _; have HO9 : Hid (∃ l', w9.ownsRow W5.heap.size 3 1 (.slice A9 (m + 1) c9) (m + 1) (intsV l')) := Lib.hid ⟨l' ++ [-9], by rw [intsV_append]; exact o9⟩; have HU9 : Hid (Upd (fun k => W5.heap.size ≤ k) wp w9) := Lib.hid ((HU.out.alloc _).then (Upd.of_grown hg9) (fun i _ e => (HO1.out.lt i e.symm).1)); clear o9 hg9)
              go_roundw
              case rel => exact ⟨k + 1, m + 1, c9, A9, by omega, by omega, by go_num, rfl, HO9, HU9⟩
              case measure => simp [intOf]; omega
            · have hu := HU.out
              have HC8 := Lib.hid (HC7.out.upd hu (fun k hk e => by have e : W5.heap.size ≤ k := e; omega))
              have HGA8 := Lib.hid (HGA7.out.upd hu (fun e => by have e : W5.heap.size ≤ g := e; omega) (fun e => by have e : W5.heap.size ≤ r := e; omega))
              have HBX8 := Lib.hid (HBX7.out.upd hu (fun e => by have e : W5.heap.size ≤ wo.heap.size := e; omega))
              have k0 := HC8.out.c0; have k1 := HC8.out.c1; have k2 := HC8.out.c2
              obtain ⟨m0, m1, m2⟩ := (blk3 HBX8.out (Below.refl _ _)).2
              clear hu HO HU HC7 HGA7 HBX7 O7
              go_wp2_with fail
              have hin : inB 0 0 (X : Int) (Y : Int) (X : Int) (Y : Int) = true := by simp [inB]; omega
              refine (crop_any HGA8.out 0 0 (X : Int) (Y : Int) (by omega) (by omega)).mono ?_
              intro e w9 hcr
              unfold CropR at hcr
              rw [if_neg (by rw [hin]; simp)] at hcr
              obtain ⟨gp, rp, cp, rfl, hgp, hb9⟩ := hcr
              simp only [Int.toNat_natCast, Int.toNat_zero] at hgp
              have HC9 := Lib.hid (HC8.out.next hb9)
              have HGA9 := Lib.hid (HGA8.out.below hb9)
              have hx9 := blk3 HBX8.out hb9
              have HGP := Lib.hid hgp
              have HBX9 := Lib.hid hx9.1
              obtain ⟨m0, m1, m2⟩ := hx9.2
              have hs9 := hb9.size
              have hlp := hgp.len
              have hgpf := hgp.fresh
              have hgpm := hgp.form.2.2
              have hgpl := hgp.blk.lt
              have hc8lt := HC8.out.lt
              have hk8 := HGA8.out.blk.lt
              clear hb9 hx9 hgp HC8 HGA8 HBX8 k0 k1 k2 hin
              obtain ⟨lp, hlpe⟩ : ∃ lp, partL l X 0 0 X Y = lp := ⟨_, rfl⟩
              rw [hlpe] at HGP hlp
              clear hlpe
              go_wp2_with fail
              refine (same_true HGA9.out A c n HNM.out w.heap.size HC9.out.is_ (by omega) (X : Int) (Y : Int) rfl rfl).mono ?_
              rintro e w10 ⟨rfl, hb10⟩
              have HC10 := Lib.hid (HC9.out.next hb10)
              have HGA10 := Lib.hid (HGA9.out.below hb10)
              have HGP10 := Lib.hid (HGP.out.below hb10)
              have hx10 := blk3 HBX9.out hb10
              have HBX10 := Lib.hid hx10.1
              have hs10 := hb10.size
              clear hb10 hx10 HC9 HGA9 HGP HBX9 m0 m1 m2
              go_wp2_with fail
              refine (set_any HGP10.out 0 0 5).mono ?_
              rintro e w11 ⟨rfl, w10', hb10', _, hw11⟩
              replace HC10 := Lib.hid (HC10.out.next hb10')
              replace HGA10 := Lib.hid (HGA10.out.below hb10')
              replace HGP10 := Lib.hid (HGP10.out.below hb10')
              replace HBX10 := Lib.hid (HBX10.out.upd (Upd.of_fresh hb10') id)
              have hs10' := hb10'.size
              clear hb10'
              have hin2 : inB 0 0 1 1 (X : Int) (Y : Int) = true := by simp [inB]; omega
              have hw11 := hw11 hin2
              simp only [Int.toNat_zero, Nat.zero_mul, Nat.zero_add] at hw11
              rw [hin2]
              have hu11 := set1_upd w10' rp 0 (.int .i64 5)
              rw [← hw11] at hu11
              have HC11 := Lib.hid (HC10.out.upd hu11 (fun k hk e => by have e : k = rp := e; omega))
              have HGA11 := Lib.hid (HGA10.out.upd hu11 (fun e => by have e : g = rp := e; omega) (fun e => by have e : r = rp := e; omega))
              have HBX11 := Lib.hid (HBX10.out.upd hu11 (fun e => by have e : wo.heap.size = rp := e; omega))
              have hne : rp ≠ gp := fun e => own_blk_ne HGP10.out.row HGP10.out.blk (by decide) (by subst e; rfl)
              have hgp11 := HGP10.out.set hne 0 5
              rw [← hw11] at hgp11
              have HGP11 := Lib.hid hgp11
              obtain ⟨m0, m1, m2⟩ := (blk3 HBX11.out (Below.refl _ _)).2
              have k2 := HC11.out.c2
              have hs11 := hu11.size
              clear hw11 hu11 HC10 HGA10 HBX10 HGP10 hgp11 hin2
              have hlen0 : (Y : Int) = Y := rfl
              go_wp2_with fail
              have hle : w.heap.size ≤ w11.heap.size := by have := HC11.out.lt; omega
              go_region_held3 (fun w' => w'.cell? ⟨wo.heap.size, 0, none⟩ = some (.int .i64 (X : Int)) ∧ w'.cell? ⟨wo.heap.size, 1, none⟩ = some (.int .i64 (Y : Int)) ∧ w'.cell? ⟨wo.heap.size, 2, none⟩ = some (.slice A n c) ∧ w'.cell? ⟨w.heap.size, 2, none⟩ = some (.slice A n c))
                (go_keep)
                ((first
                  | (go_at_call 14; refine (same_true (by first | exact HGA11.out | exact HGA11.out.drew) A c n HNM.out w.heap.size (by exact HC11.out.is_) (by exact hle) (X : Int) (Y : Int) rfl rfl).mono ?_; rintro e w12 ⟨rfl, hb12⟩; have hbb : Below w11.heap.size w11 w12 := (by first | exact of_drew hb12 | exact hb12); have hx12 := blk3 HBX11.out hbb; have m10 := hx12.2.1; have m11 := hx12.2.2.1; have m12 := hx12.2.2.2; have HBX12 := Lib.hid hx12.1; have HC12 := Lib.hid (HC11.out.next hbb); have k12 := HC12.out.c2; have HGP12 := Lib.hid (HGP11.out.below hbb); clear hb12 hbb hx12)
                  | (go_at_call 38; refine (cells_any (by first | exact HGP12.out | exact HGP12.out.drew) (intsV_one _)).mono ?_; rintro e w13 ⟨r13, c13, rfl, _, hb13⟩; have hbb : Below w12.heap.size w12 w13 := (by first | exact of_drew hb13 | exact hb13); have hx13 := blk3 HBX12.out hbb; have m20 := hx13.2.1; have m21 := hx13.2.2.1; have m22 := hx13.2.2.2; have HC13 := Lib.hid (HC12.out.next hbb); have k22 := HC13.out.c2; rw [HNM.out]; clear hb13 hbb hx13)))
              go_wp2_with fail
              go_ret
              exact ⟨rfl, HC13.out.bel⟩

set_option maxRecDepth 100000 in
theorem lifted (os : Os) (started : os.Started) (H : Type) (enc : TypeId × Value → H) :
    ReturnsInHanded {} Try.checked os 10 .any (Rows.gridOwnSpec.pre6 enc Try.prog Try.f10 Rows.gridOwnRow.domain false) (Rows.gridOwnSpec.post enc Try.prog Try.f10 false true false false) := by
  refine returnsInHanded_of_change_sized (C := Try.checked) prog_own started (by kernel_rfl) Try.func10
    (ChangeSpec.witness6 (enc := enc) (C := Try.checked) false ⟨#[], #[.agg #[.int .i64 0, .int .i64 0, .slice none 0 0]], []⟩ 8 (by kernel_rfl) (by kernel_rfl) (by kernel_rfl) (by kernel_rfl)) ?_
  intro W base args ds gs before hval0 hW hcnd hsz _
  have hval : ∀ (j : Nat) t v, Try.f10.params[j]? = some t → args[j]? = some v → Value.okWide Try.prog W .any base t v := hval0
  have hW' := hW
  obtain ⟨p, q, hA0, hV, rfl, hfz, hnd⟩ := hW
  have hA : DataW.TrodAll enc Try.prog W 0 (fun _ => true) true Try.f10.params.toList args.toList ds p := hA0
  rw [Try.params10] at hA hval
  obtain ⟨v0, vs0, d0, ds0, p0, q0, hargs, rfl, rfl, h0, r0⟩ := trodAll_cons hA
  obtain ⟨rfl, rfl, rfl⟩ := trodAll_nil r0
  obtain rfl : args = #[v0] := by cases args; simp_all
  obtain ⟨rfl, rfl⟩ := trodVars_none hV
  obtain ⟨x0, y0, A0, l0, c0, rfl, bx0, by0, hb0, hk0, hd0⟩ := open_cells (hval 0 24 v0 rfl rfl) h0
  have hl0 : l0.length ≤ 17592186043904 := by
    obtain ⟨_, _, _, rfl, hdd⟩ := hd0
    rcases hdd with ⟨_, rfl⟩ | ⟨e, s, rfl, hle⟩
    · simp
    · have hpz := sized_part hsz (j := 0) (t := 24) rfl rfl Try.underlying24
      have this : (e.length + s.length) * Try.prog.bytesOf 3 ≤ reachBytes := sized_slice hpz (j := 2) (t := 22) (e := 3) rfl rfl Try.underlying22
      rw [bytes_int] at this
      unfold reachBytes at this
      omega
  have lt0 : ∀ x ∈ p0, x.block < W.heap.size := by obtain ⟨m, hm⟩ := h0; exact DataW.trod_lt m _ _ _ hm
  clear hA0 hval0
  refine (walk x0 y0 A0 c0 l0 W bx0 by0 hb0 hk0 hl0).mono fun e W' ⟨he, bel⟩ => ?_
  subst he
  exact ⟨_, rfl, _, _, _, [], _, [], hW', trodAll_mk1 (shut_bool Try.underlying4 _), (trodAll_cons_mk (Below.trod prog_laid (by kernel_rfl) (of_decide_eq_true (by kernel_rfl)) h0 bel lt0) trodAll_mk0), rfl, bel.frame _, fun h => by cases h⟩

theorem over : Rows.gridOwnRow.holds Try.pinned (OpenSpec.ofChange Rows.gridOwnSpec) :=
  OpenClaim.holds_of_wide 10 Try.f10 rfl rfl rfl rfl rfl rfl rfl ⟨rfl, rfl, rfl, rfl, rfl⟩ rfl rfl rfl rfl rfl (by kernel_rfl) Try.func10 (by kernel_rfl)
    (of_decide_eq_true (by kernel_rfl)) (by unfold Func.isWrapper; first | (rw [if_pos (by decide +kernel)]; kernel_rfl) | (rw [if_neg (by decide +kernel)]; exact ⟨rfl, rfl⟩))
    (fun os started H enc _ => lifted os started H enc)
end GridOwn

theorem gridOwn_holds : Rows.GridOwnSaid := GridOwn.over
#print axioms gridOwn_holds
end Go.Proofs.Ytfjnlbjlapbilaa
