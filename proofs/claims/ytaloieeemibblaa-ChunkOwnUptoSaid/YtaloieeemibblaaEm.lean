/- How many places a picture's passes have; the program's Passes. -/
import Derived.Test.YtaloieeemibblaaEh
import Derived.ScopeJumps
import Derived.WalkMore
set_option linter.unusedVariables false
set_option linter.unusedSimpArgs false
namespace Go.Proofs.Ytaloieeemibblaa
open Go.ChangeShapes Go.WideShapes Go.ChangeAt Go.RowKit

/-- The seven passes: the first place, the steps. -/
def pX : Nat → Nat | 0 => 0 | 1 => 4 | 2 => 0 | 3 => 2 | 4 => 0 | 5 => 1 | _ => 0
def pY : Nat → Nat | 0 => 0 | 1 => 0 | 2 => 4 | 3 => 0 | 4 => 2 | 5 => 0 | _ => 1
def pDX : Nat → Nat | 0 => 8 | 1 => 8 | 2 => 4 | 3 => 4 | 4 => 2 | 5 => 2 | _ => 1
def pDY : Nat → Nat | 0 => 8 | 1 => 8 | 2 => 8 | 3 => 4 | 4 => 4 | 5 => 2 | _ => 2
theorem p_bd (k : Nat) : pX k ≤ 4 ∧ pY k ≤ 4 ∧ 1 ≤ pDX k ∧ pDX k ≤ 8 ∧ 1 ≤ pDY k ∧ pDY k ≤ 8 := by
  rcases k with _ | _ | _ | _ | _ | _ | k <;> refine ⟨?_, ?_, ?_, ?_, ?_, ?_⟩ <;> simp [pX, pY, pDX, pDY]
def stI (f s e : Int) : Int := if e ≤ f then 0 else (e - f - 1) / s + 1
/-- One pass, if it has a pixel. -/
def pasF (w h : Int) (k : Nat) : List Int := if (pX k : Int) < w ∧ (pY k : Int) < h then [pX k, pY k, pDX k, pDY k, stI (pX k) (pDX k) w, stI (pY k) (pDY k) h] else []
def pasL (w h : Int) : Nat → List Int
  | 0 => []
  | k + 1 => pasL w h k ++ pasF w h k
/-- The cells of the seven as they are given. -/
def allP : List Int := (List.range 7).flatMap fun k => [(pX k : Int), pY k, pDX k, pDY k, 0, 0]
theorem allP_len : allP.length = 42 := by decide
theorem allP_at (k i : Nat) (hk : k < 7) (hi : i < 6) : allP[6 * k + i]? = some (([(pX k : Int), pY k, pDX k, pDY k, 0, 0]).getD i 0) := by
  have h : ∀ k, k < 7 → ∀ i, i < 6 → allP[6 * k + i]? = some (([(pX k : Int), pY k, pDX k, pDY k, 0, 0]).getD i 0) := by decide
  exact h k hk i hi
theorem stI_bd {f s e : Int} (hf : 0 ≤ f ∧ f ≤ 4) (hs : 1 ≤ s ∧ s ≤ 8) (he : -9223372036854775808 ≤ e ∧ e ≤ 9223372036854775807) : 0 ≤ stI f s e ∧ stI f s e ≤ 9223372036854775807 ∧ (0 < stI f s e ↔ f < e) := by
  unfold stI
  split
  · omega
  · have h1 : 0 ≤ (e - f - 1) / s := Int.ediv_nonneg (by omega) (by omega)
    have h2 : (e - f - 1) / s ≤ e - f - 1 := Int.ediv_le_self _ (by omega)
    omega
set_option maxRecDepth 100000 in
set_option maxHeartbeats 1000000 in
theorem steps_any (f s e : Int) (hf : 0 ≤ f ∧ f ≤ 4) (hs : 1 ≤ s ∧ s ≤ 8) (he : -9223372036854775808 ≤ e ∧ e ≤ 9223372036854775807) (w : World) :
    Calls Try.prog 46 #[.int .i64 f, .int .i64 s, .int .i64 e] w fun r w' => r = .returned (.int .i64 (stI f s e)) ∧ w' = w := by
  obtain ⟨f1, f2⟩ := hf
  obtain ⟨s1, s2⟩ := hs
  obtain ⟨e1, e2⟩ := he
  by_cases h : e ≤ f
  · have HV : Hid (stI f s e = 0) := Lib.hid (if_pos h)
    go_enter Try.func46, Try.ntmps46
    go_wp2_with fail
    go_ret
    exact ⟨ret_ik HV.out.symm, rfl⟩
  · have HV : Hid (stI f s e = (e - f - 1) / s + 1) := Lib.hid (if_neg h)
    obtain ⟨Y, hY⟩ : ∃ Y, e - f - 1 = Y := ⟨_, rfl⟩
    have y0 : 0 ≤ Y := by omega
    have h1 : 0 ≤ Y / s := Int.ediv_nonneg (by omega) (by omega)
    have h2 : Y / s ≤ Y := Int.ediv_le_self _ (by omega)
    have h3 : Y.tdiv s = Y / s := Int.tdiv_eq_ediv_of_nonneg y0
    have y1 : Y < 9223372036854775807 := by omega
    have HY := Lib.hid hY
    rw [hY] at HV
    obtain ⟨Z, hZ⟩ : ∃ Z, Y / s = Z := ⟨_, rfl⟩
    rw [hZ] at HV h1 h2 h3
    clear hY
    go_enter Try.func46, Try.ntmps46
    go_wp2_with fail
    try rw [HY.out]
    go_wp2_with fail
    go_ret
    exact ⟨ret_ik (by rw [HV.out]; simp_all; exact IntWalk.wrap64_in _ (by omega)), rfl⟩
theorem wp_scope_loop {P : Program} {a : Act} {w : World} {Q : Exit → Act → World → Prop} {c rest : Code} (l : Nat) (J : Act → World → Prop) (μ : Act → World → Nat) (hf : findLabel c l = some (Code.seq .skip rest))
    (pass : ∀ a w, J a w → rest.wp P (Exit.jump l (fun a' w' => J a' w' ∧ μ a' w' < μ a w) Q) a w)
    (first : (∀ a w, J a w → rest.wp P (Exit.jump l J Q) a w) → c.wp P (Exit.jump l J Q) a w) : (Code.scope c).wp P Q a w :=
  wp_scope_jumps l J μ hf (first fun a w h => Code.wp_mono (fun e a' w' q => by cases e <;> first | exact q | exact ⟨q.1, q.2.1⟩) (pass a w h)) (fun a w h => wp_seq (wp_skip (pass a w h)))
theorem info_pass : (Try.prog.info? 53).map (fun i => (i.zero, i.size, i.bytes)) = some (some (.agg #[.int .i64 0, .int .i64 0, .int .i64 0, .int .i64 0, .int .i64 0, .int .i64 0]), 6, 48) := by kernel_rfl
theorem append_pass (base : Nat) (w : World) (v : Value) (n : Nat) (xs : List Int) (h : w.ownsRow base 53 6 v n (intsV xs)) (hbase : base ≤ w.heap.size) (g : Nat) (a b c d e f : Int) (hg : Blk w g 53 #[.int .i64 a, .int .i64 b, .int .i64 c, .int .i64 d, .int .i64 e, .int .i64 f]) (hn : n ≤ 7) (ty : TypeId) :
    ∃ A' c' w', (Builtin.append_ #[49, 49] ty #[v, .slice (some ⟨g, 0, none⟩) 1 1]).run Try.prog w = .ok (.slice A' (n + 1) c') w' ∧
      w'.ownsRow base 53 6 (.slice A' (n + 1) c') (n + 1) (intsV (xs ++ [a, b, c, d, e, f])) ∧ w.grownBy w' v.ownBlock := by
  obtain ⟨i0, hi, hz0, hz1, hz2⟩ := info_parts info_pass
  have hV : Vs w w.heap.size (some ⟨g, 0, none⟩) (intsV [a, b, c, d, e, f]) := fun _ => ⟨_, rfl, hg.lt, fun j hj => by
    have e0 : (⟨g, 0, none⟩ : Addr).add j = ⟨g, j, none⟩ := by unfold Addr.add; split <;> simp_all
    rw [e0, hg.cell]
    simp [intsV] at hj
    rcases j with _ | _ | _ | _ | _ | _ | j <;> first | rfl | omega⟩
  obtain ⟨A', c', w', hrun, h2, h3, _⟩ := run_append_vn (P := Try.prog) w base 49 ty 53 i0 _ 6 48 Try.underlying49 hi hz0 hz1 hz2 rfl (by omega) v n (intsV xs) h w.heap.size ⟨g, 0, none⟩ 1 1 (intsV [a, b, c, d, e, f]) rfl hV (intsV_one _) (by unfold maxLen; omega) (by omega) hbase
  exact ⟨A', c', w', hrun, by rw [intsV_append]; exact h2, h3⟩
/-- The state at the label. -/
structure PaS (w : World) (wI hI : Int) (k : Nat) (A : Option Addr) (n c : Nat) (V : World) : Prop where
  all : Blk V w.heap.size 53 (intsV allP).toArray
  row : V.ownsRow (w.heap.size + 1) 53 6 (.slice A n c) n (intsV (pasL wI hI k))
  big : w.heap.size < V.heap.size
  len : (pasL wI hI k).length = 6 * n
  hn : n ≤ k
  bel : Below w.heap.size w V
def lenS (v : Value) : Nat := match v with | .slice _ n _ => n | _ => 0
theorem pas_cell {V : World} {g : Nat} (h : Blk V g 53 (intsV allP).toArray) (k o i : Nat) (ho : o = 6 * k) (hk : k < 7) (hi : i < 6) : V.cell? ⟨g, o + i, none⟩ = some (.int .i64 (([(pX k : Int), pY k, pDX k, pDY k, 0, 0]).getD i 0)) := by
  subst ho
  rw [h.cell]
  have := allP_at k i hk hi
  simp [intsV, this]
set_option maxRecDepth 100000 in
set_option maxHeartbeats 8000000 in
theorem passes_any (width height : Int) (hw : -9223372036854775808 ≤ width ∧ width ≤ 9223372036854775807) (hh : -9223372036854775808 ≤ height ∧ height ≤ 9223372036854775807) (w : World) :
    Calls Try.prog 23 #[.int .i64 width, .int .i64 height] w fun e w' => ∃ A n c, e = .returned (.slice A n c) ∧ w'.ownsRow w.heap.size 53 6 (.slice A n c) n (intsV (pasL width height 7)) ∧ (pasL width height 7).length = 6 * n ∧ Below w.heap.size w w' := by
  have hmix : Try.prog.follows .mixedOrders = true := by kernel_rfl
  go_enter Try.func23, Try.ntmps23
  go_wp2_with fail
  refine wp_scope_loop 0 (fun a' V => ∃ (k o q : Nat) (A : Option Addr) (n c : Nat) (u7 u8 u9 u10 u11 u12 u13 u14 u15 u16 u17 u18 u19 u20 u21 u22 u23 u24 u25 u26 u27 u28 u29 u30 u31 u32 u33 u34 u35 u36 u37 u38 u39 u40 u41 u42 u43 u44 u45 u46 u47 u48 u49 u50 : Value), k < 7 ∧ a' = { tmps := #[.int .i64 width, .int .i64 height, undef, undef, .slice none 0 0, .slice (some ⟨w.heap.size, o, none⟩) q q, .slice A n c, u7, u8, u9, u10, u11, u12, u13, u14, u15, u16, u17, u18, u19, u20, u21, u22, u23, u24, u25, u26, u27, u28, u29, u30, u31, u32, u33, u34, u35, u36, u37, u38, u39, u40, u41, u42, u43, u44, u45, u46, u47, u48, u49, u50], defers := [] } ∧ Hid (o = 6 * k ∧ q + k = 7 ∧ PaS w width height k A n c V)) (fun a' _ => lenS (a'.tmps.getD 5 undef)) rfl ?pass ?first
  case first =>
    intro hP
    have HP := Lib.hid hP
    clear hP
    go_wp2_with fail
    go_step3
    rename_i hK
    refine hK _ _ (HP.out _ _ ?_)
    refine ⟨0, 0, 7, none, 0, 0, _, _, _, _, _, _, _, _, _, _, _, _, _, _, _, _, _, _, _, _, _, _, _, _, _, _, _, _, _, _, _, _, _, _, _, _, _, _, _, _, _, _, _, _, by omega, rfl, Lib.hid ⟨rfl, rfl, ?_⟩⟩
    refine ⟨?_, World.ownsRow_nil _ _ _ _, by simp, rfl, Nat.le_refl _, (Below.refl _ _).alloc (Nat.le_refl _) _⟩
    exact Blk.new w _ _
  case pass =>
    rintro a' V ⟨k, o, q, A, n, c, u7, u8, u9, u10, u11, u12, u13, u14, u15, u16, u17, u18, u19, u20, u21, u22, u23, u24, u25, u26, u27, u28, u29, u30, u31, u32, u33, u34, u35, u36, u37, u38, u39, u40, u41, u42, u43, u44, u45, u46, u47, u48, u49, u50, hk, rfl, HJ⟩
    have ho := HJ.out.1
    have hq := HJ.out.2.1
    have hbd := p_bd k
    have x0 := pas_cell HJ.out.2.2.all k o 0 ho hk (by omega)
    have x1 := pas_cell HJ.out.2.2.all k o 1 ho hk (by omega)
    have x2 := pas_cell HJ.out.2.2.all k o 2 ho hk (by omega)
    have x3 := pas_cell HJ.out.2.2.all k o 3 ho hk (by omega)
    have x4 := pas_cell HJ.out.2.2.all k o 4 ho hk (by omega)
    have x5 := pas_cell HJ.out.2.2.all k o 5 ho hk (by omega)
    simp only [List.getD, List.getElem?_cons_zero, List.getElem?_cons_succ, Option.getD_some, Nat.add_zero] at x0 x1 x2 x3 x4 x5
    have HPL : Hid (pasL width height (k + 1) = pasL width height k ++ if (pX k : Int) < width ∧ (pY k : Int) < height then [(pX k : Int), pY k, pDX k, pDY k, stI (pX k) (pDX k) width, stI (pY k) (pDY k) height] else []) := Lib.hid rfl
    obtain ⟨b1, b2, b3, b4, b5, b6⟩ := hbd
    have w1 := stI_bd (f := (pX k : Int)) (s := (pDX k : Int)) (e := width) (by omega) (by omega) hw
    have w2 := stI_bd (f := (pY k : Int)) (s := (pDY k : Int)) (e := height) (by omega) (by omega) hh
    have HS1 := Lib.hid (fun wz => steps_any (pX k : Int) (pDX k : Int) width (by omega) (by omega) hw wz)
    have HS2 := Lib.hid (fun wz => steps_any (pY k : Int) (pDY k : Int) height (by omega) (by omega) hh wz)
    generalize stI (pX k) (pDX k) width = SW at *
    generalize stI (pY k) (pDY k) height = SH at *
    generalize pX k = X at *
    generalize pY k = Y at *
    generalize pDX k = DX at *
    generalize pDY k = DY at *
    obtain ⟨w11, w12, w13⟩ := w1
    obtain ⟨w21, w22, w23⟩ := w2
    have HO := Lib.hid (And.intro ho hq)
    have q1 : 0 < q := by omega
    have q7 : q ≤ 7 := by omega
    have HQK : Hid (lenS (.slice (some ⟨w.heap.size, o, none⟩) q q) = q) := Lib.hid rfl
    clear ho hq
    go_upto_region 4 with (fail)
    have hnb := Blk.new V 53 #[.int .i64 (X : Int), .int .i64 (Y : Int), .int .i64 (DX : Int), .int .i64 (DY : Int), .int .i64 0, .int .i64 0]
    have ua := (Upd.refl No V).alloc (.cells #[.int .i64 (X : Int), .int .i64 (Y : Int), .int .i64 (DX : Int), .int .i64 (DY : Int), .int .i64 0, .int .i64 0] 53)
    obtain ⟨pb, hpb⟩ : ∃ pb, V.heap.size = pb := ⟨_, rfl⟩
    have hbl := HJ.out.2.2.bel.size
    rw [hpb] at hnb
    rw [hpb]
    have HA1 := Lib.hid (HJ.out.2.2.all.upd ua id)
    have HR1 := Lib.hid (own_upd HJ.out.2.2.row ua (fun _ _ => id))
    have HB1 := Lib.hid (HJ.out.2.2.bel.trans (ua.fresh.mono hbl))
    have hal := HJ.out.2.2.all.lt
    have hne : pb ≠ w.heap.size := by omega
    have HRL := Lib.hid (fun j hj => (HJ.out.2.2.row.lt j hj))
    have hlen := HJ.out.2.2.len
    have hnk := HJ.out.2.2.hn
    generalize V.alloc (.cells #[.int .i64 (X : Int), .int .i64 (Y : Int), .int .i64 (DX : Int), .int .i64 (DY : Int), .int .i64 0, .int .i64 0] 53) = V1 at *
    have p0 : V1.cell? ⟨pb, 0, none⟩ = some (.int .i64 (X : Int)) := hnb.cell 0
    have p1 : V1.cell? ⟨pb, 1, none⟩ = some (.int .i64 (Y : Int)) := hnb.cell 1
    have p2 : V1.cell? ⟨pb, 2, none⟩ = some (.int .i64 (DX : Int)) := hnb.cell 2
    have p3 : V1.cell? ⟨pb, 3, none⟩ = some (.int .i64 (DY : Int)) := hnb.cell 3
    have p4 : V1.cell? ⟨pb, 4, none⟩ = some (.int .i64 0) := hnb.cell 4
    have p5 : V1.cell? ⟨pb, 5, none⟩ = some (.int .i64 0) := hnb.cell 5
    have f4 := hnb.frozen 4
    have f5 := hnb.frozen 5
    have us := (((Upd.refl (· = pb) V1).setCell (p := ⟨pb, 4, none⟩) (fun _ => rfl) (.int .i64 SW)).setCell (p := ⟨pb, 5, none⟩) (fun _ => rfl) (.int .i64 SH)).drew
    have HNB2 : Hid (Blk ((V1.setCell ⟨pb, 4, none⟩ (.int .i64 SW)).setCell ⟨pb, 5, none⟩ (.int .i64 SH)).drew pb 53 #[.int .i64 (X : Int), .int .i64 (Y : Int), .int .i64 (DX : Int), .int .i64 (DY : Int), .int .i64 SW, .int .i64 SH]) := Lib.hid (by
      have := (hnb.set_ 4 (.int .i64 SW)).set_ 5 (.int .i64 SH)
      have h2 : Blk ((V1.setCell ⟨pb, 4, none⟩ (.int .i64 SW)).setCell ⟨pb, 5, none⟩ (.int .i64 SH)) pb 53 #[.int .i64 (X : Int), .int .i64 (Y : Int), .int .i64 (DX : Int), .int .i64 (DY : Int), .int .i64 SW, .int .i64 SH] := by simpa using this
      exact h2)
    have HA2 := Lib.hid (HA1.out.upd us (fun e => hne e.symm))
    have HR2 : Hid (((V1.setCell ⟨pb, 4, none⟩ (.int .i64 SW)).setCell ⟨pb, 5, none⟩ (.int .i64 SH)).drew.ownsRow (w.heap.size + 1) 53 6 (.slice A n c) n (intsV (pasL width height k))) := Lib.hid (own_upd HR1.out us (fun j hj e => by have := (HRL.out j hj).2; omega))
    have HB2 : Hid (Below w.heap.size w ((V1.setCell ⟨pb, 4, none⟩ (.int .i64 SW)).setCell ⟨pb, 5, none⟩ (.int .i64 SH)).drew) := Lib.hid (HB1.out.trans (us.below (HB1.out.size) (fun j hj e => by omega)))
    clear HA1 HR1 HB1 us ua HJ HRL hnb x0 x1 x2 x3 x4 x5
    refine wp_region_tail 13 hmix (by kernel_rfl) ?_
    simp only [List.take_succ_cons, List.take_zero, List.drop_succ_cons, List.drop_zero]
    repeat (go_big_quiet_step (fail))
    go_big_quiet_want
    go_big_quiet_op
    refine ⟨_, HS1.out _, ?_⟩
    go_big_quiet_on
    repeat (go_big_quiet_step (fail))
    go_big_quiet_want
    go_big_quiet_op
    refine ⟨_, HS2.out _, ?_⟩
    go_big_quiet_on
    repeat (go_big_quiet_step (fail))
    refine wpQuiet_nil ?_
    go_upto_region 5 with (fail)
    generalize ((V1.setCell ⟨pb, 4, none⟩ (.int .i64 SW)).setCell ⟨pb, 5, none⟩ (.int .i64 SH)).drew = W3 at *
    have r0 : W3.cell? ⟨pb, 0, none⟩ = some (.int .i64 (X : Int)) := HNB2.out.cell 0
    have r1 : W3.cell? ⟨pb, 1, none⟩ = some (.int .i64 (Y : Int)) := HNB2.out.cell 1
    have r2 : W3.cell? ⟨pb, 2, none⟩ = some (.int .i64 (DX : Int)) := HNB2.out.cell 2
    have r3 : W3.cell? ⟨pb, 3, none⟩ = some (.int .i64 (DY : Int)) := HNB2.out.cell 3
    have r4 : W3.cell? ⟨pb, 4, none⟩ = some (.int .i64 SW) := HNB2.out.cell 4
    have r5 : W3.cell? ⟨pb, 5, none⟩ = some (.int .i64 SH) := HNB2.out.cell 5
    clear p0 p1 p2 p3 p4 p5 f4 f5
    have hk6 : q = 1 → k + 1 = 7 := fun h => by have := HO.out.2; omega
    have hq2 : q ≠ 1 → k + 1 < 7 := fun h => by have := HO.out.2; omega
    -- what is reached, the list told
    have HEND : Hid (∀ (A' : Option Addr) (n' c' : Nat) (W' : World), q = 1 → PaS w width height (k + 1) A' n' c' W' → W'.ownsRow w.heap.size 53 6 (.slice A' n' c') n' (intsV (pasL width height 7)) ∧ (pasL width height 7).length = 6 * n' ∧ Below w.heap.size w W') := Lib.hid (fun A' n' c' W' h1 hp => by
      have e := hk6 h1
      have h2 := own_low hp.row (show w.heap.size ≤ w.heap.size + 1 by omega); have h3 := hp.len; have h4 := hp.bel
      rw [e] at h2 h3
      exact ⟨h2, h3, h4⟩)
    have HON : Hid (∀ (A' : Option Addr) (n' c' : Nat) (W' : World), q ≠ 1 → PaS w width height (k + 1) A' n' c' W' → k + 1 < 7 ∧ Hid (o + 6 = 6 * (k + 1) ∧ (q - 1) + (k + 1) = 7 ∧ PaS w width height (k + 1) A' n' c' W')) := Lib.hid (fun A' n' c' W' h1 hp => ⟨hq2 h1, Lib.hid ⟨by have := HO.out.1; omega, by have := HO.out.2; omega, hp⟩⟩)
    clear hk6 hq2 HO
    by_cases hc : (X : Int) < width ∧ (Y : Int) < height
    · have s1 : 0 < SW := w13.2 hc.1
      have s2 : 0 < SH := w23.2 hc.2
      rw [if_pos hc] at HPL
      have ua3 := (Upd.refl No W3).alloc (.cells #[.int .i64 (X : Int), .int .i64 (Y : Int), .int .i64 (DX : Int), .int .i64 (DY : Int), .int .i64 SW, .int .i64 SH] 53)
      have hl3 := Blk.new W3 53 #[.int .i64 (X : Int), .int .i64 (Y : Int), .int .i64 (DX : Int), .int .i64 (DY : Int), .int .i64 SW, .int .i64 SH]
      obtain ⟨A9, c9, w9, hrun, o9, hg9⟩ := append_pass (w.heap.size + 1) _ (.slice A n c) n (pasL width height k) (own_upd HR2.out ua3 (fun _ _ => id)) (Nat.le_trans HA2.out.lt ua3.size) W3.heap.size X Y DX DY SW SH hl3 (by omega) 49
      have u9 : Upd (fun j => some j = (Value.slice A n c).ownBlock) (W3.alloc (.cells #[.int .i64 (X : Int), .int .i64 (Y : Int), .int .i64 (DX : Int), .int .i64 (DY : Int), .int .i64 SW, .int .i64 SH] 53)) w9 := (Upd.of_grown hg9).mono (fun j _ e => e)
      have HPA : Hid (PaS w width height (k + 1) A9 (n + 1) c9 w9) := Lib.hid ⟨(HA2.out.upd ua3 id).upd u9 (fun e => by have := (HR2.out.lt _ e.symm).1; omega), by rw [HPL.out]; exact o9, Nat.lt_of_lt_of_le HA2.out.lt (Nat.le_trans ua3.size u9.size), by rw [HPL.out, List.length_append, hlen]; simp; omega, by omega,
        (HB2.out.trans (ua3.fresh.mono HB2.out.size)).trans (u9.below (Nat.le_trans HB2.out.size ua3.size) (fun j hj e => by have := (HR2.out.lt j e.symm).1; omega))⟩
      have HRN := Lib.hid hrun
      clear hrun o9 hg9 u9 ua3 hl3 HA2 HR2 HB2 hc
      by_cases hq1 : q = 1
      · have HE := Lib.hid (HEND.out A9 (n + 1) c9 w9 hq1 HPA.out)
        subst hq1
        go_wp2_with (at_builtin; refine wpList_append_run rfl (.tmp 41) (.tmp 43) _ rfl rfl rfl HRN.out ?_)
        simp only [Exit.jump]
        go_ret
        exact ⟨_, _, _, rfl, HE.out⟩
      · have HN := Lib.hid (HON.out A9 (n + 1) c9 w9 hq1 HPA.out)
        have i1 : (1 : Int) < (q : Int) := by omega
        go_wp2_with (at_builtin; refine wpList_append_run rfl (.tmp 41) (.tmp 43) _ rfl rfl rfl HRN.out ?_)
        go_step3
        refine ⟨rfl, ⟨k + 1, o + 6, q - 1, A9, n + 1, c9, _, _, _, _, _, _, _, _, _, _, _, _, _, _, _, _, _, _, _, _, _, _, _, _, _, _, _, _, _, _, _, _, _, _, _, _, _, _, _, _, _, _, _, _, HN.out.1, rfl, HN.out.2⟩, by simp [lenS]; omega⟩
    · rw [if_neg hc] at HPL
      have HPA : Hid (PaS w width height (k + 1) A n c W3) := Lib.hid ⟨HA2.out, by rw [HPL.out, List.append_nil]; exact HR2.out, HA2.out.lt, by rw [HPL.out, List.append_nil]; exact hlen, by omega, HB2.out⟩
      clear HA2 HR2 HB2
      by_cases hc1 : (X : Int) < width
      · have s1 : 0 < SW := w13.2 hc1
        have s2 : ¬ 0 < SH := fun h => hc ⟨hc1, w23.1 h⟩
        clear hc hc1
        by_cases hq1 : q = 1
        · have HE := Lib.hid (HEND.out A n c W3 hq1 HPA.out)
          subst hq1
          go_wp2_with fail
          simp only [Exit.jump]
          go_ret
          exact ⟨_, _, _, rfl, HE.out⟩
        · have HN := Lib.hid (HON.out A n c W3 hq1 HPA.out)
          have i1 : (1 : Int) < (q : Int) := by omega
          go_wp2_with fail
          go_step3
          refine ⟨rfl, ⟨k + 1, o + 6, q - 1, A, n, c, _, _, _, _, _, _, _, _, _, _, _, _, _, _, _, _, _, _, _, _, _, _, _, _, _, _, _, _, _, _, _, _, _, _, _, _, _, _, _, _, _, _, _, _, HN.out.1, rfl, HN.out.2⟩, by simp [lenS]; omega⟩
      · have s1 : ¬ 0 < SW := fun h => hc1 (w13.1 h)
        clear hc hc1
        by_cases hq1 : q = 1
        · have HE := Lib.hid (HEND.out A n c W3 hq1 HPA.out)
          subst hq1
          go_wp2_with fail
          simp only [Exit.jump]
          go_ret
          exact ⟨_, _, _, rfl, HE.out⟩
        · have HN := Lib.hid (HON.out A n c W3 hq1 HPA.out)
          have i1 : (1 : Int) < (q : Int) := by omega
          go_wp2_with fail
          go_step3
          refine ⟨rfl, ⟨k + 1, o + 6, q - 1, A, n, c, _, _, _, _, _, _, _, _, _, _, _, _, _, _, _, _, _, _, _, _, _, _, _, _, _, _, _, _, _, _, _, _, _, _, _, _, _, _, _, _, _, _, _, _, HN.out.1, rfl, HN.out.2⟩, by simp [lenS]; omega⟩
end Go.Proofs.Ytaloieeemibblaa
