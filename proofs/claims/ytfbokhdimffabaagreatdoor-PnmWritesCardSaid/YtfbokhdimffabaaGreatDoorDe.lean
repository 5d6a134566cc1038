/- The program's scan: a file's head, of a kind that there is. -/
import Derived.Test.YtfbokhdimffabaaGreatDoorDd
set_option linter.unusedVariables false
set_option linter.unusedSimpArgs false
namespace Go.Proofs.YtfbokhdimffabaaGreatDoor
open Go.ChangeShapes Go.WideShapes Go.ChangeAt Go.RowKit

theorem info_ptr : (Tryz.prog.info? 83).map (fun i => (i.zero, i.size, i.bytes)) = some (some (.pointer none), 1, 8) := by kernel_rfl
def ptV (g i : Nat) : Value := .pointer (some ⟨g, i, none⟩)
/-- A third pointer behind two. -/
theorem ptr_three (w : World) (nb g : Nat) (h : Blk w nb 83 #[ptV g 3, ptV g 4]) :
    ∃ n2 c2 w', (Builtin.append_ #[84, 84] 84 #[.slice (some ⟨nb, 0, none⟩) 2 2, .slice (some ⟨w.heap.size, 0, none⟩) 1 1]).run Tryz.prog (w.alloc (.cells #[ptV g 5] 83)) = .ok (.slice (some ⟨n2, 0, none⟩) 3 c2) w' ∧ (∀ i, i < 3 → w'.cell? ⟨n2, i, none⟩ = some (ptV g (3 + i))) ∧ nb ≤ n2 ∧ n2 < w'.heap.size ∧ Upd (· = nb) w w' := by
  obtain ⟨i0, hi, hz0, hz1, hz2⟩ := info_parts info_ptr
  have ua := (Upd.refl No w).alloc (.cells #[ptV g 5] 83)
  have hl : nb < w.heap.size := h.lt
  have ho : (w.alloc (.cells #[ptV g 5] 83)).ownsRow nb 83 1 (.slice (some ⟨nb, 0, none⟩) 2 2) 2 [ptV g 3, ptV g 4] :=
    ⟨rfl, .inr ⟨nb, 2, #[ptV g 3, ptV g 4], rfl, Nat.le_refl _, h.upd ua id, by decide, by decide, rfl, rfl⟩⟩
  obtain ⟨A', c', w', hrun, h2, h3, h4⟩ := run_append_vn (P := Tryz.prog) (w.alloc (.cells #[ptV g 5] 83)) nb 84 84 83 i0 _ 1 8 Tryz.underlying84 hi hz0 hz1 hz2 rfl (by omega) _ 2 _ ho (w.heap.size + 1) ⟨w.heap.size, 0, none⟩ 1 1 [ptV g 5] rfl (vs_lit w 83 [ptV g 5] (w.heap.size + 1) (Nat.lt_succ_self _)) (by intro u hu; simp at hu; subst hu; rfl) (by decide) (by decide) (by rw [World.size_alloc]; omega)
  obtain ⟨n2, rfl, _⟩ := row_form h2 (by decide)
  refine ⟨n2, c', w', hrun, ?_, (h2.lt n2 rfl).1, (h2.lt n2 rfl).2, (ua.mono (fun _ _ h => absurd h id)).then (Upd.of_grown h3) (fun j _ e => by injection e)⟩
  intro i hi
  match i, hi with
  | 0, _ => exact h2.cells (g := n2) rfl 0 _ rfl
  | 1, _ => exact h2.cells (g := n2) rfl 1 _ rfl
  | 2, _ => exact h2.cells (g := n2) rfl 2 _ rfl
theorem hdV_get (k : Nat) (vs : List Nat) (v i : Nat) (hi : vs.length = i) (h3 : i < 3) : (hdV k (vs ++ [v]))[3 + i]? = some (.int .i64 (v : Nat)) := by
  subst hi
  match vs, h3 with
  | [], _ => rfl
  | [a], _ => rfl
  | [a, b], _ => rfl
/-- What stands when the numbers of a head are read. -/
structure HdI (w : World) (B sb fb nb m k : Nat) (vs : List Nat) (cur : List UInt8) (V : World) : Prop where
  u : Upd (· = sb) w V
  kr : Blk V w.heap.size 50 #[.bool false, .bool false, .bool false, .int .i64 0, .int .i64 0, .int .i64 0]
  kh : Blk V (fb + 1) 50 (hdV k vs)
  sc : Sc V B sb cur
  pt : ∀ i, i < m → V.cell? ⟨nb, i, none⟩ = some (.pointer (some ⟨fb + 1, 3 + i, none⟩))
  nl : nb < V.heap.size
  lo : fb + 1 < nb ∧ w.heap.size < fb + 1
theorem HdI.scan {w V V' : World} {B sb fb nb m k : Nat} {vs : List Nat} {cur c2 : List UInt8} (h : HdI w B sb fb nb m k vs cur V) (hsl : sb < w.heap.size) (u : Upd (· = sb) V V') (s : Sc V' B sb c2) : HdI w B sb fb nb m k vs c2 V' :=
  ⟨h.u.trans u, h.kr.upd u (by omega), h.kh.upd u (by have := h.lo; omega), s, fun i hi => (World.cell?_of_block (u.block nb h.nl (by have := h.lo; omega))).trans (h.pt i hi), Nat.lt_of_lt_of_le h.nl u.size, h.lo⟩
theorem HdI.store {w V : World} {B sb fb nb m k v i : Nat} {vs : List Nat} {cur : List UInt8} (h : HdI w B sb fb nb m k vs cur V) (hsl : sb < w.heap.size) (hi : vs.length = i) (h3 : i < 3) : HdI w B sb fb nb m k (vs ++ [v]) cur (V.setCell ⟨fb + 1, 3 + i, none⟩ (.int .i64 (v : Nat))) := by
  have u : Upd (· = fb + 1) V (V.setCell ⟨fb + 1, 3 + i, none⟩ (.int .i64 (v : Nat))) := (Upd.refl (· = fb + 1) V).setCell (fun _ => rfl) _
  have hlo := h.lo
  have hB : B ≤ sb := by obtain ⟨_, _, _, _, _, h⟩ := h.sc; exact h
  exact ⟨h.u.then u (fun i hi e => by omega), h.kr.upd u (by omega), by rw [← hdV_set k vs v i hi h3]; exact h.kh.set_ _ _, h.sc.upd u (by omega) (fun j hj => by omega), fun i hi => (World.cell?_of_block (u.block nb h.nl (by omega))).trans (h.pt i hi), Nat.lt_of_lt_of_le h.nl u.size, hlo⟩
set_option maxRecDepth 100000 in
set_option maxHeartbeats 8000000 in
theorem head_yes (B sb : Nat) (L : List UInt8) (k : Nat) (hkm : kindM L = k) (hk1 : 1 ≤ k) (hk6 : k ≤ 6) (hng : noRem (manyM k) (behM L)) (w : World) (h : Sc w B sb L) : Calls Tryz.prog 15 #[.pointer (some ⟨sb, 0, none⟩)] w (HeadQ B sb w L) := by
  have HM : Hid (headM L = fieldsM (manyM k) (behM L)) := Lib.hid (by unfold headM; rw [hkm, if_pos ⟨hk1, hk6⟩])
  have hsl : sb < w.heap.size := h.lt
  have HU := Lib.hid ((Upd.refl (· = sb) w).alloc (.cells hd0 50))
  have HS1 := Lib.hid (And.intro (h.upd ((Upd.refl No w).alloc (.cells hd0 50)) id (fun _ _ => id)) (Blk.new w 50 hd0))
  have HF := Lib.hid (fun V hV => form_any B sb L V hV)
  have hfv : formV (kindM L) = .agg #[.bool (kTx k), .bool (kCo k), .bool (kGr k)] := by unfold formV; rw [hkm, if_pos ⟨hk1, hk6⟩]
  rw [hfv, hkm, decide_eq_true ⟨hk1, hk6⟩] at HF
  have HL := Lib.hid hsl
  have HMY : Hid (manyM k = if kGr k then 3 else 2) := Lib.hid rfl
  obtain ⟨m, hm⟩ : ∃ m, manyM k = m := ⟨_, rfl⟩
  rw [hm] at HM HMY hng
  have HNG := Lib.hid hng
  have HH0 : Hid (hdV k [] = #[.bool (kTx k), .bool (kCo k), .bool (kGr k), .int .i64 0, .int .i64 0, .int .i64 1]) := Lib.hid rfl
  have HST : Hid (∀ (vs : List Nat) (v i : Nat), vs.length = i → i < 3 → (hdV k vs).setIfInBounds (3 + i) (.int .i64 (v : Nat)) = hdV k (vs ++ [v])) := Lib.hid (hdV_set k)
  have HKM := Lib.hid hkm
  unfold hd0 at HU HS1
  obtain ⟨bg, hbg⟩ : ∃ bg, kGr k = bg := ⟨_, rfl⟩
  obtain ⟨bt, hbt⟩ : ∃ bt, kTx k = bt := ⟨_, rfl⟩
  obtain ⟨bc, hbc⟩ : ∃ bc, kCo k = bc := ⟨_, rfl⟩
  rw [hbg, hbt, hbc] at HF HH0
  rw [hbg] at HMY
  have HBS := Lib.hid (And.intro hbg (And.intro hbt hbc))
  clear h hkm hfv hsl hng hm hbg hbt hbc
  go_enter Tryz.func15, Tryz.ntmps15
  go_upto_region 1 with (fail)
  generalize w.alloc (.cells #[.bool false, .bool false, .bool false, .int .i64 0, .int .i64 0, .int .i64 0] 50) = w1 at *
  go_wp2_with fail
  refine (HF.out w1 HS1.out.1).mono ?_
  rintro e w2 ⟨rfl, h2, u2⟩
  have hsl := HL.out
  have hs1 : w.heap.size < w1.heap.size := HS1.out.2.lt
  have k2 := HS1.out.2.upd u2 (by omega)
  have u3 := (Upd.refl No w2).alloc (.cells #[.bool bt, .bool bc, .bool bg] 48)
  have kf := Blk.new w2 48 #[.bool bt, .bool bc, .bool bg]
  have HA := Lib.hid (And.intro ((HU.out.trans u2).trans (u3.mono (fun _ _ h => absurd h id))) (And.intro (k2.upd u3 id) (And.intro kf (h2.upd u3 id (fun _ _ => id)))))
  have hs2 := u2.size
  clear u2 u3 h2 k2 kf
  go_upto_region 2 with (fail)
  have hs3 : (w2.alloc (.cells #[.bool bt, .bool bc, .bool bg] 48)).heap.size = w2.heap.size + 1 := World.size_alloc _ _
  generalize w2.alloc (.cells #[.bool bt, .bool bc, .bool bg] 48) = w3 at *
  generalize w2.heap.size = fb at *
  have q0 := HA.out.2.2.1.cell 0; have q1 := HA.out.2.2.1.cell 1; have q2 := HA.out.2.2.1.cell 2
  go_upto_region 5 with (fail)
  have u4 := (Upd.refl No w3).alloc (.cells #[.bool bt, .bool bc, .bool bg, .int .i64 0, .int .i64 0, .int .i64 1] 50)
  have kh := Blk.new w3 50 #[.bool bt, .bool bc, .bool bg, .int .i64 0, .int .i64 0, .int .i64 1]
  rw [hs3] at kh
  have hs4 : (w3.alloc (.cells #[.bool bt, .bool bc, .bool bg, .int .i64 0, .int .i64 0, .int .i64 1] 50)).heap.size = fb + 2 := by rw [World.size_alloc, hs3]
  rw [← HH0.out] at kh hs4 u4
  rw [← HH0.out]
  have HA4 := Lib.hid (And.intro (HA.out.1.trans (u4.mono (fun _ _ h => absurd h id))) (And.intro (HA.out.2.1.upd u4 id) (And.intro kh (HA.out.2.2.2.upd u4 id (fun _ _ => id)))))
  generalize w3.alloc (.cells (hdV k []) 50) = w4 at *
  clear u4 kh q0 q1 q2
  go_upto_region 6 with (fail)
  have u5 := (Upd.refl No w4).alloc (.cells #[ptV (fb + 1) 3, ptV (fb + 1) 4] 83)
  have kn := Blk.new w4 83 #[ptV (fb + 1) 3, ptV (fb + 1) 4]
  rw [hs4] at kn
  have hs5 : (w4.alloc (.cells #[ptV (fb + 1) 3, ptV (fb + 1) 4] 83)).heap.size = fb + 3 := by rw [World.size_alloc, hs4]
  have HA5 := Lib.hid (And.intro (HA4.out.1.trans (u5.mono (fun _ _ h => absurd h id))) (And.intro (HA4.out.2.1.upd u5 id) (And.intro (HA4.out.2.2.1.upd u5 id) (And.intro (HA4.out.2.2.2.upd u5 id (fun _ _ => id)) kn))))
  have hlo := hs5
  have hpt : ∀ i, i < 2 → (w4.alloc (.cells #[ptV (fb + 1) 3, ptV (fb + 1) 4] 83)).cell? ⟨fb + 2, i, none⟩ = some (.pointer (some ⟨fb + 1, 3 + i, none⟩)) := by
    intro i hi
    rw [kn.cell i]
    match i, hi with
    | 0, _ => rfl
    | 1, _ => rfl
  have HPT := Lib.hid hpt
  clear u5 kn hpt hlo
  have z2 : (w4.alloc (.cells #[ptV (fb + 1) 3, ptV (fb + 1) 4] 83)).cell? ⟨fb + 1, 2, none⟩ = some (.bool bg) := by rw [HA5.out.2.2.1.cell 2, HH0.out]; rfl
  unfold ptV at HA5 HPT z2 hs5
  generalize w4.alloc (.cells #[.pointer (some ⟨fb + 1, 3, none⟩), .pointer (some ⟨fb + 1, 4, none⟩)] 83) = w5 at *
  go_upto_if 25 with (fail)
  go_cut [7] from 26 to 29 (fun v wx => ∃ nb c, v = .slice (some ⟨nb, 0, none⟩) m c ∧ Hid (HdI w B sb fb nb m k [] (behM L) wx))
  case first =>
    cases bg with
    | false =>
      have hm2 : m = 2 := HMY.out
      go_wp2_with fail
      go_meet
      exact ⟨fb + 2, 2, by rw [hm2], Lib.hid ⟨HA5.out.1, HA5.out.2.1, HA5.out.2.2.1, HA5.out.2.2.2.1, by rw [hm2]; exact HPT.out, by omega, by omega, by omega⟩⟩
    | true =>
      have hm3 : m = 3 := HMY.out
      obtain ⟨n2, c2, w6, hrun, hp6, hn1, hn2, u6⟩ := ptr_three w5 (fb + 2) (fb + 1) HA5.out.2.2.2.2
      unfold ptV at hrun
      have HRN := Lib.hid hrun
      have HF6 : Hid (HdI w B sb fb n2 m k [] (behM L) w6) := Lib.hid ⟨HA5.out.1.then u6 (fun i hi e => by omega), HA5.out.2.1.upd u6 (by omega), HA5.out.2.2.1.upd u6 (by omega), HA5.out.2.2.2.1.upd u6 (by omega) (fun j hj => by obtain ⟨_, _, _, _, _, h⟩ := HA5.out.2.2.2.1; omega), by rw [hm3]; exact hp6, hn2, by omega, by omega⟩
      clear hrun hp6 u6 hs5
      go_wp2_with (at_builtin; refine wpList_append_run rfl (.tmp 26) (.tmp 28) _ rfl rfl rfl HRN.out ?_)
      go_meet
      exact ⟨n2, c2, by rw [hm3], HF6⟩
  case rest =>
    obtain ⟨nb, c, rfl, HI⟩ := hcut
    have hm3 : m ≤ 3 := by rw [HMY.out]; split <;> omega
    have HS0 : Hid (HdI w B sb fb nb m k [] (behM L) wc ∧ fieldsM m (behM L) = (fieldsM (m - 0) (behM L)).map (fun p => ([] ++ p.1, p.2)) ∧ noRem (m - 0) (behM L)) := Lib.hid ⟨HI.out, by rw [Nat.sub_zero]; cases fieldsM m (behM L) <;> rfl, HNG.out⟩
    clear HA5 HPT HA4 HA HS1 HU z2 hs5 hs4 hs3 hs2 hs1 HI HNG HF HMY
    go_upto_region 9 with (fail)
    go_loopw [5, 9, 32] (fun okv pv iv wr => ∃ (i : Nat) (vs : List Nat) (cur : List UInt8), i ≤ m ∧ vs.length = i ∧ iv = .int .i64 (i : Int) ∧ Hid (HdI w B sb fb nb m k vs cur wr ∧ fieldsM m (behM L) = (fieldsM (m - i) cur).map (fun p => (vs ++ p.1, p.2)) ∧ noRem (m - i) cur)) (fun _ _ iv _ => m - (intOf iv).toNat)
    case atStart => exact ⟨0, [], behM L, Nat.zero_le _, rfl, rfl, HS0⟩
    case round =>
      obtain ⟨i, vs, cur, hi, hvl, rfl, HV⟩ := hrel
      clear HS0
      by_cases hlt : i < m
      · have hpt := HV.out.1.pt i hlt
        have hi3 : i < 3 := by omega
        have hmi : m - i = (m - (i + 1)) + 1 := by omega
        obtain ⟨G, hG⟩ : ∃ G, gapM false cur = G := ⟨_, rfl⟩
        obtain ⟨N, hN⟩ : ∃ N, numM 0 0 G.2 = N := ⟨_, rfl⟩
        have hno : st1 G.2 35 35 = false := by have := HV.out.2.2; rw [hmi] at this; rw [← hG]; exact this.1
        have HFM : Hid (fieldM cur = if G.1 = true ∧ N.1.2 = true ∧ 1 ≤ N.1.1 then some (N.1.1, N.2) else none) := Lib.hid (by unfold fieldM; rw [hG, hN])
        have HGA := Lib.hid (fun V hV => gap_any B sb cur (by rw [hG]; exact hno) V hV)
        have HNA := Lib.hid (fun V hV => number_any B sb G.2 V hV)
        rw [hG] at HGA
        rw [hN] at HNA
        have HBAD : Hid (fieldM cur = none → headM L = none) := Lib.hid (fun h => by rw [HM.out, HV.out.2.1, hmi, fieldsM, h]; rfl)
        have HGD : Hid (∀ v L', fieldM cur = some (v, L') → fieldsM m (behM L) = (fieldsM (m - (i + 1)) L').map (fun p => ((vs ++ [v]) ++ p.1, p.2)) ∧ noRem (m - (i + 1)) L') := Lib.hid (fun v L' h => by
          refine ⟨?_, ?_⟩
          · rw [HV.out.2.1, hmi, fieldsM, h]
            show Option.map _ (Option.map _ _) = _
            rw [Option.map_map]
            congr 1
            funext p
            show (vs ++ v :: p.1, p.2) = _
            rw [List.append_assoc]; rfl
          · have := HV.out.2.2
            rw [hmi] at this
            exact this.2 v L' h)
        obtain ⟨⟨nv, nok⟩, nr⟩ := N
        obtain ⟨gf, gr⟩ := G
        clear hG hN hno hmi
        go_wp2_with fail
        refine (HGA.out wr HV.out.1.sc).mono ?_
        rintro e w2 ⟨rfl, h2, u2⟩
        have HI2 := Lib.hid (HV.out.1.scan hsl u2 h2)
        clear h2 u2
        have k0 := HI2.out.kr.cell 0; have k1 := HI2.out.kr.cell 1; have k2 := HI2.out.kr.cell 2; have k3 := HI2.out.kr.cell 3; have k4 := HI2.out.kr.cell 4; have k5 := HI2.out.kr.cell 5
        have f0 := HI2.out.kr.frozen 0; have f1 := HI2.out.kr.frozen 1; have f2 := HI2.out.kr.frozen 2; have f3 := HI2.out.kr.frozen 3; have f4 := HI2.out.kr.frozen 4; have f5 := HI2.out.kr.frozen 5
        cases gf with
        | false =>
          have hfn : fieldM cur = none := by rw [HFM.out, if_neg (by simp)]
          go_wp2_with fail
          obtain ⟨w9, hw9⟩ : ∃ w9, w9 = (((((w2.setCell ⟨w.heap.size, 0, none⟩ (.bool false)).setCell ⟨w.heap.size, 1, none⟩ (.bool false)).setCell ⟨w.heap.size, 2, none⟩ (.bool false)).setCell ⟨w.heap.size, 3, none⟩ (.int .i64 0)).setCell ⟨w.heap.size, 4, none⟩ (.int .i64 0)).setCell ⟨w.heap.size, 5, none⟩ (.int .i64 0) := ⟨_, rfl⟩
          obtain ⟨hq, x0, x1, x2, x3, x4, x5⟩ := headQ_zero (B := B) (HBAD.out hfn) (Nat.le_refl _) HI2.out.u HI2.out.kr hw9
          rw [← hw9]
          exact bodyPost_ret (v := .tuple #[.agg hd0, .bool false]) (by simp [results, Tryz.results15, go_sem, x0, x1, x2, x3, x4, x5, hd0]) rfl hq
        | true =>
          clear k0 k1 k2 k3 k4 k5 f0 f1 f2 f3 f4 f5
          go_wp2_with fail
          refine (HNA.out w2 HI2.out.sc).mono ?_
          rintro e w3 ⟨rfl, h3, u3⟩
          have HI3 := Lib.hid (HI2.out.scan hsl u3 h3)
          clear h3 u3
          obtain ⟨x, hx⟩ : ∃ x, (hdV k vs)[3 + i]? = some x := ⟨_, Array.getElem?_eq_getElem (show 3 + i < (hdV k vs).size by show 3 + i < 6; omega)⟩
          have z1 : w3.cell? ⟨fb + 1, 3 + i, none⟩ = some x := (HI3.out.kh.cell (3 + i)).trans hx
          have z2 := HI3.out.kh.frozen (3 + i)
          have HI4 := Lib.hid (HI3.out.store (v := nv) hsl hvl hi3)
          go_upto_region 14 with (fail)
          generalize w3.setCell ⟨fb + 1, 3 + i, none⟩ (.int .i64 (nv : Nat)) = w6 at *
          have z3 : w6.cell? ⟨fb + 1, 3 + i, none⟩ = some (.int .i64 (nv : Nat)) := (HI4.out.kh.cell (3 + i)).trans (hdV_get k vs nv i hvl hi3)
          have k0 := HI4.out.kr.cell 0; have k1 := HI4.out.kr.cell 1; have k2 := HI4.out.kr.cell 2; have k3 := HI4.out.kr.cell 3; have k4 := HI4.out.kr.cell 4; have k5 := HI4.out.kr.cell 5
          have f0 := HI4.out.kr.frozen 0; have f1 := HI4.out.kr.frozen 1; have f2 := HI4.out.kr.frozen 2; have f3 := HI4.out.kr.frozen 3; have f4 := HI4.out.kr.frozen 4; have f5 := HI4.out.kr.frozen 5
          clear z1 z2 hx HI3
          cases nok with
          | false =>
            have hfn : fieldM cur = none := by rw [HFM.out, if_neg (by simp)]
            go_wp2_with fail
            obtain ⟨w9, hw9⟩ : ∃ w9, w9 = (((((w6.setCell ⟨w.heap.size, 0, none⟩ (.bool false)).setCell ⟨w.heap.size, 1, none⟩ (.bool false)).setCell ⟨w.heap.size, 2, none⟩ (.bool false)).setCell ⟨w.heap.size, 3, none⟩ (.int .i64 0)).setCell ⟨w.heap.size, 4, none⟩ (.int .i64 0)).setCell ⟨w.heap.size, 5, none⟩ (.int .i64 0) := ⟨_, rfl⟩
            obtain ⟨hq, x0, x1, x2, x3, x4, x5⟩ := headQ_zero (B := B) (HBAD.out hfn) (Nat.le_refl _) HI4.out.u HI4.out.kr hw9
            rw [← hw9]
            exact bodyPost_ret (v := .tuple #[.agg hd0, .bool false]) (by simp [results, Tryz.results15, go_sem, x0, x1, x2, x3, x4, x5, hd0]) rfl hq
          | true =>
            by_cases hn1 : 1 ≤ nv
            · have hfy := HGD.out nv nr (by rw [HFM.out, if_pos (by simp [hn1])])
              have HNX : Hid (HdI w B sb fb nb m k (vs ++ [nv]) nr w6 ∧ fieldsM m (behM L) = (fieldsM (m - (i + 1)) nr).map (fun p => ((vs ++ [nv]) ++ p.1, p.2)) ∧ noRem (m - (i + 1)) nr) := Lib.hid ⟨HI4.out, hfy.1, hfy.2⟩
              have d1 : ¬ ((nv : Int) < 1) := by omega
              have hl9 : (vs ++ [nv]).length = i + 1 := by rw [List.length_append, hvl]; rfl
              clear hfy HGD HBAD HFM k0 k1 k2 k3 k4 k5 f0 f1 f2 f3 f4 f5
              go_wp2_with fail
              go_roundw
              case rel => exact ⟨i + 1, vs ++ [nv], nr, by omega, hl9, by go_num, HNX⟩
              case measure => simp [intOf]; omega
            · have hfn : fieldM cur = none := by rw [HFM.out, if_neg (by simp; omega)]
              have d1 : ((nv : Int) < 1) := by omega
              go_wp2_with fail
              obtain ⟨w9, hw9⟩ : ∃ w9, w9 = (((((w6.setCell ⟨w.heap.size, 0, none⟩ (.bool false)).setCell ⟨w.heap.size, 1, none⟩ (.bool false)).setCell ⟨w.heap.size, 2, none⟩ (.bool false)).setCell ⟨w.heap.size, 3, none⟩ (.int .i64 0)).setCell ⟨w.heap.size, 4, none⟩ (.int .i64 0)).setCell ⟨w.heap.size, 5, none⟩ (.int .i64 0) := ⟨_, rfl⟩
              obtain ⟨hq, x0, x1, x2, x3, x4, x5⟩ := headQ_zero (B := B) (HBAD.out hfn) (Nat.le_refl _) HI4.out.u HI4.out.kr hw9
              rw [← hw9]
              exact bodyPost_ret (v := .tuple #[.agg hd0, .bool false]) (by simp [results, Tryz.results15, go_sem, x0, x1, x2, x3, x4, x5, hd0]) rfl hq
      · obtain rfl : i = m := by omega
        have hf := HV.out.2.1
        rw [Nat.sub_self, fieldsM] at hf
        have HFF : Hid (headM L = some (vs, cur)) := Lib.hid (by rw [HM.out, hf]; simp)
        have HI := Lib.hid HV.out.1
        have k0 := HI.out.kr.cell 0; have k1 := HI.out.kr.cell 1; have k2 := HI.out.kr.cell 2; have k3 := HI.out.kr.cell 3; have k4 := HI.out.kr.cell 4; have k5 := HI.out.kr.cell 5
        have f0 := HI.out.kr.frozen 0; have f1 := HI.out.kr.frozen 1; have f2 := HI.out.kr.frozen 2; have f3 := HI.out.kr.frozen 3; have f4 := HI.out.kr.frozen 4; have f5 := HI.out.kr.frozen 5
        have hV := HI.out.kh
        obtain ⟨e1, e2, e3⟩ := HBS.out
        unfold hdV at hV
        rw [e1, e2, e3] at hV
        obtain ⟨t0, ht0⟩ : ∃ t0, vs.getD 0 0 = t0 := ⟨_, rfl⟩
        obtain ⟨t1, ht1⟩ : ∃ t1, vs.getD 1 0 = t1 := ⟨_, rfl⟩
        obtain ⟨t2, ht2⟩ : ∃ t2, vs.getD 2 1 = t2 := ⟨_, rfl⟩
        rw [ht0, ht1, ht2] at hV
        have v0 := hV.cell 0; have v1 := hV.cell 1; have v2 := hV.cell 2; have v3 := hV.cell 3; have v4 := hV.cell 4; have v5 := hV.cell 5
        have HT := Lib.hid (And.intro ht0 (And.intro ht1 (And.intro ht2 (And.intro e1 (And.intro e2 e3)))))
        clear hV hf ht0 ht1 ht2 e1 e2 e3 HV
        have hlo : w.heap.size < fb + 1 := HI.out.lo.2
        have hne : ¬ fb + 1 = w.heap.size := by omega
        go_upto_region 17 with (fail)
        go_region
        obtain ⟨k9, u9⟩ := setB6 HI.out.kr (.bool bt) (.bool bc) (.bool bg) (.int .i64 (t0 : Nat)) (.int .i64 (t1 : Nat)) (.int .i64 (t2 : Nat))
        have hsc9 := HI.out.sc.upd u9 (by omega) (fun j hj => by obtain ⟨_, _, _, _, _, h⟩ := HI.out.sc; omega)
        have hu9 := HI.out.u.then u9 (fun i hi e => by omega)
        generalize (((((wr.setCell ⟨w.heap.size, 0, none⟩ (.bool bt)).setCell ⟨w.heap.size, 1, none⟩ (.bool bc)).setCell ⟨w.heap.size, 2, none⟩ (.bool bg)).setCell ⟨w.heap.size, 3, none⟩ (.int .i64 (t0 : Nat))).setCell ⟨w.heap.size, 4, none⟩ (.int .i64 (t1 : Nat))).setCell ⟨w.heap.size, 5, none⟩ (.int .i64 (t2 : Nat)) = w9 at *
        have x0 : w9.drew.cell? ⟨w.heap.size, 0, none⟩ = some (.bool bt) := k9.cell 0
        have x1 : w9.drew.cell? ⟨w.heap.size, 1, none⟩ = some (.bool bc) := k9.cell 1
        have x2 : w9.drew.cell? ⟨w.heap.size, 2, none⟩ = some (.bool bg) := k9.cell 2
        have x3 : w9.drew.cell? ⟨w.heap.size, 3, none⟩ = some (.int .i64 (t0 : Nat)) := k9.cell 3
        have x4 : w9.drew.cell? ⟨w.heap.size, 4, none⟩ = some (.int .i64 (t1 : Nat)) := k9.cell 4
        have x5 : w9.drew.cell? ⟨w.heap.size, 5, none⟩ = some (.int .i64 (t2 : Nat)) := k9.cell 5
        have HE := Lib.hid (And.intro hsc9 hu9)
        clear k9 u9 hsc9 hu9 k0 k1 k2 k3 k4 k5 f0 f1 f2 f3 f4 f5 v0 v1 v2 v3 v4 v5
        go_wp2_with fail
        refine bodyPost_ret (v := .tuple #[.agg #[.bool bt, .bool bc, .bool bg, .int .i64 (t0 : Nat), .int .i64 (t1 : Nat), .int .i64 (t2 : Nat)], .bool (decide ((t2 : Int) ≤ 65535))]) (by simp [results, Tryz.results15, go_sem, x0, x1, x2, x3, x4, x5]) rfl ⟨HE.out.2.drew, .inr ⟨vs, cur, HFF.out, ?_, HE.out.1⟩⟩
        obtain ⟨ht0, ht1, ht2, e1, e2, e3⟩ := HT.out
        unfold hdV
        rw [HKM.out, ht0, ht1, ht2, e1, e2, e3]
        have hd : decide ((t2 : Int) ≤ 65535) = decide (t2 ≤ 65535) := by
          by_cases h : t2 ≤ 65535
          · rw [decide_eq_true h, decide_eq_true (by omega)]
          · rw [decide_eq_false h, decide_eq_false (by omega)]
        rw [hd]
theorem head_any (B sb : Nat) (L : List UInt8) (hng : noRem (manyM (kindM L)) (behM L)) (w : World) (h : Sc w B sb L) : Calls Tryz.prog 15 #[.pointer (some ⟨sb, 0, none⟩)] w (HeadQ B sb w L) := by
  by_cases hk : 1 ≤ kindM L ∧ kindM L ≤ 6
  · exact head_yes B sb L (kindM L) rfl hk.1 hk.2 hng w h
  · exact head_no B sb L w h hk
end Go.Proofs.YtfbokhdimffabaaGreatDoor
