/- Joined texts (a claim has at most 60 files): No Np. -/
import Derived.Test.YtfbokhdimffabaaGreatDoorNm
import Derived.Test.YtfbokhdimffabaaGreatDoorNg
import Derived.Test.YtfbokhdimffabaaGreatDoorQh
import Derived.Test.YtfbokhdimffabaaGreatDoorNk
/- The document's row of digits. -/
set_option linter.unusedVariables false
set_option linter.unusedSimpArgs false
namespace Go.Proofs.YtfbokhdimffabaaGreatDoor
open Go.ChangeShapes Go.WideShapes Go.ChangeAt Go.RowKit Go.Sort

theorem decB_pos (v : Int) : 1 ≤ (decB v).length := by
  unfold decB
  rw [Lib.decDigits_length]
  by_cases h : v.toNat < 10
  · rw [Lib.nDigits_small h]; omega
  · rw [Lib.nDigits_big h]; omega
theorem digD_pos {l : List Int} (h : l ≠ []) (j : Nat) : 1 ≤ (digD j l).length := by
  cases l with
  | nil => exact absurd rfl h
  | cons v r =>
    have := decB_pos v
    rw [digD, List.length_append, List.length_append]
    omega
/-- A number's bytes are appended: a literal, a converted string. -/
theorem RwG.lit {w : World} {base n : Nat} {v : Value} {xs : List Value} (h : RwG w base v n xs) (hb : base ≤ w.heap.size) (x : UInt8) (hlim : n + 1 ≤ 140737488355328) :
    ∃ A' c' w', (Builtin.append_ #[22, 22] 22 #[v, .slice (some ⟨w.heap.size, 0, none⟩) 1 1]).run Tryz.prog (w.alloc (.cells #[.int .u8 (x.toNat : Nat)] 5)) = .ok (.slice A' (n + 1) c') w' ∧ RwG w' base (.slice A' (n + 1) c') (n + 1) (xs ++ Lib.byteCells [x]) ∧ Upd (fun k => some k = v.ownBlock) w w' := by
  have uz : Upd No w (w.alloc (.cells #[.int .u8 (x.toNat : Nat)] 5)) := (Upd.refl No w).alloc _
  have hkz : (w.alloc (.cells #[.int .u8 (x.toNat : Nat)] 5)).cell? ⟨w.heap.size, 0, none⟩ = some (.int .u8 (x.toNat : Nat)) := (Blk.new w 5 #[.int .u8 (x.toNat : Nat)]).cell 0
  obtain ⟨A5, c5, w5, hrun, r5, u5⟩ := (h.upd uz (fun _ _ => id)).app (Nat.le_trans hb uz.size) ⟨w.heap.size, 0, none⟩ 1 1 [.int .u8 (x.toNat : Nat)] rfl (fun q y hy => by
    match q, hy with
    | 0, hy => simp at hy; subst hy; rw [Lib.add_plain]; exact hkz) (by intro y hy; simp at hy; subst hy; rfl) hlim 22
  exact ⟨A5, c5, w5, hrun, r5, (uz.mono (fun _ _ h => absurd h id)).then u5 (fun _ _ h => h)⟩
theorem RwG.conv {w : World} {base n : Nat} {v : Value} {xs : List Value} (h : RwG w base v n xs) (hb : base ≤ w.heap.size) (s : ByteArray) (hlim : n + s.size ≤ 140737488355328) :
    ∃ A' c' w', (Builtin.append_ #[22, 22] 22 #[v, .slice (some ⟨w.heap.size, 0, none⟩) s.size (grownCap w s.size 0 5)]).run Tryz.prog (Lib.bytesWorld w 5 s) = .ok (.slice A' (n + s.size) c') w' ∧ RwG w' base (.slice A' (n + s.size) c') (n + s.size) (xs ++ Lib.strCells s) ∧ Upd (fun k => some k = v.ownBlock) w w' := by
  have hw4 := Lib.bytesWorld_below w 5 s
  have hc := rwG_conv w s w.heap.size (Nat.le_refl _)
  obtain ⟨A5, c5, w5, hrun, r5, u5⟩ := (h.upd (Upd.of_fresh hw4) (fun _ _ => id)).app (Nat.le_trans hb hw4.size) ⟨w.heap.size, 0, none⟩ s.size (grownCap w s.size 0 5) (Lib.strCells s) (Lib.strCells_length s) (fun j y hy => by rw [Lib.add_plain, Nat.zero_add]; exact hc.cells rfl j y hy) (Lib.strCells_oneCell s) hlim 22
  exact ⟨A5, c5, w5, hrun, r5, ((Upd.of_fresh hw4).mono (fun _ _ h => absurd h id)).then u5 (fun _ _ h => h)⟩
end Go.Proofs.YtfbokhdimffabaaGreatDoor

/- The document's row of digits, walked. -/
set_option linter.unusedVariables false
set_option linter.unusedSimpArgs false
namespace Go.Proofs.YtfbokhdimffabaaGreatDoor
open Go.ChangeShapes Go.WideShapes Go.ChangeAt Go.RowKit Go.Sort

theorem rowL_px {l : List Int} {W H X Y : Nat} (hx : X < W) (hy : Y < H) (hX : X < (rowL W (pxL l (W * H)) Y).length) : (rowL W (pxL l (W * H)) Y)[X] = pxAt l (4 * (Y * W + X)) := by
  have hm := Nat.mul_le_mul_right W (show Y + 1 ≤ H by omega)
  rw [Nat.succ_mul, Nat.mul_comm H W] at hm
  have hlt : Y * W + X < W * H := by omega
  have := pxL_get l (W * H) (Y * W + X) hlt
  rw [List.getD_eq_getElem?_getD, List.getElem?_eq_getElem (by rw [pxL_length]; exact hlt), Option.getD_some] at this
  have e : ∀ (hq : X < ((((pxL l (W * H)).drop (Y * W)).take W)).length), (((pxL l (W * H)).drop (Y * W)).take W)[X]'hq = pxAt l (4 * (Y * W + X)) := fun hq => by
    rw [List.getElem_take, List.getElem_drop, this]
  exact e hX
set_option maxRecDepth 100000 in
set_option maxHeartbeats 8000000 in
theorem refRowT_any (k top : Nat) (hk1 : 1 ≤ k) (hk3 : k ≤ 3) (h1 : 1 ≤ top) (h2 : top ≤ 65535) (r o c n W H Y : Nat) (l : List Int) (hn : l.length = n) (hn4 : n = 4 * (W * H)) (hf : W * H ≤ 65536) (hlb : ∀ v ∈ l, 0 ≤ v ∧ v ≤ 65535) (hW : W ≤ 4096) (hY : Y < H) (hH : H ≤ 4096) (w : World) (h : Smp w r o l) (hr : r < w.heap.size) (hT : Pow10 w) :
    Calls Tryz.prog 33 #[imgV W H (some ⟨r, o, none⟩) n c, .int .i64 (Y : Nat), .int .i64 (k : Nat), .int .i64 (top : Nat)] w fun e w' => ∃ A' n' c', e = .returned (.slice A' n' c') ∧ RwG w' w.heap.size (.slice A' n' c') n' (Lib.byteCells (digD 0 (rowM k top (rowL W (pxL l (W * H)) Y)) ++ [10])) ∧ Below w.heap.size w w' := by
  obtain ⟨w1, hw1, hi, hb⟩ := newImg W H (some ⟨r, o, none⟩) n c w
  have HTB := Lib.hid (Lib.tabBelow_of_tabIs hT)
  have HPX := Lib.hid (fun (V : World) (hV : Below w.heap.size w V) (X : Nat) (hx : X < W) => pixel_any (c := c) hn hn4 hf (h.below hV hr) X Y hx hY)
  have hd : ∀ j, 0 ≤ l.getD j 0 ∧ l.getD j 0 ≤ 65535 := fun j => by
    by_cases hj : j < l.length
    · rw [List.getD_eq_getElem?_getD, List.getElem?_eq_getElem hj]; exact hlb _ (List.getElem_mem hj)
    · rw [List.getD_eq_getElem?_getD, List.getElem?_eq_none (by omega)]; simp
  have HCK := Lib.hid (fun j => (⟨hd _, hd _, hd _⟩ : ColK (pxAt l j)))
  have HSM := Lib.hid (fun x hx V => refSamples_any k top hk1 (by omega) h1 h2 x hx V)
  have hLl : (rowL W (pxL l (W * H)) Y).length = W := rowL_length (pxL_length l (W * H)) hY
  have HLX := Lib.hid (fun (X : Nat) (hx : X < W) (hX : X < (rowL W (pxL l (W * H)) Y).length) => rowL_px (l := l) (H := H) hx hY hX)
  have d4 : (k : Int) < 4 := by omega
  have hst : IB w1 w.heap.size (.int .i64 (W : Nat)) (.int .i64 (H : Nat)) (.slice (some ⟨r, o, none⟩) n c) ∧ RwG w1 w.heap.size (.slice none 0 0) 0 (Lib.byteCells (digD 0 (rowM k top ((rowL W (pxL l (W * H)) Y).take 0)))) ∧ Below w.heap.size w w1 := ⟨hi, .inl (World.ownsRow_nil _ _ _ _), hb⟩
  have HST := Lib.hid hst
  have HW1 := Lib.hid hw1
  obtain ⟨Lr, hLr⟩ : ∃ Lr, rowL W (pxL l (W * H)) Y = Lr := ⟨_, rfl⟩
  rw [hLr] at HST hLl HLX ⊢
  have HLL := Lib.hid hLl
  have HRB : Hid (∀ X, ∀ v ∈ rowM k top (Lr.take X), v ≤ 65535) := Lib.hid (fun X v hv => (rowM_bd k top (by unfold topN; split <;> omega) (by unfold topN; split <;> omega) (Lr.take X) (fun x hx => by
    have hx2 := List.mem_of_mem_take hx
    rw [← hLr] at hx2
    have hx3 := List.mem_of_mem_drop (List.mem_of_mem_take hx2)
    obtain ⟨i, hi, rfl⟩ := List.mem_iff_getElem.1 hx3
    rw [pxL_length] at hi
    have := pxL_get l (W * H) i hi
    rw [List.getD_eq_getElem?_getD, List.getElem?_eq_getElem (by rw [pxL_length]; exact hi), Option.getD_some] at this
    rw [this]
    exact HCK.out _) v hv).2)
  clear hw1 hi hb hst h hT hd hlb hLr hLl hn hn4
  go_enter Tryz.func33, Tryz.ntmps33
  go_upto_region 1 with (fail)
  have hw1 := HW1.out
  try rw [hw1]
  clear hw1
  go_wp2_with fail
  go_loopw [9, 10] (fun v iv wr => ∃ (X m : Nat) (A' : Option Addr) (c' : Nat), X ≤ W ∧ v = .slice A' m c' ∧ iv = .int .i64 (X : Int) ∧ Hid (IB wr w.heap.size (.int .i64 (W : Nat)) (.int .i64 (H : Nat)) (.slice (some ⟨r, o, none⟩) n c) ∧ RwG wr w.heap.size (.slice A' m c') m (Lib.byteCells (digD 0 (rowM k top (Lr.take X)))) ∧ Below w.heap.size w wr)) (fun _ iv _ => W - (intOf iv).toNat)
  case atStart => exact ⟨0, 0, none, 0, Nat.zero_le _, rfl, rfl, HST⟩
  case round =>
    obtain ⟨X, m, A', c', hX, rfl, rfl, HV⟩ := hrel
    have q0 := HV.out.1.c0; have q1 := HV.out.1.c1; have q2 := HV.out.1.c2
    by_cases hlt : X < W
    · have hP := Lib.hid (HPX.out wr HV.out.2.2 X hlt)
      have hxe := HLX.out X hlt (by rw [HLL.out]; exact hlt)
      have HC := HCK.out (4 * (Y * W + X))
      have HSX := Lib.hid (fun V => HSM.out _ HC V)
      have HNX : Hid (rowM k top (Lr.take (X + 1)) = rowM k top (Lr.take X) ++ (partM k (pxAt l (4 * (Y * W + X)))).map (sampM k top)) := Lib.hid (by
        rw [List.take_succ_eq_append_getElem (by rw [HLL.out]; exact hlt), rowM_app, hxe])
      generalize pxAt l (4 * (Y * W + X)) = x at *
      have hxc : ColK x := HC
      have hbd : ∀ v ∈ (partM k x).map (sampM k top), 0 ≤ v ∧ v ≤ 65535 := by
        have := rowM_bd k top (by unfold topN; split <;> omega) (by unfold topN; split <;> omega) [x] (fun y hy => by rw [List.mem_singleton] at hy; rw [hy]; exact hxc)
        simpa [rowM] using this
      have hsl : ((partM k x).map (sampM k top)).length = plN k := by rw [List.length_map, partM_length]
      have hSl : (rowM k top (Lr.take X)).length = plN k * X := by rw [rowM_length, List.length_take, HLL.out, Nat.min_eq_left hX]
      have hSb : ∀ v ∈ rowM k top (Lr.take X), v ≤ 65535 := HRB.out X
      have hpl := plN_le k
      have hPX : plN k * X ≤ 3 * 4096 := Nat.mul_le_mul hpl.2 (by omega)
      clear HC hxc hxe
      unfold SmpR at HSX
      generalize (partM k x).map (sampM k top) = sm at *
      generalize rowM k top (Lr.take X) = S at *
      generalize plN k = pl at *
      have HB := Lib.hid (And.intro hbd (And.intro hsl (And.intro hSl hSb)))
      clear hbd hsl hSl hSb
      go_wp2_with fail
      refine hP.out.mono ?_
      rintro e w2 ⟨rfl, hb2⟩
      have HB2 := Lib.hid hb2
      clear hb2
      go_wp2_with fail
      refine (HSX.out w2).mono ?_
      rintro e w3 ⟨b, rfl, kb, hb3⟩
      have hb23 := HB2.out.trans (hb3.mono HB2.out.size)
      have HS1 : Hid (IB w3 w.heap.size (.int .i64 (W : Nat)) (.int .i64 (H : Nat)) (.slice (some ⟨r, o, none⟩) n c) ∧ RwG w3 w.heap.size (.slice A' m c') m (Lib.byteCells (digD 0 (S ++ sm.take 0))) ∧ Blk w3 b 3 (intsV sm).toArray ∧ Below w.heap.size w w3) := Lib.hid ⟨HV.out.1.call hb23, by rw [List.take_zero, List.append_nil]; exact HV.out.2.1.upd (Upd.of_fresh hb23) (fun _ _ => id), kb, HV.out.2.2.trans (hb23.mono HV.out.2.2.size)⟩
      clear kb hb3 hb23 HB2 HSX hP q0 q1 q2 HV
      go_wp2_with fail
      go_loopw [9, 12] (fun v iv wr => ∃ (K m : Nat) (A' : Option Addr) (c' : Nat), K ≤ pl ∧ v = .slice A' m c' ∧ iv = .int .i64 (K : Int) ∧ Hid (IB wr w.heap.size (.int .i64 (W : Nat)) (.int .i64 (H : Nat)) (.slice (some ⟨r, o, none⟩) n c) ∧ RwG wr w.heap.size (.slice A' m c') m (Lib.byteCells (digD 0 (S ++ sm.take K))) ∧ Blk wr b 3 (intsV sm).toArray ∧ Below w.heap.size w wr)) (fun _ iv _ => pl - (intOf iv).toNat)
      case atStart => exact ⟨0, m, A', c', Nat.zero_le _, rfl, rfl, HS1⟩
      case round =>
        obtain ⟨K, m, A', c', hK, rfl, rfl, HZ⟩ := hrel
        clear HS1
        by_cases hlk : K < pl
        · have hKs : K < sm.length := by rw [HB.out.2.1]; exact hlk
          have y0 : wr.cell? ⟨b, K, none⟩ = some (.int .i64 sm[K]) := by
            rw [HZ.out.2.2.1.cell]
            simp [intsV, hKs]
          have hv := HB.out.1 sm[K] (List.getElem_mem hKs)
          obtain ⟨vn, hvn⟩ : ∃ vn : Nat, sm[K] = (vn : Int) := ⟨sm[K].toNat, by omega⟩
          have HDX : Hid (digD 0 (S ++ sm.take (K + 1)) = digD 0 (S ++ sm.take K) ++ (btw (S.length + K) ++ decB sm[K])) := Lib.hid (by
            rw [List.take_succ_eq_append_getElem hKs, ← List.append_assoc, digD_snoc, List.length_append, List.length_take, Nat.zero_add, Nat.min_eq_left (by omega)])
          have hsc : Lib.strCells (itS sm[K]) = Lib.byteCells (decB sm[K]) := by
            rw [hvn, itS, Lib.itoa_nonneg]
            rfl
          have HIT := Lib.hid (fun V hV => itoa_any sm[K] ⟨by omega, by omega⟩ V hV)
          have hs21 := itS_size (x := sm[K]) ⟨by omega, by omega⟩
          have hml := HZ.out.2.1.len
          have hlS := HB.out.2.2.1
          have hdl := digD_len (S ++ sm.take K) 0 (fun v hv => by
            rcases List.mem_append.mp hv with hv | hv
            · exact HB.out.2.2.2 v hv
            · exact (HB.out.1 v (List.mem_of_mem_take hv)).2)
          rw [Lib.byteCells_length] at hml
          rw [List.length_append, List.length_take] at hdl
          have hm9 : m ≤ 1000000 := by omega
          have hbt : btw (S.length + K) = if m = 0 then [] else [32] := by
            unfold btw
            by_cases h0 : S.length + K = 0
            · have e0 : S = [] := List.eq_nil_of_length_eq_zero (by omega)
              have e1 : sm.take K = [] := by rw [show K = 0 by omega, List.take_zero]
              have : m = 0 := by rw [← hml, e0, e1]; rfl
              rw [if_pos h0, if_pos this]
            · have hne : S ++ sm.take K ≠ [] := fun e => by
                have := congrArg List.length e
                rw [List.length_append, List.length_take, List.length_nil] at this
                omega
              have := digD_pos hne 0
              rw [if_neg h0, if_neg (by omega)]
          generalize sm[K] = sv at *
          subst hvn
          obtain ⟨s, hs⟩ : ∃ s, itS (vn : Int) = s := ⟨_, rfl⟩
          rw [hs] at hsc hs21 HIT
          obtain ⟨db, hdb⟩ : ∃ db, decB (vn : Int) = db := ⟨_, rfl⟩
          rw [hdb] at hsc HDX
          have HI2 : Hid (∀ (V : World) (m5 : Nat) (A5 : Option Addr) (c5 : Nat) (T : List UInt8), IB V w.heap.size (.int .i64 (W : Nat)) (.int .i64 (H : Nat)) (.slice (some ⟨r, o, none⟩) n c) → RwG V w.heap.size (.slice A5 m5 c5) m5 (Lib.byteCells T) → Blk V b 3 (intsV sm).toArray → Below w.heap.size w V → m5 ≤ 1000001 →
              ∃ A9 n9 c9 w9, (Builtin.append_ #[22, 22] 22 #[.slice A5 m5 c5, .slice (some ⟨V.heap.size, 0, none⟩) s.size (grownCap V s.size 0 5)]).run Tryz.prog (Lib.bytesWorld V 5 s) = .ok (.slice A9 n9 c9) w9 ∧
                (IB w9 w.heap.size (.int .i64 (W : Nat)) (.int .i64 (H : Nat)) (.slice (some ⟨r, o, none⟩) n c) ∧ RwG w9 w.heap.size (.slice A9 n9 c9) n9 (Lib.byteCells (T ++ db)) ∧ Blk w9 b 3 (intsV sm).toArray ∧ Below w.heap.size w w9)) := Lib.hid (by
            intro V m5 A5 c5 T i5 r5 k5 b5 hm5
            obtain ⟨A9, c9, w9, hrun, r9, u9⟩ := r5.conv b5.size s (by omega)
            refine ⟨A9, _, c9, w9, hrun, IB.of (i5.blk.upd u9 (fun e => r5.ne_ i5.blk (by decide) e.symm)), ?_, k5.upd u9 (fun e => r5.ne_ k5 (by decide) e.symm), b5.trans (u9.below b5.size (fun j hj e => by have := (r5.lt j e.symm).1; omega))⟩
            rw [Lib.byteCells_append, ← hsc]
            exact r9)
          clear hs hdb hsc hs21 hml hlS hdl hv
          by_cases hm0 : m = 0
          · have hd0 : ¬ ((0 : Int) < (m : Int)) := by omega
            rw [if_pos hm0] at hbt
            have HDV : Hid (digD 0 (S ++ sm.take K) ++ db = digD 0 (S ++ sm.take (K + 1))) := Lib.hid (by rw [HDX.out, hbt, List.nil_append])
            have HZ5 := HZ
            have HP5 := Lib.hid (HTB.out _ HZ.out.2.2.2)
            clear hbt hm0 HDX HZ
            go_wp2_with fail
            refine (HIT.out _ HP5.out).mono ?_
            rintro e w6 ⟨rfl, hb6⟩
            obtain ⟨A9, n9, c9, w9, hrun9, hz9⟩ := HI2.out w6 _ _ _ _ (HZ5.out.1.call hb6) (HZ5.out.2.1.upd (Upd.of_fresh hb6) (fun _ _ => id)) (HZ5.out.2.2.1.upd (Upd.of_fresh hb6) id) (HZ5.out.2.2.2.trans (hb6.mono HZ5.out.2.2.2.size)) (by omega)
            have hq := Lib.run_convert_string_bytes (P := Tryz.prog) w6 9 22 5 s Tryz.underlying9 Tryz.underlying22 Tryz.underlying5
            have HR9 := Lib.hid hrun9
            rw [HDV.out] at hz9
            have HZ9 := Lib.hid hz9
            clear hrun9 hz9 hb6
            go_wp2_with (at_builtin; refine wpList_append_run rfl (.tmp 61) (.tmp 67) _ rfl rfl rfl HR9.out ?_)
            go_roundw
            case rel => exact ⟨K + 1, n9, A9, c9, by omega, rfl, by go_num, HZ9⟩
            case measure => simp [intOf]; omega
          · have hd0 : (0 : Int) < (m : Int) := by omega
            rw [if_neg hm0] at hbt
            obtain ⟨A5, c5, w5, hrun5, r5, u5⟩ := HZ.out.2.1.lit HZ.out.2.2.2.size 32 (by omega)
            rw [← Lib.byteCells_append] at r5
            have hb5 : Below w.heap.size w w5 := HZ.out.2.2.2.trans (u5.below HZ.out.2.2.2.size (fun j hj e => by have := (HZ.out.2.1.lt j e.symm).1; omega))
            have HZ5 : Hid (IB w5 w.heap.size (.int .i64 (W : Nat)) (.int .i64 (H : Nat)) (.slice (some ⟨r, o, none⟩) n c) ∧ RwG w5 w.heap.size (.slice A5 (m + 1) c5) (m + 1) (Lib.byteCells (digD 0 (S ++ sm.take K) ++ [32])) ∧ Blk w5 b 3 (intsV sm).toArray ∧ Below w.heap.size w w5) := Lib.hid ⟨IB.of (HZ.out.1.blk.upd u5 (fun e => HZ.out.2.1.ne_ HZ.out.1.blk (by decide) e.symm)), r5, HZ.out.2.2.1.upd u5 (fun e => HZ.out.2.1.ne_ HZ.out.2.2.1 (by decide) e.symm), hb5⟩
            have HDV : Hid (digD 0 (S ++ sm.take K) ++ [32] ++ db = digD 0 (S ++ sm.take (K + 1))) := Lib.hid (by rw [HDX.out, hbt, List.append_assoc])
            have HP5 := Lib.hid (HTB.out _ hb5)
            have HR5 := Lib.hid hrun5
            have y5 : w5.cell? ⟨b, K, none⟩ = some (.int .i64 (vn : Nat)) := by
              have := HZ5.out.2.2.1.cell K
              rw [this, ← HZ.out.2.2.1.cell K]
              exact y0
            clear hbt hm0 HDX hrun5 r5 u5 hb5 HZ y0
            go_wp2_with (at_builtin; refine wpList_append_run rfl (.tmp 58) (.tmp 59) _ rfl rfl rfl HR5.out ?_)
            refine (HIT.out _ HP5.out).mono ?_
            rintro e w6 ⟨rfl, hb6⟩
            obtain ⟨A9, n9, c9, w9, hrun9, hz9⟩ := HI2.out w6 _ _ _ _ (HZ5.out.1.call hb6) (HZ5.out.2.1.upd (Upd.of_fresh hb6) (fun _ _ => id)) (HZ5.out.2.2.1.upd (Upd.of_fresh hb6) id) (HZ5.out.2.2.2.trans (hb6.mono HZ5.out.2.2.2.size)) (by omega)
            have hq := Lib.run_convert_string_bytes (P := Tryz.prog) w6 9 22 5 s Tryz.underlying9 Tryz.underlying22 Tryz.underlying5
            have HR9 := Lib.hid hrun9
            rw [HDV.out] at hz9
            have HZ9 := Lib.hid hz9
            clear hrun9 hz9 hb6
            go_wp2_with (at_builtin; refine wpList_append_run rfl (.tmp 61) (.tmp 67) _ rfl rfl rfl HR9.out ?_)
            go_roundw
            case rel => exact ⟨K + 1, n9, A9, c9, by omega, rfl, by go_num, HZ9⟩
            case measure => simp [intOf]; omega
        · obtain rfl : K = pl := by omega
          have HN1 : Hid (IB wr w.heap.size (.int .i64 (W : Nat)) (.int .i64 (H : Nat)) (.slice (some ⟨r, o, none⟩) n c) ∧ RwG wr w.heap.size (.slice A' m c') m (Lib.byteCells (digD 0 (rowM k top (Lr.take (X + 1))))) ∧ Below w.heap.size w wr) := Lib.hid ⟨HZ.out.1, by have := HZ.out.2.1; rw [List.take_of_length_le (by rw [HB.out.2.1]; exact Nat.le_refl _)] at this; rw [HNX.out]; exact this, HZ.out.2.2.2⟩
          go_wp2_with fail
          go_roundw
          case rel => exact ⟨X + 1, m, A', c', by omega, rfl, by go_num, HN1⟩
          case measure => simp [intOf]; omega
    · obtain rfl : X = W := by omega
      obtain ⟨A5, c5, w5, hrun, r5, u5⟩ := HV.out.2.1.lit HV.out.2.2.size 10 (by
        have h1 := HV.out.2.1.len
        have h2 := digD_len (rowM k top (Lr.take X)) 0 (HRB.out X)
        have h3 : (rowM k top (Lr.take X)).length ≤ 3 * 4096 := by rw [rowM_length]; exact Nat.mul_le_mul (plN_le k).2 (by rw [List.length_take]; omega)
        rw [Lib.byteCells_length] at h1
        omega)
      have HRN := Lib.hid hrun
      have HF : Hid (RwG w5 w.heap.size (.slice A5 (m + 1) c5) (m + 1) (Lib.byteCells (digD 0 (rowM k top Lr) ++ [10])) ∧ Below w.heap.size w w5) := Lib.hid ⟨by
        rw [Lib.byteCells_append]
        have e : Lr.take X = Lr := List.take_of_length_le (by rw [HLL.out]; exact Nat.le_refl _)
        rw [e] at r5
        exact r5, HV.out.2.2.trans (u5.below HV.out.2.2.size (fun j hj e => by have := (HV.out.2.1.lt j e.symm).1; omega))⟩
      clear hrun r5 u5
      go_wp2_with (at_builtin; refine wpList_append_run rfl (.tmp 97) (.tmp 98) _ rfl rfl rfl HRN.out ?_)
      go_ret
      exact ⟨A5, m + 1, c5, rfl, HF.out⟩
end Go.Proofs.YtfbokhdimffabaaGreatDoor
