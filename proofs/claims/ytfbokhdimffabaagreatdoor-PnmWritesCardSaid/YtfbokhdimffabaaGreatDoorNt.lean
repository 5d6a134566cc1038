/- Joined texts (a claim has at most 60 files): Nr Ns Nt. -/
import Derived.Test.YtfbokhdimffabaaGreatDoorNp
/- The document's row of whole bytes, walked. -/
set_option linter.unusedVariables false
set_option linter.unusedSimpArgs false
namespace Go.Proofs.YtfbokhdimffabaaGreatDoor
open Go.ChangeShapes Go.WideShapes Go.ChangeAt Go.RowKit Go.Sort

/-- A sample's bytes, the higher one first. -/
def bytB (top : Nat) (v : Int) : List UInt8 := (if 255 < top then [UInt8.ofNat (v.toNat / 256)] else []) ++ [UInt8.ofNat (v.toNat % 256)]
def bytD (top : Nat) (l : List Int) : List UInt8 := (l.map (bytB top)).flatten
theorem bytD_snoc (top : Nat) (l : List Int) (v : Int) : bytD top (l ++ [v]) = bytD top l ++ bytB top v := by simp [bytD]
theorem bytD_len (top : Nat) : ∀ l : List Int, (bytD top l).length ≤ 2 * l.length
  | [] => by simp [bytD]
  | v :: r => by
    have := bytD_len top r
    unfold bytD at this ⊢
    have h : (bytB top v).length ≤ 2 := by unfold bytB; split <;> simp
    rw [List.map_cons, List.flatten_cons, List.length_append, List.length_cons]
    omega
set_option maxRecDepth 100000 in
set_option maxHeartbeats 8000000 in
theorem refRowB_any (k top : Nat) (hk5 : 5 ≤ k) (hk6 : k ≤ 6) (h1 : 1 ≤ top) (h2 : top ≤ 65535) (r o c n W H Y : Nat) (l : List Int) (hn : l.length = n) (hn4 : n = 4 * (W * H)) (hf : W * H ≤ 65536) (hlb : ∀ v ∈ l, 0 ≤ v ∧ v ≤ 65535) (hW : W ≤ 4096) (hY : Y < H) (hH : H ≤ 4096) (w : World) (h : Smp w r o l) (hr : r < w.heap.size) (hT : Pow10 w) :
    Calls Tryz.prog 33 #[imgV W H (some ⟨r, o, none⟩) n c, .int .i64 (Y : Nat), .int .i64 (k : Nat), .int .i64 (top : Nat)] w fun e w' => ∃ A' n' c', e = .returned (.slice A' n' c') ∧ RwG w' w.heap.size (.slice A' n' c') n' (Lib.byteCells (bytD top (rowM k top (rowL W (pxL l (W * H)) Y)))) ∧ Below w.heap.size w w' := by
  obtain ⟨w1, hw1, hi, hb⟩ := newImg W H (some ⟨r, o, none⟩) n c w
  have HTB := Lib.hid (Lib.tabBelow_of_tabIs hT)
  have HPX := Lib.hid (fun (V : World) (hV : Below w.heap.size w V) (X : Nat) (hx : X < W) => pixel_any (c := c) hn hn4 hf (h.below hV hr) X Y hx hY)
  have hd : ∀ j, 0 ≤ l.getD j 0 ∧ l.getD j 0 ≤ 65535 := fun j => by
    by_cases hj : j < l.length
    · rw [List.getD_eq_getElem?_getD, List.getElem?_eq_getElem hj]; exact hlb _ (List.getElem_mem hj)
    · rw [List.getD_eq_getElem?_getD, List.getElem?_eq_none (by omega)]; simp
  have HCK := Lib.hid (fun j => (⟨hd _, hd _, hd _⟩ : ColK (pxAt l j)))
  have HSM := Lib.hid (fun x hx V => refSamples_any k top (by omega) hk6 h1 h2 x hx V)
  have hLl : (rowL W (pxL l (W * H)) Y).length = W := rowL_length (pxL_length l (W * H)) hY
  have HLX := Lib.hid (fun (X : Nat) (hx : X < W) (hX : X < (rowL W (pxL l (W * H)) Y).length) => rowL_px (l := l) (H := H) hx hY hX)
  have d4 : ¬ (k : Int) < 4 := by omega
  have d5 : ¬ (k : Int) = 4 := by omega
  have hst : IB w1 w.heap.size (.int .i64 (W : Nat)) (.int .i64 (H : Nat)) (.slice (some ⟨r, o, none⟩) n c) ∧ RwG w1 w.heap.size (.slice none 0 0) 0 (Lib.byteCells (bytD top (rowM k top ((rowL W (pxL l (W * H)) Y).take 0)))) ∧ Below w.heap.size w w1 := ⟨hi, .inl (World.ownsRow_nil _ _ _ _), hb⟩
  have HST := Lib.hid hst
  have HW1 := Lib.hid hw1
  obtain ⟨Lr, hLr⟩ : ∃ Lr, rowL W (pxL l (W * H)) Y = Lr := ⟨_, rfl⟩
  rw [hLr] at HST hLl HLX ⊢
  have HLL := Lib.hid hLl
  have HRB : Hid (∀ X, ∀ v ∈ rowM k top (Lr.take X), v ≤ 65535) := Lib.hid (fun X v hv => (rowM_bd k top (by unfold topN; split <;> omega) (by unfold topN; split <;> omega) (Lr.take X) (fun x hx => by
    have hx2 := List.mem_of_mem_take hx
    rw [← hLr] at hx2
    have hx3 := List.mem_of_mem_drop (List.mem_of_mem_take hx2)
    obtain ⟨i, hi, rfl⟩ := List.mem_iff_getElem.1 hx3
    rw [pxL_length] at hi
    have := pxL_get l (W * H) i hi
    rw [List.getD_eq_getElem?_getD, List.getElem?_eq_getElem (by rw [pxL_length]; exact hi), Option.getD_some] at this
    rw [this]
    exact HCK.out _) v hv).2)
  clear hw1 hi hb hst h hT hd hlb hLr hLl hn hn4
  go_enter Tryz.func33, Tryz.ntmps33
  go_upto_region 1 with (fail)
  have hw1 := HW1.out
  try rw [hw1]
  clear hw1
  go_wp2_with fail
  go_loopw [9, 10] (fun v iv wr => ∃ (X m : Nat) (A' : Option Addr) (c' : Nat), X ≤ W ∧ v = .slice A' m c' ∧ iv = .int .i64 (X : Int) ∧ Hid (IB wr w.heap.size (.int .i64 (W : Nat)) (.int .i64 (H : Nat)) (.slice (some ⟨r, o, none⟩) n c) ∧ RwG wr w.heap.size (.slice A' m c') m (Lib.byteCells (bytD top (rowM k top (Lr.take X)))) ∧ Below w.heap.size w wr)) (fun _ iv _ => W - (intOf iv).toNat)
  case atStart => exact ⟨0, 0, none, 0, Nat.zero_le _, rfl, rfl, HST⟩
  case round =>
    obtain ⟨X, m, A', c', hX, rfl, rfl, HV⟩ := hrel
    have q0 := HV.out.1.c0; have q1 := HV.out.1.c1; have q2 := HV.out.1.c2
    by_cases hlt : X < W
    · have hP := Lib.hid (HPX.out wr HV.out.2.2 X hlt)
      have hxe := HLX.out X hlt (by rw [HLL.out]; exact hlt)
      have HC := HCK.out (4 * (Y * W + X))
      have HSX := Lib.hid (fun V => HSM.out _ HC V)
      have HNX : Hid (rowM k top (Lr.take (X + 1)) = rowM k top (Lr.take X) ++ (partM k (pxAt l (4 * (Y * W + X)))).map (sampM k top)) := Lib.hid (by
        rw [List.take_succ_eq_append_getElem (by rw [HLL.out]; exact hlt), rowM_app, hxe])
      generalize pxAt l (4 * (Y * W + X)) = x at *
      have hxc : ColK x := HC
      have hbd : ∀ v ∈ (partM k x).map (sampM k top), 0 ≤ v ∧ v ≤ 65535 := by
        have := rowM_bd k top (by unfold topN; split <;> omega) (by unfold topN; split <;> omega) [x] (fun y hy => by rw [List.mem_singleton] at hy; rw [hy]; exact hxc)
        simpa [rowM] using this
      have hsl : ((partM k x).map (sampM k top)).length = plN k := by rw [List.length_map, partM_length]
      have hSl : (rowM k top (Lr.take X)).length = plN k * X := by rw [rowM_length, List.length_take, HLL.out, Nat.min_eq_left hX]
      have hSb : ∀ v ∈ rowM k top (Lr.take X), v ≤ 65535 := HRB.out X
      have hpl := plN_le k
      have hPX : plN k * X ≤ 3 * 4096 := Nat.mul_le_mul hpl.2 (by omega)
      clear HC hxc hxe
      unfold SmpR at HSX
      generalize (partM k x).map (sampM k top) = sm at *
      generalize rowM k top (Lr.take X) = S at *
      generalize plN k = pl at *
      have HB := Lib.hid (And.intro hbd (And.intro hsl (And.intro hSl hSb)))
      clear hbd hsl hSl hSb
      go_wp2_with fail
      refine hP.out.mono ?_
      rintro e w2 ⟨rfl, hb2⟩
      have HB2 := Lib.hid hb2
      clear hb2
      go_wp2_with fail
      refine (HSX.out w2).mono ?_
      rintro e w3 ⟨b, rfl, kb, hb3⟩
      have hb23 := HB2.out.trans (hb3.mono HB2.out.size)
      have HS1 : Hid (IB w3 w.heap.size (.int .i64 (W : Nat)) (.int .i64 (H : Nat)) (.slice (some ⟨r, o, none⟩) n c) ∧ RwG w3 w.heap.size (.slice A' m c') m (Lib.byteCells (bytD top (S ++ sm.take 0))) ∧ Blk w3 b 3 (intsV sm).toArray ∧ Below w.heap.size w w3) := Lib.hid ⟨HV.out.1.call hb23, by rw [List.take_zero, List.append_nil]; exact HV.out.2.1.upd (Upd.of_fresh hb23) (fun _ _ => id), kb, HV.out.2.2.trans (hb23.mono HV.out.2.2.size)⟩
      clear kb hb3 hb23 HB2 HSX hP q0 q1 q2 HV
      go_wp2_with fail
      go_loopw [9, 12] (fun v iv wr => ∃ (K m : Nat) (A' : Option Addr) (c' : Nat), K ≤ pl ∧ v = .slice A' m c' ∧ iv = .int .i64 (K : Int) ∧ Hid (IB wr w.heap.size (.int .i64 (W : Nat)) (.int .i64 (H : Nat)) (.slice (some ⟨r, o, none⟩) n c) ∧ RwG wr w.heap.size (.slice A' m c') m (Lib.byteCells (bytD top (S ++ sm.take K))) ∧ Blk wr b 3 (intsV sm).toArray ∧ Below w.heap.size w wr)) (fun _ iv _ => pl - (intOf iv).toNat)
      case atStart => exact ⟨0, m, A', c', Nat.zero_le _, rfl, rfl, HS1⟩
      case round =>
        obtain ⟨K, m, A', c', hK, rfl, rfl, HZ⟩ := hrel
        clear HS1
        by_cases hlk : K < pl
        · have hKs : K < sm.length := by rw [HB.out.2.1]; exact hlk
          have y0 : wr.cell? ⟨b, K, none⟩ = some (.int .i64 sm[K]) := by
            rw [HZ.out.2.2.1.cell]
            simp [intsV, hKs]
          have hv := HB.out.1 sm[K] (List.getElem_mem hKs)
          obtain ⟨vn, hvn⟩ : ∃ vn : Nat, sm[K] = (vn : Int) := ⟨sm[K].toNat, by omega⟩
          have HDX : Hid (bytD top (S ++ sm.take (K + 1)) = bytD top (S ++ sm.take K) ++ bytB top sm[K]) := Lib.hid (by
            rw [List.take_succ_eq_append_getElem hKs, ← List.append_assoc, bytD_snoc])
          have hml := HZ.out.2.1.len
          have hlS := HB.out.2.2.1
          have hdl := bytD_len top (S ++ sm.take K)
          rw [Lib.byteCells_length] at hml
          rw [List.length_append, List.length_take] at hdl
          have hm9 : m ≤ 1000000 := by omega
          generalize sm[K] = sv at *
          subst hvn
          have elo : (((UInt8.ofNat (vn % 256)).toNat : Nat) : Int) = (vn : Int) % 256 := by
            rw [UInt8.toNat_ofNat']
            omega
          have ehi : (((UInt8.ofNat (vn / 256)).toNat : Nat) : Int) = (vn : Int) / 256 := by
            rw [UInt8.toNat_ofNat']
            omega
          clear hml hlS hdl
          by_cases hm0 : 255 < top
          · have hd0 : (255 : Int) < (top : Int) := by omega
            have hby : bytD top (S ++ sm.take K) ++ [UInt8.ofNat (vn / 256)] ++ [UInt8.ofNat (vn % 256)] = bytD top (S ++ sm.take (K + 1)) := by
              rw [HDX.out, bytB, if_pos hm0, List.append_assoc]; rfl
            obtain ⟨A5, c5, w5, hrun5, r5, u5⟩ := HZ.out.2.1.lit HZ.out.2.2.2.size (UInt8.ofNat (vn / 256)) (by omega)
            rw [ehi] at hrun5
            rw [← Lib.byteCells_append] at r5
            have HZ5 : Hid (IB w5 w.heap.size (.int .i64 (W : Nat)) (.int .i64 (H : Nat)) (.slice (some ⟨r, o, none⟩) n c) ∧ RwG w5 w.heap.size (.slice A5 (m + 1) c5) (m + 1) (Lib.byteCells (bytD top (S ++ sm.take K) ++ [UInt8.ofNat (vn / 256)])) ∧ Blk w5 b 3 (intsV sm).toArray ∧ Below w.heap.size w w5) := Lib.hid ⟨IB.of (HZ.out.1.blk.upd u5 (fun e => HZ.out.2.1.ne_ HZ.out.1.blk (by decide) e.symm)), r5, HZ.out.2.2.1.upd u5 (fun e => HZ.out.2.1.ne_ HZ.out.2.2.1 (by decide) e.symm), HZ.out.2.2.2.trans (u5.below HZ.out.2.2.2.size (fun j hj e => by have := (HZ.out.2.1.lt j e.symm).1; omega))⟩
            have HR5 := Lib.hid hrun5
            have y5 : w5.cell? ⟨b, K, none⟩ = some (.int .i64 (vn : Nat)) := by
              have := HZ5.out.2.2.1.cell K
              rw [this, ← HZ.out.2.2.1.cell K]
              exact y0
            clear hrun5 r5 u5
            obtain ⟨A9, c9, w9, hrun9, r9, u9⟩ := HZ5.out.2.1.lit HZ5.out.2.2.2.size (UInt8.ofNat (vn % 256)) (by omega)
            rw [elo] at hrun9
            rw [← Lib.byteCells_append, hby] at r9
            have HZ9 : Hid (IB w9 w.heap.size (.int .i64 (W : Nat)) (.int .i64 (H : Nat)) (.slice (some ⟨r, o, none⟩) n c) ∧ RwG w9 w.heap.size (.slice A9 (m + 1 + 1) c9) (m + 1 + 1) (Lib.byteCells (bytD top (S ++ sm.take (K + 1)))) ∧ Blk w9 b 3 (intsV sm).toArray ∧ Below w.heap.size w w9) := Lib.hid ⟨IB.of (HZ5.out.1.blk.upd u9 (fun e => HZ5.out.2.1.ne_ HZ5.out.1.blk (by decide) e.symm)), r9, HZ5.out.2.2.1.upd u9 (fun e => HZ5.out.2.1.ne_ HZ5.out.2.2.1 (by decide) e.symm), HZ5.out.2.2.2.trans (u9.below HZ5.out.2.2.2.size (fun j hj e => by have := (HZ5.out.2.1.lt j e.symm).1; omega))⟩
            have HR9 := Lib.hid hrun9
            clear hrun9 r9 u9 HZ HZ5 hby HDX
            go_wp2_with (first | (at_builtin; refine wpList_append_run rfl (.tmp 34) (.tmp 41) _ rfl rfl rfl HR5.out ?_) | (at_builtin; refine wpList_append_run rfl (.tmp 43) (.tmp 50) _ rfl rfl rfl HR9.out ?_))
            go_roundw
            case rel => exact ⟨K + 1, m + 1 + 1, A9, c9, by omega, rfl, by go_num, HZ9⟩
            case measure => simp [intOf]; omega
          · have hd0 : ¬ (255 : Int) < (top : Int) := by omega
            have hby : bytD top (S ++ sm.take K) ++ [UInt8.ofNat (vn % 256)] = bytD top (S ++ sm.take (K + 1)) := by
              rw [HDX.out, bytB, if_neg hm0, List.nil_append]; rfl
            obtain ⟨A9, c9, w9, hrun9, r9, u9⟩ := HZ.out.2.1.lit HZ.out.2.2.2.size (UInt8.ofNat (vn % 256)) (by omega)
            rw [elo] at hrun9
            rw [← Lib.byteCells_append, hby] at r9
            have HZ9 : Hid (IB w9 w.heap.size (.int .i64 (W : Nat)) (.int .i64 (H : Nat)) (.slice (some ⟨r, o, none⟩) n c) ∧ RwG w9 w.heap.size (.slice A9 (m + 1) c9) (m + 1) (Lib.byteCells (bytD top (S ++ sm.take (K + 1)))) ∧ Blk w9 b 3 (intsV sm).toArray ∧ Below w.heap.size w w9) := Lib.hid ⟨IB.of (HZ.out.1.blk.upd u9 (fun e => HZ.out.2.1.ne_ HZ.out.1.blk (by decide) e.symm)), r9, HZ.out.2.2.1.upd u9 (fun e => HZ.out.2.1.ne_ HZ.out.2.2.1 (by decide) e.symm), HZ.out.2.2.2.trans (u9.below HZ.out.2.2.2.size (fun j hj e => by have := (HZ.out.2.1.lt j e.symm).1; omega))⟩
            have HR9 := Lib.hid hrun9
            clear hrun9 r9 u9 HZ hby HDX
            go_wp2_with (at_builtin; refine wpList_append_run rfl (.tmp 43) (.tmp 50) _ rfl rfl rfl HR9.out ?_)
            go_roundw
            case rel => exact ⟨K + 1, m + 1, A9, c9, by omega, rfl, by go_num, HZ9⟩
            case measure => simp [intOf]; omega
        · obtain rfl : K = pl := by omega
          have HN1 : Hid (IB wr w.heap.size (.int .i64 (W : Nat)) (.int .i64 (H : Nat)) (.slice (some ⟨r, o, none⟩) n c) ∧ RwG wr w.heap.size (.slice A' m c') m (Lib.byteCells (bytD top (rowM k top (Lr.take (X + 1))))) ∧ Below w.heap.size w wr) := Lib.hid ⟨HZ.out.1, by have := HZ.out.2.1; rw [List.take_of_length_le (by rw [HB.out.2.1]; exact Nat.le_refl _)] at this; rw [HNX.out]; exact this, HZ.out.2.2.2⟩
          go_wp2_with fail
          go_roundw
          case rel => exact ⟨X + 1, m, A', c', by omega, rfl, by go_num, HN1⟩
          case measure => simp [intOf]; omega
    · obtain rfl : X = W := by omega
      have HF : Hid (RwG wr w.heap.size (.slice A' m c') m (Lib.byteCells (bytD top (rowM k top Lr))) ∧ Below w.heap.size w wr) := Lib.hid ⟨by
        have e : Lr.take X = Lr := List.take_of_length_le (by rw [HLL.out]; exact Nat.le_refl _)
        have h9 := HV.out.2.1
        rw [e] at h9
        exact h9, HV.out.2.2⟩
      go_wp2_with fail
      go_ret
      exact ⟨A', m, c', rfl, HF.out⟩
end Go.Proofs.YtfbokhdimffabaaGreatDoor

/- Bytes as bits, the highest first. -/
set_option linter.unusedVariables false
set_option linter.unusedSimpArgs false
namespace Go.Proofs.YtfbokhdimffabaaGreatDoor
open Go.ChangeShapes Go.WideShapes Go.ChangeAt Go.RowKit Go.Sort

/-- The bits of bytes, of each the highest one first. -/
def bitsH : List UInt8 → List Bool
  | [] => []
  | x :: l => bitsOf true x.toNat 8 ++ bitsH l
theorem bitsH_length : ∀ l, (bitsH l).length = 8 * l.length
  | [] => rfl
  | x :: l => by simp only [bitsH, List.length_append, bitsOf_length, bitsH_length l, List.length_cons]; omega
theorem bitsH_append : ∀ a b, bitsH (a ++ b) = bitsH a ++ bitsH b
  | [], _ => rfl
  | x :: a, b => by simp only [List.cons_append, bitsH, bitsH_append a b, List.append_assoc]
theorem bitsH_get : ∀ (l : List UInt8) (i : Nat), ((bitsH l)[i]?).getD false = bitAt l true i
  | [], i => by simp [bitsH, bitAt]
  | x :: l, i => by
    rw [bitsH]
    by_cases h : i < 8
    · rw [List.getElem?_append_left (by rw [bitsOf_length]; exact h), bitsOf_get true _ _ _ h]
      unfold bitAt
      rw [show i / 8 = 0 from by omega, show i % 8 = i from by omega]
      simp
    · rw [List.getElem?_append_right (by rw [bitsOf_length]; omega), bitsOf_length, bitsH_get l (i - 8)]
      unfold bitAt
      rw [show i / 8 = (i - 8) / 8 + 1 from by omega, show i % 8 = (i - 8) % 8 from by omega]
      simp
theorem packedH_bytes (l : List UInt8) : Packed true (bitsH l) l := ⟨by rw [bitsH_length]; omega, fun i => (bitsH_get l i).symm⟩
theorem bitsOf8_mod (v : Nat) : bitsOf true (UInt8.ofNat v).toNat 8 = bitsOf true v 8 := by
  unfold bitsOf
  refine List.map_congr_left fun i hi => ?_
  have h8 : i < 8 := List.mem_range.mp hi
  rw [UInt8.toNat_ofNat', Nat.testBit_mod_two_pow, if_pos rfl, decide_eq_true (by omega), Bool.true_and]
theorem bitsOf8_low (v : Nat) : bitsOf true (v % 256) 8 = bitsOf true v 8 := by
  unfold bitsOf
  refine List.map_congr_left fun i hi => ?_
  have h8 : i < 8 := List.mem_range.mp hi
  rw [show (256 : Nat) = 2 ^ 8 from rfl, Nat.testBit_mod_two_pow, if_pos rfl, decide_eq_true (by omega), Bool.true_and]
theorem bitsOf16 (v : Nat) : bitsOf true v 16 = bitsOf true (v / 256) 8 ++ bitsOf true v 8 := by
  have h : ∀ i, (v / 256).testBit i = v.testBit (8 + i) := fun i => by
    rw [show (256 : Nat) = 2 ^ 8 from rfl, Nat.testBit_div_two_pow, Nat.add_comm]
  have e16 : List.range 16 = [0, 1, 2, 3, 4, 5, 6, 7, 8, 9, 10, 11, 12, 13, 14, 15] := rfl
  have e8 : List.range 8 = [0, 1, 2, 3, 4, 5, 6, 7] := rfl
  unfold bitsOf
  rw [e16, e8]
  simp only [List.map_cons, List.map_nil, reduceIte, h, List.cons_append, List.nil_append, Nat.reduceSub, Nat.reduceAdd]
theorem bitsH_bytB (k top : Nat) (hg : kGr k = true) (v : Int) : bitsH (bytB top v) = bitsOf true v.toNat (depN k top) := by
  unfold bytB depN
  rw [if_pos hg]
  by_cases h : 255 < top
  · rw [if_pos h, if_neg (by omega), bitsOf16]
    simp only [List.cons_append, List.nil_append, bitsH, List.append_nil]
    rw [bitsOf8_mod, bitsOf8_mod, bitsOf8_low]
  · rw [if_neg h, if_pos (by omega)]
    simp only [List.nil_append, bitsH, List.append_nil]
    rw [bitsOf8_mod, bitsOf8_low]
theorem rowBt_bytes (k top : Nat) (hg : kGr k = true) : ∀ l : List Int, rowBt k top l = bitsH (bytD top l)
  | [] => rfl
  | v :: r => by
    have := rowBt_bytes k top hg r
    unfold rowBt bytD at this ⊢
    rw [List.map_cons, List.flatten_cons, List.map_cons, List.flatten_cons, bitsH_append, bitsH_bytB k top hg v, this]
/-- The rows' bytes. -/
def bytT (k top W : Nat) (L : List Col) : Nat → List UInt8
  | 0 => []
  | i + 1 => bytT k top W L i ++ bytD top (rowM k top (rowL W L i))
theorem bitT_bytes (k top W : Nat) (L : List Col) (hg : kGr k = true) : ∀ i, bitT k top W L i = bitsH (bytT k top W L i)
  | 0 => rfl
  | i + 1 => by
    have h : (bitsH (bytT k top W L i ++ bytD top (rowM k top (rowL W L i)))).length % 8 = 0 := by rw [bitsH_length]; omega
    rw [bitT, bitT_bytes k top W L hg i, rowBt_bytes k top hg, ← bitsH_append, padP, h, bytT]
    simp
/-- What the program writes of kinds 5 and 6. -/
theorem bitT_packed (k top W : Nat) (L : List Col) (hg : kGr k = true) (i : Nat) : Packed true (bitT k top W L i) (bytT k top W L i) := by
  rw [bitT_bytes k top W L hg i]
  exact packedH_bytes _
end Go.Proofs.YtfbokhdimffabaaGreatDoor

/- A bit more in a row of bytes, by a sum. -/
set_option linter.unusedVariables false
set_option linter.unusedSimpArgs false
namespace Go.Proofs.YtfbokhdimffabaaGreatDoor
open Go.ChangeShapes Go.WideShapes Go.ChangeAt Go.RowKit Go.Sort

def bitAdd (r y b : Nat) : Bool := !((List.range 8).all fun q => !(decide (r ≤ q)) || !(y.testBit (7 - q))) || (decide (y + b * 2 ^ (7 - r) < 256) && (List.range 8).all fun q => (y + b * 2 ^ (7 - r)).testBit (7 - q) == (if q < r then y.testBit (7 - q) else (q == r && b == 1)))
set_option maxRecDepth 100000 in
theorem bitAdd_all : ((List.range 8).all fun r => (List.range 256).all fun y => (List.range 2).all fun b => bitAdd r y b) = true := by decide +kernel
theorem bit_add (r : Nat) (hr : r < 8) (y : Nat) (hy : y < 256) (b : Nat) (hb : b < 2) (h : ∀ q < 8, r ≤ q → y.testBit (7 - q) = false) : y + b * 2 ^ (7 - r) < 256 ∧ ∀ q < 8, (y + b * 2 ^ (7 - r)).testBit (7 - q) = if q < r then y.testBit (7 - q) else (q == r && b == 1) := by
  have h1 := List.all_eq_true.mp bitAdd_all r (List.mem_range.mpr hr)
  have h2 := List.all_eq_true.mp h1 y (List.mem_range.mpr hy)
  have h3 := List.all_eq_true.mp h2 b (List.mem_range.mpr hb)
  unfold bitAdd at h3
  have h4 : ((List.range 8).all fun q => !(decide (r ≤ q)) || !(y.testBit (7 - q))) = true := List.all_eq_true.mpr fun q hq => by
    by_cases hrq : r ≤ q
    · rw [h q (List.mem_range.mp hq) hrq]; simp
    · simp [hrq]
  rw [h4] at h3
  simp only [Bool.not_true, Bool.false_or, Bool.and_eq_true, decide_eq_true_eq] at h3
  refine ⟨h3.1, fun q hq => ?_⟩
  have := List.all_eq_true.mp h3.2 q (List.mem_range.mpr hq)
  simpa using this
/-- The row with a byte more where one begins. -/
def grow4 (n : Nat) (l : List UInt8) : List UInt8 := if n % 8 = 0 then l ++ [0] else l
def add4 (n : Nat) (l : List UInt8) (b : Nat) : List UInt8 := (grow4 n l).set (n / 8) (UInt8.ofNat (((grow4 n l)[n / 8]?.getD 0).toNat + b * 2 ^ (7 - n % 8)))
theorem grow4_len {bs : List Bool} {l : List UInt8} (h : Packed true bs l) : bs.length / 8 < (grow4 bs.length l).length ∧ (grow4 bs.length l).length = bs.length / 8 + 1 := by
  have h1 := h.1
  unfold grow4
  split <;> (try rw [List.length_append]) <;> (try simp only [List.length_cons, List.length_nil]) <;> omega
theorem packed_bit {bs : List Bool} {l : List UInt8} (h : Packed true bs l) (b : Nat) (hb : b < 2) : Packed true (bs ++ [b == 1]) (add4 bs.length l b) ∧ ((grow4 bs.length l)[bs.length / 8]?.getD 0).toNat + b * 2 ^ (7 - bs.length % 8) < 256 := by
  have hg : Holds true bs (grow4 bs.length l) := by
    unfold grow4
    split
    · exact holds_grow h.2
    · exact h.2
  obtain ⟨hq, hl⟩ := grow4_len h
  have hfree : ∀ q < 8, bs.length % 8 ≤ q → ((grow4 bs.length l)[bs.length / 8]).toNat.testBit (7 - q) = false := fun q hq8 hr => holds_free hg hq q hr hq8
  have hlt : ((grow4 bs.length l)[bs.length / 8]).toNat < 256 := UInt8.toNat_lt _
  obtain ⟨a1, a2⟩ := bit_add (bs.length % 8) (by omega) _ hlt b hb hfree
  have hget : (grow4 bs.length l)[bs.length / 8]?.getD 0 = (grow4 bs.length l)[bs.length / 8] := by rw [List.getElem?_eq_getElem hq, Option.getD_some]
  rw [hget]
  refine ⟨⟨?_, ?_⟩, a1⟩
  · rw [add4, List.length_set, hl, List.length_append, List.length_cons, List.length_nil]
    omega
  · rw [add4, hget]
    refine holds_put _ hg hq (by simp only [List.length_cons, List.length_nil]; omega) (fun r hr => ?_)
    rw [UInt8.toNat_ofNat', Nat.mod_eq_of_lt a1]
    have e : pos true r = 7 - r := rfl
    rw [e, a2 r hr]
    by_cases hlr : r < bs.length % 8
    · rw [if_pos hlr, if_pos hlr]
    · rw [if_neg hlr, if_neg hlr]
      by_cases hre : r = bs.length % 8
      · rw [hre, Nat.sub_self]; simp
      · rw [List.getElem?_eq_none (by simp only [List.length_cons, List.length_nil]; omega)]
        simp [hre]
/-- Whole bytes behind one another. -/
theorem packed_append {a b : List Bool} {la lb : List UInt8} (ha : Packed true a la) (h8 : a.length % 8 = 0) (hb : Packed true b lb) : Packed true (a ++ b) (la ++ lb) := by
  have h1 := ha.1
  have h2 := hb.1
  have hlen : a.length = 8 * la.length := by omega
  refine ⟨by rw [List.length_append, List.length_append]; omega, fun i => ?_⟩
  by_cases hi : i < a.length
  · rw [List.getElem?_append_left hi, ← ha.2 i]
    unfold bitAt
    rw [List.getElem?_append_left (by omega)]
  · rw [List.getElem?_append_right (by omega), ← hb.2 (i - a.length)]
    unfold bitAt
    rw [List.getElem?_append_right (by omega), show i / 8 - la.length = (i - a.length) / 8 by omega, show (i - a.length) % 8 = i % 8 by omega]
theorem padP_app {a b : List Bool} (h8 : a.length % 8 = 0) : padP (a ++ b) = a ++ padP b := by
  unfold padP
  rw [List.length_append, show (a.length + b.length) % 8 = b.length % 8 by omega, List.append_assoc]
end Go.Proofs.YtfbokhdimffabaaGreatDoor
