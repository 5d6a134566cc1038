/- The program's Encode. -/
import Derived.Test.YtfbokhdimffabaaGreatDoorNj
import Derived.Test.YtfbokhdimffabaaGreatDoorQgb
import Derived.Test.YtfbokhdimffabaaGreatDoorQh
set_option linter.unusedVariables false
set_option linter.unusedSimpArgs false
namespace Go.Proofs.YtfbokhdimffabaaGreatDoor
open Go.ChangeShapes Go.WideShapes Go.ChangeAt Go.RowKit Go.Sort

/-- A file. -/
def FileN (k top W H : Nat) (L : List Col) (b : List UInt8) : Prop :=
  (kTx k = true ∧ b = (lnS k k W H (topN k top : Nat)).data.toList ++ txtD k top W L H) ∨ (kTx k = false ∧ ∃ p, Packed true (bitT k top W L H) p ∧ b = (lnS k k W H (topN k top : Nat)).data.toList ++ p)
def EncQ (w : World) (W H : Int) (l : List Int) (kind top : Int) (e : Ending) (w' : World) : Prop :=
  (goodB W H l.length = false ∧ e = .returned (.tuple #[.slice none 0 0, .int .i64 6]) ∧ Below w.heap.size w w') ∨
  (goodB W H l.length = true ∧ ¬ (1 ≤ kind ∧ kind ≤ 6 ∧ 1 ≤ top ∧ top ≤ 65535) ∧ e = .returned (.tuple #[.slice none 0 0, .int .i64 2]) ∧ Below w.heap.size w w') ∨
  (goodB W H l.length = true ∧ (1 ≤ kind ∧ kind ≤ 6 ∧ 1 ≤ top ∧ top ≤ 65535) ∧ ∃ A n c b, e = .returned (.tuple #[.slice A n c, .int .i64 0]) ∧ FileN kind.toNat top.toNat W.toNat H.toNat (pxL l (W.toNat * H.toNat)) b ∧ RwG w' w.heap.size (.slice A n c) n (Lib.byteCells b) ∧ Below w.heap.size w w')
theorem bitT_pos (k top W H : Nat) (L : List Col) (hl : L.length = W * H) (hw : 1 ≤ W) (hh : 1 ≤ H) : 1 ≤ (bitT k top W L H).length := by
  obtain ⟨i, rfl⟩ : ∃ i, H = i + 1 := ⟨H - 1, by omega⟩
  have h1 := rowBt_length k top (rowM k top (rowL W L i))
  rw [rowM_length, rowL_length hl (show i < i + 1 by omega)] at h1
  have h2 : 1 ≤ depN k top * (plN k * W) := Nat.mul_pos (depN_le k top).1 (Nat.mul_pos (plN_le k).1 hw)
  rw [bitT, padP_length, List.length_append]
  omega
theorem RwG.app_bits {w : World} {base n : Nat} {v : Value} {xs : List Value} (h : RwG w base v n xs) (hbase : base ≤ w.heap.size) {b m cp : Nat} {Ap : Option Addr} {lp : List UInt8} (ho : w.ownsRow b 5 1 (.slice Ap m cp) m (bytesV lp)) (hm : 0 < m) (hlim : n + m ≤ 140737488355328) :
    ∃ A' c' w', (Builtin.append_ #[22, 22] 22 #[v, .slice Ap m cp]).run Tryz.prog w = .ok (.slice A' (n + m) c') w' ∧ RwG w' base (.slice A' (n + m) c') (n + m) (xs ++ Lib.byteCells lp) ∧ Upd (fun k => some k = v.ownBlock) w w' := by
  obtain ⟨g, rfl, _⟩ := row_form ho hm
  exact h.app hbase ⟨g, 0, none⟩ m cp (bytesV lp) (by have := ho.1; omega) (ho.cells rfl) (bytesV_oneCell lp) hlim 22
theorem lnS_size (k : Nat) (kind W H top : Int) (hk : I64 kind) (hW : I64 W) (hH : I64 H) (htop : I64 top) : (lnS k kind W H top).size ≤ 1000 := by
  have h1 := itS_size hk
  have h2 := itS_size hW
  have h3 := itS_size hH
  have h4 := itS_size htop
  unfold lnS
  split <;> simp only [ByteArray.size_append, mk1_size] <;> omega
set_option maxRecDepth 100000 in
set_option maxHeartbeats 8000000 in
theorem encode_any (W H kind top : Int) (A : Option Addr) (n c : Nat) (l : List Int) (hn : l.length = n) (hc : n ≤ c) (hlb : ∀ v ∈ l, 0 ≤ v ∧ v ≤ 65535) (hk : I64 kind) (htp : I64 top) (B : Nat) (w : World) (hT : Pow10 w) (h : Us w B A l) (hB : B ≤ w.heap.size) :
    Calls Tryz.prog 11 #[imgV W H A n c, .int .i64 kind, .int .i64 top] w (EncQ w W H l kind top) := by
  obtain ⟨w1, hw1, hi, hb⟩ := newImg W H A n c w
  have HW1 := Lib.hid hw1
  have HI := Lib.hid hi
  have HB := Lib.hid hb
  have HT := Lib.hid (Lib.tabBelow_of_tabIs hT)
  have HV := Lib.hid (Vs.below h (hb.mono hB))
  clear hw1 hi hb h hT
  go_enter Tryz.func11, Tryz.ntmps11
  go_upto_region 1 with (fail)
  rw [HW1.out]
  clear HW1
  have q0 := HI.out.c0; have q1 := HI.out.c1; have q2 := HI.out.c2
  go_wp2_with fail
  refine (grid_any W H A n c l hn hc B w1 HV.out (by have := HB.out.size; omega)).mono ?_
  intro e w2 hgr
  have hbb : Below w1.heap.size w1 w2 := by rcases hgr with ⟨_, _, h⟩ | ⟨_, _, _, _, _, _, h⟩ <;> exact h
  have HB2 := Lib.hid (HB.out.trans (hbb.mono HB.out.size))
  have HI2 := Lib.hid (HI.out.call hbb)
  have hs12 := hbb.size
  clear hbb HI q0 q1 q2
  rcases hgr with ⟨hg, rfl, _⟩ | ⟨hg, g, r, c', rfl, hcg, _⟩
  · have HG := Lib.hid hg
    clear hg
    go_wp2_with fail
    go_ret2
    exact .inl ⟨HG.out, rfl, HB2.out⟩
  have HG := Lib.hid hg
  obtain ⟨W, H, rfl, rfl, hn4, hf, hw1, hw2, hh1, hh2⟩ := goodB_nat hg
  simp only [Int.toNat_natCast] at hcg
  obtain ⟨L, hL⟩ : ∃ L, pxL l (W * H) = L := ⟨_, rfl⟩
  have hok : ∀ x ∈ L, ColK x := by
    intro x hx
    rw [← hL] at hx
    obtain ⟨i, hi, rfl⟩ := List.mem_iff_getElem.1 hx
    rw [pxL_length] at hi
    have := pxL_get l (W * H) i hi
    rw [List.getD_eq_getElem?_getD, List.getElem?_eq_getElem (by rw [pxL_length]; exact hi), Option.getD_some] at this
    rw [this]
    have hd : ∀ j, 0 ≤ l.getD j 0 ∧ l.getD j 0 ≤ 65535 := fun j => by
      by_cases hj : j < l.length
      · rw [List.getD_eq_getElem?_getD, List.getElem?_eq_getElem hj]; exact hlb _ (List.getElem_mem hj)
      · rw [List.getD_eq_getElem?_getD, List.getElem?_eq_none (by omega)]; simp
    exact ⟨hd _, hd _, hd _⟩
  rw [hL] at hcg
  have HOK := Lib.hid hok
  have HCG := Lib.hid hcg
  have HLL := Lib.hid hL
  have q0 := HI2.out.c0; have q1 := HI2.out.c1
  clear hcg hg hL hlb hok HV HB hn4
  by_cases hkk : 1 ≤ kind ∧ kind ≤ 6
  · obtain ⟨k, rfl⟩ : ∃ k : Nat, kind = (k : Int) := ⟨kind.toNat, by omega⟩
    have HFO := Lib.hid (fun V => formOf_ok k (by omega) (by omega) V)
    have hs2 := HB2.out.size
    by_cases htt : 1 ≤ top ∧ top ≤ 65535
    · obtain ⟨tp, rfl⟩ : ∃ tp : Nat, top = (tp : Int) := ⟨top.toNat, by omega⟩
      have d1 : decide ((tp : Int) < 1) = false := decide_eq_false (by omega)
      have d2 : decide ((65535 : Int) < (tp : Int)) = false := decide_eq_false (by omega)
      go_wp2_with fail
      refine (HFO.out w2).mono ?_
      rintro e w3 ⟨rfl, hb3⟩
      have HB3 := Lib.hid hb3
      clear q0 q1
      go_upto_region 7 with (fail)
      obtain ⟨fb, hfb⟩ : ∃ fb, w3.heap.size = fb := ⟨_, rfl⟩
      have HS4 : Hid (Blk (w3.alloc (.cells #[.bool (kTx k), .bool (kCo k), .bool (kGr k)] 48)) fb 48 #[.bool (kTx k), .bool (kCo k), .bool (kGr k)] ∧ Below w2.heap.size w2 (w3.alloc (.cells #[.bool (kTx k), .bool (kCo k), .bool (kGr k)] 48)) ∧ IB (w3.alloc (.cells #[.bool (kTx k), .bool (kCo k), .bool (kGr k)] 48)) w.heap.size (.int .i64 (W : Nat)) (.int .i64 (H : Nat)) (.slice A n c)) := Lib.hid (by
        have hb4 := hb3.alloc hb3.size (.cells #[.bool (kTx k), .bool (kCo k), .bool (kGr k)] 48)
        exact ⟨by rw [← hfb]; exact Blk.new w3 _ _, hb4, HI2.out.call hb4⟩)
      try rw [hfb]
      clear hb3 HB3 hfb
      generalize w3.alloc (.cells #[.bool (kTx k), .bool (kCo k), .bool (kGr k)] 48) = w4 at *
      have r0 : w4.cell? ⟨w.heap.size, 0, none⟩ = some (.int .i64 (W : Nat)) := HS4.out.2.2.c0
      have r1 : w4.cell? ⟨w.heap.size, 1, none⟩ = some (.int .i64 (H : Nat)) := HS4.out.2.2.c1
      have f0 : w4.cell? ⟨fb, 0, none⟩ = some (.bool (kTx k)) := HS4.out.1.cell 0
      have f1 : w4.cell? ⟨fb, 1, none⟩ = some (.bool (kCo k)) := HS4.out.1.cell 1
      have f2 : w4.cell? ⟨fb, 2, none⟩ = some (.bool (kGr k)) := HS4.out.1.cell 2
      go_upto_region 8 with (fail)
      obtain ⟨hx, hhx⟩ : ∃ hx, w4.heap.size = hx := ⟨_, rfl⟩
      have HS5 : Hid (Blk (w4.alloc (.cells #[.bool (kTx k), .bool (kCo k), .bool (kGr k), .int .i64 (W : Nat), .int .i64 (H : Nat), .int .i64 1] 50)) hx 50 #[.bool (kTx k), .bool (kCo k), .bool (kGr k), .int .i64 (W : Nat), .int .i64 (H : Nat), .int .i64 1] ∧ Below w2.heap.size w2 (w4.alloc (.cells #[.bool (kTx k), .bool (kCo k), .bool (kGr k), .int .i64 (W : Nat), .int .i64 (H : Nat), .int .i64 1] 50)) ∧ w2.heap.size ≤ hx) := Lib.hid (by
        have hb4 := HS4.out.2.1
        exact ⟨by rw [← hhx]; exact Blk.new w4 _ _, hb4.alloc hb4.size _, by have := hb4.size; omega⟩)
      try rw [hhx]
      clear hhx HS4 r0 r1 f0 f1 f2
      generalize w4.alloc (.cells #[.bool (kTx k), .bool (kCo k), .bool (kGr k), .int .i64 (W : Nat), .int .i64 (H : Nat), .int .i64 1] 50) = w5 at *
      have c2 : w5.cell? ⟨hx, 2, none⟩ = some (.bool (kGr k)) := HS5.out.1.cell 2
      have HT3 : Hid (1 ≤ topN k tp ∧ topN k tp ≤ 65535) := Lib.hid (by unfold topN; split <;> omega)
      rcases Bool.eq_false_or_eq_true (kGr k) with hgr | hgr
      · have c5 : w5.cell? ⟨hx, 5, none⟩ = some (.int .i64 1) := HS5.out.1.cell 5
        have k5 := HS5.out.1.frozen 5
        have HS6 : Hid (Blk (w5.setCell ⟨hx, 5, none⟩ (.int .i64 (tp : Nat))) hx 50 (hdA k W H (topN k tp : Nat)) ∧ Below w2.heap.size w2 (w5.setCell ⟨hx, 5, none⟩ (.int .i64 (tp : Nat)))) := Lib.hid (by
          have u := (Upd.refl (· = hx) w5).setCell (p := ⟨hx, 5, none⟩) (fun _ => rfl) (.int .i64 (tp : Nat))
          have e : topN k tp = tp := by unfold topN; rw [if_pos hgr]
          refine ⟨?_, HS5.out.2.1.trans (u.below HS5.out.2.1.size (fun j hj e => by have := HS5.out.2.2; omega))⟩
          rw [e]
          simpa [hdA] using HS5.out.1.set_ 5 (.int .i64 (tp : Nat)))
        rw [hgr] at c2
        go_upto_region 10 with (fail)
        generalize w5.setCell ⟨hx, 5, none⟩ (.int .i64 (tp : Nat)) = w6 at *
        clear c2 c5 k5 HS5 hgr
        have HS6 : Hid (Blk w6 hx 50 (hdA k W H (topN k tp : Nat)) ∧ Below w2.heap.size w2 w6) := HS6
        have c1 : w6.cell? ⟨hx, 1, none⟩ = some (.bool (kCo k)) := HS6.out.1.cell 1
        have c3 : w6.cell? ⟨hx, 3, none⟩ = some (.int .i64 (W : Nat)) := HS6.out.1.cell 3
        have c4 : w6.cell? ⟨hx, 4, none⟩ = some (.int .i64 (H : Nat)) := HS6.out.1.cell 4
        have c5 : w6.cell? ⟨hx, 5, none⟩ = some (.int .i64 (topN k tp : Nat)) := HS6.out.1.cell 5
        have hsx := HS6.out.1.lt
        have HCGV : Hid (∀ V, Below w6.heap.size w6 V → CG V w1.heap.size g r c' W H L) := Lib.hid (fun V hV => (HCG.out.call HS6.out.2).call hV)
        have HBV : Hid (∀ V, Below w6.heap.size w6 V → Below w.heap.size w V) := Lib.hid (fun V hV => (HB2.out.trans (HS6.out.2.mono hs2)).trans (hV.mono (by have := HS6.out.2.size; omega)))
        have HLN : Hid (∀ V, Below w6.heap.size w6 V → Calls Tryz.prog 29 #[.agg #[.bool (kTx k), .bool (kCo k), .bool (kGr k), .int .i64 (W : Nat), .int .i64 (H : Nat), .int .i64 (topN k tp : Nat)], .int .i64 (k : Nat)] V fun e w' => ∃ b cc, e = .returned (.slice (some ⟨b, 0, none⟩) (lnS k k W H (topN k tp : Nat)).size cc) ∧ RwG w' w6.heap.size (.slice (some ⟨b, 0, none⟩) (lnS k k W H (topN k tp : Nat)).size cc) (lnS k k W H (topN k tp : Nat)).size (Lib.strCells (lnS k k W H (topN k tp : Nat))) ∧ Below w6.heap.size w6 w' ∧ V.heap.size ≤ b ∧ Below V.heap.size V w') := Lib.hid (fun V hV =>
          (lines_any k k W H (topN k tp : Nat) ⟨by omega, by omega⟩ ⟨by omega, by omega⟩ ⟨by omega, by omega⟩ ⟨by have := HT3.out; omega, by have := HT3.out; omega⟩ V (HT.out V (HBV.out V hV))).mono (fun e w' hh => by
            obtain ⟨b, cc, h1, h2, h3⟩ := hh
            exact ⟨b, cc, h1, h2.low hV.size, hV.trans (h3.mono hV.size), (h2.lt b rfl).1, h3⟩))
        have hl1000 := lnS_size k k W H (topN k tp : Nat) ⟨by omega, by omega⟩ ⟨by omega, by omega⟩ ⟨by omega, by omega⟩ ⟨by have := HT3.out; omega, by have := HT3.out; omega⟩
        have hfull : Hid (∀ w', Below w6.heap.size w6 w' → (Below w6.heap.size w6 w' ∧ w'.cell? ⟨hx, 0, none⟩ = some (.bool (kTx k)) ∧ w'.cell? ⟨hx, 1, none⟩ = some (.bool (kCo k)) ∧ w'.cell? ⟨hx, 2, none⟩ = some (.bool (kGr k)) ∧ w'.cell? ⟨hx, 3, none⟩ = some (.int .i64 (W : Nat)) ∧ w'.cell? ⟨hx, 4, none⟩ = some (.int .i64 (H : Nat)) ∧ w'.cell? ⟨hx, 5, none⟩ = some (.int .i64 (topN k tp : Nat)))) :=
          Lib.hid fun w' hw => ⟨hw, (hw.cell (p := ⟨hx, 0, none⟩) hsx).trans (HS6.out.1.cell 0), (hw.cell (p := ⟨hx, 1, none⟩) hsx).trans c1, (hw.cell (p := ⟨hx, 2, none⟩) hsx).trans (HS6.out.1.cell 2), (hw.cell (p := ⟨hx, 3, none⟩) hsx).trans c3, (hw.cell (p := ⟨hx, 4, none⟩) hsx).trans c4, (hw.cell (p := ⟨hx, 5, none⟩) hsx).trans c5⟩
        obtain ⟨Z, hZ⟩ : ∃ Z, (lnS k k W H (topN k tp : Nat)).size = Z := ⟨_, rfl⟩
        have HZ := Lib.hid hZ
        rw [hZ] at HLN hl1000
        clear hZ
        rcases Bool.eq_false_or_eq_true (kTx k) with htx | htx
        · have c0 : w6.cell? ⟨hx, 0, none⟩ = some (.bool true) := (HS6.out.1.cell 0).trans (by rw [← htx]; rfl)
          have HTX := Lib.hid htx
          clear htx
          go_upto_region 11 with (fail)
          clear c0 c1 c3 c4 c5
          have HDG : Hid (∀ V, Below w6.heap.size w6 V → ∀ b cc, RwG V w6.heap.size (.slice (some ⟨b, 0, none⟩) Z cc) Z (Lib.strCells (lnS k k W H (topN k tp : Nat))) → Calls Tryz.prog 28 #[.agg #[.bool (kTx k), .bool (kCo k), .bool (kGr k), .int .i64 (W : Nat), .int .i64 (H : Nat), .int .i64 (topN k tp : Nat)], .slice (some ⟨b, 0, none⟩) Z cc, .pointer (some ⟨g, 0, none⟩)] V fun e w' => ∃ A' n' c', e = .returned (.slice A' n' c') ∧ RwG w' w6.heap.size (.slice A' n' c') n' (Lib.strCells (lnS k k W H (topN k tp : Nat)) ++ Lib.byteCells (txtD k tp W L H)) ∧ Below w6.heap.size w6 w') := Lib.hid (fun V hV b cc hr =>
            (inDigits_any k tp HT3.out.1 HT3.out.2 w6.heap.size V g r c' W H _ L (HCGV.out V hV) HOK.out hV.size (some ⟨b, 0, none⟩) Z cc _ hr (by omega) (fun V' hV' => HT.out V' (HBV.out V' (hV.trans hV')))).mono (fun e w' hh => by
              obtain ⟨A', n', c', h1, h2, h3⟩ := hh
              exact ⟨A', n', c', h1, h2, hV.trans h3⟩))
          go_region_held3 (fun w' => Below w6.heap.size w6 w' ∧ w'.cell? ⟨hx, 0, none⟩ = some (.bool (kTx k)) ∧ w'.cell? ⟨hx, 1, none⟩ = some (.bool (kCo k)) ∧ w'.cell? ⟨hx, 2, none⟩ = some (.bool (kGr k)) ∧ w'.cell? ⟨hx, 3, none⟩ = some (.int .i64 (W : Nat)) ∧ w'.cell? ⟨hx, 4, none⟩ = some (.int .i64 (H : Nat)) ∧ w'.cell? ⟨hx, 5, none⟩ = some (.int .i64 (topN k tp : Nat)))
            (first | exact hfull.out _ (Below.drew (Below.refl _ _)) | exact hfull.out _ (Below.refl _ _) | exact hfull.out _ hc3 | exact hfull.out _ hc2 | exact hfull.out _ (And.left (by assumption)))
            ((first
              | (go_at_call 29; refine (HLN.out _ (And.left (by assumption))).mono ?_; rintro e w7 ⟨lb, lc, rfl, hrow, hc2, _⟩)
              | (go_at_call 28; refine (HDG.out _ (And.left (by assumption)) _ _ hrow).mono ?_; rintro e w8 ⟨A9, n9, c9, rfl, hrow9, hc3⟩)))
          all_goals
            have HFIN : Hid (EncQ w (W : Nat) (H : Nat) l (k : Nat) (tp : Nat) (.returned (.tuple #[.slice A9 n9 c9, .int .i64 0])) w8) := Lib.hid (.inr (.inr ⟨HG.out, by omega, A9, n9, c9, (lnS k k W H (topN k tp : Nat)).data.toList ++ txtD k tp W L H, rfl, by simp only [Int.toNat_natCast, HLL.out]; exact .inl ⟨HTX.out, rfl⟩, by rw [Lib.byteCells_append]; exact hrow9.low (by have := (HBV.out _ hc3).size; have := HS6.out.2.size; omega), HBV.out _ hc3⟩))
            clear hrow hrow9 hc2 hc3
            go_wp2_with fail
            go_ret2
            exact HFIN.out
        · have c0 : w6.cell? ⟨hx, 0, none⟩ = some (.bool false) := (HS6.out.1.cell 0).trans (by rw [← htx]; rfl)
          have HTX := Lib.hid htx
          clear htx
          go_upto_region 12 with (fail)
          clear c0 c1 c3 c4 c5
          have HBT : Hid (∀ V, Below w6.heap.size w6 V → Calls Tryz.prog 30 #[.agg #[.bool (kTx k), .bool (kCo k), .bool (kGr k), .int .i64 (W : Nat), .int .i64 (H : Nat), .int .i64 (topN k tp : Nat)], .pointer (some ⟨g, 0, none⟩)] V fun e w' => ∃ Ap lp cp, e = .returned (.slice Ap lp.length cp) ∧ Packed true (bitT k tp W L H) lp ∧ w'.ownsRow V.heap.size 5 1 (.slice Ap lp.length cp) lp.length (bytesV lp) ∧ Below w6.heap.size w6 w' ∧ Below V.heap.size V w') := Lib.hid (fun V hV =>
            (inBits_any k tp HT3.out.1 HT3.out.2 (by omega) V g r c' W H _ L (HCGV.out V hV) HOK.out).mono (fun e w' hh => by
              obtain ⟨A', lp, c', h1, h2, h3, h4⟩ := hh
              exact ⟨A', lp, c', h1, h2, h3, hV.trans (h4.mono hV.size), h4⟩))
          have HAPP : Hid (∀ V, Below w6.heap.size w6 V → ∀ b cc Ap lp cp bb, RwG V w6.heap.size (.slice (some ⟨b, 0, none⟩) Z cc) Z (Lib.strCells (lnS k k W H (topN k tp : Nat))) → V.ownsRow bb 5 1 (.slice Ap lp.length cp) lp.length (bytesV lp) → Packed true (bitT k tp W L H) lp →
              ∃ A9 n9 c9 w9, (Builtin.append_ #[22, 22] 22 #[.slice (some ⟨b, 0, none⟩) Z cc, .slice Ap lp.length cp]).run Tryz.prog V = .ok (.slice A9 n9 c9) w9 ∧ Below w6.heap.size w6 w9 ∧ EncQ w (W : Nat) (H : Nat) l (k : Nat) (tp : Nat) (.returned (.tuple #[.slice A9 n9 c9, .int .i64 0])) w9) := Lib.hid (fun V hV b cc Ap lp cp bb hr ho hp => by
            have hps := bitT_pos k tp W H L (HCGV.out V hV).len hw1 hh1
            have hlen := bitT_len k tp W L H
            have hlen2 := Nat.le_trans hlen (Nat.mul_le_mul hh2 (show 48 * W + 7 ≤ 196615 by omega))
            have hp1 := hp.1
            obtain ⟨A9, c9, w9, hrun, h9, u9⟩ := hr.app_bits hV.size ho (by omega) (by omega)
            have hb9 : Below w6.heap.size w6 w9 := hV.trans (u9.below hV.size (fun j hj e => by have := (hr.lt j e.symm).1; omega))
            exact ⟨A9, _, c9, w9, hrun, hb9, .inr (.inr ⟨HG.out, by omega, A9, _, c9, (lnS k k W H (topN k tp : Nat)).data.toList ++ lp, rfl, by simp only [Int.toNat_natCast, HLL.out]; exact .inr ⟨HTX.out, lp, hp, rfl⟩, by rw [Lib.byteCells_append]; exact h9.low (by have := (HBV.out _ (Below.refl _ _)).size; omega), HBV.out _ hb9⟩)⟩)
          have HS0 : Hid (Below w6.heap.size w6 w6.drew) := Lib.hid (Below.drew (Below.refl _ _))
          have hmix : Tryz.prog.follows .mixedOrders = true := by kernel_rfl
          refine wp_region_held_drew (S := fun w' => Below w6.heap.size w6 w') hmix HS0.out (fun _ => ?_)
          refine' wpAnyH_take (i := 0) (oi := _) (v := .agg #[.bool (kTx k), .bool (kCo k), .bool (kGr k), .int .i64 (W : Nat), .int .i64 (H : Nat), .int .i64 (topN k tp : Nat)]) ?hip0 ?hsp0 ?hfp0 ?hrp0 ?hQp0 (Or.inl ⟨?hwp0, ?hyp0⟩) HS0.out ?restp0
          case hip0 => (simp only [List.getElem?_toArray, List.getElem?_cons_succ, List.getElem?_cons_zero]; rfl)
          case hsp0 => kernel_rfl
          case hfp0 => kernel_rfl
          case hrp0 => kernel_rfl
          case hQp0 => (intro _ _ _ h; exact h)
          case hwp0 => rfl
          case hyp0 => (intro w' hSw; obtain ⟨_, y0, y1, y2, y3, y4, y5⟩ := hfull.out w' hSw; go_simp)
          try simp only [Act.put, List.setIfInBounds_toArray, List.set_cons_zero, List.set_cons_succ]
          refine' wpAnyH_take (i := 1) (oi := _) (v := .int .i64 (k : Nat)) ?hip1 ?hsp1 ?hfp1 ?hrp1 ?hQp1 (Or.inl ⟨?hwp1, ?hyp1⟩) HS0.out ?restp1
          case hip1 => (simp only [List.getElem?_toArray, List.getElem?_cons_succ, List.getElem?_cons_zero]; rfl)
          case hsp1 => kernel_rfl
          case hfp1 => kernel_rfl
          case hrp1 => kernel_rfl
          case hQp1 => (intro _ _ _ h; exact h)
          case hwp1 => rfl
          case hyp1 => (intro w' hSw; obtain ⟨_, y0, y1, y2, y3, y4, y5⟩ := hfull.out w' hSw; go_simp)
          try simp only [Act.put, List.setIfInBounds_toArray, List.set_cons_zero, List.set_cons_succ]
          refine' wpAnyH_take (i := 3) (oi := _) (v := .agg #[.bool (kTx k), .bool (kCo k), .bool (kGr k), .int .i64 (W : Nat), .int .i64 (H : Nat), .int .i64 (topN k tp : Nat)]) ?hip3 ?hsp3 ?hfp3 ?hrp3 ?hQp3 (Or.inl ⟨?hwp3, ?hyp3⟩) HS0.out ?restp3
          case hip3 => (simp only [List.getElem?_toArray, List.getElem?_cons_succ, List.getElem?_cons_zero]; rfl)
          case hsp3 => kernel_rfl
          case hfp3 => kernel_rfl
          case hrp3 => kernel_rfl
          case hQp3 => (intro _ _ _ h; exact h)
          case hwp3 => rfl
          case hyp3 => (intro w' hSw; obtain ⟨_, y0, y1, y2, y3, y4, y5⟩ := hfull.out w' hSw; go_simp)
          try simp only [Act.put, List.setIfInBounds_toArray, List.set_cons_zero, List.set_cons_succ]
          refine' wpAnyH_take (i := 4) (oi := _) (v := .pointer (some ⟨g, 0, none⟩)) ?hip4 ?hsp4 ?hfp4 ?hrp4 ?hQp4 (Or.inl ⟨?hwp4, ?hyp4⟩) HS0.out ?restp4
          case hip4 => (simp only [List.getElem?_toArray, List.getElem?_cons_succ, List.getElem?_cons_zero]; rfl)
          case hsp4 => kernel_rfl
          case hfp4 => kernel_rfl
          case hrp4 => kernel_rfl
          case hQp4 => (intro _ _ _ h; exact h)
          case hwp4 => rfl
          case hyp4 => (intro w' hSw; obtain ⟨_, y0, y1, y2, y3, y4, y5⟩ := hfull.out w' hSw; go_simp)
          try simp only [Act.put, List.setIfInBounds_toArray, List.set_cons_zero, List.set_cons_succ]
          refine wpAnyH_ready (rs := [2]) (by kernel_rfl) (by simp) ?_
          refine' AllReadyH.cons (o := _) ?ho2p (fun K hK => ?s2p) ?m2p
          case ho2p => (simp only [List.getElem?_toArray, List.getElem?_cons_succ, List.getElem?_cons_zero]; rfl)
          case m2p => exact AllReadyH.nil
          case s2p =>
            go_simp
            refine (HLN.out _ HS0.out).mono ?_
            rintro e w7 ⟨lb, lc, rfl, hrow, hc2, _, hbl⟩
            try go_simp
            refine hK.out _ _ hc2 (fun _ => ?_)
            clear hK K
            try simp only [Act.put, List.setIfInBounds_toArray, List.set_cons_zero, List.set_cons_succ]
            refine wpAnyH_ready (rs := [5]) (by kernel_rfl) (by simp) ?_
            refine' AllReadyH.cons (o := _) ?ho5p (fun K hK => ?s5p) ?m5p
            case ho5p => (simp only [List.getElem?_toArray, List.getElem?_cons_succ, List.getElem?_cons_zero]; rfl)
            case m5p => exact AllReadyH.nil
            case s5p =>
              go_simp
              refine (HBT.out _ hc2).mono ?_
              rintro e w8 ⟨Ap, lp, cp, rfl, hpk, hop, hc3, hbp⟩
              obtain ⟨A9, n9, c9, w9, hrun, hc9, hfin⟩ := HAPP.out _ hc3 _ _ _ _ _ _ (hrow.upd (Upd.of_fresh hbp) (fun _ _ => id)) hop hpk
              have HRN := Lib.hid hrun; have HFIN := Lib.hid hfin
              clear hrun hfin hop hrow
              try go_simp
              refine hK.out _ _ hc3 (fun _ => ?_)
              clear hK K
              try simp only [Act.put, List.setIfInBounds_toArray, List.set_cons_zero, List.set_cons_succ]
              refine wpAnyH_ready (rs := [6]) (by kernel_rfl) (by simp) ?_
              refine' AllReadyH.cons (o := _) ?ho6p (fun K hK => ?s6p) ?m6p
              case ho6p => (simp only [List.getElem?_toArray, List.getElem?_cons_succ, List.getElem?_cons_zero]; rfl)
              case m6p => exact AllReadyH.nil
              case s6p =>
                refine step_append_run rfl (.tmp 58) (.tmp 61) _ rfl rfl rfl HRN.out ?_
                refine hK.out _ _ hc9 (fun _ => ?_)
                clear hK K
                try simp only [Act.put, List.setIfInBounds_toArray, List.set_cons_zero, List.set_cons_succ]
                refine' wpAnyH_take (i := 7) (oi := _) (v := .slice A9 n9 c9) ?hiu7 ?hsu7 ?hfu7 ?hru7 ?hQu7 (Or.inl ⟨?hwu7, ?hyu7⟩) hc9 ?restu7
                case hiu7 => (simp only [List.getElem?_toArray, List.getElem?_cons_succ, List.getElem?_cons_zero]; rfl)
                case hsu7 => kernel_rfl
                case hfu7 => kernel_rfl
                case hru7 => kernel_rfl
                case hQu7 => (intro _ _ _ h; exact h)
                case hwu7 => rfl
                case hyu7 => (intro w' hSw; go_simp)
                try simp only [Act.put, List.setIfInBounds_toArray, List.set_cons_zero, List.set_cons_succ]
                refine' wpAnyH_take (i := 8) (oi := _) (v := .int .i64 0) ?hiu8 ?hsu8 ?hfu8 ?hru8 ?hQu8 (Or.inl ⟨?hwu8, ?hyu8⟩) hc9 ?restu8
                case hiu8 => (simp only [List.getElem?_toArray, List.getElem?_cons_succ, List.getElem?_cons_zero]; rfl)
                case hsu8 => kernel_rfl
                case hfu8 => kernel_rfl
                case hru8 => kernel_rfl
                case hQu8 => (intro _ _ _ h; exact h)
                case hwu8 => rfl
                case hyu8 => (intro w' hSw; go_simp)
                try simp only [Act.put, List.setIfInBounds_toArray, List.set_cons_zero, List.set_cons_succ]
                refine wpAnyH_done (by kernel_rfl) ?_ _
                go_wp2_with fail
                go_ret2
                exact HFIN.out
      · have HS6 : Hid (Blk w5 hx 50 (hdA k W H (topN k tp : Nat)) ∧ Below w2.heap.size w2 w5) := Lib.hid (by
          have e : topN k tp = 1 := by unfold topN; rw [if_neg (by rw [hgr]; simp)]
          refine ⟨?_, HS5.out.2.1⟩
          rw [e]
          exact HS5.out.1)
        rw [hgr] at c2
        go_upto_region 10 with (fail)
        clear c2 HS5 hgr
        generalize w5 = w6 at *
        have HS6 : Hid (Blk w6 hx 50 (hdA k W H (topN k tp : Nat)) ∧ Below w2.heap.size w2 w6) := HS6
        have c1 : w6.cell? ⟨hx, 1, none⟩ = some (.bool (kCo k)) := HS6.out.1.cell 1
        have c3 : w6.cell? ⟨hx, 3, none⟩ = some (.int .i64 (W : Nat)) := HS6.out.1.cell 3
        have c4 : w6.cell? ⟨hx, 4, none⟩ = some (.int .i64 (H : Nat)) := HS6.out.1.cell 4
        have c5 : w6.cell? ⟨hx, 5, none⟩ = some (.int .i64 (topN k tp : Nat)) := HS6.out.1.cell 5
        have hsx := HS6.out.1.lt
        have HCGV : Hid (∀ V, Below w6.heap.size w6 V → CG V w1.heap.size g r c' W H L) := Lib.hid (fun V hV => (HCG.out.call HS6.out.2).call hV)
        have HBV : Hid (∀ V, Below w6.heap.size w6 V → Below w.heap.size w V) := Lib.hid (fun V hV => (HB2.out.trans (HS6.out.2.mono hs2)).trans (hV.mono (by have := HS6.out.2.size; omega)))
        have HLN : Hid (∀ V, Below w6.heap.size w6 V → Calls Tryz.prog 29 #[.agg #[.bool (kTx k), .bool (kCo k), .bool (kGr k), .int .i64 (W : Nat), .int .i64 (H : Nat), .int .i64 (topN k tp : Nat)], .int .i64 (k : Nat)] V fun e w' => ∃ b cc, e = .returned (.slice (some ⟨b, 0, none⟩) (lnS k k W H (topN k tp : Nat)).size cc) ∧ RwG w' w6.heap.size (.slice (some ⟨b, 0, none⟩) (lnS k k W H (topN k tp : Nat)).size cc) (lnS k k W H (topN k tp : Nat)).size (Lib.strCells (lnS k k W H (topN k tp : Nat))) ∧ Below w6.heap.size w6 w' ∧ V.heap.size ≤ b ∧ Below V.heap.size V w') := Lib.hid (fun V hV =>
          (lines_any k k W H (topN k tp : Nat) ⟨by omega, by omega⟩ ⟨by omega, by omega⟩ ⟨by omega, by omega⟩ ⟨by have := HT3.out; omega, by have := HT3.out; omega⟩ V (HT.out V (HBV.out V hV))).mono (fun e w' hh => by
            obtain ⟨b, cc, h1, h2, h3⟩ := hh
            exact ⟨b, cc, h1, h2.low hV.size, hV.trans (h3.mono hV.size), (h2.lt b rfl).1, h3⟩))
        have hl1000 := lnS_size k k W H (topN k tp : Nat) ⟨by omega, by omega⟩ ⟨by omega, by omega⟩ ⟨by omega, by omega⟩ ⟨by have := HT3.out; omega, by have := HT3.out; omega⟩
        have hfull : Hid (∀ w', Below w6.heap.size w6 w' → (Below w6.heap.size w6 w' ∧ w'.cell? ⟨hx, 0, none⟩ = some (.bool (kTx k)) ∧ w'.cell? ⟨hx, 1, none⟩ = some (.bool (kCo k)) ∧ w'.cell? ⟨hx, 2, none⟩ = some (.bool (kGr k)) ∧ w'.cell? ⟨hx, 3, none⟩ = some (.int .i64 (W : Nat)) ∧ w'.cell? ⟨hx, 4, none⟩ = some (.int .i64 (H : Nat)) ∧ w'.cell? ⟨hx, 5, none⟩ = some (.int .i64 (topN k tp : Nat)))) :=
          Lib.hid fun w' hw => ⟨hw, (hw.cell (p := ⟨hx, 0, none⟩) hsx).trans (HS6.out.1.cell 0), (hw.cell (p := ⟨hx, 1, none⟩) hsx).trans c1, (hw.cell (p := ⟨hx, 2, none⟩) hsx).trans (HS6.out.1.cell 2), (hw.cell (p := ⟨hx, 3, none⟩) hsx).trans c3, (hw.cell (p := ⟨hx, 4, none⟩) hsx).trans c4, (hw.cell (p := ⟨hx, 5, none⟩) hsx).trans c5⟩
        obtain ⟨Z, hZ⟩ : ∃ Z, (lnS k k W H (topN k tp : Nat)).size = Z := ⟨_, rfl⟩
        have HZ := Lib.hid hZ
        rw [hZ] at HLN hl1000
        clear hZ
        rcases Bool.eq_false_or_eq_true (kTx k) with htx | htx
        · have c0 : w6.cell? ⟨hx, 0, none⟩ = some (.bool true) := (HS6.out.1.cell 0).trans (by rw [← htx]; rfl)
          have HTX := Lib.hid htx
          clear htx
          go_upto_region 11 with (fail)
          clear c0 c1 c3 c4 c5
          have HDG : Hid (∀ V, Below w6.heap.size w6 V → ∀ b cc, RwG V w6.heap.size (.slice (some ⟨b, 0, none⟩) Z cc) Z (Lib.strCells (lnS k k W H (topN k tp : Nat))) → Calls Tryz.prog 28 #[.agg #[.bool (kTx k), .bool (kCo k), .bool (kGr k), .int .i64 (W : Nat), .int .i64 (H : Nat), .int .i64 (topN k tp : Nat)], .slice (some ⟨b, 0, none⟩) Z cc, .pointer (some ⟨g, 0, none⟩)] V fun e w' => ∃ A' n' c', e = .returned (.slice A' n' c') ∧ RwG w' w6.heap.size (.slice A' n' c') n' (Lib.strCells (lnS k k W H (topN k tp : Nat)) ++ Lib.byteCells (txtD k tp W L H)) ∧ Below w6.heap.size w6 w') := Lib.hid (fun V hV b cc hr =>
            (inDigits_any k tp HT3.out.1 HT3.out.2 w6.heap.size V g r c' W H _ L (HCGV.out V hV) HOK.out hV.size (some ⟨b, 0, none⟩) Z cc _ hr (by omega) (fun V' hV' => HT.out V' (HBV.out V' (hV.trans hV')))).mono (fun e w' hh => by
              obtain ⟨A', n', c', h1, h2, h3⟩ := hh
              exact ⟨A', n', c', h1, h2, hV.trans h3⟩))
          go_region_held3 (fun w' => Below w6.heap.size w6 w' ∧ w'.cell? ⟨hx, 0, none⟩ = some (.bool (kTx k)) ∧ w'.cell? ⟨hx, 1, none⟩ = some (.bool (kCo k)) ∧ w'.cell? ⟨hx, 2, none⟩ = some (.bool (kGr k)) ∧ w'.cell? ⟨hx, 3, none⟩ = some (.int .i64 (W : Nat)) ∧ w'.cell? ⟨hx, 4, none⟩ = some (.int .i64 (H : Nat)) ∧ w'.cell? ⟨hx, 5, none⟩ = some (.int .i64 (topN k tp : Nat)))
            (first | exact hfull.out _ (Below.drew (Below.refl _ _)) | exact hfull.out _ (Below.refl _ _) | exact hfull.out _ hc3 | exact hfull.out _ hc2 | exact hfull.out _ (And.left (by assumption)))
            ((first
              | (go_at_call 29; refine (HLN.out _ (And.left (by assumption))).mono ?_; rintro e w7 ⟨lb, lc, rfl, hrow, hc2, _⟩)
              | (go_at_call 28; refine (HDG.out _ (And.left (by assumption)) _ _ hrow).mono ?_; rintro e w8 ⟨A9, n9, c9, rfl, hrow9, hc3⟩)))
          all_goals
            have HFIN : Hid (EncQ w (W : Nat) (H : Nat) l (k : Nat) (tp : Nat) (.returned (.tuple #[.slice A9 n9 c9, .int .i64 0])) w8) := Lib.hid (.inr (.inr ⟨HG.out, by omega, A9, n9, c9, (lnS k k W H (topN k tp : Nat)).data.toList ++ txtD k tp W L H, rfl, by simp only [Int.toNat_natCast, HLL.out]; exact .inl ⟨HTX.out, rfl⟩, by rw [Lib.byteCells_append]; exact hrow9.low (by have := (HBV.out _ hc3).size; have := HS6.out.2.size; omega), HBV.out _ hc3⟩))
            clear hrow hrow9 hc2 hc3
            go_wp2_with fail
            go_ret2
            exact HFIN.out
        · have c0 : w6.cell? ⟨hx, 0, none⟩ = some (.bool false) := (HS6.out.1.cell 0).trans (by rw [← htx]; rfl)
          have HTX := Lib.hid htx
          clear htx
          go_upto_region 12 with (fail)
          clear c0 c1 c3 c4 c5
          have HBT : Hid (∀ V, Below w6.heap.size w6 V → Calls Tryz.prog 30 #[.agg #[.bool (kTx k), .bool (kCo k), .bool (kGr k), .int .i64 (W : Nat), .int .i64 (H : Nat), .int .i64 (topN k tp : Nat)], .pointer (some ⟨g, 0, none⟩)] V fun e w' => ∃ Ap lp cp, e = .returned (.slice Ap lp.length cp) ∧ Packed true (bitT k tp W L H) lp ∧ w'.ownsRow V.heap.size 5 1 (.slice Ap lp.length cp) lp.length (bytesV lp) ∧ Below w6.heap.size w6 w' ∧ Below V.heap.size V w') := Lib.hid (fun V hV =>
            (inBits_any k tp HT3.out.1 HT3.out.2 (by omega) V g r c' W H _ L (HCGV.out V hV) HOK.out).mono (fun e w' hh => by
              obtain ⟨A', lp, c', h1, h2, h3, h4⟩ := hh
              exact ⟨A', lp, c', h1, h2, h3, hV.trans (h4.mono hV.size), h4⟩))
          have HAPP : Hid (∀ V, Below w6.heap.size w6 V → ∀ b cc Ap lp cp bb, RwG V w6.heap.size (.slice (some ⟨b, 0, none⟩) Z cc) Z (Lib.strCells (lnS k k W H (topN k tp : Nat))) → V.ownsRow bb 5 1 (.slice Ap lp.length cp) lp.length (bytesV lp) → Packed true (bitT k tp W L H) lp →
              ∃ A9 n9 c9 w9, (Builtin.append_ #[22, 22] 22 #[.slice (some ⟨b, 0, none⟩) Z cc, .slice Ap lp.length cp]).run Tryz.prog V = .ok (.slice A9 n9 c9) w9 ∧ Below w6.heap.size w6 w9 ∧ EncQ w (W : Nat) (H : Nat) l (k : Nat) (tp : Nat) (.returned (.tuple #[.slice A9 n9 c9, .int .i64 0])) w9) := Lib.hid (fun V hV b cc Ap lp cp bb hr ho hp => by
            have hps := bitT_pos k tp W H L (HCGV.out V hV).len hw1 hh1
            have hlen := bitT_len k tp W L H
            have hlen2 := Nat.le_trans hlen (Nat.mul_le_mul hh2 (show 48 * W + 7 ≤ 196615 by omega))
            have hp1 := hp.1
            obtain ⟨A9, c9, w9, hrun, h9, u9⟩ := hr.app_bits hV.size ho (by omega) (by omega)
            have hb9 : Below w6.heap.size w6 w9 := hV.trans (u9.below hV.size (fun j hj e => by have := (hr.lt j e.symm).1; omega))
            exact ⟨A9, _, c9, w9, hrun, hb9, .inr (.inr ⟨HG.out, by omega, A9, _, c9, (lnS k k W H (topN k tp : Nat)).data.toList ++ lp, rfl, by simp only [Int.toNat_natCast, HLL.out]; exact .inr ⟨HTX.out, lp, hp, rfl⟩, by rw [Lib.byteCells_append]; exact h9.low (by have := (HBV.out _ (Below.refl _ _)).size; omega), HBV.out _ hb9⟩)⟩)
          have HS0 : Hid (Below w6.heap.size w6 w6.drew) := Lib.hid (Below.drew (Below.refl _ _))
          have hmix : Tryz.prog.follows .mixedOrders = true := by kernel_rfl
          refine wp_region_held_drew (S := fun w' => Below w6.heap.size w6 w') hmix HS0.out (fun _ => ?_)
          refine' wpAnyH_take (i := 0) (oi := _) (v := .agg #[.bool (kTx k), .bool (kCo k), .bool (kGr k), .int .i64 (W : Nat), .int .i64 (H : Nat), .int .i64 (topN k tp : Nat)]) ?hiq0 ?hsq0 ?hfq0 ?hrq0 ?hQq0 (Or.inl ⟨?hwq0, ?hyq0⟩) HS0.out ?restq0
          case hiq0 => (simp only [List.getElem?_toArray, List.getElem?_cons_succ, List.getElem?_cons_zero]; rfl)
          case hsq0 => kernel_rfl
          case hfq0 => kernel_rfl
          case hrq0 => kernel_rfl
          case hQq0 => (intro _ _ _ h; exact h)
          case hwq0 => rfl
          case hyq0 => (intro w' hSw; obtain ⟨_, y0, y1, y2, y3, y4, y5⟩ := hfull.out w' hSw; go_simp)
          try simp only [Act.put, List.setIfInBounds_toArray, List.set_cons_zero, List.set_cons_succ]
          refine' wpAnyH_take (i := 1) (oi := _) (v := .int .i64 (k : Nat)) ?hiq1 ?hsq1 ?hfq1 ?hrq1 ?hQq1 (Or.inl ⟨?hwq1, ?hyq1⟩) HS0.out ?restq1
          case hiq1 => (simp only [List.getElem?_toArray, List.getElem?_cons_succ, List.getElem?_cons_zero]; rfl)
          case hsq1 => kernel_rfl
          case hfq1 => kernel_rfl
          case hrq1 => kernel_rfl
          case hQq1 => (intro _ _ _ h; exact h)
          case hwq1 => rfl
          case hyq1 => (intro w' hSw; obtain ⟨_, y0, y1, y2, y3, y4, y5⟩ := hfull.out w' hSw; go_simp)
          try simp only [Act.put, List.setIfInBounds_toArray, List.set_cons_zero, List.set_cons_succ]
          refine' wpAnyH_take (i := 3) (oi := _) (v := .agg #[.bool (kTx k), .bool (kCo k), .bool (kGr k), .int .i64 (W : Nat), .int .i64 (H : Nat), .int .i64 (topN k tp : Nat)]) ?hiq3 ?hsq3 ?hfq3 ?hrq3 ?hQq3 (Or.inl ⟨?hwq3, ?hyq3⟩) HS0.out ?restq3
          case hiq3 => (simp only [List.getElem?_toArray, List.getElem?_cons_succ, List.getElem?_cons_zero]; rfl)
          case hsq3 => kernel_rfl
          case hfq3 => kernel_rfl
          case hrq3 => kernel_rfl
          case hQq3 => (intro _ _ _ h; exact h)
          case hwq3 => rfl
          case hyq3 => (intro w' hSw; obtain ⟨_, y0, y1, y2, y3, y4, y5⟩ := hfull.out w' hSw; go_simp)
          try simp only [Act.put, List.setIfInBounds_toArray, List.set_cons_zero, List.set_cons_succ]
          refine' wpAnyH_take (i := 4) (oi := _) (v := .pointer (some ⟨g, 0, none⟩)) ?hiq4 ?hsq4 ?hfq4 ?hrq4 ?hQq4 (Or.inl ⟨?hwq4, ?hyq4⟩) HS0.out ?restq4
          case hiq4 => (simp only [List.getElem?_toArray, List.getElem?_cons_succ, List.getElem?_cons_zero]; rfl)
          case hsq4 => kernel_rfl
          case hfq4 => kernel_rfl
          case hrq4 => kernel_rfl
          case hQq4 => (intro _ _ _ h; exact h)
          case hwq4 => rfl
          case hyq4 => (intro w' hSw; obtain ⟨_, y0, y1, y2, y3, y4, y5⟩ := hfull.out w' hSw; go_simp)
          try simp only [Act.put, List.setIfInBounds_toArray, List.set_cons_zero, List.set_cons_succ]
          refine wpAnyH_ready (rs := [2]) (by kernel_rfl) (by simp) ?_
          refine' AllReadyH.cons (o := _) ?ho2q (fun K hK => ?s2q) ?m2q
          case ho2q => (simp only [List.getElem?_toArray, List.getElem?_cons_succ, List.getElem?_cons_zero]; rfl)
          case m2q => exact AllReadyH.nil
          case s2q =>
            go_simp
            refine (HLN.out _ HS0.out).mono ?_
            rintro e w7 ⟨lb, lc, rfl, hrow, hc2, _, hbl⟩
            try go_simp
            refine hK.out _ _ hc2 (fun _ => ?_)
            clear hK K
            try simp only [Act.put, List.setIfInBounds_toArray, List.set_cons_zero, List.set_cons_succ]
            refine wpAnyH_ready (rs := [5]) (by kernel_rfl) (by simp) ?_
            refine' AllReadyH.cons (o := _) ?ho5q (fun K hK => ?s5q) ?m5q
            case ho5q => (simp only [List.getElem?_toArray, List.getElem?_cons_succ, List.getElem?_cons_zero]; rfl)
            case m5q => exact AllReadyH.nil
            case s5q =>
              go_simp
              refine (HBT.out _ hc2).mono ?_
              rintro e w8 ⟨Ap, lp, cp, rfl, hpk, hop, hc3, hbp⟩
              obtain ⟨A9, n9, c9, w9, hrun, hc9, hfin⟩ := HAPP.out _ hc3 _ _ _ _ _ _ (hrow.upd (Upd.of_fresh hbp) (fun _ _ => id)) hop hpk
              have HRN := Lib.hid hrun; have HFIN := Lib.hid hfin
              clear hrun hfin hop hrow
              try go_simp
              refine hK.out _ _ hc3 (fun _ => ?_)
              clear hK K
              try simp only [Act.put, List.setIfInBounds_toArray, List.set_cons_zero, List.set_cons_succ]
              refine wpAnyH_ready (rs := [6]) (by kernel_rfl) (by simp) ?_
              refine' AllReadyH.cons (o := _) ?ho6q (fun K hK => ?s6q) ?m6q
              case ho6q => (simp only [List.getElem?_toArray, List.getElem?_cons_succ, List.getElem?_cons_zero]; rfl)
              case m6q => exact AllReadyH.nil
              case s6q =>
                refine step_append_run rfl (.tmp 58) (.tmp 61) _ rfl rfl rfl HRN.out ?_
                refine hK.out _ _ hc9 (fun _ => ?_)
                clear hK K
                try simp only [Act.put, List.setIfInBounds_toArray, List.set_cons_zero, List.set_cons_succ]
                refine' wpAnyH_take (i := 7) (oi := _) (v := .slice A9 n9 c9) ?hiv7 ?hsv7 ?hfv7 ?hrv7 ?hQv7 (Or.inl ⟨?hwv7, ?hyv7⟩) hc9 ?restv7
                case hiv7 => (simp only [List.getElem?_toArray, List.getElem?_cons_succ, List.getElem?_cons_zero]; rfl)
                case hsv7 => kernel_rfl
                case hfv7 => kernel_rfl
                case hrv7 => kernel_rfl
                case hQv7 => (intro _ _ _ h; exact h)
                case hwv7 => rfl
                case hyv7 => (intro w' hSw; go_simp)
                try simp only [Act.put, List.setIfInBounds_toArray, List.set_cons_zero, List.set_cons_succ]
                refine' wpAnyH_take (i := 8) (oi := _) (v := .int .i64 0) ?hiv8 ?hsv8 ?hfv8 ?hrv8 ?hQv8 (Or.inl ⟨?hwv8, ?hyv8⟩) hc9 ?restv8
                case hiv8 => (simp only [List.getElem?_toArray, List.getElem?_cons_succ, List.getElem?_cons_zero]; rfl)
                case hsv8 => kernel_rfl
                case hfv8 => kernel_rfl
                case hrv8 => kernel_rfl
                case hQv8 => (intro _ _ _ h; exact h)
                case hwv8 => rfl
                case hyv8 => (intro w' hSw; go_simp)
                try simp only [Act.put, List.setIfInBounds_toArray, List.set_cons_zero, List.set_cons_succ]
                refine wpAnyH_done (by kernel_rfl) ?_ _
                go_wp2_with fail
                go_ret2
                exact HFIN.out
    · have hdn : (decide (top < 1) = true) ∨ (decide (top < 1) = false ∧ decide ((65535 : Int) < top) = true) := by
        by_cases h1 : top < 1
        · exact .inl (decide_eq_true h1)
        · exact .inr ⟨decide_eq_false h1, decide_eq_true (by omega)⟩
      have HQ : Hid (∀ w9, Below w2.heap.size w2 w9 → EncQ w (W : Nat) (H : Nat) l (k : Nat) top (.returned (.tuple #[.slice none 0 0, .int .i64 2])) w9) := Lib.hid (fun w9 h9 => .inr (.inl ⟨HG.out, by omega, rfl, HB2.out.trans (h9.mono hs2)⟩))
      rcases hdn with d1 | ⟨d1, d2⟩
      · go_wp2_with fail
        refine (HFO.out w2).mono ?_
        rintro e w3 ⟨rfl, hb3⟩
        have HB3 := Lib.hid (hb3.alloc hb3.size (.cells #[.bool (kTx k), .bool (kCo k), .bool (kGr k)] 48))
        clear hb3 q0 q1
        go_wp2_with fail
        go_ret2
        exact HQ.out _ HB3.out
      · go_wp2_with fail
        refine (HFO.out w2).mono ?_
        rintro e w3 ⟨rfl, hb3⟩
        have HB3 := Lib.hid (hb3.alloc hb3.size (.cells #[.bool (kTx k), .bool (kCo k), .bool (kGr k)] 48))
        clear hb3 q0 q1
        go_wp2_with fail
        go_ret2
        exact HQ.out _ HB3.out
  · have HQ : Hid (∀ w9, Below w2.heap.size w2 w9 → EncQ w (W : Nat) (H : Nat) l kind top (.returned (.tuple #[.slice none 0 0, .int .i64 2])) w9) := Lib.hid (fun w9 h9 => .inr (.inl ⟨HG.out, by omega, rfl, HB2.out.trans (h9.mono HB2.out.size)⟩))
    have HFO := Lib.hid (fun V => formOf_no kind hkk V)
    go_wp2_with fail
    refine (HFO.out w2).mono ?_
    rintro e w3 ⟨rfl, hb3⟩
    have HB3 := Lib.hid (hb3.alloc hb3.size (.cells #[.bool false, .bool false, .bool false] 48))
    clear hb3 q0 q1
    go_wp2_with fail
    go_ret2
    exact HQ.out _ HB3.out
end Go.Proofs.YtfbokhdimffabaaGreatDoor
