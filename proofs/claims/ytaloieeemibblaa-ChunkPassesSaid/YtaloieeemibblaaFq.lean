/- Proved: the passes of a picture are the document's, and have each of its places once: for any two numbers and any string, no condition. -/
import Derived.Test.YtaloieeemibblaaFa
import Derived.Test.YtaloieeemibblaaFm
import Derived.Test.YtaloieeemibblaaFg
import Derived.Test.YtaloieeemibblaaOp
import Derived.BigQuiet
import Derived.ChangeMaps5
set_option linter.unusedVariables false
set_option linter.unusedSimpArgs false
namespace Go.Proofs.Ytaloieeemibblaa
open Go.ChangeShapes Go.WideShapes Go.ChangeAt Go.RowKit
/-- The cells of a pass in a row of passes. -/
theorem pass_cells {w : World} {base n c : Nat} {A : Option Addr} {wI hI : Int} (h : w.ownsRow base 53 6 (.slice A n c) n (intsV (pasL wI hI 7))) (hn : n = (plL wI hI 7).length) (hpos : 0 < n) :
    ∃ g, A = some ⟨g, 0, none⟩ ∧ g < w.heap.size ∧ base ≤ g ∧ ∀ i (hi : i < (plL wI hI 7).length) j (hj : j < 6), w.cell? ⟨g, i * 6 + j, none⟩ = some (.int .i64 ((sixP wI hI (plL wI hI 7)[i])[j]'(by simp [sixP]; omega))) := by
  obtain ⟨g, cap, hv, hg, hlt⟩ := h.form hpos
  have hA : A = some ⟨g, 0, none⟩ := by injection hv
  subst hA
  refine ⟨g, rfl, hlt, hg, fun i hi j hj => ?_⟩
  have e0 : ∀ i, (⟨g, 0, none⟩ : Addr).add i = ⟨g, i, none⟩ := fun i => by unfold Addr.add; split <;> simp_all
  have h6 := six_at wI hI (plL wI hI 7) i j hi hj
  rw [← pasL_pl, List.getElem?_eq_getElem (show j < (sixP wI hI (plL wI hI 7)[i]).length by simp [sixP]; omega)] at h6
  have hq : (intsV (pasL wI hI 7))[6 * i + j]? = some (.int .i64 ((sixP wI hI (plL wI hI 7)[i])[j]'(by simp [sixP]; omega))) := by
    unfold intsV
    rw [List.getElem?_map, h6]
    rfl
  have := h.cells (g := g) rfl (6 * i + j) _ hq
  rw [e0] at this
  rw [show i * 6 + j = 6 * i + j by omega]
  exact this
theorem info_i64 : (Try.prog.info? 3).map (fun i => (i.zero, i.size, i.bytes)) = some (some (.int .i64 0), 1, 8) := by kernel_rfl
theorem make_int (n : Nat) : (madeCells (Value.int .i64 0).cells (n * 1)).toList = intsV (List.replicate n 0) := by
  rw [show (Value.int .i64 0).cells = #[.int .i64 0] from rfl, Nat.mul_one, toList_madeCells_one]
  simp [intsV]
theorem numL_zero (W H : Nat) : numL W H (fun _ _ => 0) = List.replicate (W * H) 0 := by
  refine List.ext_getElem (by simp [numL]) (fun p h1 h2 => ?_)
  rw [numL_get]
  simp
/-- What holds while the places are counted. -/
structure LS (w : World) (W H M k : Nat) (A : Option Addr) (c B1 gn : Nat) (f : Nat → Nat → Nat) (V : World) : Prop where
  bel : Below w.heap.size w V
  row : V.ownsRow B1 53 6 (.slice A k c) k (intsV (pasL (W : Int) (H : Int) 7))
  num : V.ownsRow w.heap.size 3 1 (.slice (some ⟨gn, 0, none⟩) M M) M (intsV (numL W H f))
  lt : ∀ j, (Value.slice A k c).ownBlock = some j → j < gn
  gw : w.heap.size ≤ gn
section
variable {w V : World} {W H M k : Nat} {A : Option Addr} {c B1 gn : Nat} {f : Nat → Nat → Nat}
theorem LS.drew (h : LS w W H M k A c B1 gn f V) : LS w W H M k A c B1 gn f V.drew := ⟨h.bel.drew, h.row, h.num, h.lt, h.gw⟩
theorem LS.drewN (h : LS w W H M k A c B1 gn f V) (n : Nat) : LS w W H M k A c B1 gn f (V.drewN n) := ⟨h.bel.trans ((Upd.drewN (Upd.refl (fun _ => False) V) n).below h.bel.size (fun _ _ h => h)), h.row, h.num, h.lt, h.gw⟩
theorem LS.cells {g : Nat} (h : LS w W H M k (some ⟨g, 0, none⟩) c B1 gn f V) (hk : k = (plL (W : Int) (H : Int) 7).length) (i : Nat) (hi : i < (plL (W : Int) (H : Int) 7).length) (j : Nat) (hj : j < 6) : V.cell? ⟨g, i * 6 + j, none⟩ = some (.int .i64 ((sixP (W : Int) (H : Int) (plL (W : Int) (H : Int) 7)[i])[j]'(by simp [sixP]; omega))) := by
  obtain ⟨g', e, _, _, hc⟩ := pass_cells h.row hk (by omega)
  injection e with e
  injection e with e
  subst e
  exact hc i hi j hj
theorem LS.at_ (h : LS w W H M k A c B1 gn f V) (a b : Nat) (ha : a < W) (hb : b < H) : V.cell? ⟨gn, b * W + a, none⟩ = some (.int .i64 ((f a b : Nat) : Int)) := by
  have hp := place_lt_ ha hb
  rw [row_at h.num (b * W + a) (by rw [numL_len]; exact hp), numL_get]
  have e1 : (b * W + a) % W = a := by rw [Nat.add_comm, Nat.add_mul_mod_self_right]; exact Nat.mod_eq_of_lt ha
  have e2 : (b * W + a) / W = b := by rw [Nat.add_comm, Nat.add_mul_div_right _ _ (by omega), Nat.div_eq_of_lt ha, Nat.zero_add]
  rw [e1, e2]
theorem LS.set (h : LS w W H M k A c B1 gn f V) (a b : Nat) (ha : a < W) (hb : b < H) : LS w W H M k A c B1 gn (fun u v => f u v + if u = a ∧ v = b then 1 else 0) (V.setCell ⟨gn, b * W + a, none⟩ (.int .i64 ((f a b + 1 : Nat) : Int))) := by
  have u := (Upd.refl (· = gn) V).setCell (p := ⟨gn, b * W + a, none⟩) (fun _ => rfl) (.int .i64 ((f a b + 1 : Nat) : Int))
  refine ⟨h.bel.trans (u.below h.bel.size (fun j hj e => by have := h.gw; omega)), own_upd h.row u (fun j hj e => by have := h.lt j hj; omega), ?_, h.lt, h.gw⟩
  have := row_set h.num (b * W + a) ((f a b + 1 : Nat) : Int)
  rw [numL_set f a b ha hb] at this
  exact this
theorem LS.ext {g : Nat → Nat → Nat} (h : LS w W H M k A c B1 gn f V) (e : ∀ a b, a < W → b < H → f a b = g a b) : LS w W H M k A c B1 gn g V := ⟨h.bel, h.row, by rw [← numL_ext e]; exact h.num, h.lt, h.gw⟩
end
theorem seen_le (k y x a b : Nat) : seen k y x a b ≤ 1 := by unfold seen; split <;> omega
namespace ChunkPasses

set_option maxHeartbeats 8000000 in
set_option maxRecDepth 100000 in
theorem walk (wd ht : Int) (s : ByteArray) (w : World) (h1 : -9223372036854775808 ≤ wd ∧ wd ≤ 9223372036854775807) (h2 : -9223372036854775808 ≤ ht ∧ ht ≤ 9223372036854775807) (hs : s.size ≤ 9223372036854775807) :
    Calls Try.prog 8 #[.int .i64 wd, .int .i64 ht, .string s] w fun e w' => e = .returned (.bool true) ∧ Below w.heap.size w w' := by
  go_enter Try.func8, Try.ntmps8
  go_upto_region 3 with (go_at_call 10; refine (wakes_any w).mono ?_; rintro e w1 ⟨rfl, hb1⟩)
  have hs1 := hb1.size
  have HB1 := Lib.hid hb1
  clear hb1
  have HP := Lib.hid (passes_any wd ht h1 h2 w1)
  have HR := Lib.hid (fun V => refPasses_any wd ht h1 h2 V)
  go_upto_region 4 with (first
    | (go_at_call 23; refine HP.out.mono ?_; rintro e w2 ⟨A2, n2, c2, rfl, o2, l2, hb2⟩; have HO2 := Lib.hid o2; have HB2 := Lib.hid hb2; have hs2 := hb2.size; clear o2 hb2 HP)
    | (go_at_call 24; refine (HR.out _).mono ?_; rintro e w3 ⟨A3, n3, c3, rfl, o3, l3, hb3⟩))
  obtain rfl : n3 = n2 := by omega
  have HO3 := Lib.hid o3
  have HO23 := Lib.hid (own_upd HO2.out (Upd.of_fresh hb3) (fun _ _ => id))
  have hs3 := hb3.size
  have HB3 := Lib.hid (HB1.out.trans ((HB2.out.trans (hb3.mono hs2)).mono hs1))
  have hn : n3 = (plL wd ht 7).length := by
    have := flat_len wd ht (plL wd ht 7)
    rw [← pasL_pl] at this
    omega
  have hn7 : n3 ≤ 7 := by
    rw [hn]
    unfold plL
    exact Nat.le_trans (List.length_filter_le _ _) (by simp)
  have HN := Lib.hid hn
  have HL6 : Hid (n3 = 0 → n3 = 0) := Lib.hid id
  clear o3 hb3 HO2 HB2 HR l2 l3 hn HL6
  have HC1 := Lib.hid (fun V => critical_any s V)
  have HC2 := Lib.hid (fun V => refCritical_any s s.size rfl hs V)
  generalize critS s = cs at *
  go_upto_region 6 with (first
    | (go_at_call 25; refine (HC1.out _).mono ?_; rintro e w4 ⟨rfl, rfl⟩)
    | (go_at_call 26; refine (HC2.out _).mono ?_; rintro e w5 ⟨rfl, rfl⟩))
  have HST : Hid (Below w.heap.size w w5 ∧ w5.ownsRow w2.heap.size 53 6 (.slice A3 n3 c3) n3 (intsV (pasL wd ht 7)) ∧ w5.ownsRow w1.heap.size 53 6 (.slice A2 n3 c2) n3 (intsV (pasL wd ht 7))) := Lib.hid ⟨HB3.out, HO3.out, HO23.out⟩
  have hs5 := HB3.out.size
  clear HB3 HO3 HO23 HC1 HC2
  generalize hB2 : w2.heap.size = B2 at *
  generalize hB1 : w1.heap.size = B1 at *
  clear hB2 hB1
  go_wp2_with fail
  go_loopw [37] (fun v wr => ∃ k : Nat, k ≤ n3 ∧ v = .int .i64 (k : Int) ∧ Hid (Below w.heap.size w wr ∧ wr.ownsRow B2 53 6 (.slice A3 n3 c3) n3 (intsV (pasL wd ht 7)) ∧ wr.ownsRow B1 53 6 (.slice A2 n3 c2) n3 (intsV (pasL wd ht 7)))) (fun v _ => n3 - (intOf v).toNat)
  case atStart => exact ⟨0, Nat.zero_le _, rfl, HST⟩
  case round =>
    obtain ⟨k, hk, rfl, HV⟩ := hrel
    clear HST
    by_cases hlt : k < n3
    · obtain ⟨g, rfl, hg1, hg2, hc⟩ := pass_cells HV.out.2.1 HN.out (by omega)
      obtain ⟨g', rfl, hg1', hg2', hc'⟩ := pass_cells HV.out.2.2 HN.out (by omega)
      have hkl : k < (plL wd ht 7).length := by have := HN.out; omega
      have x0 := hc k hkl 0 (by omega); have x1 := hc k hkl 1 (by omega); have x2 := hc k hkl 2 (by omega); have x3 := hc k hkl 3 (by omega); have x4 := hc k hkl 4 (by omega); have x5 := hc k hkl 5 (by omega)
      have y0 := hc' k hkl 0 (by omega); have y1 := hc' k hkl 1 (by omega); have y2 := hc' k hkl 2 (by omega); have y3 := hc' k hkl 3 (by omega); have y4 := hc' k hkl 4 (by omega); have y5 := hc' k hkl 5 (by omega)
      simp only [sixP, List.getElem_cons_zero, List.getElem_cons_succ, Nat.add_zero] at x0 x1 x2 x3 x4 x5 y0 y1 y2 y3 y4 y5
      generalize (plL wd ht 7)[k] = kk at *
      generalize stI (pX kk) (pDX kk) wd = SW at *
      generalize stI (pY kk) (pDY kk) ht = SH at *
      generalize (pX kk : Int) = X at *
      generalize (pY kk : Int) = Y at *
      generalize (pDX kk : Int) = DX at *
      generalize (pDY kk : Int) = DY at *
      clear hc hc'
      go_wp2_with fail
      go_quiet (fail)
      rename_i nq
      have HV2 : Hid (Below w.heap.size w (wr.drewN nq) ∧ (wr.drewN nq).ownsRow B2 53 6 (.slice (some ⟨g, 0, none⟩) n3 c3) n3 (intsV (pasL wd ht 7)) ∧ (wr.drewN nq).ownsRow B1 53 6 (.slice (some ⟨g', 0, none⟩) n3 c2) n3 (intsV (pasL wd ht 7))) := Lib.hid ⟨HV.out.1.trans ((Upd.drewN (Upd.refl (fun _ => False) wr) nq).below HV.out.1.size (fun _ _ h => h)), HV.out.2.1, HV.out.2.2⟩
      go_wp2_with fail
      go_roundw
      case rel => exact ⟨k + 1, by omega, by go_num, HV2⟩
      case measure => simp [intOf]; omega
    · obtain rfl : k = n3 := by omega
      clear hlt
      by_cases hsm : 1 ≤ wd ∧ 1 ≤ ht ∧ wd ≤ 40 ∧ ht ≤ 40
      case neg =>
        by_cases c1 : wd < 1
        · clear hsm
          go_wp2_with fail
          go_ret
          exact ⟨rfl, HV.out.1⟩
        · by_cases c2 : ht < 1
          · clear hsm
            go_wp2_with fail
            go_ret
            exact ⟨rfl, HV.out.1⟩
          · by_cases c3 : 40 < wd
            · clear hsm
              go_wp2_with fail
              go_ret
              exact ⟨rfl, HV.out.1⟩
            · have c4 : 40 < ht := by omega
              clear hsm
              go_wp2_with fail
              go_ret
              exact ⟨rfl, HV.out.1⟩
      case pos =>
        obtain ⟨q1, q2, q3, q4⟩ := hsm
        obtain ⟨W, rfl⟩ : ∃ W : Nat, wd = (W : Int) := ⟨wd.toNat, by omega⟩
        obtain ⟨H, rfl⟩ : ∃ H : Nat, ht = (H : Int) := ⟨ht.toNat, by omega⟩
        have hW1 : 1 ≤ W := by omega
        have hW : W ≤ 40 := by omega
        have hH1 : 1 ≤ H := by omega
        have hH : H ≤ 40 := by omega
        have hM : W * H ≤ 1600 := Nat.le_trans (Nat.mul_le_mul hW hH) (by omega)
        obtain ⟨M, hMe⟩ : ∃ M, W * H = M := ⟨_, rfl⟩
        rw [hMe] at hM
        have hWH : (W : Int) * (H : Int) = (M : Int) := by rw [← hMe]; exact (Int.natCast_mul _ _).symm
        have HME := Lib.hid hMe
        obtain ⟨i0, hi, hz0, hz1, hz2⟩ := info_parts info_i64
        clear q1 q2 q3 q4 hMe
        go_wp2_with (at_make; refine wpList_make_full _ rfl (.tmp 66) (.tmp 66) 54 rfl wr.heap.size 3 i0 (.int .i64 0) 1 Try.underlying54 hi hz0 hz1 .i64 .i64 M M M rfl rfl rfl rfl (by rw [hz2]; omega) (by unfold maxLen; omega) (Nat.le_refl _) ?_; intro w6 hown6 hg6)
        rw [make_int] at hown6
        have hb6 : Below w.heap.size w w6 := HV.out.1.grown hg6 HV.out.1.size (by simp)
        have HL0 : Hid (LS w W H M k A2 c2 B1 wr.heap.size (cnt ((plL (W : Int) (H : Int) 7).take 0)) w6) := Lib.hid ⟨hb6, own_upd HV.out.2.2 (Upd.of_grown hg6) (fun j hj e => by cases e), by
          have e : cnt ((plL (W : Int) (H : Int) 7).take 0) = fun _ _ => 0 := rfl
          rw [e, numL_zero, HME.out]
          exact own_low hown6 HV.out.1.size, fun j hj => (HV.out.2.2.lt j hj).2, HV.out.1.size⟩
        clear HV hown6 hg6 hb6 hi hz0 hz1 hz2 hs5 hs3 hs1 hs2 h1 h2 hWH hk
        generalize wr.heap.size = gn at *
        have hmix : Try.prog.follows .mixedOrders = true := by kernel_rfl
        go_wp2_with fail
        go_loopw [70] (fun v wr => ∃ i : Nat, i ≤ k ∧ v = .int .i64 (i : Int) ∧ Hid (LS w W H M k A2 c2 B1 gn (cnt ((plL (W : Int) (H : Int) 7).take i)) wr)) (fun v _ => k - (intOf v).toNat)
        case atStart => exact ⟨0, Nat.zero_le _, rfl, HL0⟩
        case round =>
          obtain ⟨i, hi, rfl, HL⟩ := hrel
          clear HL0
          by_cases hik : i < k
          · have hil : i < (plL (W : Int) (H : Int) 7).length := by have := HN.out; omega
            obtain ⟨g', rfl, _, _, _⟩ := pass_cells HL.out.row HN.out (by omega)
            obtain ⟨hk7, hkX, hkY⟩ := plL_lt (List.getElem_mem hil)
            have HCEL := Lib.hid (fun f V (h : LS w W H M k (some ⟨g', 0, none⟩) c2 B1 gn f V) => And.intro (h.cells HN.out i hil 0 (by omega)) (And.intro (h.cells HN.out i hil 1 (by omega)) (And.intro (h.cells HN.out i hil 2 (by omega)) (And.intro (h.cells HN.out i hil 3 (by omega)) (And.intro (h.cells HN.out i hil 4 (by omega)) (h.cells HN.out i hil 5 (by omega)))))))
            simp only [sixP, List.getElem_cons_zero, List.getElem_cons_succ, Nat.add_zero] at HCEL
            have HNX := Lib.hid (fun a b => cnt_next (plL (W : Int) (H : Int) 7) i a b hil)
            generalize (plL (W : Int) (H : Int) 7)[i] = kk at *
            have hXW : pX kk < W := by omega
            have hYH : pY kk < H := by omega
            rw [stI_nat _ _ _ hXW, stI_nat _ _ _ hYH] at HCEL
            have HXI := Lib.hid (fun x => x_in (x := x) hk7 hXW)
            have HYI := Lib.hid (fun y => y_in (y := y) hk7 hYH)
            have HK7 := Lib.hid (And.intro hk7 (And.intro hXW hYH))
            have hbd := p_bd kk
            have hSW : stN (pX kk) (pDX kk) W ≤ 40 := by
              refine Nat.le_of_not_lt (fun h => ?_)
              have := (HXI.out 40).1 h
              omega
            have hSH : stN (pY kk) (pDY kk) H ≤ 40 := by
              refine Nat.le_of_not_lt (fun h => ?_)
              have := (HYI.out 40).1 h
              omega
            have HROW := Lib.hid (fun y a b (ha : a < W) => seen_row (y := y) (b := b) hk7 hXW ha)
            have HALL := Lib.hid (fun a b (hb : b < H) => seen_all (a := a) hk7 hYH hb)
            generalize stN (pX kk) (pDX kk) W = SW at *
            generalize stN (pY kk) (pDY kk) H = SH at *
            have HCN : Hid (∀ a b, cnt ((plL (W : Int) (H : Int) 7).take i) a b ≤ 7) := Lib.hid (fun a b => Nat.le_trans (Nat.le_trans (List.length_filter_le _ _) (List.length_take_le _ _)) (by omega))
            generalize cnt ((plL (W : Int) (H : Int) 7).take i) = f0 at *
            generalize hf1 : cnt ((plL (W : Int) (H : Int) 7).take (i + 1)) = f1 at *
            have HF1 := Lib.hid hf1
            clear hf1
            obtain ⟨p1, p2, p3, p4, p5, p6⟩ := hbd
            clear hil hkX hkY hk7 hXW hYH
            go_wp2_with fail
            go_loopw [12] (fun v wr => ∃ y : Nat, y ≤ SH ∧ v = .int .i64 (y : Int) ∧ Hid (LS w W H M k (some ⟨g', 0, none⟩) c2 B1 gn (fun a b => f0 a b + seen kk y 0 a b) wr)) (fun v _ => SH - (intOf v).toNat)
            case atStart => exact ⟨0, Nat.zero_le _, rfl, Lib.hid (HL.out.ext (fun a b _ _ => by rw [seen_zero]; rfl))⟩
            case round =>
              obtain ⟨y, hy, rfl, HLy⟩ := hrel
              clear HL
              obtain ⟨x0, x1, x2, x3, x4, x5⟩ := HCEL.out _ _ HLy.out
              by_cases hyS : y < SH
              · have hb : pY kk + y * pDY kk < H := (HYI.out y).1 hyS
                go_wp2_with fail
                go_loopw [13] (fun v wr => ∃ x : Nat, x ≤ SW ∧ v = .int .i64 (x : Int) ∧ Hid (LS w W H M k (some ⟨g', 0, none⟩) c2 B1 gn (fun a b => f0 a b + seen kk y x a b) wr)) (fun v _ => SW - (intOf v).toNat)
                case atStart => exact ⟨0, Nat.zero_le _, rfl, HLy⟩
                case round =>
                  obtain ⟨x, hx, rfl, HLx⟩ := hrel
                  clear HLy x0 x1 x2 x3 x4 x5
                  obtain ⟨x0, x1, x2, x3, x4, x5⟩ := HCEL.out _ _ HLx.out
                  by_cases hxS : x < SW
                  · have ha : pX kk + x * pDX kk < W := (HXI.out x).1 hxS
                    have HL2 : Hid (LS w W H M k (some ⟨g', 0, none⟩) c2 B1 gn (fun a b => f0 a b + seen kk y (x + 1) a b) (wr.setCell ⟨gn, (pY kk + y * pDY kk) * W + (pX kk + x * pDX kk), none⟩ (.int .i64 ((f0 (pX kk + x * pDX kk) (pY kk + y * pDY kk) + seen kk y x (pX kk + x * pDX kk) (pY kk + y * pDY kk) + 1 : Nat) : Int))).drew) := Lib.hid ((HLx.out.set _ _ ha hb).ext (fun a b _ _ => by rw [seen_step HK7.out.1]; omega)).drew
                    have hat := HLx.out.at_ _ _ ha hb
                    have hlt := place_lt_ ha hb
                    have hfr := HLx.out.num
                    rw [HME.out] at hlt
                    have hcnt : f0 (pX kk + x * pDX kk) (pY kk + y * pDY kk) + seen kk y x (pX kk + x * pDX kk) (pY kk + y * pDY kk) ≤ 100 := by have h1 := HCN.out (pX kk + x * pDX kk) (pY kk + y * pDY kk); have h2 := seen_le kk y x (pX kk + x * pDX kk) (pY kk + y * pDY kk); omega
                    have hfz : wr.frozen? ⟨gn, (pY kk + y * pDY kk) * W + (pX kk + x * pDX kk), none⟩ = false := HLx.out.num.frozenAt _
                    generalize f0 (pX kk + x * pDX kk) (pY kk + y * pDY kk) + seen kk y x (pX kk + x * pDX kk) (pY kk + y * pDY kk) = old at *
                    obtain ⟨q, hq⟩ : ∃ q, y * pDY kk = q := ⟨_, rfl⟩
                    obtain ⟨r, hr⟩ : ∃ r, x * pDX kk = r := ⟨_, rfl⟩
                    rw [hq] at hat hlt hfz HL2 hb
                    rw [hr] at hat hlt hfz HL2 ha
                    obtain ⟨z, hz⟩ : ∃ z, (pY kk + q) * W = z := ⟨_, rfl⟩
                    rw [hz] at hat hlt hfz HL2
                    have hqI : (y : Int) * (pDY kk : Int) = (q : Int) := by rw [← hq]; exact (Int.natCast_mul _ _).symm
                    have hrI : (x : Int) * (pDX kk : Int) = (r : Int) := by rw [← hr]; exact (Int.natCast_mul _ _).symm
                    have hzI : ((pY kk : Int) + (q : Int)) * (W : Int) = (z : Int) := by rw [← hz, Int.natCast_mul, Int.natCast_add]
                    clear hq hr hz hfr
                    generalize pX kk = X at *
                    generalize pY kk = Y at *
                    rw [← Nat.add_assoc] at hat hlt hfz HL2
                    rw [show ((old + 1 : Nat) : Int) = (old : Int) + 1 by omega] at HL2
                    go_upto_region 24 with (fail)
                    refine wp_region_tail 34 hmix (by kernel_rfl) ?_
                    simp only [List.take_succ_cons, List.take_zero, List.drop_succ_cons, List.drop_zero]
                    repeat (go_big_quiet_step (fail))
                    refine wpQuiet_nil ?_
                    go_wp2_with fail
                    exact ⟨⟨x + 1, by omega, by go_num, HL2⟩, by simp [intOf]; omega⟩
                  · obtain rfl : x = SW := by omega
                    have HN1 : Hid (LS w W H M k (some ⟨g', 0, none⟩) c2 B1 gn (fun a b => f0 a b + seen kk (y + 1) 0 a b) wr) := Lib.hid (HLx.out.ext (fun a b ha _ => by rw [HROW.out y a b ha]))
                    go_wp2_with fail
                    go_roundw
                    case rel => exact ⟨y + 1, by omega, by go_num, HN1⟩
                    case measure => simp [intOf]; omega
              · obtain rfl : y = SH := by omega
                have HN1 : Hid (LS w W H M k (some ⟨g', 0, none⟩) c2 B1 gn f1 wr) := Lib.hid (HLy.out.ext (fun a b _ hb => by rw [HALL.out a b hb, HNX.out]))
                go_wp2_with fail
                go_roundw
                case rel => exact ⟨i + 1, by omega, by go_num, by rw [HF1.out]; exact HN1⟩
                case measure => simp [intOf]; omega
          · obtain rfl : i = k := by omega
            have HL1 : Hid (LS w W H M i A2 c2 B1 gn (fun _ _ => 1) wr) := Lib.hid (HL.out.ext (fun a b ha hb => by rw [HN.out, List.take_length]; exact cnt_one ha hb))
            clear HL
            go_wp2_with fail
            go_loopw [128] (fun v wr => ∃ j : Nat, j ≤ M ∧ v = .int .i64 (j : Int) ∧ Hid (LS w W H M i A2 c2 B1 gn (fun _ _ => 1) wr)) (fun v _ => M - (intOf v).toNat)
            case atStart => exact ⟨0, Nat.zero_le _, rfl, HL1⟩
            case round =>
              obtain ⟨j, hj, rfl, HLj⟩ := hrel
              clear HL1
              by_cases hjM : j < M
              · have hat : wr.cell? ⟨gn, j, none⟩ = some (.int .i64 1) := by
                  rw [row_at HLj.out.num j (by rw [numL_len, HME.out]; exact hjM), numL_get]
                  rfl
                go_wp2_with fail
                go_roundw
                case rel => exact ⟨j + 1, by omega, by go_num, HLj⟩
                case measure => simp [intOf]; omega
              · obtain rfl : j = M := by omega
                go_wp2_with fail
                go_ret
                exact ⟨rfl, HLj.out.bel⟩
set_option maxRecDepth 100000 in
theorem lifted (os : Os) (started : os.Started) (H : Type) (enc : TypeId × Value → H) :
    ReturnsInHanded {} Try.checked os 8 .any (Rows.chunkPassesSpec.pre6 enc Try.prog Try.f8 Rows.chunkPassesRow.domain false) (Rows.chunkPassesSpec.post enc Try.prog Try.f8 false true false false) := by
  refine returnsInHanded_of_change (C := Try.checked) prog_own started (by kernel_rfl) Try.func8
    (ChangeSpec.witness6 (enc := enc) (C := Try.checked) false ⟨#[], #[.int .i64 0, .int .i64 0, .string ⟨#[]⟩], []⟩ 8 (by kernel_rfl) (by kernel_rfl) (by kernel_rfl) (by kernel_rfl)) ?_
  intro W base args ds gs before hval0 hW hcnd _
  have hval : ∀ (j : Nat) t v, Try.f8.params[j]? = some t → args[j]? = some v → Value.okWide Try.prog W .any base t v := hval0
  have hW' := hW
  obtain ⟨p, q, hA0, hV, rfl, hfz, hnd⟩ := hW
  have hA : DataW.TrodAll enc Try.prog W 0 (fun _ => true) true Try.f8.params.toList args.toList ds p := hA0
  rw [Try.params8] at hA hval
  obtain ⟨v0, vs0, d0, ds0, p0, q0, hargs, rfl, rfl, h0, r0⟩ := trodAll_cons hA
  obtain ⟨v1, vs1, d1, ds1, p1, q1, rfl, rfl, rfl, h1, r1⟩ := trodAll_cons r0
  obtain ⟨v2, vs2, d2, ds2, p2, q2, rfl, rfl, rfl, h2, r2⟩ := trodAll_cons r1
  obtain ⟨rfl, rfl, rfl⟩ := trodAll_nil r2
  obtain rfl : args = #[v0, v1, v2] := by cases args; simp_all
  obtain ⟨rfl, rfl⟩ := trodVars_none hV
  obtain ⟨a0, rfl, rfl, rfl, w0⟩ := open_int Try.underlying3 (hval 0 3 v0 rfl rfl) h0
  obtain ⟨a1, rfl, rfl, rfl, w1⟩ := open_int Try.underlying3 (hval 1 3 v1 rfl rfl) h1
  obtain ⟨a2, rfl, rfl, rfl, w2⟩ := ChangeMaps.open_string Try.underlying9 (hval 2 9 v2 rfl rfl) h2
  clear hA0 hval0
  refine (walk a0 a1 a2 W (bounds_i64 w0) (bounds_i64 w1) (by have := w2; unfold maxLen at this; omega)).mono fun e W' ⟨he, bel⟩ => ?_
  subst he
  exact ⟨_, rfl, _, _, _, [], _, [], hW', trodAll_mk1 (shut_bool Try.underlying4 _), (trodAll_cons_mk (shut_int Try.underlying3 w0) (trodAll_cons_mk (shut_int Try.underlying3 w1) (trodAll_cons_mk (ChangeMaps.shut_string Try.underlying9 w2) trodAll_mk0))), rfl, bel.frame _, fun h => by cases h⟩

theorem over : Rows.chunkPassesRow.holds Try.pinned (OpenSpec.ofChange Rows.chunkPassesSpec) :=
  OpenClaim.holds_of_wide 8 Try.f8 rfl rfl rfl rfl rfl rfl rfl ⟨rfl, rfl, rfl, rfl, rfl⟩ rfl rfl rfl rfl rfl (by kernel_rfl) Try.func8 (by kernel_rfl)
    (of_decide_eq_true (by kernel_rfl)) (by unfold Func.isWrapper; first | (rw [if_pos (by decide +kernel)]; kernel_rfl) | (rw [if_neg (by decide +kernel)]; exact ⟨rfl, rfl⟩))
    (fun os started H enc _ => lifted os started H enc)
end ChunkPasses

theorem chunkPasses_holds : Rows.ChunkPassesSaid := ChunkPasses.over
#print axioms chunkPasses_holds
end Go.Proofs.Ytaloieeemibblaa
