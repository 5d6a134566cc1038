/- Contract of the program's layoutOf: how many codes each length has, the number of the first, how many are shorter. -/
import Derived.Test.YthbdhpciibjnmaaPa
import Derived.Test.YthbdhpciibjnmaaTb
import Derived.BigRegion
import Derived.Handy
namespace Go.Proofs.Ythbdhpciibjnmaa
open Go.ChangeShapes Go.WideShapes Go.ChangeAt Go.RowKit

def cntZ (l : List Int) (n : Nat) : Nat := if n = 0 then 0 else cntN l n
def fstN (l : List Int) (n : Nat) : Nat := 2 * endN l (n - 1)
def ahdN (l : List Int) : Nat → Nat
  | 0 => 0
  | n + 1 => ahdN l n + cntZ l n
/-- The 51 numbers of a layout: the counts over the first k lengths, the first numbers up to mf, how many are shorter up to ma. -/
def layF (l : List Int) (k mf ma i : Nat) : Int := if i < 17 then ((cntZ (l.take k) i : Nat) : Int) else if i < 34 then (if i - 17 ≤ mf then ((fstN l (i - 17) : Nat) : Int) else 0) else (if i - 34 ≤ ma then ((ahdN l (i - 34) : Nat) : Int) else 0)
def layN (l : List Int) (k mf ma : Nat) : List Int := (List.range 51).map (layF l k mf ma)
def layL (l : List Int) : List Int := layN l l.length 16 16
theorem rangeMap_set {α : Type} (n i : Nat) (F G : Nat → α) (v : α) (hi : i < n) (hv : G i = v) (h : ∀ j, j < n → j ≠ i → G j = F j) : ((List.range n).map F).set i v = (List.range n).map G := by
  apply List.ext_getElem?
  intro j
  rw [List.getElem?_set]
  by_cases hj : j < n
  · by_cases e : i = j
    · subst e; simp [hj, hv]
    · rw [if_neg e]; simp [hj, h j hj (fun k => e k.symm)]
  · rw [if_neg (by omega)]
    simp [hj]
theorem layN_length (l : List Int) (k mf ma : Nat) : (layN l k mf ma).length = 51 := by simp [layN]
theorem layN_get (l : List Int) (k mf ma i : Nat) (h : i < 51) : (layN l k mf ma)[i]? = some (layF l k mf ma i) := by simp [layN, h]
theorem cntZ_step (l : List Int) (k n i : Nat) (hk : k < l.length) (hn : 0 < n) (hx : l[k] = (n : Int)) : cntZ (l.take (k + 1)) i = cntZ (l.take k) i + if i = n then 1 else 0 := by
  have h := rank_succ l i k hk
  unfold rank at h
  unfold cntZ
  by_cases h0 : i = 0
  · rw [if_pos h0, if_pos h0, if_neg (by omega)]
  · rw [if_neg h0, if_neg h0, h, hx]
    congr 1
    by_cases e : i = n
    · subst e; simp
    · rw [if_neg (by omega), if_neg e]
theorem cntZ_skip (l : List Int) (k i : Nat) (hk : k < l.length) (hx : ¬ 0 < l[k]) : cntZ (l.take (k + 1)) i = cntZ (l.take k) i := by
  have h := rank_succ l i k hk
  unfold rank at h
  unfold cntZ
  by_cases h0 : i = 0
  · rw [if_pos h0, if_pos h0]
  · rw [if_neg h0, if_neg h0, h, if_neg (by omega), Nat.add_zero]
theorem layN_count (l : List Int) (k n : Nat) (hk : k < l.length) (hn : 0 < n) (hn16 : n ≤ 16) (hx : l[k] = (n : Int)) : (layN l k 0 0).set n (((cntZ (l.take k) n : Nat) : Int) + 1) = layN l (k + 1) 0 0 := by
  unfold layN
  refine rangeMap_set 51 n _ _ _ (by omega) ?_ fun j _ hj => ?_
  · unfold layF
    rw [if_pos (by omega), cntZ_step l k n n hk hn hx, if_pos rfl]
    omega
  · unfold layF
    by_cases c : j < 17
    · rw [if_pos c, if_pos c, cntZ_step l k n j hk hn hx, if_neg hj, Nat.add_zero]
    · rw [if_neg c, if_neg c]
theorem layN_skip (l : List Int) (k : Nat) (hk : k < l.length) (hx : ¬ 0 < l[k]) : layN l (k + 1) 0 0 = layN l k 0 0 := by
  unfold layN
  apply List.map_congr_left
  intro j _
  unfold layF
  rw [cntZ_skip l k j hk hx]
theorem layN_first (l : List Int) (k mf ma : Nat) (hm : mf < 16) : (layN l k mf ma).set (17 + (mf + 1)) ((fstN l (mf + 1) : Nat) : Int) = layN l k (mf + 1) ma := by
  unfold layN
  refine rangeMap_set 51 _ _ _ _ (by omega) ?_ fun j _ hj => ?_
  · unfold layF
    rw [if_neg (by omega), if_pos (by omega), if_pos (by omega), Nat.add_sub_cancel_left]
  · unfold layF
    by_cases c : j < 17
    · rw [if_pos c, if_pos c]
    · rw [if_neg c, if_neg c]
      by_cases c2 : j < 34
      · rw [if_pos c2, if_pos c2]
        by_cases c3 : j - 17 ≤ mf
        · rw [if_pos c3, if_pos (by omega)]
        · rw [if_neg c3, if_neg (by omega)]
      · rw [if_neg c2, if_neg c2]
theorem layN_ahead (l : List Int) (k mf ma : Nat) (hm : ma < 16) : (layN l k mf ma).set (34 + (ma + 1)) ((ahdN l (ma + 1) : Nat) : Int) = layN l k mf (ma + 1) := by
  unfold layN
  refine rangeMap_set 51 _ _ _ _ (by omega) ?_ fun j _ hj => ?_
  · unfold layF
    rw [if_neg (by omega), if_neg (by omega), if_pos (by omega), Nat.add_sub_cancel_left]
  · unfold layF
    by_cases c : j < 17
    · rw [if_pos c, if_pos c]
    · rw [if_neg c, if_neg c]
      by_cases c2 : j < 34
      · rw [if_pos c2, if_pos c2]
      · rw [if_neg c2, if_neg c2]
        by_cases c3 : j - 34 ≤ ma
        · rw [if_pos c3, if_pos (by omega)]
        · rw [if_neg c3, if_neg (by omega)]
theorem layN_zero (l : List Int) : layN l 0 0 0 = List.replicate 51 0 := by
  apply List.ext_getElem?
  intro j
  by_cases h : j < 51
  · rw [layN_get l 0 0 0 j h, List.getElem?_replicate, if_pos h]
    unfold layF
    by_cases c : j < 17
    · rw [if_pos c]; simp [cntZ, cntN]
    · rw [if_neg c]
      by_cases c2 : j < 34
      · rw [if_pos c2]
        split
        · obtain rfl : j = 17 := by omega
          rfl
        · rfl
      · rw [if_neg c2]
        split
        · obtain rfl : j = 34 := by omega
          rfl
        · rfl
  · rw [List.getElem?_eq_none (by rw [layN_length]; omega), List.getElem?_eq_none (by simp; omega)]
theorem endN_pred1 (l : List Int) (m : Nat) : fstN l (m + 1) = 2 * (fstN l m + cntZ l m) := by
  unfold fstN cntZ
  rw [Nat.add_sub_cancel]
  cases m with
  | zero => simp [endN]
  | succ m => rw [if_neg (by omega), Nat.add_sub_cancel]; rfl
theorem cntN_len (l : List Int) (n : Nat) : cntN l n ≤ l.length := List.countP_le_length
theorem cntZ_le (l : List Int) (n : Nat) : cntZ l n ≤ l.length := by
  unfold cntZ
  split
  · omega
  · exact cntN_len l n
theorem fstN_le (l : List Int) (hr : 0 ≤ roomOf l) (n : Nat) (hn : n ≤ 17) : fstN l n ≤ 131072 := by
  have := endN_bd l hr (n - 1) (by omega)
  unfold fstN
  omega
theorem ahdN_le (l : List Int) : ∀ n, ahdN l n ≤ n * l.length
  | 0 => by simp [ahdN]
  | n + 1 => by
    have h1 := ahdN_le l n
    have h2 := cntZ_le l n
    rw [ahdN, Nat.add_mul]
    omega

theorem lay_info : (Try.prog.info? 127).map (·.size) = some 51 := by kernel_rfl
def lay0 : List Value := List.replicate 51 (.int .i64 0)
theorem lay0_eq (l : List Int) : lay0 = intsV (layN l 0 0 0) := by rw [layN_zero]; simp [lay0, intsV]
/-- The layout in block g. -/
def LayAt (l : List Int) (k mf ma : Nat) (wr : World) (g : Nat) : Prop := Blk wr g 127 (intsV (layN l k mf ma)).toArray
section
variable {l : List Int} {k mf ma : Nat} {wr : World} {g : Nat}
theorem LayAt.cell (h : LayAt l k mf ma wr g) (i : Nat) (hi : i < 51) : wr.cell? ⟨g, i, none⟩ = some (.int .i64 (layF l k mf ma i)) := by
  unfold LayAt at h
  rw [h.cell]
  simp [intsV, layN, hi]
theorem LayAt.count (h : LayAt l k mf ma wr g) (i : Nat) (hi : i < 17) : wr.cell? ⟨g, i, none⟩ = some (.int .i64 ((cntZ (l.take k) i : Nat) : Int)) := by
  rw [h.cell i (by omega)]; unfold layF; rw [if_pos hi]
theorem LayAt.first (h : LayAt l k mf ma wr g) (i : Nat) (hi : i < 17) (hm : i ≤ mf) : wr.cell? ⟨g, 17 + i, none⟩ = some (.int .i64 ((fstN l i : Nat) : Int)) := by
  rw [h.cell (17 + i) (by omega)]; unfold layF; rw [if_neg (by omega), if_pos (by omega), if_pos (by omega), Nat.add_sub_cancel_left]
theorem LayAt.ahead (h : LayAt l k mf ma wr g) (i : Nat) (hi : i < 17) (hm : i ≤ ma) : wr.cell? ⟨g, 34 + i, none⟩ = some (.int .i64 ((ahdN l i : Nat) : Int)) := by
  rw [h.cell (34 + i) (by omega)]; unfold layF; rw [if_neg (by omega), if_neg (by omega), if_pos (by omega), Nat.add_sub_cancel_left]
theorem LayAt.free (h : LayAt l k mf ma wr g) (i : Nat) : wr.frozen? ⟨g, i, none⟩ = false := Blk.frozen h i
theorem LayAt.set_ {k' mf' ma' : Nat} (h : LayAt l k mf ma wr g) (i : Nat) (x : Int) (he : (layN l k mf ma).set i x = layN l k' mf' ma') : LayAt l k' mf' ma' (wr.setCell ⟨g, i, none⟩ (.int .i64 x)) g := by
  have h1 := Blk.set_ h i (.int .i64 x)
  unfold LayAt
  rw [← he, ← intsV_set]
  simpa using h1
end
/-- What the call began with, the block of what it answers, the layout's block behind it. -/
def LayK (w wr : World) : Prop := Upd (fun k => w.heap.size + 1 ≤ k) (w.alloc (.cells lay0.toArray 127)) wr
theorem LayK.set {w wr : World} (h : LayK w wr) (k : Nat) (v : Value) : LayK w (wr.setCell ⟨w.heap.size + 1, k, none⟩ v) := Upd.setCell h (p := ⟨w.heap.size + 1, k, none⟩) (fun _ => Nat.le_refl _) v
theorem LayK.drew {w wr : World} (h : LayK w wr) : LayK w wr.drew := Upd.drew h
theorem LayK.drewN {w wr : World} (h : LayK w wr) (n : Nat) : LayK w (wr.drewN n) := Upd.drewN h n
theorem LayK.below {w wr : World} (h : LayK w wr) : Below w.heap.size w wr := by
  have h1 : Upd (fun k => w.heap.size + 1 ≤ k) w wr := Upd.then ((Upd.refl _ w).alloc _) h (fun _ _ e => e)
  exact h1.below (Nat.le_refl _) (fun k hk e => by omega)
theorem LayK.res {w wr : World} (h : LayK w wr) : Blk wr w.heap.size 127 lay0.toArray := (Blk.new w 127 lay0.toArray).upd h (by omega)
def LayV (l : List Int) : Value := .agg (intsV (layL l)).toArray

set_option maxHeartbeats 4000000 in
set_option maxRecDepth 100000 in
theorem layoutOf_any (A : Option Addr) (c : Nat) (l : List Int) (w : World) (hbs : Is w w.heap.size A l) (hl : l.length ≤ 4096) (hg : l.any badLen = false) (hro : 0 ≤ roomOf l) :
    Calls Try.prog 83 #[.slice A l.length c] w fun e w' => e = .returned (LayV l) ∧ Below w.heap.size w w' := by
  have HG := Lib.hid hg; clear hg
  have HRO := Lib.hid hro; clear hro
  have HST : Hid (LayAt l 0 0 0 ((w.alloc (.cells lay0.toArray 127)).alloc (.cells lay0.toArray 127)) (w.heap.size + 1)) := Lib.hid (by
    unfold LayAt
    rw [← lay0_eq]
    exact blk_second w _ _ _)
  have HSK : Hid (LayK w ((w.alloc (.cells lay0.toArray 127)).alloc (.cells lay0.toArray 127))) := Lib.hid ((Upd.refl _ _).alloc _)
  go_enter Try.func83, Try.ntmps83
  go_wp2_with fail
  go_loopw [9] (fun i wr => ∃ k : Nat, k ≤ l.length ∧ i = .int .i64 k ∧ LayAt l k 0 0 wr (w.heap.size + 1) ∧ LayK w wr) (fun i _ => l.length - (intOf i).toNat)
  case atStart => exact ⟨0, by omega, rfl, HST.out, HSK.out⟩
  case round =>
    obtain ⟨k, hk, rfl, hT, hK⟩ := hrel
    have HT := Lib.hid hT; clear hT
    have HK := Lib.hid hK; clear hK
    by_cases hlt : k < l.length
    · obtain ⟨ad, rfl, _, hcb⟩ := Is.at_ (Vs.below hbs HK.out.below) hlt
      obtain ⟨b0, b1⟩ := good_len l HG.out k hlt
      have HC := Lib.hid (fun n => layN_count l k n hlt)
      have HSKP := Lib.hid (layN_skip l k hlt)
      generalize l[k] = x at *
      by_cases hx : 0 < x
      · obtain ⟨n, rfl⟩ : ∃ n : Nat, x = n := ⟨x.toNat, by omega⟩
        have d3 : decide (0 < (n : Int)) = true := by simp; omega
        have hcn := HT.out.count n (by omega)
        have hfn := HT.out.free n
        have hle : cntZ (l.take k) n ≤ 4096 := by
          have h1 := cntZ_le (l.take k) n
          rw [List.length_take] at h1
          omega
        have HN := Lib.hid (HC.out n (by omega) (by omega) rfl)
        generalize cntZ (l.take k) n = q at *
        go_wp2_with fail
        go_roundw
        case rel => exact ⟨k + 1, by omega, by go_num, HT.out.set_ n _ HN.out, HK.out.set _ _⟩
        case measure => simp [intOf]; omega
      · have d3 : decide (0 < x) = false := by simp; omega
        go_wp2_with fail
        go_roundw
        case rel => exact ⟨k + 1, by omega, by go_num, by unfold LayAt; rw [HSKP.out hx]; exact HT.out, HK.out⟩
        case measure => simp [intOf]; omega
    · obtain rfl : k = l.length := by omega
      go_wp2_with fail
      obtain ⟨wo, hwo⟩ : ∃ wo : World, wo = wr := ⟨_, rfl⟩
      subst hwo
      go_loopw [23] (fun i wr => ∃ m : Nat, m ≤ 16 ∧ i = .int .i64 m ∧ LayAt l l.length m m wr (w.heap.size + 1) ∧ LayK w wr) (fun i _ => 16 - (intOf i).toNat)
      case atStart => exact ⟨0, by omega, rfl, HT.out, HK.out⟩
      case round =>
        clear HT HK
        obtain ⟨m, hm, rfl, hT, hK⟩ := hrel
        have HT := Lib.hid hT; clear hT
        have HK := Lib.hid hK; clear hK
        by_cases hlt2 : m < 16
        · have d4 : decide ((m : Int) < 16) = true := by simp; omega
          have c1 := HT.out.count m (by omega)
          have c2 := HT.out.first m (by omega) (Nat.le_refl _)
          have c3 := HT.out.ahead m (by omega) (Nat.le_refl _)
          have f1 := HT.out.free (17 + (m + 1))
          have f2 := HT.out.free (34 + (m + 1))
          have g1 := HT.out.cell (17 + (m + 1)) (by omega)
          have g2 := HT.out.cell (34 + (m + 1)) (by omega)
          rw [List.take_length] at c1
          have hb1 := cntZ_le l m
          have hb2 := fstN_le l HRO.out m (by omega)
          have hb3 : ahdN l m ≤ 16 * 4096 := Nat.le_trans (ahdN_le l m) (Nat.mul_le_mul (by omega) hl)
          have HE1 := Lib.hid (layN_first l l.length m m hlt2)
          have HE2 := Lib.hid (layN_ahead l l.length (m + 1) m hlt2)
          rw [endN_pred1] at HE1
          rw [ahdN] at HE2
          obtain ⟨C, hC⟩ : ∃ C, cntZ l m = C := ⟨_, rfl⟩
          obtain ⟨F, hF⟩ : ∃ F, fstN l m = F := ⟨_, rfl⟩
          obtain ⟨D, hD⟩ : ∃ D, ahdN l m = D := ⟨_, rfl⟩
          rw [hC] at c1 hb1 HE1 HE2
          rw [hF] at c2 hb2 HE1
          rw [hD] at c3 hb3 HE2
          have HQ1 := Lib.hid hC; clear hC
          have HQ2 := Lib.hid hF; clear hF
          have HQ3 := Lib.hid hD; clear hD
          have e1 : IntKind.i64.wrap ((m : Int) + 1) = (m : Int) + 1 := IntWalk.i64_in _ (by omega)
          have e2 : IntKind.i64.wrap ((F : Int) + C) = (F : Int) + C := IntWalk.i64_in _ (by omega)
          have e3 : IntKind.i64.wrap (2 * ((F : Int) + C)) = 2 * ((F : Int) + C) := IntWalk.i64_in _ (by omega)
          have e4 : IntKind.i64.wrap ((D : Int) + C) = (D : Int) + C := IntWalk.i64_in _ (by omega)
          have n1 : ((m : Int) + 1).toNat = m + 1 := by omega
          have i1 : (0 : Int) ≤ (m : Int) + 1 := by omega
          have i2 : (m : Int) + 1 < 17 := by omega
          have i3 : (m : Int) < 17 := by omega
          have HT1 : Hid (LayAt l l.length (m + 1) m (wr.setCell ⟨w.heap.size + 1, 17 + (m + 1), none⟩ (.int .i64 (2 * ((F : Int) + C)))).drew (w.heap.size + 1)) := Lib.hid (HT.out.set_ _ _ (by rw [← HE1.out]; congr 1))
          have HK1 : Hid (LayK w (wr.setCell ⟨w.heap.size + 1, 17 + (m + 1), none⟩ (.int .i64 (2 * ((F : Int) + C)))).drew) := Lib.hid (HK.out.set _ _).drew
          go_wp2_with fail
          go_region
          all_goals
            clear c1 c2 c3 f1 f2 g1 g2
            generalize (wr.setCell ⟨w.heap.size + 1, 17 + (m + 1), none⟩ (.int .i64 (2 * ((F : Int) + C)))).drew = wo at *
            have c1 := HT1.out.count m (by omega)
            have c3 := HT1.out.ahead m (by omega) (Nat.le_refl _)
            have f2 := HT1.out.free (34 + (m + 1))
            have g2 := HT1.out.cell (34 + (m + 1)) (by omega)
            rw [List.take_length] at c1
            rw [HQ1.out] at c1
            rw [HQ3.out] at c3
            go_wp2_with fail
            go_region
            all_goals
              go_wp2_with fail
              go_roundw
              case rel => exact ⟨m + 1, by omega, by go_num, HT1.out.set_ _ _ HE2.out, (HK1.out.set _ _).drew⟩
              case measure => simp [intOf]; omega
        · obtain rfl : m = 16 := by omega
          have hsz : (Try.prog.info? 127).map (·.size) = some (intsV (layL l)).toArray.size := by rw [List.size_toArray, intsV_length]; unfold layL; rw [layN_length]; exact lay_info
          have h1c : (intsV (layL l)).toArray.all (·.oneCell') = true := by
            rw [Array.all_eq_true_iff_forall_mem]
            intro v hv
            exact intsV_one _ v (List.mem_toArray.mp hv)
          have hRB := HK.out.res
          have hk0 : lay0.toArray.size = (intsV (layL l)).toArray.size := by rw [List.size_toArray, List.size_toArray, intsV_length]; unfold layL; rw [layN_length]; rfl
          have hB : Blk wr (w.heap.size + 1) 127 (intsV (layL l)).toArray := HT.out
          have HFIN : Hid (Below w.heap.size w (wr.setRow w.heap.size (intsV (layL l)).toArray)) := Lib.hid (below_setRow HK.out.below (Nat.le_refl _) _)
          go_wp2_with (first | (refine wpList_load_row rfl 127 (.tmp 3) rfl (w.heap.size + 1) rfl 127 (intsV (layL l)).toArray (0, 0) _ hB Try.underlying127 rfl hsz ?_) | (refine wpList_store_row rfl 127 (.tmp 2) (.tmp 54) rfl w.heap.size (intsV (layL l)).toArray rfl rfl 127 lay0.toArray hRB hsz hk0 h1c ?_))
          exact bodyPost_ret (v := .agg (intsV (layL l)).toArray) (results_cell_row rfl _ _ w.heap.size 127 (intsV (layL l)).toArray (0, 0) _ rfl (setRow_heap wr w.heap.size _ _ _ _ hRB) Try.underlying127 rfl hsz) rfl ⟨rfl, HFIN.out⟩
end Go.Proofs.Ythbdhpciibjnmaa
