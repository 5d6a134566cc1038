/- Contract of the program's Codes. -/
import Derived.Test.YtpolbnobnilfcaaPb
namespace Go.Proofs.Ytpolbnobnilfcaa
open Go.ChangeShapes Go.WideShapes Go.ChangeAt Go.RowKit

/-- The next place of each length, over the first k lengths. -/
def nxtN (f : Nat → Nat) (l : List Int) (k : Nat) : List Int := (List.range 17).map fun i => ((f i + cntZ (l.take k) i : Nat) : Int)
theorem nxtN_length (f : Nat → Nat) (l : List Int) (k : Nat) : (nxtN f l k).length = 17 := by simp [nxtN]
theorem nxtN_step (f : Nat → Nat) (l : List Int) (k n : Nat) (hk : k < l.length) (hn : 0 < n) (hn16 : n ≤ 16) (hx : l[k] = (n : Int)) : (nxtN f l k).set n (((f n + cntZ (l.take k) n : Nat) : Int) + 1) = nxtN f l (k + 1) := by
  unfold nxtN
  refine rangeMap_set 17 n _ _ _ (by omega) ?_ fun j _ hj => ?_
  · rw [cntZ_step l k n n hk hn hx, if_pos rfl]; omega
  · rw [cntZ_step l k n j hk hn hx, if_neg hj, Nat.add_zero]
theorem nxtN_skip (f : Nat → Nat) (l : List Int) (k : Nat) (hk : k < l.length) (hx : ¬ 0 < l[k]) : nxtN f l (k + 1) = nxtN f l k := by
  unfold nxtN
  apply List.map_congr_left
  intro j _
  rw [cntZ_skip l k j hk hx]
def NxtAt (f : Nat → Nat) (l : List Int) (k : Nat) (wr : World) (g : Nat) : Prop := Blk wr g 68 (intsV (nxtN f l k)).toArray
section
variable {f : Nat → Nat} {l : List Int} {k : Nat} {wr : World} {g : Nat}
theorem NxtAt.cell (h : NxtAt f l k wr g) (i : Nat) (hi : i < 17) : wr.cell? ⟨g, i, none⟩ = some (.int .i64 ((f i + cntZ (l.take k) i : Nat) : Int)) := by
  unfold NxtAt at h
  rw [h.cell]
  simp [intsV, nxtN, hi]
theorem NxtAt.free (h : NxtAt f l k wr g) (i : Nat) : wr.frozen? ⟨g, i, none⟩ = false := Blk.frozen h i
theorem NxtAt.step (h : NxtAt f l k wr g) (n : Nat) (hk : k < l.length) (hn : 0 < n) (hn16 : n ≤ 16) (hx : l[k] = (n : Int)) : NxtAt f l (k + 1) (wr.setCell ⟨g, n, none⟩ (.int .i64 (((f n + cntZ (l.take k) n : Nat) : Int) + 1))) g := by
  have h1 := Blk.set_ h n (.int .i64 (((f n + cntZ (l.take k) n : Nat) : Int) + 1))
  unfold NxtAt
  rw [← nxtN_step f l k n hk hn hn16 hx, ← intsV_set]
  simpa using h1
end
theorem firsts_eq (l : List Int) : (intsV (layL l)).toArray.extract 17 34 = (intsV (nxtN (fstN l) l 0)).toArray := by
  apply Array.ext
  · simp [intsV, layL, layN, nxtN]
  · intro i h1 h2
    have hi : i < 17 := by simpa [intsV, nxtN] using h2
    have e : cntZ ([] : List Int) i = 0 := by simp [cntZ, cntN]
    simp only [Array.getElem_extract, List.getElem_toArray, intsV_get]
    simp [layL, layN, nxtN, layF, e, show ¬ 17 + i < 17 from by omega, show 17 + i < 34 from by omega, show i ≤ 16 from by omega]
theorem aheads_eq (l : List Int) : (intsV (layL l)).toArray.extract 34 51 = (intsV (nxtN (ahdN l) l 0)).toArray := by
  apply Array.ext
  · simp [intsV, layL, layN, nxtN]
  · intro i h1 h2
    have hi : i < 17 := by simpa [intsV, nxtN] using h2
    have e : cntZ ([] : List Int) i = 0 := by simp [cntZ, cntN]
    simp only [Array.getElem_extract, List.getElem_toArray, intsV_get]
    simp [layL, layN, nxtN, layF, e, show ¬ 34 + i < 17 from by omega, show ¬ 34 + i < 34 from by omega, show i ≤ 16 from by omega]
theorem field_first (cs : Array Value) (w : World) : (Instr.field 70 (.agg cs) 1).run Try.prog w = .ok (.agg (cs.extract 17 34)) w := by kernel_rfl
theorem per_info : (Try.prog.info? 68).map (·.size) = some 17 := by kernel_rfl
def per0 : List Value := List.replicate 17 (.int .i64 0)

/-- The codes of the first k symbols; nought behind. -/
def codesTo (l : List Int) (k : Nat) : List Nat := (List.range l.length).map fun j => if j < k ∧ 0 < lenAt l j then codeAt l j else 0
theorem codesTo_length (l : List Int) (k : Nat) : (codesTo l k).length = l.length := by simp [codesTo]
theorem codesTo_zero (l : List Int) : codesTo l 0 = List.replicate l.length 0 := by
  apply List.ext_getElem?
  intro j
  by_cases h : j < l.length
  · simp [codesTo, h]
  · simp [codesTo, h]
theorem codesTo_all (l : List Int) : codesTo l l.length = codesL l := by
  unfold codesTo codesL
  apply List.map_congr_left
  intro j hj
  have hj2 : j < l.length := by simpa using hj
  simp only [hj2, true_and]
theorem codesTo_set (l : List Int) (k n : Nat) (h : k < l.length) (hn : 0 < n) (hx : l[k] = (n : Int)) : (codesTo l k).set k (fstN l n + cntZ (l.take k) n) = codesTo l (k + 1) := by
  unfold codesTo
  refine rangeMap_set _ k _ _ _ h ?_ fun j _ hj => ?_
  · obtain ⟨m, rfl⟩ : ∃ m, n = m + 1 := ⟨n - 1, by omega⟩
    rw [lenAt_get l k h, if_pos (by omega), codeAt_eq l m k h hx]
    unfold fstN cntZ rank
    rw [if_neg (by omega), Nat.add_sub_cancel]
  · have e : (j < k + 1 ∧ 0 < lenAt l j) ↔ (j < k ∧ 0 < lenAt l j) := by omega
    simp only [e]
theorem codesTo_skip (l : List Int) (k : Nat) (h : k < l.length) (hx : ¬ 0 < l[k]) : codesTo l (k + 1) = codesTo l k := by
  unfold codesTo
  apply List.map_congr_left
  intro j _
  by_cases e : j = k
  · subst e
    rw [lenAt_get l j h, if_neg (by omega), if_neg (by omega)]
  · have e2 : (j < k + 1 ∧ 0 < lenAt l j) ↔ (j < k ∧ 0 < lenAt l j) := by omega
    simp only [e2]
/-- The codes so far, the next number of each length. -/
def CdAt (w : World) (l : List Int) (g k : Nat) (wr : World) : Prop :=
  wr.ownsRow w.heap.size 35 1 (.slice (some ⟨w.heap.size, 0, none⟩) l.length l.length) l.length (u32V (codesTo l k)) ∧ NxtAt (fstN l) l k wr g ∧ Below w.heap.size w wr ∧ w.heap.size < g

theorem codesErr_zero {l : List Int} (h : codesErr l = 0) : roomErr l = 0 ∧ 0 ≤ roomOf l := by
  unfold codesErr at h
  split at h
  · split at h
    · omega
    · exact ⟨by assumption, by omega⟩
  · omega
set_option maxHeartbeats 4000000 in
set_option maxRecDepth 100000 in
theorem codes_any (A : Option Addr) (c : Nat) (l : List Int) (w : World) (hbs : Is w w.heap.size A l) (hl : l.length ≤ 17592186044416) :
    Calls Try.prog 14 #[.slice A l.length c] w (CodesRes w l) := by
  have hm : l.length ≤ maxLen := by unfold maxLen; omega
  obtain ⟨i0, hi, hz0, hz1, hz2⟩ := info_parts info_u32
  have HF := Lib.hid (codesFault_any A c l _ w hbs hm)
  by_cases h0 : codesErr l = 0
  · obtain ⟨hre, hro⟩ := codesErr_zero h0
    obtain ⟨h4, hg⟩ := roomErr_zero hre
    rw [h0] at HF
    have HE := Lib.hid h0; clear h0 hre
    have HG := Lib.hid hg; clear hg
    have HRO := Lib.hid hro; clear hro
    have hfd : ∀ w, (Instr.field 70 (LayV l) 1).run Try.prog w = .ok (.agg (intsV (nxtN (fstN l) l 0)).toArray) w := fun w => by unfold LayV; rw [field_first, firsts_eq]
    have hsz : (Try.prog.info? 68).map (·.size) = some (intsV (nxtN (fstN l) l 0)).toArray.size := by rw [List.size_toArray, intsV_length, nxtN_length]; exact per_info
    have h1c : (intsV (nxtN (fstN l) l 0)).toArray.all (·.oneCell') = true := by
      rw [Array.all_eq_true_iff_forall_mem]
      intro v hv
      exact intsV_one _ v (List.mem_toArray.mp hv)
    have hk0 : per0.toArray.size = (intsV (nxtN (fstN l) l 0)).toArray.size := by rw [List.size_toArray, List.size_toArray, intsV_length, nxtN_length]; rfl
    go_enter Try.func14, Try.ntmps14
    go_wp2_with fail
    refine HF.out.mono ?_
    rintro e w1 ⟨rfl, rfl⟩
    go_wp2_with (at_make; refine wpList_make_full _ rfl (.tmp 15) (.tmp 15) 30 rfl w.heap.size 35 i0 (.int .u32 0) 1 Try.underlying30 hi hz0 hz1 .i64 .i64 l.length l.length l.length rfl rfl rfl rfl (by rw [hz2]; omega) hm (Nat.le_refl _) ?_; intro w1 hown1 hg1; rw [make_u32] at hown1; have hb1 := (Below.refl w.heap.size w).grown hg1 (Nat.le_refl _) (by simp))
    have HO1 := Lib.hid hown1; clear hown1
    have hs1 := hb1.size
    have hbs1 : Is w1 w1.heap.size A l := Vs.more (Vs.below hbs hb1) hs1
    refine (layoutOf_any A c l w1 hbs1 h4 HG.out HRO.out).mono ?_
    rintro e w2 ⟨rfl, hb2⟩
    have hs2 := hb2.size
    have hRB := Blk.new w2 68 per0.toArray
    have HW3 : Hid (CdAt w l w2.heap.size 0 ((w2.alloc (.cells per0.toArray 68)).setRow w2.heap.size (intsV (nxtN (fstN l) l 0)).toArray)) := Lib.hid (by
      have hlt := (HO1.out.lt w.heap.size rfl).2
      have u1 : Upd (fun k => k = w2.heap.size) w1 ((w2.alloc (.cells per0.toArray 68)).setRow w2.heap.size (intsV (nxtN (fstN l) l 0)).toArray) :=
        (Upd.mono ((Upd.of_fresh hb2).alloc _) (fun _ _ h => absurd h id)).then (upd_setRow _ _ _) (fun _ _ h => h)
      refine ⟨?_, ?_, ?_, by omega⟩
      · rw [codesTo_zero]
        exact own_upd HO1.out u1 (fun k hk e => by
          have : k = w.heap.size := by simpa [Value.ownBlock] using hk.symm
          omega)
      · exact setRow_heap _ _ _ _ _ _ hRB
      · exact below_setRow ((hb1.trans (hb2.mono hs1)).alloc (by omega) _) (by omega) _)
    go_wp2_with (refine wpList_store_row rfl 68 (.tmp 6) (.tmp 19) rfl w2.heap.size (intsV (nxtN (fstN l) l 0)).toArray rfl rfl 68 per0.toArray hRB hsz hk0 h1c ?_)
    clear hfd hsz h1c hk0 hRB
    obtain ⟨g, hg⟩ : ∃ g, w2.heap.size = g := ⟨_, rfl⟩
    rw [hg] at HW3 ⊢
    clear hg
    go_loopw [22] (fun i wr => ∃ k : Nat, k ≤ l.length ∧ i = .int .i64 k ∧ CdAt w l g k wr) (fun i _ => l.length - (intOf i).toNat)
    case atStart => exact ⟨0, by omega, rfl, HW3.out⟩
    case round =>
      obtain ⟨k, hk, rfl, hC⟩ := hrel
      have HC := Lib.hid hC; clear hC
      by_cases hlt : k < l.length
      · obtain ⟨ad, rfl, _, hcb⟩ := Is.at_ (Vs.below hbs HC.out.2.2.1) hlt
        obtain ⟨b0, b1⟩ := good_len l HG.out k hlt
        have HS1 := Lib.hid (fun n => codesTo_set l k n hlt)
        have HS2 := Lib.hid (codesTo_skip l k hlt)
        have HN1 := Lib.hid (fun (wz : World) (h : NxtAt (fstN l) l k wz g) n => h.step n hlt)
        have HN2 := Lib.hid (nxtN_skip (fstN l) l k hlt)
        generalize l[k] = x at *
        by_cases hx : 0 < x
        · obtain ⟨n, rfl⟩ : ∃ n : Nat, x = n := ⟨x.toNat, by omega⟩
          have d3 : decide (0 < (n : Int)) = true := by simp; omega
          have hcn := HC.out.2.1.cell n (by omega)
          have hfn := HC.out.2.1.free n
          have hle : cntZ (l.take k) n ≤ 4096 := by
            have h1 := cntZ_le (l.take k) n
            rw [List.length_take] at h1
            omega
          have hle2 := fstN_le l HRO.out n (by omega)
          have HQ1 := Lib.hid (HS1.out n (by omega) rfl)
          have HQ2 := Lib.hid (fun (wz : World) (h : NxtAt (fstN l) l k wz g) => HN1.out wz h n (by omega) (by omega) rfl)
          have hlo : wr.frozen? ⟨w.heap.size, k, none⟩ = false := HC.out.1.frozenAt k
          obtain ⟨v0, hce⟩ : ∃ v0, wr.cell? ⟨w.heap.size, k, none⟩ = some v0 := by
            have h1 := HC.out.1.cellAt k (by omega)
            rw [List.getElem?_eq_getElem (by rw [u32V_length, codesTo_length]; exact hlt)] at h1
            exact ⟨_, h1⟩
          have hgw : w.heap.size < g := HC.out.2.2.2
          have hbw := HC.out.2.2.1.size
          have hne : w.heap.size ≠ g := by omega
          have hne2 : g ≠ w.heap.size := by omega
          obtain ⟨q, hq⟩ : ∃ q, fstN l n + cntZ (l.take k) n = q := ⟨_, rfl⟩
          rw [hq] at HQ1 HQ2 hcn
          have hqb : q ≤ 135168 := by omega
          clear hq
          have HFIN : Hid (CdAt w l g (k + 1) ((wr.setCell ⟨w.heap.size, k, none⟩ (.int .u32 (q : Int))).setCell ⟨g, n, none⟩ (.int .i64 ((q : Int) + 1)))) := Lib.hid (by
            have u1 : Upd (· = w.heap.size) wr (wr.setCell ⟨w.heap.size, k, none⟩ (.int .u32 (q : Int))) := (Upd.refl (· = w.heap.size) wr).setCell (p := ⟨w.heap.size, k, none⟩) (fun _ => rfl) _
            have u2 : ∀ wz : World, Upd (· = g) wz (wz.setCell ⟨g, n, none⟩ (.int .i64 ((q : Int) + 1))) := fun wz => (Upd.refl (· = g) wz).setCell (p := ⟨g, n, none⟩) (fun _ => rfl) _
            refine ⟨?_, ?_, (HC.out.2.2.1.setCell (by simp) _).setCell (p := ⟨g, n, none⟩) (by simp; omega) _, hgw⟩
            · have h1 := (HC.out.1.stored k (.int .u32 (q : Int))).1
              rw [u32V_set, HQ1.out] at h1
              exact own_upd h1 (u2 _) (fun b hb e => by
                have : b = w.heap.size := by simpa [Value.ownBlock] using hb.symm
                omega)
            · exact HQ2.out _ (Blk.upd HC.out.2.1 u1 (by omega)))
          go_wp2_with fail
          go_roundw
          case rel => exact ⟨k + 1, by omega, by go_num, HFIN.out⟩
          case measure => simp [intOf]; omega
        · have d3 : decide (0 < x) = false := by simp; omega
          go_wp2_with fail
          go_roundw
          case rel => exact ⟨k + 1, by omega, by go_num, by rw [HS2.out hx]; exact HC.out.1, by unfold NxtAt; rw [HN2.out hx]; exact HC.out.2.1, HC.out.2.2⟩
          case measure => simp [intOf]; omega
      · obtain rfl : k = l.length := by omega
        have HFIN : Hid (CodesRes w l (.returned (.tuple #[.slice (some ⟨w.heap.size, 0, none⟩) l.length l.length, .int .i64 0])) wr) := Lib.hid (by
          refine ⟨_, _, _, by rw [HE.out], ?_, HC.out.2.2.1⟩
          unfold codesAns
          rw [HE.out, if_pos rfl, ← codesTo_all]
          exact HC.out.1)
        go_wp2_with fail
        go_ret2
        exact HFIN.out
  · have d1 : (codesErr l != 0) = true := by simpa using h0
    have HX := Lib.hid (CodesRes.err (w := w) rfl h0)
    generalize codesErr l = x at *
    go_enter Try.func14, Try.ntmps14
    go_wp2_with fail
    refine HF.out.mono ?_
    rintro e w1 ⟨rfl, rfl⟩
    go_wp2_with fail
    go_ret2
    exact HX.out
end Go.Proofs.Ytpolbnobnilfcaa
