/- Joined texts (a claim has at most 60 files): Yf Yg. -/
import Derived.Test.YtnfjeeflcfmpbaaGreatDoorYd
import Derived.Lib.AppendZerosOnto
import Derived.Lib.SliceRun
import Derived.Lib.Walk
import Derived.Test.YtnfjeeflcfmpbaaGreatDoorAr
/- Rows of bytes that lie in a row: turned round, and put together. -/
set_option linter.unusedVariables false
set_option linter.unusedSimpArgs false
namespace Go.Proofs.YtnfjeeflcfmpbaaGreatDoor
open Go.ChangeShapes Go.WideShapes Go.ChangeAt Go.RowKit

/-- These values are rows of bytes of the call's own. -/
def RwO (w : World) (base : Nat) (vs : List Value) (LL : List (List UInt8)) : Prop :=
  vs.length = LL.length ∧ ∀ i (_ : i < vs.length) (_ : i < LL.length), ∃ A c, vs[i] = .slice A LL[i].length c ∧ w.ownsRow base 5 1 (.slice A LL[i].length c) LL[i].length (bytesV LL[i])
theorem RwO.nil_ (w : World) (base : Nat) : RwO w base [] [] := ⟨rfl, fun i h => by simp at h⟩
theorem RwO.upd {w w' : World} {base : Nat} {vs : List Value} {LL : List (List UInt8)} {S : Nat → Prop} (h : RwO w base vs LL) (u : Upd S w w') (hS : ∀ (v : Value) n xs, w.ownsRow base 5 1 v n xs → ∀ k, v.ownBlock = some k → ¬ S k) : RwO w' base vs LL :=
  ⟨h.1, fun i h1 h2 => by
    obtain ⟨A, c, e, ho⟩ := h.2 i h1 h2
    exact ⟨A, c, e, own_upd ho u (hS _ _ _ ho)⟩⟩
theorem RwO.call {w w' : World} {base : Nat} {vs : List Value} {LL : List (List UInt8)} (h : RwO w base vs LL) (hb : Below w.heap.size w w') : RwO w' base vs LL := h.upd (Upd.of_fresh hb) (fun _ _ _ _ _ _ => id)
theorem RwO.snoc {w : World} {base : Nat} {vs : List Value} {LL : List (List UInt8)} {A : Option Addr} {c n : Nat} {l : List UInt8} (h : RwO w base vs LL) (hn : l.length = n) (ho : w.ownsRow base 5 1 (.slice A n c) n (bytesV l)) : RwO w base (vs ++ [.slice A n c]) (LL ++ [l]) := by
  subst hn
  refine ⟨by simp [h.1], fun i h1 h2 => ?_⟩
  by_cases hi : i < vs.length
  · obtain ⟨A', c', e, ho'⟩ := h.2 i hi (by rw [← h.1]; exact hi)
    refine ⟨A', c', ?_, ?_⟩
    · rw [List.getElem_append_left hi, List.getElem_append_left (by rw [← h.1]; exact hi)]; exact e
    · rw [List.getElem_append_left (by rw [← h.1]; exact hi)]; exact ho'
  · have e : i = vs.length := by simp at h1; omega
    subst e
    refine ⟨A, c, ?_, ?_⟩
    · simp [h.1]
    · simp only [h.1, List.getElem_append_right (Nat.le_refl _), Nat.sub_self, List.getElem_cons_zero]
      exact ho
theorem RwO.reverse {w : World} {base : Nat} {vs : List Value} {LL : List (List UInt8)} (h : RwO w base vs LL) : RwO w base vs.reverse LL.reverse := by
  refine ⟨by simp [h.1], fun i h1 h2 => ?_⟩
  rw [List.length_reverse] at h1 h2
  have := h.2 (vs.length - 1 - i) (by omega) (by rw [← h.1]; omega)
  simp only [List.getElem_reverse]
  simp only [h.1] at this ⊢
  exact this
theorem RwO.one {w : World} {base : Nat} {vs : List Value} {LL : List (List UInt8)} (h : RwO w base vs LL) : ∀ u ∈ vs, u.oneCell' = true := by
  intro u hu
  obtain ⟨i, hi, rfl⟩ := List.mem_iff_getElem.1 hu
  obtain ⟨A, c, e, _⟩ := h.2 i hi (by rw [← h.1]; exact hi)
  rw [e]
  rfl
/-- A list that is turned round by t swaps. -/
def revT (vs : List Value) (t : Nat) : List Value := (List.range vs.length).map fun p => if p < t ∨ vs.length - t ≤ p then vs.getD (vs.length - 1 - p) undef else vs.getD p undef
theorem revT_length (vs : List Value) (t : Nat) : (revT vs t).length = vs.length := by simp [revT]
theorem revT_get (vs : List Value) (t p : Nat) (h : p < (revT vs t).length) : (revT vs t)[p] = if p < t ∨ vs.length - t ≤ p then vs.getD (vs.length - 1 - p) undef else vs.getD p undef := by
  simp [revT]
theorem revT_zero (vs : List Value) : revT vs 0 = vs := by
  apply List.ext_getElem (revT_length vs 0)
  intro p h1 h2
  rw [revT_get, if_neg (by omega)]
  simp [List.getD, List.getElem?_eq_getElem h2]
theorem revT_end (vs : List Value) (t : Nat) (h : vs.length ≤ 2 * t + 1) : revT vs t = vs.reverse := by
  apply List.ext_getElem (by simp [revT])
  intro p h1 h2
  rw [revT_length] at h1
  rw [revT_get, List.getElem_reverse]
  split
  · simp [List.getD, List.getElem?_eq_getElem (show vs.length - 1 - p < vs.length by omega)]
  · have e : vs.length - 1 - p = p := by omega
    simp only [e]
    simp [List.getD, List.getElem?_eq_getElem h1]
theorem revT_step (vs : List Value) (t j : Nat) (h : t < j) (hj : j + t + 1 = vs.length) (ht : t < (revT vs t).length) (hjl : j < (revT vs t).length) :
    (((revT vs t).set t (revT vs t)[j]).set j (revT vs t)[t]) = revT vs (t + 1) := by
  apply List.ext_getElem (by simp [revT])
  intro p h1 h2
  have hp : p < vs.length := by simpa [revT] using h1
  have e4 := revT_get vs t j hjl
  have e5 := revT_get vs t t ht
  rw [if_neg (by omega)] at e4 e5
  rw [List.getElem_set, List.getElem_set, revT_get vs (t + 1) p]
  by_cases e1 : j = p
  · subst e1
    rw [if_pos rfl, if_pos (by omega), show vs.length - 1 - j = t from by omega]
    exact e5
  · rw [if_neg e1]
    by_cases e2 : t = p
    · subst e2
      rw [if_pos rfl, if_pos (by omega), show vs.length - 1 - t = j from by omega]
      exact e4
    · rw [if_neg e2, revT_get]
      by_cases e3 : p < t ∨ vs.length - t ≤ p
      · rw [if_pos e3, if_pos (by omega)]
      · rw [if_neg e3, if_neg (by omega)]
set_option maxRecDepth 100000 in
set_option maxHeartbeats 4000000 in
theorem rev_any (w : World) (base g k c : Nat) (vs : List Value) (hk : 0 < k) (hk2 : k ≤ 1048576) (hsl : ∀ i, i < k → ∃ A n c, vs.getD i undef = .slice A n c) (h : w.ownsRow base 22 1 (.slice (some ⟨g, 0, none⟩) k c) k vs) :
    Calls Tryz.prog 37 #[.slice (some ⟨g, 0, none⟩) k c] w fun e w' => e = .returned (.tuple #[]) ∧ w'.ownsRow base 22 1 (.slice (some ⟨g, 0, none⟩) k c) k vs.reverse ∧ Upd (· = g) w w' := by
  have hlen := own_len h
  go_enter Tryz.func37, Tryz.ntmps37
  go_wp2_with fail
  go_loopw [2, 3] (fun i j wr => ∃ t u : Nat, t + u + 1 = k ∧ i = .int .i64 (t : Int) ∧ j = .int .i64 (u : Int) ∧ t ≤ u + 2 ∧ wr.ownsRow base 22 1 (.slice (some ⟨g, 0, none⟩) k c) k (revT vs t) ∧ Upd (· = g) w wr) (fun i _ _ => k - (intOf i).toNat)
  case atStart => exact ⟨0, k - 1, by omega, rfl, by congr 1; omega, by omega, by rw [revT_zero]; exact h, Upd.refl _ _⟩
  case round =>
    obtain ⟨t, u, htu, rfl, rfl, htl, ho, hu⟩ := hrel
    by_cases hlt : t < u
    · have hl2 : (revT vs t).length = k := by rw [revT_length, hlen]
      have ct := ho.cellAt t (by omega)
      have cu := ho.cellAt u (by omega)
      rw [List.getElem?_eq_getElem (by omega)] at ct cu
      have hst := revT_step vs t u hlt (by omega) (by omega) (by omega)
      have et := revT_get vs t t (by omega)
      have eu := revT_get vs t u (by omega)
      rw [if_neg (by omega)] at et eu
      obtain ⟨A1, n1, c1, e1⟩ := hsl t (by omega)
      obtain ⟨A2, n2, c2, e2⟩ := hsl u (by omega)
      rw [e1] at et
      rw [e2] at eu
      rw [et, eu] at hst
      rw [et] at ct
      rw [eu] at cu
      have ft := ho.frozenAt t
      have fu := ho.frozenAt u
      have HST := Lib.hid hst; have HO := Lib.hid ho; have HU := Lib.hid hu; have HTU := Lib.hid htu; have HSL := Lib.hid hsl
      have i1 : (t : Int) < (k : Int) := by omega
      have i2 : (u : Int) < (k : Int) := by omega
      have i3 : (t : Int) < (u : Int) := by omega
      have i4 : (u : Int) ≤ 1048576 := by omega
      clear hst ho hu et eu e1 e2 htu hl2 hsl
      go_wp2_with fail
      go_region
      all_goals
        go_wp2_with fail
        go_roundw
        case rel => exact ⟨t + 1, u - 1, by have := HTU.out; omega, by go_num, by congr 1; omega, by omega, by rw [← HST.out]; exact ((HO.out.stored t _).1.stored u _).1, ((HU.out.setCell (fun _ => rfl) _).setCell (fun _ => rfl) _).drew⟩
        case measure => simp [intOf]; omega
    · have he := revT_end vs t (by omega)
      rw [he] at ho
      have i3 : ¬ (t : Int) < (u : Int) := by omega
      have HO := Lib.hid ho; have HU := Lib.hid hu
      clear ho hu he
      go_wp2_with fail
      go_end0
      exact ⟨rfl, HO.out, HU.out⟩
end Go.Proofs.YtnfjeeflcfmpbaaGreatDoor

/- Rows of bytes put together: slices.Grow of nothing, slices.Concat. -/
set_option linter.unusedVariables false
set_option linter.unusedSimpArgs false
namespace Go.Proofs.YtnfjeeflcfmpbaaGreatDoor
open Go.ChangeShapes Go.WideShapes Go.ChangeAt Go.RowKit

set_option maxRecDepth 100000 in
set_option maxHeartbeats 2000000 in
theorem grow8_any (n : Nat) (hn : n ≤ 67108864) (w : World) : Calls Tryz.prog 87 #[.slice none 0 0, .int .i64 (n : Int)] w fun e w' => ∃ A c, e = .returned (.slice A 0 c) ∧ w'.ownsRow w.heap.size 5 1 (.slice A 0 c) 0 [] ∧ Below w.heap.size w w' := by
  by_cases h0 : n = 0
  · subst h0
    go_enter Tryz.func87, Tryz.ntmps87
    go_wp2
    go_ret
    exact ⟨none, 0, rfl, World.ownsRow_nil _ _ _ _, Below.refl _ _⟩
  · obtain ⟨i0, hi, hz0, hz1, hz2⟩ := info_parts info_u8
    have hold : (Builtin.firstCells i0.size 0 (.slice none 0 0)).run Tryz.prog w.drew = .ok ([] : List Value).toArray w.drew := run_firstCells_none w.drew i0.size 0 0 0
    have hrz := Lib.run_append_grow_zeros w 22 3 22 5 i0 (.int .u8 0) .i64 .i64 Tryz.underlying22 Tryz.underlying3 hi hz0 none 0 0 [] hold n (by omega) (by omega) (by omega) (by omega) (by rw [hz2]; omega) (growslice_fits (by omega) (by rw [hz2]; omega))
    have hGn : 0 + n ≤ grownCap w (0 + n) 0 5 := grownCap_ge w _ _ _
    have hGm := grownCap_le_maxLen w (0 + n) 0 5 (by unfold maxLen; omega)
    simp only [Nat.zero_add] at hrz hGn hGm
    have hz1' := hz1
    obtain ⟨G, hG⟩ : ∃ G, grownCap w n 0 5 = G := ⟨_, rfl⟩
    rw [hG] at hrz hGn hGm
    have hb : Below w.heap.size w (w.drew.alloc (.cells (([] : List Value).toArray ++ Builtin.zeroCells (Value.int .u8 0).cells n ++ Builtin.zeroCells (Value.int .u8 0).cells (G - n)) 5)) := ((Below.refl w.heap.size w).drew).alloc (Nat.le_refl _) _
    have ho : (w.drew.alloc (.cells (([] : List Value).toArray ++ Builtin.zeroCells (Value.int .u8 0).cells n ++ Builtin.zeroCells (Value.int .u8 0).cells (G - n)) 5)).ownsRow w.heap.size 5 1 (.slice (some ⟨w.heap.size, 0, none⟩) 0 G) 0 [] := by
      refine ⟨rfl, .inr ⟨w.heap.size, G, _, rfl, Nat.le_refl _, World.alloc_heap_new w.drew _, Nat.zero_le _, hGm, ?_, by simp⟩⟩
      simp [Builtin.zeroCells, Value.cells]
      omega
    have HB := Lib.hid hb; have HO := Lib.hid ho
    have i1 : ¬ ((n : Int) < 0) := by omega
    have i2 : (n : Int) > 0 := by omega
    have HRZ := Lib.hid hrz
    clear hb ho hold hrz hi hz0 hz1 hz1' hz2 hG
    go_enter Tryz.func87, Tryz.ntmps87
    go_wp2_with (at_builtin; refine Lib.wpList_append_run _ rfl _ _ _ _ rfl _ _ rfl rfl _ _ HRZ.out ?_)
    all_goals (go_ret; refine ⟨_, _, rfl, ?_, ?_⟩)
    · have h := HO.out
      simp only [Value.cells, List.toArray, Array.empty_append] at h
      exact h
    · have h := HB.out
      simp only [Value.cells, Array.empty_append] at h
      exact h
/-- append of bytes, from whatever slice, to a row of the call's own. -/
theorem append8 (base : Nat) (w : World) (v : Value) (n : Nat) (xs : List Value) (h : w.ownsRow base 5 1 v n xs) (hbase : base ≤ w.heap.size) (B : Nat) (A : Option Addr) (m c : Nat) (l : List UInt8) (hm : l.length = m) (hl : Bs w B A l)
    (h47 : n + m ≤ 140737488355328) (ty : TypeId) :
    ∃ A' c' w', (Builtin.append_ #[22, 22] ty #[v, .slice A m c]).run Tryz.prog w = .ok (.slice A' (n + m) c') w' ∧
      w'.ownsRow base 5 1 (.slice A' (n + m) c') (n + m) (xs ++ bytesV l) ∧ w.grownBy w' v.ownBlock := by
  subst hm
  obtain ⟨i0, hi, hz0, hz1, hz2⟩ := info_parts info_u8
  obtain ⟨A', c', w', h1, h2, h3, _⟩ := run_append_bs w base 22 ty 5 i0 Tryz.underlying22 hi hz0 hz1 hz2 v n xs h B A c l hl h47 hbase
  exact ⟨A', c', w', h1, h2, h3⟩
def totB (LL : List (List UInt8)) (k : Nat) : Nat := ((LL.take k).flatten).length
theorem totB_step (LL : List (List UInt8)) (k : Nat) (hk : k < LL.length) : totB LL (k + 1) = totB LL k + LL[k].length ∧ (LL.take (k + 1)).flatten = (LL.take k).flatten ++ LL[k] := by
  have e : (LL.take (k + 1)).flatten = (LL.take k).flatten ++ LL[k] := by
    rw [List.take_succ_eq_append_getElem hk, List.flatten_append]
    simp
  refine ⟨?_, e⟩
  unfold totB
  rw [e, List.length_append]
theorem totB_le (LL : List (List UInt8)) (k : Nat) : totB LL k ≤ LL.flatten.length := by
  unfold totB
  have := congrArg (fun l => (List.flatten l).length) (List.take_append_drop k LL)
  simp only [List.flatten_append, List.length_append] at this
  omega
set_option maxRecDepth 100000 in
set_option maxHeartbeats 4000000 in
theorem concat8_any (w : World) (base g k c : Nat) (vs : List Value) (LL : List (List UInt8)) (hk : 0 < k) (hk2 : k ≤ 1048576) (h : w.ownsRow base 22 1 (.slice (some ⟨g, 0, none⟩) k c) k vs) (hr : RwO w base vs LL) (T : Nat) (hT : LL.flatten.length = T) (hT2 : T ≤ 67108864) :
    Calls Tryz.prog 38 #[.slice (some ⟨g, 0, none⟩) k c] w fun e w' => ∃ A' c', e = .returned (.slice A' T c') ∧ w'.ownsRow w.heap.size 5 1 (.slice A' T c') T (bytesV LL.flatten) ∧ Below w.heap.size w w' := by
  have hlen := own_len h
  have hLL := hr.1
  go_enter Tryz.func38, Tryz.ntmps38
  have HH := Lib.hid h; have HR := Lib.hid hr; have HT := Lib.hid hT
  have HL : Hid (LL.length = k) := Lib.hid (by rw [← hLL, hlen])
  clear h hr hT hLL
  go_wp2_with fail
  go_loopw [3, 11] (fun s i wr => ∃ j : Nat, j ≤ k ∧ i = .int .i64 (j : Int) ∧ s = .int .i64 (totB LL j : Nat) ∧ wr = w) (fun _ i _ => k - (intOf i).toNat)
  case atStart => exact ⟨0, Nat.zero_le _, rfl, rfl, rfl⟩
  case round =>
    obtain ⟨j, hj, rfl, rfl, rfl⟩ := hrel
    by_cases hjk : j < k
    · have hjl : j < LL.length := by rw [HL.out]; exact hjk
      obtain ⟨A, cj, ej, oj⟩ := HR.out.2 j (by omega) hjl
      have cj0 := HH.out.cellAt j (by omega)
      rw [List.getElem?_eq_getElem (by omega), ej] at cj0
      obtain ⟨st1, st2⟩ := totB_step LL j hjl
      have hle := totB_le LL (j + 1)
      have hT := HT.out
      rw [hT] at hle
      obtain ⟨n, hn⟩ : ∃ n, LL[j].length = n := ⟨_, rfl⟩
      rw [hn] at cj0 st1
      have i1 : (j : Int) < (k : Int) := by omega
      obtain ⟨Z, hZ⟩ : ∃ Z, totB LL j = Z := ⟨_, rfl⟩
      obtain ⟨Y, hY⟩ : ∃ Y, totB LL (j + 1) = Y := ⟨_, rfl⟩
      rw [hZ] at st1 ⊢
      rw [hY] at st1 hle
      have i2 : (Z : Int) ≤ 67108864 := by omega
      have i3 : (n : Int) ≤ 67108864 := by omega
      have i4 : ¬ ((Z : Int) + (n : Int) < 0) := by omega
      have HS := Lib.hid st1; have HY := Lib.hid hY
      clear st1 st2 oj ej hn hZ hY hT hle
      go_wp2_with fail
      go_roundw
      case rel => exact ⟨j + 1, by omega, by go_num, by rw [HY.out, HS.out]; go_num, by trivial⟩
      case measure => simp [intOf]; omega
    · obtain rfl : k = j := by omega
      have ht : totB LL k = T := by
        unfold totB
        rw [List.take_of_length_le (by rw [HL.out]; exact Nat.le_refl _)]
        exact HT.out
      rw [ht]
      clear ht
      go_wp2_with fail
      refine (grow8_any T hT2 wr).mono ?_
      rintro e w2 ⟨A2, c2, rfl, o2, hb2⟩
      have O2 := Lib.hid o2; have HB2 := Lib.hid hb2
      clear o2 hb2
      go_wp2_with fail
      obtain ⟨w0, rfl⟩ : ∃ x, x = wr := ⟨_, rfl⟩
      go_loopw [6, 27] (fun v i wq => ∃ j : Nat, j ≤ k ∧ i = .int .i64 (j : Int) ∧ ∃ A c, v = .slice A (totB LL j) c ∧ wq.ownsRow w0.heap.size 5 1 (.slice A (totB LL j) c) (totB LL j) (bytesV (LL.take j).flatten) ∧ Hid (Below w0.heap.size w0 wq)) (fun _ i _ => k - (intOf i).toNat)
      case atStart => exact ⟨0, Nat.zero_le _, rfl, A2, c2, rfl, by simpa [totB, bytesV] using O2.out, HB2⟩
      case round =>
        obtain ⟨j, hj, rfl, A, cc, rfl, ho, HBq⟩ := hrel
        by_cases hjk : j < k
        · have hjl : j < LL.length := by rw [HL.out]; exact hjk
          have hrq : RwO wr base vs LL := HR.out.call HBq.out
          have hhq := own_upd HH.out (Upd.of_fresh HBq.out) (fun _ _ => id)
          obtain ⟨A, cj, ej, oj⟩ := hrq.2 j (by omega) hjl
          have cj0 := hhq.cellAt j (by omega)
          rw [List.getElem?_eq_getElem (by omega), ej] at cj0
          obtain ⟨st1, st2⟩ := totB_step LL j hjl
          have hle := totB_le LL (j + 1)
          have hT := HT.out
          rw [hT] at hle
          have hbs : Bs wr wr.heap.size A (LL[j]) := Bs.of_own oj
          obtain ⟨n, hn⟩ : ∃ n, LL[j].length = n := ⟨_, rfl⟩
          rw [hn] at cj0 st1
          have hs1 := HBq.out.size
          obtain ⟨A9, c9, w9, hrun, o9, hg9⟩ := append8 w0.heap.size wr _ _ _ ho hs1 wr.heap.size A n cj LL[j] hn hbs (by omega) 22
          rw [← bytesV_append, ← st2, ← st1] at o9
          rw [← st1] at hrun
          have hb9 := HBq.out.grown hg9 hs1 (fun q hq => (ho.lt q hq).1)
          obtain ⟨Z, hZ⟩ : ∃ Z, totB LL j = Z := ⟨_, rfl⟩
          obtain ⟨Y, hY⟩ : ∃ Y, totB LL (j + 1) = Y := ⟨_, rfl⟩
          rw [hZ] at hrun ⊢
          rw [hY] at hrun o9
          have i1 : (j : Int) < (k : Int) := by omega
          have HY := Lib.hid hY; have HRN := Lib.hid hrun; have HO9 := Lib.hid o9; have HB9 := Lib.hid hb9
          clear st1 st2 oj ej hn hZ hY hT hle hbs hrun o9 hg9 hb9 ho hrq hhq
          go_wp2_with (at_builtin; refine wpList_append_run rfl (.tmp 31) (.tmp 32) _ rfl rfl rfl HRN.out ?_)
          go_roundw
          case rel => exact ⟨j + 1, by omega, by go_num, A9, c9, by rw [HY.out], by rw [HY.out]; exact HO9.out, HB9⟩
          case measure => simp [intOf]; omega
        · obtain rfl : k = j := by omega
          have e : (LL.take k).flatten = LL.flatten := by rw [List.take_of_length_le (by rw [HL.out]; exact Nat.le_refl _)]
          have ht : totB LL k = T := by
            unfold totB
            rw [e]
            exact HT.out
          rw [ht, e] at ho
          rw [ht]
          have HO := Lib.hid ho
          clear ht ho e
          go_wp2_with fail
          go_ret
          exact ⟨_, _, rfl, HO.out, HBq.out⟩
end Go.Proofs.YtnfjeeflcfmpbaaGreatDoor
