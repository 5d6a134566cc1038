/- Numbers of 32 bits: rows of them turned round, put together, gathered. -/
import Derived.Test.YtnfjeeflcfmpbaaGreatDoorYg
import Derived.Test.YtnfjeeflcfmpbaaGreatDoorYm
import Derived.Test.YtnfjeeflcfmpbaaGreatDoorQgd
set_option linter.unusedVariables false
set_option linter.unusedSimpArgs false
namespace Go.Proofs.YtnfjeeflcfmpbaaGreatDoor
open Go.ChangeShapes Go.WideShapes Go.ChangeAt Go.RowKit Go.Shelf
attribute [local go_sem] Oper.semAt_some

def nV (l : List Nat) : List Value := l.map fun n : Nat => .int .u32 (n : Int)
theorem nV_length (l : List Nat) : (nV l).length = l.length := by simp [nV]
theorem nV_one (l : List Nat) : ∀ u ∈ nV l, u.oneCell' = true := by
  intro u hu
  simp only [nV, List.mem_map] at hu
  obtain ⟨n, _, rfl⟩ := hu
  rfl
theorem nV_append (a b : List Nat) : nV (a ++ b) = nV a ++ nV b := by simp [nV]
theorem info_u32 : (Tryz.prog.info? 45).map (fun i => (i.zero, i.size, i.bytes)) = some (some (.int .u32 0), 1, 4) := by kernel_rfl
/-- These values are slices that read as such numbers. -/
def RwN (w : World) (vs : List Value) (LL : List (List Nat)) : Prop :=
  vs.length = LL.length ∧ ∀ i (_ : i < vs.length) (_ : i < LL.length), ∃ A c, vs[i] = .slice A LL[i].length c ∧ Vs w w.heap.size A (nV LL[i])
theorem RwN.call {w w' : World} {vs : List Value} {LL : List (List Nat)} (h : RwN w vs LL) (hb : Below w.heap.size w w') : RwN w' vs LL :=
  ⟨h.1, fun i h1 h2 => by
    obtain ⟨A, c, e, hv⟩ := h.2 i h1 h2
    exact ⟨A, c, e, (Vs.below hv hb).more hb.size⟩⟩
theorem RwN.reverse {w : World} {vs : List Value} {LL : List (List Nat)} (h : RwN w vs LL) : RwN w vs.reverse LL.reverse := by
  refine ⟨by simp [h.1], fun i h1 h2 => ?_⟩
  rw [List.length_reverse] at h1 h2
  have := h.2 (vs.length - 1 - i) (by omega) (by rw [← h.1]; omega)
  simp only [List.getElem_reverse]
  simp only [h.1] at this ⊢
  exact this
theorem append32 (base : Nat) (w : World) (v : Value) (n : Nat) (xs : List Value) (h : w.ownsRow base 45 1 v n xs) (hbase : base ≤ w.heap.size) (B : Nat) (A : Option Addr) (m c : Nat) (l : List Nat) (hm : l.length = m) (hl : Vs w B A (nV l))
    (h47 : n + m ≤ 140737488355) (ty : TypeId) :
    ∃ A' c' w', (Builtin.append_ #[63, 63] ty #[v, .slice A m c]).run Tryz.prog w = .ok (.slice A' (n + m) c') w' ∧
      w'.ownsRow base 45 1 (.slice A' (n + m) c') (n + m) (xs ++ nV l) ∧ w.grownBy w' v.ownBlock := by
  obtain ⟨i0, hi, hz0, hz1, hz2⟩ := info_parts info_u32
  obtain ⟨A', c', w', h1, h2, h3, _⟩ := run_append_vs (P := Tryz.prog) w base 63 ty 45 i0 (.int .u32 0) 4 Tryz.underlying63 hi hz0 hz1 hz2 rfl v n xs h B A m c (nV l) (by rw [nV_length, hm]) hl (nV_one l) (by unfold maxLen; omega) (by omega) hbase
  exact ⟨A', c', w', h1, h2, h3⟩
def totN (LL : List (List Nat)) (k : Nat) : Nat := ((LL.take k).flatten).length
theorem totN_step (LL : List (List Nat)) (k : Nat) (hk : k < LL.length) : totN LL (k + 1) = totN LL k + LL[k].length ∧ (LL.take (k + 1)).flatten = (LL.take k).flatten ++ LL[k] := by
  have e : (LL.take (k + 1)).flatten = (LL.take k).flatten ++ LL[k] := by
    rw [List.take_succ_eq_append_getElem hk, List.flatten_append]
    simp
  refine ⟨?_, e⟩
  unfold totN
  rw [e, List.length_append]
theorem totN_le (LL : List (List Nat)) (k : Nat) : totN LL k ≤ LL.flatten.length := by
  unfold totN
  have := congrArg (fun l => (List.flatten l).length) (List.take_append_drop k LL)
  simp only [List.flatten_append, List.length_append] at this
  omega
set_option maxRecDepth 100000 in
set_option maxHeartbeats 4000000 in
theorem rev32_any (w : World) (base g k c : Nat) (vs : List Value) (hk : 0 < k) (hk2 : k ≤ 1048576) (hsl : ∀ i, i < k → ∃ A n c, vs.getD i undef = .slice A n c) (h : w.ownsRow base 63 1 (.slice (some ⟨g, 0, none⟩) k c) k vs) :
    Calls Tryz.prog 66 #[.slice (some ⟨g, 0, none⟩) k c] w fun e w' => e = .returned (.tuple #[]) ∧ w'.ownsRow base 63 1 (.slice (some ⟨g, 0, none⟩) k c) k vs.reverse ∧ Upd (· = g) w w' := by
  have hlen := own_len h
  go_enter Tryz.func66, Tryz.ntmps66
  go_wp2_with fail
  go_loopw [2, 3] (fun i j wr => ∃ t u : Nat, t + u + 1 = k ∧ i = .int .i64 (t : Int) ∧ j = .int .i64 (u : Int) ∧ t ≤ u + 2 ∧ wr.ownsRow base 63 1 (.slice (some ⟨g, 0, none⟩) k c) k (revT vs t) ∧ Upd (· = g) w wr) (fun i _ _ => k - (intOf i).toNat)
  case atStart => exact ⟨0, k - 1, by omega, rfl, by congr 1; omega, by omega, by rw [revT_zero]; exact h, Upd.refl _ _⟩
  case round =>
    obtain ⟨t, u, htu, rfl, rfl, htl, ho, hu⟩ := hrel
    by_cases hlt : t < u
    · have hl2 : (revT vs t).length = k := by rw [revT_length, hlen]
      have ct := ho.cellAt t (by omega)
      have cu := ho.cellAt u (by omega)
      rw [List.getElem?_eq_getElem (by omega)] at ct cu
      have hst := revT_step vs t u hlt (by omega) (by omega) (by omega)
      have et := revT_get vs t t (by omega)
      have eu := revT_get vs t u (by omega)
      rw [if_neg (by omega)] at et eu
      obtain ⟨A1, n1, c1, e1⟩ := hsl t (by omega)
      obtain ⟨A2, n2, c2, e2⟩ := hsl u (by omega)
      rw [e1] at et
      rw [e2] at eu
      rw [et, eu] at hst
      rw [et] at ct
      rw [eu] at cu
      have ft := ho.frozenAt t
      have fu := ho.frozenAt u
      have HST := Lib.hid hst; have HO := Lib.hid ho; have HU := Lib.hid hu; have HTU := Lib.hid htu; have HSL := Lib.hid hsl
      have i1 : (t : Int) < (k : Int) := by omega
      have i2 : (u : Int) < (k : Int) := by omega
      have i3 : (t : Int) < (u : Int) := by omega
      have i4 : (u : Int) ≤ 1048576 := by omega
      clear hst ho hu et eu e1 e2 htu hl2 hsl
      go_wp2_with fail
      go_region
      all_goals
        go_wp2_with fail
        go_roundw
        case rel => exact ⟨t + 1, u - 1, by have := HTU.out; omega, by go_num, by congr 1; omega, by omega, by rw [← HST.out]; exact ((HO.out.stored t _).1.stored u _).1, ((HU.out.setCell (fun _ => rfl) _).setCell (fun _ => rfl) _).drew⟩
        case measure => simp [intOf]; omega
    · have he := revT_end vs t (by omega)
      rw [he] at ho
      have i3 : ¬ (t : Int) < (u : Int) := by omega
      have HO := Lib.hid ho; have HU := Lib.hid hu
      clear ho hu he
      go_wp2_with fail
      go_end0
      exact ⟨rfl, HO.out, HU.out⟩
set_option maxRecDepth 100000 in
set_option maxHeartbeats 2000000 in
theorem grow32_any (n : Nat) (hn : n ≤ 67108864) (w : World) : Calls Tryz.prog 105 #[.slice none 0 0, .int .i64 (n : Int)] w fun e w' => ∃ A c, e = .returned (.slice A 0 c) ∧ w'.ownsRow w.heap.size 45 1 (.slice A 0 c) 0 [] ∧ Below w.heap.size w w' := by
  by_cases h0 : n = 0
  · subst h0
    go_enter Tryz.func105, Tryz.ntmps105
    go_wp2
    go_ret
    exact ⟨none, 0, rfl, World.ownsRow_nil _ _ _ _, Below.refl _ _⟩
  · obtain ⟨i0, hi, hz0, hz1, hz2⟩ := info_parts info_u32
    have hold : (Builtin.firstCells i0.size 0 (.slice none 0 0)).run Tryz.prog w.drew = .ok ([] : List Value).toArray w.drew := run_firstCells_none w.drew i0.size 0 0 0
    have hrz := Lib.run_append_grow_zeros w 63 3 63 45 i0 (.int .u32 0) .i64 .i64 Tryz.underlying63 Tryz.underlying3 hi hz0 none 0 0 [] hold n (by omega) (by omega) (by omega) (by omega) (by rw [hz2]; omega) (growslice_fits (by omega) (by rw [hz2]; omega))
    have hGn : 0 + n ≤ grownCap w (0 + n) 0 45 := grownCap_ge w _ _ _
    have hGm := grownCap_le_maxLen w (0 + n) 0 45 (by unfold maxLen; omega)
    simp only [Nat.zero_add] at hrz hGn hGm
    have hz1' := hz1
    obtain ⟨G, hG⟩ : ∃ G, grownCap w n 0 45 = G := ⟨_, rfl⟩
    rw [hG] at hrz hGn hGm
    have hb : Below w.heap.size w (w.drew.alloc (.cells (([] : List Value).toArray ++ Builtin.zeroCells (Value.int .u32 0).cells n ++ Builtin.zeroCells (Value.int .u32 0).cells (G - n)) 45)) := ((Below.refl w.heap.size w).drew).alloc (Nat.le_refl _) _
    have ho : (w.drew.alloc (.cells (([] : List Value).toArray ++ Builtin.zeroCells (Value.int .u32 0).cells n ++ Builtin.zeroCells (Value.int .u32 0).cells (G - n)) 45)).ownsRow w.heap.size 45 1 (.slice (some ⟨w.heap.size, 0, none⟩) 0 G) 0 [] := by
      refine ⟨rfl, .inr ⟨w.heap.size, G, _, rfl, Nat.le_refl _, World.alloc_heap_new w.drew _, Nat.zero_le _, hGm, ?_, by simp⟩⟩
      simp [Builtin.zeroCells, Value.cells]
      omega
    have HB := Lib.hid hb; have HO := Lib.hid ho
    have i1 : ¬ ((n : Int) < 0) := by omega
    have i2 : (n : Int) > 0 := by omega
    have HRZ := Lib.hid hrz
    clear hb ho hold hrz hi hz0 hz1 hz1' hz2 hG
    go_enter Tryz.func105, Tryz.ntmps105
    go_wp2_with (at_builtin; refine Lib.wpList_append_run _ rfl _ _ _ _ rfl _ _ rfl rfl _ _ HRZ.out ?_)
    all_goals (go_ret; refine ⟨_, _, rfl, ?_, ?_⟩)
    · have h := HO.out
      simp only [Value.cells, List.toArray, Array.empty_append] at h
      exact h
    · have h := HB.out
      simp only [Value.cells, Array.empty_append] at h
      exact h
set_option maxRecDepth 100000 in
set_option maxHeartbeats 4000000 in
theorem concat32_any (w : World) (base g k c : Nat) (vs : List Value) (LL : List (List Nat)) (hk : 0 < k) (hk2 : k ≤ 1048576) (h : w.ownsRow base 63 1 (.slice (some ⟨g, 0, none⟩) k c) k vs) (hr : RwN w vs LL) (T : Nat) (hT : LL.flatten.length = T) (hT2 : T ≤ 67108864) :
    Calls Tryz.prog 67 #[.slice (some ⟨g, 0, none⟩) k c] w fun e w' => ∃ A' c', e = .returned (.slice A' T c') ∧ w'.ownsRow w.heap.size 45 1 (.slice A' T c') T (nV LL.flatten) ∧ Below w.heap.size w w' := by
  have hlen := own_len h
  have hLL := hr.1
  go_enter Tryz.func67, Tryz.ntmps67
  have HH := Lib.hid h; have HR := Lib.hid hr; have HT := Lib.hid hT
  have HL : Hid (LL.length = k) := Lib.hid (by rw [← hLL, hlen])
  clear h hr hT hLL
  go_wp2_with fail
  go_loopw [3, 11] (fun s i wr => ∃ j : Nat, j ≤ k ∧ i = .int .i64 (j : Int) ∧ s = .int .i64 (totN LL j : Nat) ∧ wr = w) (fun _ i _ => k - (intOf i).toNat)
  case atStart => exact ⟨0, Nat.zero_le _, rfl, rfl, rfl⟩
  case round =>
    obtain ⟨j, hj, rfl, rfl, rfl⟩ := hrel
    by_cases hjk : j < k
    · have hjl : j < LL.length := by rw [HL.out]; exact hjk
      obtain ⟨A, cj, ej, oj⟩ := HR.out.2 j (by omega) hjl
      have cj0 := HH.out.cellAt j (by omega)
      rw [List.getElem?_eq_getElem (by omega), ej] at cj0
      obtain ⟨st1, st2⟩ := totN_step LL j hjl
      have hle := totN_le LL (j + 1)
      have hT := HT.out
      rw [hT] at hle
      obtain ⟨n, hn⟩ : ∃ n, LL[j].length = n := ⟨_, rfl⟩
      rw [hn] at cj0 st1
      have i1 : (j : Int) < (k : Int) := by omega
      obtain ⟨Z, hZ⟩ : ∃ Z, totN LL j = Z := ⟨_, rfl⟩
      obtain ⟨Y, hY⟩ : ∃ Y, totN LL (j + 1) = Y := ⟨_, rfl⟩
      rw [hZ] at st1 ⊢
      rw [hY] at st1 hle
      have i2 : (Z : Int) ≤ 67108864 := by omega
      have i3 : (n : Int) ≤ 67108864 := by omega
      have i4 : ¬ ((Z : Int) + (n : Int) < 0) := by omega
      have HS := Lib.hid st1; have HY := Lib.hid hY
      clear st1 st2 oj ej hn hZ hY hT hle
      go_wp2_with fail
      go_roundw
      case rel => exact ⟨j + 1, by omega, by go_num, by rw [HY.out, HS.out]; go_num, by trivial⟩
      case measure => simp [intOf]; omega
    · obtain rfl : k = j := by omega
      have ht : totN LL k = T := by
        unfold totN
        rw [List.take_of_length_le (by rw [HL.out]; exact Nat.le_refl _)]
        exact HT.out
      rw [ht]
      clear ht
      go_wp2_with fail
      refine (grow32_any T hT2 wr).mono ?_
      rintro e w2 ⟨A2, c2, rfl, o2, hb2⟩
      have O2 := Lib.hid o2; have HB2 := Lib.hid hb2
      clear o2 hb2
      go_wp2_with fail
      obtain ⟨w0, rfl⟩ : ∃ x, x = wr := ⟨_, rfl⟩
      go_loopw [6, 27] (fun v i wq => ∃ j : Nat, j ≤ k ∧ i = .int .i64 (j : Int) ∧ ∃ A c, v = .slice A (totN LL j) c ∧ wq.ownsRow w0.heap.size 45 1 (.slice A (totN LL j) c) (totN LL j) (nV (LL.take j).flatten) ∧ Hid (Below w0.heap.size w0 wq)) (fun _ i _ => k - (intOf i).toNat)
      case atStart => exact ⟨0, Nat.zero_le _, rfl, A2, c2, rfl, by simpa [totN, nV] using O2.out, HB2⟩
      case round =>
        obtain ⟨j, hj, rfl, A, cc, rfl, ho, HBq⟩ := hrel
        by_cases hjk : j < k
        · have hjl : j < LL.length := by rw [HL.out]; exact hjk
          have hrq : RwN wr vs LL := HR.out.call HBq.out
          have hhq := own_upd HH.out (Upd.of_fresh HBq.out) (fun _ _ => id)
          obtain ⟨A, cj, ej, oj⟩ := hrq.2 j (by omega) hjl
          have cj0 := hhq.cellAt j (by omega)
          rw [List.getElem?_eq_getElem (by omega), ej] at cj0
          obtain ⟨st1, st2⟩ := totN_step LL j hjl
          have hle := totN_le LL (j + 1)
          have hT := HT.out
          rw [hT] at hle
          have hbs : Vs wr wr.heap.size A (nV LL[j]) := oj
          obtain ⟨n, hn⟩ : ∃ n, LL[j].length = n := ⟨_, rfl⟩
          rw [hn] at cj0 st1
          have hs1 := HBq.out.size
          obtain ⟨A9, c9, w9, hrun, o9, hg9⟩ := append32 w0.heap.size wr _ _ _ ho hs1 wr.heap.size A n cj LL[j] hn hbs (by omega) 63
          rw [← nV_append, ← st2, ← st1] at o9
          rw [← st1] at hrun
          have hb9 := HBq.out.grown hg9 hs1 (fun q hq => (ho.lt q hq).1)
          obtain ⟨Z, hZ⟩ : ∃ Z, totN LL j = Z := ⟨_, rfl⟩
          obtain ⟨Y, hY⟩ : ∃ Y, totN LL (j + 1) = Y := ⟨_, rfl⟩
          rw [hZ] at hrun ⊢
          rw [hY] at hrun o9
          have i1 : (j : Int) < (k : Int) := by omega
          have HY := Lib.hid hY; have HRN := Lib.hid hrun; have HO9 := Lib.hid o9; have HB9 := Lib.hid hb9
          clear st1 st2 oj ej hn hZ hY hT hle hbs hrun o9 hg9 hb9 ho hrq hhq
          go_wp2_with (at_builtin; refine wpList_append_run rfl (.tmp 31) (.tmp 32) _ rfl rfl rfl HRN.out ?_)
          go_roundw
          case rel => exact ⟨j + 1, by omega, by go_num, A9, c9, by rw [HY.out], by rw [HY.out]; exact HO9.out, HB9⟩
          case measure => simp [intOf]; omega
        · obtain rfl : k = j := by omega
          have e : (LL.take k).flatten = LL.flatten := by rw [List.take_of_length_le (by rw [HL.out]; exact Nat.le_refl _)]
          have ht : totN LL k = T := by
            unfold totN
            rw [e]
            exact HT.out
          rw [ht, e] at ho
          rw [ht]
          have HO := Lib.hid ho
          clear ht ho e
          go_wp2_with fail
          go_ret
          exact ⟨_, _, rfl, HO.out, HBq.out⟩
/-- The pieces of a list, as slices. -/
def pcsV (ad : Addr) (q k : Nat) : List Value := (List.range k).map fun j => .slice (some (ad.add (q * j))) q q
theorem pcsV_succ (ad : Addr) (q k : Nat) : pcsV ad q (k + 1) = pcsV ad q k ++ [.slice (some (ad.add (q * k))) q q] := by
  unfold pcsV
  rw [List.range_succ, List.map_append]
  rfl
theorem info_row32 : (Tryz.prog.info? 63).map (fun i => (i.zero, i.size, i.bytes)) = some (some (.slice none 0 0), 1, 24) := by kernel_rfl
/-- The world behind k pieces. -/
structure ApI (w : World) (bs bq : Nat) (sl : Value) (ad : Addr) (q k : Nat) (V : World) : Prop where
  b1 : Blk V bq 63 #[sl]
  b2 : Blk V (bq + 1) 3 #[.int .i64 (q : Nat)]
  row : ∃ A c, Blk V bs 112 #[.slice A k c] ∧ V.ownsRow w.heap.size 63 1 (.slice A k c) k (pcsV ad q k)
  bel : Below w.heap.size w V
  bsf : w.heap.size ≤ bs
theorem ApI.keep {w : World} {bs bq : Nat} {sl : Value} {ad : Addr} {q k : Nat} {V V' : World} (h : ApI w bs bq sl ad q k V) (u : Upd No V V') : ApI w bs bq sl ad q k V' := by
  obtain ⟨A, c, h1, h2⟩ := h.row
  exact ⟨h.b1.upd u id, h.b2.upd u id, ⟨A, c, h1.upd u id, own_upd h2 u (fun _ _ => id)⟩, h.bel.trans (u.fresh.mono h.bel.size), h.bsf⟩
theorem ApI.put {w : World} {bs bq : Nat} {sl : Value} {ad : Addr} {q k : Nat} {V : World} (h : ApI w bs bq sl ad q k V) {ll : Nat} {o : Obj} (hll : w.heap.size ≤ ll) (ho : V.heap[ll]? = some o) (hoc : o.isCells = false) (o' : Obj) : ApI w bs bq sl ad q k (V.putObj ll o') := by
  have u := upd_putObj (S := (· = ll)) V ll o' rfl
  obtain ⟨A, c, h1, h2⟩ := h.row
  exact ⟨h.b1.upd u (blk_ne_obj h.b1 ho hoc), h.b2.upd u (blk_ne_obj h.b2 ho hoc), ⟨A, c, h1.upd u (blk_ne_obj h1 ho hoc), own_put h2 ho hoc o'⟩, h.bel.trans (u.below h.bel.size (fun i hi e => by omega)), h.bsf⟩
set_option maxRecDepth 100000 in
set_option maxHeartbeats 4000000 in
theorem appendSeq_any (w : World) (bq q N m c : Nat) (ad : Addr) (hq : 1 ≤ q) (hm : q * N = m) (hmc : m ≤ c) (hmb : m ≤ 8000000) (hN : N ≤ 65536) (h1 : Blk w bq 63 #[.slice (some ad) m c]) (h2 : Blk w (bq + 1) 3 #[.int .i64 (q : Nat)]) :
    Calls Tryz.prog 103 #[.slice none 0 0, .func (.func 104) #[] #[.pointer (some ⟨bq, 0, none⟩), .pointer (some ⟨bq + 1, 0, none⟩)]] w fun e w' => ∃ A' c', e = .returned (.slice A' N c') ∧ w'.ownsRow w.heap.size 63 1 (.slice A' N c') N (pcsV ad q N) ∧ Below w.heap.size w w' := by
  refine (callsIn_wide (n := 3)).1 ?_
  refine callsIn_of_wp_marks Tryz.func103 rfl trivial ?_ rfl
  simp only [Tryz.ntmps103, List.size_toArray, List.length_cons, List.length_nil, Nat.reduceAdd, Nat.reduceSub, Array.replicate_succ, Array.replicate_zero, List.push_toArray, List.append_toArray, List.nil_append, List.cons_append]
  refine wpIn_wide.2 ?_
  have hst : ApI w w.heap.size bq (.slice (some ad) m c) ad q 0 (w.alloc (.cells #[.slice none 0 0] 112)) := by
    have u := (Upd.refl No w).alloc (.cells #[.slice none 0 0] 112)
    exact ⟨h1.upd u id, h2.upd u id, ⟨none, 0, Blk.new w _ _, World.ownsRow_nil _ _ _ _⟩, (Below.refl _ w).alloc (Nat.le_refl _) _, Nat.le_refl _⟩
  have HST := Lib.hid hst
  have hbq := h1.lt
  clear hst h1 h2
  go_wp2_with fail
  obtain ⟨w1, hw1⟩ : ∃ w1, w.alloc (.cells #[.slice none 0 0] 112) = w1 := ⟨_, rfl⟩
  rw [hw1] at HST ⊢
  clear hw1
  refine wpIn_wide.1 (wpIn_range_stop (α := Nat) (F := Fence.wide) (n := 3) rfl (by omega) (gf := 104) (lb := #[.pointer (some ⟨bq, 0, none⟩), .pointer (some ⟨bq + 1, 0, none⟩)]) rfl trivial (enters_of Tryz.func104 (by kernel_rfl) rfl) (pieceC ad q) N
    (fun k V => ApI w w.heap.size bq (.slice (some ad) m c) ad q k V) (fun k x _ => x = k) (fun _ _ => False)
    ?seq (fun _ => rfl) ?ia ?ip ?ep ?xp ?start ?a1 ?assign ?body ?done ?stop)
  case seq =>
    intro ll R Jx V hRb hY h0 hR
    exact chunk32_in (3 - 1) (by omega) ll bq q N m c ad hq hm hmc hmb _ R Jx (fun k V h => ⟨h.b1.cell 0, h.b2.cell 0⟩) (fun k V h => h.keep ((Upd.refl No V).drew)) (fun V h => hRb _ _ h ⟨rfl, rfl, rfl, Nat.le_refl _, fun _ _ => rfl⟩) (fun k V hk hi hr => hY k k V hk hi hr rfl) V h0 hR
  case ia => rintro k V o h; exact h.keep ((Upd.refl No V).alloc o)
  case ip => rintro k V ll o o' hll ho hoc h; exact h.put (by have := HST.out.bel.size; omega) ho hoc o'
  case ep => rintro k x V ll o o' _ _ _ h; exact h
  case xp => rintro j V ll o o' _ _ _ h; exact h
  case start => exact HST.out
  case assign =>
    intro ll x V K hK
    dsimp only [pieceC]
    have HK := Lib.hid hK
    clear hK
    gi_wp2
    exact HK.out
  case body =>
    rintro ll k k' V hk hI rfl
    obtain ⟨A, cr, b1, o1⟩ := hI.row
    have kb : V.cell? ⟨w.heap.size, 0, none⟩ = some (.slice A k' cr) := b1.cell 0
    obtain ⟨i0, hi, hz0, hz1, hz2⟩ := info_parts info_row32
    have hVs := hI.bel.size
    obtain ⟨A9, c9, w9, hrun, o9, hg9, _⟩ := run_append_vs (P := Tryz.prog) (V.alloc (.cells #[.slice (some (ad.add (q * k'))) q q] 63)) w.heap.size 112 112 63 i0 (.slice none 0 0) 24 Tryz.underlying112 hi hz0 hz1 hz2 rfl (.slice A k' cr) k' (pcsV ad q k')
      (own_upd o1 ((Upd.refl No V).alloc _) (fun _ _ => id)) (V.heap.size + 1) (some ⟨V.heap.size, 0, none⟩) 1 1 [.slice (some (ad.add (q * k'))) q q] rfl (vs_lit V 63 [.slice (some (ad.add (q * k'))) q q] (V.heap.size + 1) (by omega)) (by simp [Value.oneCell']) (by unfold maxLen; omega) (by omega) (by rw [World.size_alloc]; omega)
    rw [← pcsV_succ] at o9
    have u1 := (Upd.refl No V).alloc (.cells #[.slice (some (ad.add (q * k'))) q q] 63)
    have hk2 := hI.keep u1
    have o2 := own_upd o1 u1 (fun _ _ => id)
    have b2 := b1.upd u1 id
    have u9 : Upd (fun j => some j = (Value.slice A k' cr).ownBlock) (V.alloc (.cells #[.slice (some (ad.add (q * k'))) q q] 63)) w9 := (Upd.of_grown hg9).mono (fun j _ e => e)
    have us := (Upd.refl (· = w.heap.size) w9).setCell (p := ⟨w.heap.size, 0, none⟩) (fun _ => rfl) (.slice A9 (k' + 1) c9)
    have b9 := b2.upd u9 (fun e => own_blk_ne o2 b2 (by decide) e.symm)
    have k9 : w9.cell? ⟨w.heap.size, 0, none⟩ = some (.slice A k' cr) := b9.cell 0
    have kf := b9.frozen 0
    have hub : Below w.heap.size w w9 := hk2.bel.trans (u9.below hk2.bel.size (fun j hj e => by have := (o2.lt j e.symm).1; omega))
    have HG : Hid (KeepsOthers V (w9.setCell ⟨w.heap.size, 0, none⟩ (.slice A9 (k' + 1) c9)) ∧ ApI w w.heap.size bq (.slice (some ad) m c) ad q (k' + 1) (w9.setCell ⟨w.heap.size, 0, none⟩ (.slice A9 (k' + 1) c9))) := Lib.hid (by
      have c1 := hk2.b1.upd u9 (fun e => by have := (o2.lt bq e.symm).1; omega)
      have c2 := hk2.b2.upd u9 (fun e => own_blk_ne o2 hk2.b2 (by decide) e.symm)
      exact ⟨(KeepsOthers.alloc V _).trans ((keeps_row o2 hg9).trans (KeepsOthers.setCell w9 ⟨w.heap.size, 0, none⟩ _)), ⟨c1.upd us (c1.ne_ b9 (by decide)), c2.upd us (c2.ne_ b9 (by decide)), ⟨A9, c9, by simpa using b9.set_ 0 (.slice A9 (k' + 1) c9), own_upd o9 us (fun j hj e => own_blk_ne o9 b9 (by decide) (by rw [hj, e]))⟩, hub.trans (us.below hub.size (fun j hj e => by omega)), Nat.le_refl _⟩⟩)
    have HRN := Lib.hid hrun
    clear hrun o9 hg9 hk2 o2 b2 u9 us b9 hub u1 b1 o1 hI hi hz0 hz1 hz2 hVs
    gi_wp2_with (gi_at_builtin; refine wpListIn_append_run rfl (.tmp 8) (.tmp 10) _ rfl rfl rfl HRN.out ?_)
    exact HG.out
  case done =>
    rintro D V hD hI hK
    obtain ⟨A, cr, b1, o1⟩ := hI.row
    have kb : V.cell? ⟨w.heap.size, 0, none⟩ = some (.slice A N cr) := b1.cell 0
    have hw1 := HST.out.bel.size
    have u := upd_putObj (S := (· = D)) V D (.deferred none) rfl
    have HF : Hid ((V.putObj D (.deferred none)).ownsRow w.heap.size 63 1 (.slice A N cr) N (pcsV ad q N) ∧ Below w.heap.size w (V.putObj D (.deferred none))) := Lib.hid ⟨own_put o1 hK rfl _, hI.bel.trans (u.below hI.bel.size (fun i hi e => by omega))⟩
    have HK := Lib.hid hK
    clear o1 b1 hI hK u
    go_wp2_with fail
    refine ⟨by simp, .inl ⟨_, _, rfl, run_takeDeferred HK.out, ?_⟩⟩
    exact ⟨.slice A N cr, by simp [results, Tryz.results103, go_sem], A, cr, rfl, HF.out⟩
  case stop => rintro D j V hD h; exact h.elim
theorem collect_any (w : World) (bq q N m c : Nat) (ad : Addr) (hq : 1 ≤ q) (hm : q * N = m) (hmc : m ≤ c) (hmb : m ≤ 8000000) (hN : N ≤ 65536) (h1 : Blk w bq 63 #[.slice (some ad) m c]) (h2 : Blk w (bq + 1) 3 #[.int .i64 (q : Nat)]) :
    Calls Tryz.prog 64 #[.func (.func 104) #[] #[.pointer (some ⟨bq, 0, none⟩), .pointer (some ⟨bq + 1, 0, none⟩)]] w fun e w' => ∃ A' c', e = .returned (.slice A' N c') ∧ w'.ownsRow w.heap.size 63 1 (.slice A' N c') N (pcsV ad q N) ∧ Below w.heap.size w w' := by
  have HA := Lib.hid (appendSeq_any w bq q N m c ad hq hm hmc hmb hN h1 h2)
  clear h1 h2 hm
  go_enter Tryz.func64, Tryz.ntmps64
  go_wp2_with fail
  refine HA.out.mono ?_
  rintro e w1 ⟨A1, c1, rfl, o1, hb1⟩
  have HO := Lib.hid (And.intro o1 hb1)
  clear o1 hb1
  go_wp2_with fail
  go_ret
  exact ⟨_, _, rfl, HO.out⟩
end Go.Proofs.YtnfjeeflcfmpbaaGreatDoor
