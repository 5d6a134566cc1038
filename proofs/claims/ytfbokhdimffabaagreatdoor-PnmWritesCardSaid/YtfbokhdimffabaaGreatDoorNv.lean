/- The document's Encode, walked: the rows, one contract for all kinds. -/
import Derived.Test.YtfbokhdimffabaaGreatDoorNu
import Derived.Test.YtfbokhdimffabaaGreatDoorNt
set_option linter.unusedVariables false
set_option linter.unusedSimpArgs false
namespace Go.Proofs.YtfbokhdimffabaaGreatDoor
open Go.ChangeShapes Go.WideShapes Go.ChangeAt Go.RowKit Go.Sort

theorem bytesV_eq (l : List UInt8) : bytesV l = Lib.byteCells l := rfl
/-- A row of a file. -/
def RowQ (k top : Nat) (row : List Int) (q : List UInt8) : Prop := (kTx k = true → q = digD 0 row ++ [10]) ∧ (kTx k = false → Packed true (rowBt k top row) q)
/-- The first rows of a file. -/
def RowsQ (k top W : Nat) (L : List Col) (y : Nat) (p : List UInt8) : Prop := (kTx k = true → p = txtD k top W L y) ∧ (kTx k = false → Packed true (bitT k top W L y) p)
theorem bitT_mod (k top W : Nat) (L : List Col) : ∀ y, (bitT k top W L y).length % 8 = 0
  | 0 => rfl
  | y + 1 => by rw [bitT, padP_length]; omega
theorem RowsQ.step {k top W y : Nat} {L : List Col} {p q : List UInt8} (h : RowsQ k top W L y p) (hq : RowQ k top (rowM k top (rowL W L y)) q) : RowsQ k top W L (y + 1) (p ++ q) := by
  refine ⟨fun ht => ?_, fun ht => ?_⟩
  · rw [h.1 ht, hq.1 ht, txtD]
  · rw [bitT, padP_app (bitT_mod k top W L y)]
    exact packed_append (h.2 ht) (bitT_mod k top W L y) (padP_packed (hq.2 ht))
theorem RowsQ.file {k top W H : Nat} {L : List Col} {p : List UInt8} (h : RowsQ k top W L H p) : FileN k top W H L ((lnS k k W H (topN k top : Nat)).data.toList ++ p) := by
  cases ht : kTx k with
  | true => exact .inl ⟨ht, by rw [h.1 ht]⟩
  | false => exact .inr ⟨ht, p, h.2 ht, rfl⟩
theorem RwG.addr {w : World} {base n c : Nat} {A : Option Addr} {xs : List Value} (h : RwG w base (.slice A n c) n xs) (hn : 0 < n) : ∃ g, A = some ⟨g, 0, none⟩ := by
  rcases h with h | ⟨_, g, cap, h2, _⟩
  · obtain ⟨g, rfl, _⟩ := row_form h hn
    exact ⟨g, rfl⟩
  · injection h2 with h2
    exact ⟨g, h2⟩
theorem RwG.appG {w : World} {base n b2 m cp : Nat} {v : Value} {Ap : Option Addr} {xs : List Value} {q : List UInt8} (h : RwG w base v n xs) (hbase : base ≤ w.heap.size) (ho : RwG w b2 (.slice Ap m cp) m (Lib.byteCells q)) (hm : 0 < m) (hlim : n + m ≤ 140737488355328) :
    ∃ A' c' w', (Builtin.append_ #[22, 22] 22 #[v, .slice Ap m cp]).run Tryz.prog w = .ok (.slice A' (n + m) c') w' ∧ RwG w' base (.slice A' (n + m) c') (n + m) (xs ++ Lib.byteCells q) ∧ Upd (fun k => some k = v.ownBlock) w w' := by
  obtain ⟨g, rfl⟩ := ho.addr hm
  exact h.app hbase ⟨g, 0, none⟩ m cp (Lib.byteCells q) ho.len (fun j u hu => by rw [Lib.add_plain, Nat.zero_add]; exact ho.cells (g := g) rfl j u hu) (by intro u hu; obtain ⟨b, _, rfl⟩ := List.mem_map.1 hu; rfl) hlim 22
theorem refRow_any (k top : Nat) (hk1 : 1 ≤ k) (hk6 : k ≤ 6) (h1 : 1 ≤ top) (h2 : top ≤ 65535) (r o c n W H Y : Nat) (l : List Int) (hn : l.length = n) (hn4 : n = 4 * (W * H)) (hf : W * H ≤ 65536) (hlb : ∀ v ∈ l, 0 ≤ v ∧ v ≤ 65535) (hW1 : 1 ≤ W) (hW : W ≤ 4096) (hY : Y < H) (hH : H ≤ 4096) (w : World) (h : Smp w r o l) (hr : r < w.heap.size) (hT : Pow10 w) :
    Calls Tryz.prog 33 #[imgV W H (some ⟨r, o, none⟩) n c, .int .i64 (Y : Nat), .int .i64 (k : Nat), .int .i64 (top : Nat)] w fun e w' => ∃ A' c' q, e = .returned (.slice A' q.length c') ∧ RowQ k top (rowM k top (rowL W (pxL l (W * H)) Y)) q ∧ 0 < q.length ∧ q.length ≤ 300000 ∧ RwG w' w.heap.size (.slice A' q.length c') q.length (Lib.byteCells q) ∧ Below w.heap.size w w' := by
  have hLl : (rowL W (pxL l (W * H)) Y).length = W := rowL_length (pxL_length l (W * H)) hY
  have hml : (rowM k top (rowL W (pxL l (W * H)) Y)).length = plN k * W := by rw [rowM_length, hLl]
  have hpl := plN_le k
  have hm1 : 1 ≤ plN k * W := Nat.mul_pos hpl.1 hW1
  have hm2 : plN k * W ≤ 3 * 4096 := Nat.mul_le_mul hpl.2 hW
  have hd : ∀ j, 0 ≤ l.getD j 0 ∧ l.getD j 0 ≤ 65535 := fun j => by
    by_cases hj : j < l.length
    · rw [List.getD_eq_getElem?_getD, List.getElem?_eq_getElem hj]; exact hlb _ (List.getElem_mem hj)
    · rw [List.getD_eq_getElem?_getD, List.getElem?_eq_none (by omega)]; simp
  have hbd : ∀ v ∈ rowM k top (rowL W (pxL l (W * H)) Y), v ≤ 65535 := fun v hv => (rowM_bd k top (by unfold topN; split <;> omega) (by unfold topN; split <;> omega) _ (fun x hx => by
    have hx3 := List.mem_of_mem_drop (List.mem_of_mem_take hx)
    obtain ⟨i, hi, rfl⟩ := List.mem_iff_getElem.1 hx3
    rw [pxL_length] at hi
    have := pxL_get l (W * H) i hi
    rw [List.getD_eq_getElem?_getD, List.getElem?_eq_getElem (by rw [pxL_length]; exact hi), Option.getD_some] at this
    rw [this]
    exact ⟨hd _, hd _, hd _⟩) v hv).2
  by_cases h3 : k ≤ 3
  · have ht : kTx k = true := decide_eq_true h3
    refine (refRowT_any k top hk1 h3 h1 h2 r o c n W H Y l hn hn4 hf hlb hW hY hH w h hr hT).mono ?_
    rintro e w' ⟨A', n', c', rfl, hg, hb⟩
    have hl := hg.len
    rw [Lib.byteCells_length] at hl
    have hd2 := digD_len (rowM k top (rowL W (pxL l (W * H)) Y)) 0 hbd
    refine ⟨A', c', digD 0 (rowM k top (rowL W (pxL l (W * H)) Y)) ++ [10], by rw [hl], ⟨fun _ => rfl, fun hf => by rw [ht] at hf; cases hf⟩, by simp, by rw [List.length_append, List.length_singleton]; omega, by rw [hl]; exact hg, hb⟩
  · have ht : kTx k = false := decide_eq_false h3
    by_cases h4 : k = 4
    · subst h4
      refine (refRow4_any top h1 h2 r o c n W H Y l hn hn4 hf hlb hW hY hH w h hr).mono ?_
      rintro e w' ⟨A', lp, c', rfl, hp, ho, hb⟩
      have hl := hp.1
      rw [rowBt_length, hml] at hl
      have hdl := depN_le 4 top
      have hm3 : 1 ≤ depN 4 top * (plN 4 * W) := Nat.mul_pos hdl.1 hm1
      have hm4 : depN 4 top * (plN 4 * W) ≤ 16 * (3 * 4096) := Nat.mul_le_mul hdl.2 hm2
      exact ⟨A', c', lp, rfl, ⟨fun hf => (by rw [ht] at hf; cases hf), fun _ => hp⟩, by omega, by omega, .inl ho, hb⟩
    · refine (refRowB_any k top (by omega) hk6 h1 h2 r o c n W H Y l hn hn4 hf hlb hW hY hH w h hr hT).mono ?_
      rintro e w' ⟨A', n', c', rfl, hg, hb⟩
      have hgr : kGr k = true := by unfold kGr; rw [decide_eq_true_eq]; omega
      have hl := hg.len
      rw [Lib.byteCells_length] at hl
      have hp : Packed true (rowBt k top (rowM k top (rowL W (pxL l (W * H)) Y))) (bytD top (rowM k top (rowL W (pxL l (W * H)) Y))) := by
        rw [rowBt_bytes k top hgr]
        exact packedH_bytes _
      have hl2 := hp.1
      rw [rowBt_length, hml] at hl2
      have hdl := depN_le k top
      have hm3 : 1 ≤ depN k top * (plN k * W) := Nat.mul_pos hdl.1 hm1
      have hm4 : depN k top * (plN k * W) ≤ 16 * (3 * 4096) := Nat.mul_le_mul hdl.2 hm2
      exact ⟨A', c', _, by rw [hl], ⟨fun hf => (by rw [ht] at hf; cases hf), fun _ => hp⟩, by omega, by omega, by rw [hl]; exact hg, hb⟩
end Go.Proofs.YtfbokhdimffabaaGreatDoor
