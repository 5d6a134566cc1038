/- Lists of colours as rows of the call's own: cells, one more at the end. -/
import Derived.Test.YtibgjklfbfahfaaTme
import Derived.Test.YtibgjklfbfahfaaAr
import Derived.Deep.AppendLies
namespace Go.Proofs.Ytibgjklfbfahfaa
open Go.ChangeShapes Go.WideShapes Go.ChangeAt Go.RowKit

def colL (c : Col) : List Value := [.int .u16 c.r, .int .u16 c.g, .int .u16 c.b, .int .u16 c.a]
def colsV : List Col → List Value
  | [] => []
  | c :: r => colL c ++ colsV r
theorem colsV_length (l : List Col) : (colsV l).length = l.length * 4 := by
  induction l with
  | nil => rfl
  | cons x r ih => simp [colsV, colL, ih]; omega
theorem colsV_append (a b : List Col) : colsV (a ++ b) = colsV a ++ colsV b := by
  induction a with
  | nil => rfl
  | cons x r ih => simp [colsV, ih]
theorem colsV_get (l : List Col) (k : Nat) (h : k < l.length) : (colsV l)[k * 4]? = some (.int .u16 l[k].r) ∧ (colsV l)[k * 4 + 1]? = some (.int .u16 l[k].g) ∧ (colsV l)[k * 4 + 2]? = some (.int .u16 l[k].b) ∧ (colsV l)[k * 4 + 3]? = some (.int .u16 l[k].a) := by
  induction l generalizing k with
  | nil => simp at h
  | cons x r ih =>
    cases k with
    | zero => exact ⟨rfl, rfl, rfl, rfl⟩
    | succ k =>
      have := ih k (by simpa using h)
      rw [show (k + 1) * 4 = k * 4 + 1 + 1 + 1 + 1 by omega]
      exact this
theorem colsV_one (l : List Col) : ∀ u ∈ colsV l, u.oneCell' = true := by
  induction l with
  | nil => intro u hu; cases hu
  | cons x r ih =>
    intro u hu
    simp only [colsV, colL, List.cons_append, List.nil_append, List.mem_cons] at hu
    rcases hu with rfl | rfl | rfl | rfl | hu
    · rfl
    · rfl
    · rfl
    · rfl
    · exact ih u hu
theorem add_off (b off j : Nat) : (⟨b, off, none⟩ : Addr).add j = ⟨b, off + j, none⟩ := by unfold Addr.add; split <;> simp_all
theorem Cs.vs {w : World} {B : Nat} {A : Option Addr} {l : List Col} (h : Cs w B A l) : Vs w B A (colsV l) := fun hn => by
  rw [colsV_length] at hn
  obtain ⟨b, off, e, hb, hc⟩ := h (by omega)
  refine ⟨_, e, hb, fun j hj => ?_⟩
  have hj' := hj
  rw [colsV_length] at hj'
  obtain ⟨c0, c1, c2, c3⟩ := hc (j / 4) (by omega)
  obtain ⟨g0, g1, g2, g3⟩ := colsV_get l (j / 4) (by omega)
  rw [add_off]
  have hm : j = j / 4 * 4 ∨ j = j / 4 * 4 + 1 ∨ j = j / 4 * 4 + 2 ∨ j = j / 4 * 4 + 3 := by omega
  have fin : ∀ {i : Nat} {v : Value}, j = i → (colsV l)[i]? = some v → w.cell? ⟨b, off + i, none⟩ = some v → w.cell? ⟨b, off + j, none⟩ = some (colsV l)[j] := by
    intro i v e h1 h2
    subst e
    rw [h2, ← h1, List.getElem?_eq_getElem hj]
  rcases hm with h | h | h | h
  · exact fin h g0 c0
  · exact fin h g1 (by rw [← Nat.add_assoc]; exact c1)
  · exact fin h g2 (by rw [← Nat.add_assoc]; exact c2)
  · exact fin h g3 (by rw [← Nat.add_assoc]; exact c3)
/-- A row of the call's own that isn't empty. -/
theorem crow_form {w : World} {base : Nat} {e : TypeId} {A : Option Addr} {n c : Nat} {xs : List Value} (h : w.ownsRow base e 4 (.slice A n c) n xs) (hn : 0 < n) : ∃ g, A = some ⟨g, 0, none⟩ ∧ n ≤ c ∧ c ≤ maxLen ∧ base ≤ g ∧ g < w.heap.size := by
  have hc : n ≤ c ∧ c ≤ maxLen := by
    rcases h.2 with ⟨h1, rfl⟩ | ⟨g, cap, cur, h1, _, _, h2, h3, _⟩
    · omega
    · injection h1 with _ _ h; subst h; exact ⟨h2, h3⟩
  obtain ⟨g, cap, hv, h3, h4⟩ := h.form hn
  injection hv with hA _ _
  exact ⟨g, hA, hc.1, hc.2, h3, h4⟩
theorem crow_cell {w : World} {base g n c : Nat} {e : TypeId} {xs : List Value} (h : w.ownsRow base e 4 (.slice (some ⟨g, 0, none⟩) n c) n xs) (j : Nat) (u : Value) (hu : xs[j]? = some u) : w.cell? ⟨g, j, none⟩ = some u := by
  have := h.cells (g := g) rfl j u hu
  rwa [add_off, Nat.zero_add] at this
theorem Cs.of_own {w : World} {base g n c : Nat} {e : TypeId} {l : List Col} {r : List Value} (h : w.ownsRow base e 4 (.slice (some ⟨g, 0, none⟩) n c) n (colsV l ++ r)) (hg : g < w.heap.size) : Cs w w.heap.size (some ⟨g, 0, none⟩) l := fun _ => by
  refine ⟨g, 0, rfl, hg, fun j hj => ?_⟩
  obtain ⟨g0, g1, g2, g3⟩ := colsV_get l j hj
  have hlen := colsV_length l
  have q : ∀ {i : Nat} {v : Value}, (colsV l)[i]? = some v → (colsV l ++ r)[i]? = some v := fun {i v} h => by
    have := (List.getElem?_eq_some_iff.1 h).1
    rw [List.getElem?_append_left this]; exact h
  simp only [Nat.zero_add]
  exact ⟨crow_cell h _ _ (q g0), crow_cell h _ _ (q g1), crow_cell h _ _ (q g2), crow_cell h _ _ (q g3)⟩
theorem info_col : (Try.prog.info? 36).map (fun i => (i.zero, i.size, i.bytes)) = some (some (.agg #[.int .u16 0, .int .u16 0, .int .u16 0, .int .u16 0]), 4, 8) := by kernel_rfl
/-- append of colours, from whatever slice, to a row of the call's own. -/
theorem append_cols (base : Nat) (w : World) (v : Value) (n : Nat) (xs : List Value) (h : w.ownsRow base 36 4 v n xs) (hbase : base ≤ w.heap.size) (B : Nat) (A : Option Addr) (m c : Nat) (l : List Col) (hm : l.length = m) (hl : Cs w B A l)
    (h47 : (n + m) * 8 ≤ 140737488355328) (ty : TypeId) :
    ∃ A' c' w', (Builtin.append_ #[46, 46] ty #[v, .slice A m c]).run Try.prog w = .ok (.slice A' (n + m) c') w' ∧
      w'.ownsRow base 36 4 (.slice A' (n + m) c') (n + m) (xs ++ colsV l) ∧ w.grownBy w' v.ownBlock := by
  obtain ⟨i0, hi, hz0, hz1, hz2⟩ := info_parts info_col
  rcases A with _ | ad
  · have h0 : l = [] := by
      rcases Nat.eq_zero_or_pos l.length with h0 | h0
      · exact List.eq_nil_of_length_eq_zero h0
      · obtain ⟨_, _, h, _⟩ := hl h0
        cases h
    subst h0
    obtain rfl : m = 0 := hm.symm
    have hrun : (Builtin.append_ #[46, 46] ty #[v, .slice none 0 c]).run Try.prog w = .ok v w := by
      rcases h.2 with ⟨rfl, rfl⟩ | ⟨g, cap, cur, rfl, _, _, hnc, _⟩
      · simp [Builtin.append_, run_underlying Try.underlying46, sizeOf, typeInfo, hi, Builtin.lenOf, Builtin.firstCells]
      · simp [Builtin.append_, run_underlying Try.underlying46, sizeOf, typeInfo, hi, Builtin.lenOf, Builtin.firstCells, hnc, storeCells]
    have hf : ∃ A' c', v = .slice A' n c' := by
      rcases h.2 with ⟨rfl, h0⟩ | ⟨g, cap, cur, rfl, _⟩
      · exact ⟨none, 0, by rw [h0]⟩
      · exact ⟨_, _, rfl⟩
    obtain ⟨A', c', rfl⟩ := hf
    exact ⟨A', c', w, hrun, by simpa [colsV] using h, World.grownBy.refl w _⟩
  · obtain ⟨A', c', w', hrun, h2, h3, _⟩ := run_append_vn (P := Try.prog) w base 46 ty 36 i0 _ 4 8 Try.underlying46 hi hz0 hz1 hz2 rfl (by omega) v n xs h B ad m c (colsV l) (by rw [colsV_length, hm]) hl.vs (colsV_one l) (by unfold maxLen; omega) h47 hbase
    exact ⟨A', c', w', hrun, h2, h3⟩
end Go.Proofs.Ytibgjklfbfahfaa
