/- How the arguments of layer 8's statements are opened: three numbers, three bytes, a colour, a list of colours. -/
import Derived.Test.YtibgjklfbfahfaaOp
import Derived.Test.YtibgjklfbfahfaaTme
import Derived.Laws.IdiomArrays
import Derived.Lib.SmallJoins
import Derived.Deep.Strs
namespace Go.Proofs.Ytibgjklfbfahfaa
open Go.ChangeShapes Go.WideShapes Go.ChangeAt Go.RowKit

theorem cells_u16 : Try.prog.cellsOf 22 = 1 := by kernel_rfl
theorem cells_col : Try.prog.cellsOf 36 = 4 := by kernel_rfl
theorem bytes_col : Try.prog.bytesOf 36 = 8 := by kernel_rfl
theorem list_of {α : Type} {P : Nat → α → Prop} : ∀ n : Nat, (∀ i, i < n → ∃ x, P i x) → ∃ l : List α, l.length = n ∧ ∀ (i : Nat) (h : i < l.length), P i l[i]
  | 0, _ => ⟨[], rfl, fun _ h => absurd h (by simp)⟩
  | n + 1, h => by
    obtain ⟨l, hl, hp⟩ := list_of n fun i hi => h i (by omega)
    obtain ⟨x, hx⟩ := h n (by omega)
    refine ⟨l ++ [x], by simp [hl], fun i hi => ?_⟩
    rw [List.length_append] at hi
    by_cases h2 : i < l.length
    · rw [List.getElem_append_left h2]; exact hp i h2
    · have e : i = l.length := by simp at hi; omega
      subst e
      rw [List.getElem_append_right (Nat.le_refl _)]
      simp only [Nat.sub_self, List.getElem_cons_zero]
      rw [hl]; exact hx
section
variable {H : Type} {enc : TypeId × Value → H} {W : World} {base : Nat} {v : Value} {d : DataW H} {p : List MemPlace}
theorem open_three (hv : Value.okWide Try.prog W .any base 39 v) (hj : DataW.Trod enc Try.prog W 0 (fun _ => true) true 39 v d p) :
    ∃ a b c : Int, v = .agg #[.int .i64 a, .int .i64 b, .int .i64 c] ∧ (-9223372036854775808 ≤ a ∧ a ≤ 9223372036854775807) ∧ (-9223372036854775808 ≤ b ∧ b ≤ 9223372036854775807) ∧ (-9223372036854775808 ≤ c ∧ c ≤ 9223372036854775807) := by
  simp only [Value.okWide, Try.underlying39] at hv
  obtain ⟨cs, rfl, hsz, _⟩ := hv
  have h3 : Try.prog.cellsOf 39 = 3 := by kernel_rfl
  obtain ⟨c0, c1, c2, rfl⟩ := Joins.array3 (hsz.trans h3)
  obtain ⟨fuel, hf⟩ := hj
  obtain ⟨y0, y1, y2, n, _, h0, h1, h2⟩ := trod_array3 Try.underlying39 (by kernel_rfl) hf
  obtain ⟨a, e0, _, wa⟩ := DataW.trod_int Try.underlying3 h0
  obtain ⟨b, e1, _, wb⟩ := DataW.trod_int Try.underlying3 h1
  obtain ⟨c, e2, _, wc⟩ := DataW.trod_int Try.underlying3 h2
  simp at e0 e1 e2
  subst e0 e1 e2
  exact ⟨a, b, c, rfl, bounds_i64 wa, bounds_i64 wb, bounds_i64 wc⟩
theorem open_three_b (hv : Value.okWide Try.prog W .any base 43 v) (hj : DataW.Trod enc Try.prog W 0 (fun _ => true) true 43 v d p) :
    ∃ a b c : Int, v = .agg #[.int .u8 a, .int .u8 b, .int .u8 c] ∧ (0 ≤ a ∧ a ≤ 255) ∧ (0 ≤ b ∧ b ≤ 255) ∧ (0 ≤ c ∧ c ≤ 255) := by
  simp only [Value.okWide, Try.underlying43] at hv
  obtain ⟨cs, rfl, hsz, _⟩ := hv
  have h3 : Try.prog.cellsOf 43 = 3 := by kernel_rfl
  obtain ⟨c0, c1, c2, rfl⟩ := Joins.array3 (hsz.trans h3)
  obtain ⟨fuel, hf⟩ := hj
  obtain ⟨y0, y1, y2, n, _, h0, h1, h2⟩ := trod_array3 Try.underlying43 (by kernel_rfl) hf
  obtain ⟨a, e0, _, wa⟩ := DataW.trod_int Try.underlying5 h0
  obtain ⟨b, e1, _, wb⟩ := DataW.trod_int Try.underlying5 h1
  obtain ⟨c, e2, _, wc⟩ := DataW.trod_int Try.underlying5 h2
  simp at e0 e1 e2
  subst e0 e1 e2
  exact ⟨a, b, c, rfl, bounds_u8 wa, bounds_u8 wb, bounds_u8 wc⟩
set_option maxRecDepth 100000 in
/-- Four cells that read as a colour. -/
theorem color_cells {fuel : Nat} {cs : List Value} {x : DataW H × List MemPlace} (hl : cs.length = 4) (hf : DataW.trod enc Try.prog W 0 (fun _ => true) true fuel 36 cs = some x) :
    ∃ c : Col, cs = [.int .u16 c.r, .int .u16 c.g, .int .u16 c.b, .int .u16 c.a] := by
  obtain ⟨c0, c1, c2, c3, rfl⟩ : ∃ c0 c1 c2 c3, cs = [c0, c1, c2, c3] := by
    match cs, hl with
    | [a, b, c, d], _ => exact ⟨a, b, c, d, rfl⟩
  obtain ⟨xs, n, _, _, _, hlen, hf⟩ := DataW.trod_struct Try.underlying36 hf
  have hl4 : xs.length = 4 := hlen
  have g : ∀ (i : Nat) (f : Field) (c : Value), f.type = 22 → ([c0, c1, c2, c3].drop f.offset).take 1 = [c] → DataW.trod enc Try.prog W 0 (fun _ => true) true n f.type (([c0, c1, c2, c3].drop f.offset).take (Try.prog.cellsOf f.type)) = xs[i]? → i < 4 → ∃ y, DataW.trod enc Try.prog W 0 (fun _ => true) true n 22 [c] = some y := by
    intro i f c ht hd h hi
    rw [ht, cells_u16, List.getElem?_eq_getElem (by omega)] at h
    refine ⟨xs[i], ?_⟩
    rw [← hd]
    exact h
  obtain ⟨y0, h0⟩ := g 0 _ c0 rfl rfl (hf 0 _ rfl) (by omega)
  obtain ⟨y1, h1⟩ := g 1 _ c1 rfl rfl (hf 1 _ rfl) (by omega)
  obtain ⟨y2, h2⟩ := g 2 _ c2 rfl rfl (hf 2 _ rfl) (by omega)
  obtain ⟨y3, h3⟩ := g 3 _ c3 rfl rfl (hf 3 _ rfl) (by omega)
  obtain ⟨a, e0, _, wa⟩ := DataW.trod_int Try.underlying22 h0
  obtain ⟨b, e1, _, wb⟩ := DataW.trod_int Try.underlying22 h1
  obtain ⟨c, e2, _, wc⟩ := DataW.trod_int Try.underlying22 h2
  obtain ⟨e, e3, _, we⟩ := DataW.trod_int Try.underlying22 h3
  simp only [List.cons.injEq, and_true] at e0 e1 e2 e3
  subst e0 e1 e2 e3
  exact ⟨⟨a, b, c, e, bounds_u16 wa, bounds_u16 wb, bounds_u16 wc, bounds_u16 we⟩, rfl⟩
theorem open_color (hv : Value.okWide Try.prog W .any base 36 v) (hj : DataW.Trod enc Try.prog W 0 (fun _ => true) true 36 v d p) :
    ∃ c : Col, v = .agg #[.int .u16 c.r, .int .u16 c.g, .int .u16 c.b, .int .u16 c.a] := by
  simp only [Value.okWide, Try.underlying36] at hv
  obtain ⟨cs, rfl, hsz, _⟩ := hv
  obtain ⟨fuel, hf⟩ := hj
  obtain ⟨c, hc⟩ := color_cells (by rw [Value.cells]; exact hsz.trans cells_col) hf
  exact ⟨c, by congr 1; apply Array.toList_inj.1; exact hc⟩
set_option maxRecDepth 100000 in
theorem open_colors (hv : Value.okWide Try.prog W .any base 46 v) (hj : DataW.Trod enc Try.prog W 0 (fun _ => true) true 46 v d p) :
    ∃ A l c, v = .slice A l.length c ∧ Cs W W.heap.size A l ∧ ((d = .nil ∧ l = []) ∨ ∃ e s, d = .slice e s ∧ l.length ≤ e.length + s.length) := by
  obtain ⟨a0, len0, cap0, rfl⟩ := okWide_slice Try.underlying46 hv
  obtain ⟨fuel, hf⟩ := hj
  rcases DataW.trod_slice Try.underlying46 hf with ⟨hcs, hx⟩ | ⟨x, l, c, elems, rest, n, _, hcs, hx, _, hl, hm, hlen, hel, _, _⟩
  · simp [Value.cells] at hcs
    obtain ⟨rfl, rfl, rfl⟩ := hcs
    simp only [Prod.mk.injEq] at hx
    exact ⟨none, [], 0, rfl, Cs.nil_, .inl ⟨hx.1, rfl⟩⟩
  · simp [Value.cells] at hcs
    obtain ⟨rfl, rfl, rfl⟩ := hcs
    simp only [Prod.mk.injEq] at hx
    obtain ⟨b, off, spot⟩ := x
    have each : ∀ i, i < len0 → ∃ c : Col, W.cell? (((⟨b, off, spot⟩ : Addr).add (i * 4)).add 0) = some (.int .u16 c.r) ∧ W.cell? (((⟨b, off, spot⟩ : Addr).add (i * 4)).add 1) = some (.int .u16 c.g) ∧ W.cell? (((⟨b, off, spot⟩ : Addr).add (i * 4)).add 2) = some (.int .u16 c.b) ∧ W.cell? (((⟨b, off, spot⟩ : Addr).add (i * 4)).add 3) = some (.int .u16 c.a) := by
      intro i hi
      have h1 := hel i hi
      rw [cells_col, List.getElem?_eq_getElem (by omega)] at h1
      obtain ⟨cs, hcs, ht⟩ := Option.bind_eq_some_iff.mp h1
      obtain ⟨_, hl4, hc⟩ := World.cells?_some hcs
      obtain ⟨c, rfl⟩ := color_cells hl4 ht
      exact ⟨c, by simpa using hc 0 (by omega), by simpa using hc 1 (by omega), by simpa using hc 2 (by omega), by simpa using hc 3 (by omega)⟩
    by_cases h0 : len0 = 0
    · subst h0
      exact ⟨some ⟨b, off, spot⟩, [], cap0, rfl, Cs.nil_, .inr ⟨_, _, hx.1, by simp⟩⟩
    · obtain ⟨z0, hz, _⟩ := each 0 (by omega)
      have hspot : spot = none := by
        have := World.cell?_spot hz
        simpa [Addr.add] using this
      have hblk : b < W.heap.size := by
        have := block_lt_of_cell hz
        simpa [Addr.add] using this
      subst hspot
      obtain ⟨L, hL, hP⟩ := list_of len0 each
      subst hL
      refine ⟨some ⟨b, off, none⟩, L, cap0, rfl, fun _ => ⟨b, off, rfl, hblk, fun j hj => ?_⟩, .inr ⟨_, _, hx.1, by simp only [List.length_map]; omega⟩⟩
      have h4 := hP j hj
      have ee : ∀ k, ((⟨b, off, none⟩ : Addr).add (j * 4)).add k = ⟨b, off + j * 4 + k, none⟩ := fun k => by
        rw [add_of_add]; unfold Addr.add; split <;> simp_all [Nat.add_assoc]
      rw [ee, ee, ee, ee] at h4
      exact h4
end
end Go.Proofs.Ytibgjklfbfahfaa
