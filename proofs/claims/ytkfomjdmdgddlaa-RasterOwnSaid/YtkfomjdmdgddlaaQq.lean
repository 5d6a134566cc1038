/- How the arguments of layer 9's statements are opened: images, places, colours (rectangles: wip/grid's XGo). -/
import Derived.Test.YtkfomjdmdgddlaaGo
import Derived.Test.YtkfomjdmdgddlaaQp
import Derived.Deep.Strs
namespace Go.Proofs.Ytkfomjdmdgddlaa
open Go.ChangeShapes Go.WideShapes Go.ChangeAt Go.RowKit

theorem bytes_u16 : Try.prog.bytesOf 28 = 2 := by kernel_rfl
section
variable {H : Type} {enc : TypeId × Value → H} {W : World} {base : Nat} {v : Value} {d : DataW H} {p : List MemPlace}
set_option maxRecDepth 100000 in
theorem samples_cells {fuel : Nat} {cs : List Value} {x : DataW H × List MemPlace} (hf : DataW.trod enc Try.prog W 0 (fun _ => true) true fuel 22 cs = some x) :
    ∃ A l c, cs = [.slice A l.length c] ∧ Us W W.heap.size A l ∧ (∀ x ∈ l, 0 ≤ x ∧ x ≤ 65535) ∧ ((x.1 = .nil ∧ l = []) ∨ ∃ e s, x.1 = .slice e s ∧ l.length ≤ e.length + s.length) := by
  rcases open_ints Try.underlying22 Try.underlying28 cells_u16 hf with ⟨hcs, hx⟩ | ⟨x, l, c, zs, hcs, _, hl, hm, hz, hx, hcell, hwz⟩
  · subst hx
    exact ⟨none, [], 0, hcs, Vs.nil_, by simp, .inl ⟨rfl, rfl⟩⟩
  · subst hx
    have hzl : zs.length = c := by simpa using hz
    have hlen : (zs.take l).length = l := by simp; omega
    refine ⟨some x, zs.take l, c, by rw [hlen, hcs], ?_, fun y hy => bounds_u16 (hwz y (List.mem_of_mem_take hy)), .inr ⟨_, _, rfl, ?_⟩⟩
    · intro hpos
      rw [usV_length, hlen] at hpos
      refine ⟨x, rfl, ?_, fun j hj => ?_⟩
      · have h0 := hcell 0 (by omega)
        have := block_lt_of_cell h0
        rwa [block_of_add] at this
      · have hj' : j < l := by rw [usV_length, hlen] at hj; exact hj
        rw [hcell j (by omega), usV_get]
        have hjz : j < zs.length := by omega
        have e : zs.getD j 0 = zs[j] := by simp [List.getD, hjz]
        rw [e]
        simp
    · rw [hlen]
      simp [lits]
      omega
set_option maxRecDepth 100000 in
theorem open_image (hv : Value.okWide Try.prog W .any base 24 v) (hj : DataW.Trod enc Try.prog W 0 (fun _ => true) true 24 v d p) :
    ∃ a b A l c, v = .agg #[.int .i64 a, .int .i64 b, .slice A l.length c] ∧ (-9223372036854775808 ≤ a ∧ a ≤ 9223372036854775807) ∧ (-9223372036854775808 ≤ b ∧ b ≤ 9223372036854775807) ∧ Us W W.heap.size A l ∧ (∀ x ∈ l, 0 ≤ x ∧ x ≤ 65535) ∧
      ∃ d0 d1 d2, d = .agg [d0, d1, d2] ∧ ((d2 = .nil ∧ l = []) ∨ ∃ e s, d2 = .slice e s ∧ l.length ≤ e.length + s.length) := by
  simp only [Value.okWide, Try.underlying24] at hv
  obtain ⟨cs, rfl, hsz, _⟩ := hv
  have h3 : Try.prog.cellsOf 24 = 3 := by kernel_rfl
  obtain ⟨c0, c1, c2, rfl⟩ : ∃ c0 c1 c2, cs = #[c0, c1, c2] := by
    have := hsz.trans h3
    obtain ⟨l⟩ := cs
    match l, this with
    | [a, b, c], _ => exact ⟨a, b, c, rfl⟩
  obtain ⟨fuel, hf⟩ := hj
  obtain ⟨y0, y1, y2, n, hx, _, h0, h1, h2⟩ := Go.Deep.trod_struct3 Try.underlying24 hf
  have s1 : Try.prog.cellsOf 22 = 1 := by kernel_rfl
  simp only [cells_int, s1, Value.cells, List.drop_zero, List.drop_succ_cons, List.take_succ_cons, List.take_zero] at h0 h1 h2
  obtain ⟨a, e0, _, wa⟩ := DataW.trod_int Try.underlying3 h0
  obtain ⟨b, e1, _, wb⟩ := DataW.trod_int Try.underlying3 h1
  obtain ⟨A, l, c, e2, hb, hk, hd⟩ := samples_cells h2
  simp only [List.cons.injEq, and_true] at e0 e1 e2
  subst e0 e1 e2
  simp only [Prod.mk.injEq] at hx
  exact ⟨a, b, A, l, c, rfl, bounds_i64 wa, bounds_i64 wb, hb, hk, _, _, _, hx.1, hd⟩
set_option maxRecDepth 100000 in
theorem open_point (hv : Value.okWide Try.prog W .any base 26 v) (hj : DataW.Trod enc Try.prog W 0 (fun _ => true) true 26 v d p) :
    ∃ a b : Int, v = .agg #[.int .i64 a, .int .i64 b] ∧ (-9223372036854775808 ≤ a ∧ a ≤ 9223372036854775807) ∧ (-9223372036854775808 ≤ b ∧ b ≤ 9223372036854775807) := by
  simp only [Value.okWide, Try.underlying26] at hv
  obtain ⟨cs, rfl, hsz, _⟩ := hv
  have h4 : Try.prog.cellsOf 26 = 2 := by kernel_rfl
  obtain ⟨c0, c1, rfl⟩ : ∃ c0 c1, cs = #[c0, c1] := by
    have := hsz.trans h4
    obtain ⟨l⟩ := cs
    match l, this with
    | [a, b], _ => exact ⟨a, b, rfl⟩
  obtain ⟨fuel, hf⟩ := hj
  obtain ⟨xs, n, _, _, _, hlen, hf⟩ := DataW.trod_struct Try.underlying26 hf
  have hl4 : xs.length = 2 := hlen
  have g : ∀ (i : Nat) (f : Field) (c : Value), f.type = 3 → ((#[c0, c1] : Array Value).toList.drop f.offset).take 1 = [c] → DataW.trod enc Try.prog W 0 (fun _ => true) true n f.type (((Value.agg #[c0, c1]).cells.toList.drop f.offset).take (Try.prog.cellsOf f.type)) = xs[i]? → i < 2 → ∃ y, DataW.trod enc Try.prog W 0 (fun _ => true) true n 3 [c] = some y := by
    intro i f c ht hd h hi
    rw [ht, cells_int, List.getElem?_eq_getElem (by omega)] at h
    refine ⟨xs[i], ?_⟩
    rw [← hd]
    exact h
  obtain ⟨y0, h0⟩ := g 0 _ c0 rfl rfl (hf 0 _ rfl) (by omega)
  obtain ⟨y1, h1⟩ := g 1 _ c1 rfl rfl (hf 1 _ rfl) (by omega)
  obtain ⟨a, e0, _, wa⟩ := DataW.trod_int Try.underlying3 h0
  obtain ⟨b, e1, _, wb⟩ := DataW.trod_int Try.underlying3 h1
  simp only [List.cons.injEq, and_true] at e0 e1
  subst e0 e1
  exact ⟨a, b, rfl, bounds_i64 wa, bounds_i64 wb⟩
set_option maxRecDepth 100000 in
theorem open_color (hv : Value.okWide Try.prog W .any base 30 v) (hj : DataW.Trod enc Try.prog W 0 (fun _ => true) true 30 v d p) :
    ∃ c : Col, v = .agg #[.int .u16 c.r, .int .u16 c.g, .int .u16 c.b, .int .u16 c.a] := by
  simp only [Value.okWide, Try.underlying30] at hv
  obtain ⟨cs, rfl, hsz, _⟩ := hv
  obtain ⟨c0, c1, c2, c3, rfl⟩ : ∃ c0 c1 c2 c3, cs = #[c0, c1, c2, c3] := by
    have := hsz.trans cells_color
    obtain ⟨l⟩ := cs
    match l, this with
    | [a, b, c, d], _ => exact ⟨a, b, c, d, rfl⟩
  obtain ⟨fuel, hf⟩ := hj
  obtain ⟨xs, n, _, _, _, hlen, hf⟩ := DataW.trod_struct Try.underlying30 hf
  have hl4 : xs.length = 4 := hlen
  have g : ∀ (i : Nat) (f : Field) (c : Value), f.type = 28 → ((#[c0, c1, c2, c3] : Array Value).toList.drop f.offset).take 1 = [c] → DataW.trod enc Try.prog W 0 (fun _ => true) true n f.type (((Value.agg #[c0, c1, c2, c3]).cells.toList.drop f.offset).take (Try.prog.cellsOf f.type)) = xs[i]? → i < 4 → ∃ y, DataW.trod enc Try.prog W 0 (fun _ => true) true n 28 [c] = some y := by
    intro i f c ht hd h hi
    rw [ht, cells_u16, List.getElem?_eq_getElem (by omega)] at h
    refine ⟨xs[i], ?_⟩
    rw [← hd]
    exact h
  obtain ⟨y0, h0⟩ := g 0 _ c0 rfl rfl (hf 0 _ rfl) (by omega)
  obtain ⟨y1, h1⟩ := g 1 _ c1 rfl rfl (hf 1 _ rfl) (by omega)
  obtain ⟨y2, h2⟩ := g 2 _ c2 rfl rfl (hf 2 _ rfl) (by omega)
  obtain ⟨y3, h3⟩ := g 3 _ c3 rfl rfl (hf 3 _ rfl) (by omega)
  obtain ⟨a, e0, _, wa⟩ := DataW.trod_int Try.underlying28 h0
  obtain ⟨b, e1, _, wb⟩ := DataW.trod_int Try.underlying28 h1
  obtain ⟨c, e2, _, wc⟩ := DataW.trod_int Try.underlying28 h2
  obtain ⟨e, e3, _, we⟩ := DataW.trod_int Try.underlying28 h3
  simp only [List.cons.injEq, and_true] at e0 e1 e2 e3
  subst e0 e1 e2 e3
  exact ⟨⟨a, b, c, e⟩, rfl⟩
end
end Go.Proofs.Ytkfomjdmdgddlaa
