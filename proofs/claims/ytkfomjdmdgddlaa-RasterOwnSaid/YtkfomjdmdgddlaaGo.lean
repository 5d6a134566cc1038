/- How the arguments of layer 7's statements are opened: a size with cells, two numbers, a rectangle. -/
import Derived.Test.YtkfomjdmdgddlaaOp
import Derived.Deep.Strs
namespace Go.Proofs.Ytkfomjdmdgddlaa
open Go.ChangeShapes Go.WideShapes Go.ChangeAt Go.RowKit

section
variable {H : Type} {enc : TypeId × Value → H} {W : World} {base : Nat} {v : Value} {d : DataW H} {p : List MemPlace}
set_option maxRecDepth 100000 in
theorem open_rect (hv : Value.okWide Try.prog W .any base 44 v) (hj : DataW.Trod enc Try.prog W 0 (fun _ => true) true 44 v d p) :
    ∃ a b c e : Int, v = .agg #[.int .i64 a, .int .i64 b, .int .i64 c, .int .i64 e] ∧ (-9223372036854775808 ≤ a ∧ a ≤ 9223372036854775807) ∧ (-9223372036854775808 ≤ b ∧ b ≤ 9223372036854775807) ∧ (-9223372036854775808 ≤ c ∧ c ≤ 9223372036854775807) ∧ (-9223372036854775808 ≤ e ∧ e ≤ 9223372036854775807) := by
  simp only [Value.okWide, Try.underlying44] at hv
  obtain ⟨cs, rfl, hsz, _⟩ := hv
  have h4 : Try.prog.cellsOf 44 = 4 := by kernel_rfl
  obtain ⟨c0, c1, c2, c3, rfl⟩ : ∃ c0 c1 c2 c3, cs = #[c0, c1, c2, c3] := by
    have := hsz.trans h4
    obtain ⟨l⟩ := cs
    match l, this with
    | [a, b, c, d], _ => exact ⟨a, b, c, d, rfl⟩
  obtain ⟨fuel, hf⟩ := hj
  obtain ⟨xs, n, _, _, _, hlen, hf⟩ := DataW.trod_struct Try.underlying44 hf
  have hl4 : xs.length = 4 := hlen
  have g : ∀ (i : Nat) (f : Field) (c : Value), f.type = 3 → ((#[c0, c1, c2, c3] : Array Value).toList.drop f.offset).take 1 = [c] → DataW.trod enc Try.prog W 0 (fun _ => true) true n f.type (((Value.agg #[c0, c1, c2, c3]).cells.toList.drop f.offset).take (Try.prog.cellsOf f.type)) = xs[i]? → i < 4 → ∃ y, DataW.trod enc Try.prog W 0 (fun _ => true) true n 3 [c] = some y := by
    intro i f c ht hd h hi
    rw [ht, cells_int, List.getElem?_eq_getElem (by omega)] at h
    refine ⟨xs[i], ?_⟩
    rw [← hd]
    exact h
  obtain ⟨y0, h0⟩ := g 0 _ c0 rfl rfl (hf 0 _ rfl) (by omega)
  obtain ⟨y1, h1⟩ := g 1 _ c1 rfl rfl (hf 1 _ rfl) (by omega)
  obtain ⟨y2, h2⟩ := g 2 _ c2 rfl rfl (hf 2 _ rfl) (by omega)
  obtain ⟨y3, h3⟩ := g 3 _ c3 rfl rfl (hf 3 _ rfl) (by omega)
  obtain ⟨a, e0, _, wa⟩ := DataW.trod_int Try.underlying3 h0
  obtain ⟨b, e1, _, wb⟩ := DataW.trod_int Try.underlying3 h1
  obtain ⟨c, e2, _, wc⟩ := DataW.trod_int Try.underlying3 h2
  obtain ⟨e, e3, _, we⟩ := DataW.trod_int Try.underlying3 h3
  simp only [List.cons.injEq, and_true] at e0 e1 e2 e3
  subst e0 e1 e2 e3
  exact ⟨a, b, c, e, rfl, bounds_i64 wa, bounds_i64 wb, bounds_i64 wc, bounds_i64 we⟩
end
theorem sized_part {H : Type} {P : Program} {ts : List TypeId} {ds : List (DataW H)} (h : (DataW.weightsEach P ts ds).all (· ≤ reachBytes) = true) {j : Nat} {t : TypeId} {fs : Array Field} {parts : List (DataW H)} (ht : ts[j]? = some t) (hd : ds[j]? = some (.agg parts)) (hu : P.underlying t = some (.struct fs)) :
    (DataW.weightsEach P (fs.toList.map (·.type)) parts).all (· ≤ reachBytes) = true := by
  rw [List.all_eq_true] at h ⊢
  intro n hn
  exact h n (DataW.weights_mem_each ht hd n (by simp only [DataW.weights, hu]; exact hn))
end Go.Proofs.Ytkfomjdmdgddlaa
