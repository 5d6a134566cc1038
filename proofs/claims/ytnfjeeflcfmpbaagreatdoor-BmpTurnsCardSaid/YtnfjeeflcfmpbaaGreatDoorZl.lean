/- Joined texts (a claim has at most 60 files): Go Qq Zl. -/
import Derived.Test.YtnfjeeflcfmpbaaGreatDoorAs
import Derived.Deep.Strs
import Derived.Test.YtnfjeeflcfmpbaaGreatDoorQp
import Derived.Test.YtnfjeeflcfmpbaaGreatDoorZe
import Derived.Test.YtnfjeeflcfmpbaaGreatDoorTie
import Derived.Test.YtnfjeeflcfmpbaaGreatDoorCards
import Derived.ProofKit
import Derived.OpenShut
import Derived.ChangeOld
import Derived.SizedLaws
import Derived.LaidMore
import Derived.Lay
import Derived.SevenTiedAt
import Derived.JoinedCond
/- How the arguments of layer 7's statements are opened: a size with cells, two numbers, a rectangle. -/
namespace Go.Proofs.YtnfjeeflcfmpbaaGreatDoor
open Go.ChangeShapes Go.WideShapes Go.ChangeAt Go.RowKit

section
variable {H : Type} {enc : TypeId × Value → H} {W : World} {base : Nat} {v : Value} {d : DataW H} {p : List MemPlace}
set_option maxRecDepth 100000 in
theorem numbers_cells {fuel : Nat} {cs : List Value} {x : DataW H × List MemPlace} (hf : DataW.trod enc Tryz.prog W 0 (fun _ => true) true fuel 126 cs = some x) :
    ∃ A l c, cs = [.slice A l.length c] ∧ Is W W.heap.size A l ∧ (∀ x ∈ l, -9223372036854775808 ≤ x ∧ x ≤ 9223372036854775807) ∧ ((x.1 = .nil ∧ l = []) ∨ ∃ e s, x.1 = .slice e s ∧ l.length ≤ e.length + s.length) := by
  rcases open_ints Tryz.underlying126 Tryz.underlying3 cells_int hf with ⟨hcs, hx⟩ | ⟨x, l, c, zs, hcs, _, hl, hm, hz, hx, hcell, hwz⟩
  · subst hx
    exact ⟨none, [], 0, hcs, Vs.nil_, by simp, .inl ⟨rfl, rfl⟩⟩
  · subst hx
    have hzl : zs.length = c := by simpa using hz
    have hlen : (zs.take l).length = l := by simp; omega
    refine ⟨some x, zs.take l, c, by rw [hlen, hcs], ?_, fun y hy => bounds_i64 (hwz y (List.mem_of_mem_take hy)), .inr ⟨_, _, rfl, ?_⟩⟩
    · intro hpos
      rw [intsV_length, hlen] at hpos
      refine ⟨x, rfl, ?_, fun j hj => ?_⟩
      · have h0 := hcell 0 (by omega)
        have := block_lt_of_cell h0
        rwa [block_of_add] at this
      · have hj' : j < l := by rw [intsV_length, hlen] at hj; exact hj
        rw [hcell j (by omega), intsV_get]
        have hjz : j < zs.length := by omega
        have e : zs.getD j 0 = zs[j] := by simp [List.getD, hjz]
        rw [e]
        simp
    · rw [hlen]
      simp [lits]
      omega
end
theorem sized_part {H : Type} {P : Program} {ts : List TypeId} {ds : List (DataW H)} (h : (DataW.weightsEach P ts ds).all (· ≤ reachBytes) = true) {j : Nat} {t : TypeId} {fs : Array Field} {parts : List (DataW H)} (ht : ts[j]? = some t) (hd : ds[j]? = some (.agg parts)) (hu : P.underlying t = some (.struct fs)) :
    (DataW.weightsEach P (fs.toList.map (·.type)) parts).all (· ≤ reachBytes) = true := by
  rw [List.all_eq_true] at h ⊢
  intro n hn
  exact h n (DataW.weights_mem_each ht hd n (by simp only [DataW.weights, hu]; exact hn))
end Go.Proofs.YtnfjeeflcfmpbaaGreatDoor

/- How the arguments of layer 9's statements are opened: images, places, colours (rectangles: wip/grid's XGo). -/
namespace Go.Proofs.YtnfjeeflcfmpbaaGreatDoor
open Go.ChangeShapes Go.WideShapes Go.ChangeAt Go.RowKit

theorem bytes_u16 : Tryz.prog.bytesOf 42 = 2 := by kernel_rfl
section
variable {H : Type} {enc : TypeId × Value → H} {W : World} {base : Nat} {v : Value} {d : DataW H} {p : List MemPlace}
set_option maxRecDepth 100000 in
theorem samples_cells {fuel : Nat} {cs : List Value} {x : DataW H × List MemPlace} (hf : DataW.trod enc Tryz.prog W 0 (fun _ => true) true fuel 24 cs = some x) :
    ∃ A l c, cs = [.slice A l.length c] ∧ Us W W.heap.size A l ∧ (∀ x ∈ l, 0 ≤ x ∧ x ≤ 65535) ∧ ((x.1 = .nil ∧ l = []) ∨ ∃ e s, x.1 = .slice e s ∧ l.length ≤ e.length + s.length) := by
  rcases open_ints Tryz.underlying24 Tryz.underlying42 cells_u16 hf with ⟨hcs, hx⟩ | ⟨x, l, c, zs, hcs, _, hl, hm, hz, hx, hcell, hwz⟩
  · subst hx
    exact ⟨none, [], 0, hcs, Vs.nil_, by simp, .inl ⟨rfl, rfl⟩⟩
  · subst hx
    have hzl : zs.length = c := by simpa using hz
    have hlen : (zs.take l).length = l := by simp; omega
    refine ⟨some x, zs.take l, c, by rw [hlen, hcs], ?_, fun y hy => bounds_u16 (hwz y (List.mem_of_mem_take hy)), .inr ⟨_, _, rfl, ?_⟩⟩
    · intro hpos
      rw [usV_length, hlen] at hpos
      refine ⟨x, rfl, ?_, fun j hj => ?_⟩
      · have h0 := hcell 0 (by omega)
        have := block_lt_of_cell h0
        rwa [block_of_add] at this
      · have hj' : j < l := by rw [usV_length, hlen] at hj; exact hj
        rw [hcell j (by omega), usV_get]
        have hjz : j < zs.length := by omega
        have e : zs.getD j 0 = zs[j] := by simp [List.getD, hjz]
        rw [e]
        simp
    · rw [hlen]
      simp [lits]
      omega
set_option maxRecDepth 100000 in
theorem open_image (hv : Value.okWide Tryz.prog W .any base 26 v) (hj : DataW.Trod enc Tryz.prog W 0 (fun _ => true) true 26 v d p) :
    ∃ a b A l c, v = .agg #[.int .i64 a, .int .i64 b, .slice A l.length c] ∧ (-9223372036854775808 ≤ a ∧ a ≤ 9223372036854775807) ∧ (-9223372036854775808 ≤ b ∧ b ≤ 9223372036854775807) ∧ Us W W.heap.size A l ∧ (∀ x ∈ l, 0 ≤ x ∧ x ≤ 65535) ∧
      ∃ d0 d1 d2, d = .agg [d0, d1, d2] ∧ ((d2 = .nil ∧ l = []) ∨ ∃ e s, d2 = .slice e s ∧ l.length ≤ e.length + s.length) := by
  simp only [Value.okWide, Tryz.underlying26] at hv
  obtain ⟨cs, rfl, hsz, _⟩ := hv
  have h3 : Tryz.prog.cellsOf 26 = 3 := by kernel_rfl
  obtain ⟨c0, c1, c2, rfl⟩ : ∃ c0 c1 c2, cs = #[c0, c1, c2] := by
    have := hsz.trans h3
    obtain ⟨l⟩ := cs
    match l, this with
    | [a, b, c], _ => exact ⟨a, b, c, rfl⟩
  obtain ⟨fuel, hf⟩ := hj
  obtain ⟨y0, y1, y2, n, hx, _, h0, h1, h2⟩ := Go.Deep.trod_struct3 Tryz.underlying26 hf
  have s1 : Tryz.prog.cellsOf 24 = 1 := by kernel_rfl
  simp only [cells_int, s1, Value.cells, List.drop_zero, List.drop_succ_cons, List.take_succ_cons, List.take_zero] at h0 h1 h2
  obtain ⟨a, e0, _, wa⟩ := DataW.trod_int Tryz.underlying3 h0
  obtain ⟨b, e1, _, wb⟩ := DataW.trod_int Tryz.underlying3 h1
  obtain ⟨A, l, c, e2, hb, hk, hd⟩ := samples_cells h2
  simp only [List.cons.injEq, and_true] at e0 e1 e2
  subst e0 e1 e2
  simp only [Prod.mk.injEq] at hx
  exact ⟨a, b, A, l, c, rfl, bounds_i64 wa, bounds_i64 wb, hb, hk, _, _, _, hx.1, hd⟩
set_option maxRecDepth 100000 in
theorem open_point (hv : Value.okWide Tryz.prog W .any base 164 v) (hj : DataW.Trod enc Tryz.prog W 0 (fun _ => true) true 164 v d p) :
    ∃ a b : Int, v = .agg #[.int .i64 a, .int .i64 b] ∧ (-9223372036854775808 ≤ a ∧ a ≤ 9223372036854775807) ∧ (-9223372036854775808 ≤ b ∧ b ≤ 9223372036854775807) := by
  simp only [Value.okWide, Tryz.underlying164] at hv
  obtain ⟨cs, rfl, hsz, _⟩ := hv
  have h4 : Tryz.prog.cellsOf 164 = 2 := by kernel_rfl
  obtain ⟨c0, c1, rfl⟩ : ∃ c0 c1, cs = #[c0, c1] := by
    have := hsz.trans h4
    obtain ⟨l⟩ := cs
    match l, this with
    | [a, b], _ => exact ⟨a, b, rfl⟩
  obtain ⟨fuel, hf⟩ := hj
  obtain ⟨xs, n, _, _, _, hlen, hf⟩ := DataW.trod_struct Tryz.underlying164 hf
  have hl4 : xs.length = 2 := hlen
  have g : ∀ (i : Nat) (f : Field) (c : Value), f.type = 3 → ((#[c0, c1] : Array Value).toList.drop f.offset).take 1 = [c] → DataW.trod enc Tryz.prog W 0 (fun _ => true) true n f.type (((Value.agg #[c0, c1]).cells.toList.drop f.offset).take (Tryz.prog.cellsOf f.type)) = xs[i]? → i < 2 → ∃ y, DataW.trod enc Tryz.prog W 0 (fun _ => true) true n 3 [c] = some y := by
    intro i f c ht hd h hi
    rw [ht, cells_int, List.getElem?_eq_getElem (by omega)] at h
    refine ⟨xs[i], ?_⟩
    rw [← hd]
    exact h
  obtain ⟨y0, h0⟩ := g 0 _ c0 rfl rfl (hf 0 _ rfl) (by omega)
  obtain ⟨y1, h1⟩ := g 1 _ c1 rfl rfl (hf 1 _ rfl) (by omega)
  obtain ⟨a, e0, _, wa⟩ := DataW.trod_int Tryz.underlying3 h0
  obtain ⟨b, e1, _, wb⟩ := DataW.trod_int Tryz.underlying3 h1
  simp only [List.cons.injEq, and_true] at e0 e1
  subst e0 e1
  exact ⟨a, b, rfl, bounds_i64 wa, bounds_i64 wb⟩
set_option maxRecDepth 100000 in
theorem open_color (hv : Value.okWide Tryz.prog W .any base 49 v) (hj : DataW.Trod enc Tryz.prog W 0 (fun _ => true) true 49 v d p) :
    ∃ c : Col, v = .agg #[.int .u16 c.r, .int .u16 c.g, .int .u16 c.b, .int .u16 c.a] := by
  simp only [Value.okWide, Tryz.underlying49] at hv
  obtain ⟨cs, rfl, hsz, _⟩ := hv
  obtain ⟨c0, c1, c2, c3, rfl⟩ : ∃ c0 c1 c2 c3, cs = #[c0, c1, c2, c3] := by
    have := hsz.trans cells_color
    obtain ⟨l⟩ := cs
    match l, this with
    | [a, b, c, d], _ => exact ⟨a, b, c, d, rfl⟩
  obtain ⟨fuel, hf⟩ := hj
  obtain ⟨xs, n, _, _, _, hlen, hf⟩ := DataW.trod_struct Tryz.underlying49 hf
  have hl4 : xs.length = 4 := hlen
  have g : ∀ (i : Nat) (f : Field) (c : Value), f.type = 42 → ((#[c0, c1, c2, c3] : Array Value).toList.drop f.offset).take 1 = [c] → DataW.trod enc Tryz.prog W 0 (fun _ => true) true n f.type (((Value.agg #[c0, c1, c2, c3]).cells.toList.drop f.offset).take (Tryz.prog.cellsOf f.type)) = xs[i]? → i < 4 → ∃ y, DataW.trod enc Tryz.prog W 0 (fun _ => true) true n 42 [c] = some y := by
    intro i f c ht hd h hi
    rw [ht, cells_u16, List.getElem?_eq_getElem (by omega)] at h
    refine ⟨xs[i], ?_⟩
    rw [← hd]
    exact h
  obtain ⟨y0, h0⟩ := g 0 _ c0 rfl rfl (hf 0 _ rfl) (by omega)
  obtain ⟨y1, h1⟩ := g 1 _ c1 rfl rfl (hf 1 _ rfl) (by omega)
  obtain ⟨y2, h2⟩ := g 2 _ c2 rfl rfl (hf 2 _ rfl) (by omega)
  obtain ⟨y3, h3⟩ := g 3 _ c3 rfl rfl (hf 3 _ rfl) (by omega)
  obtain ⟨a, e0, _, wa⟩ := DataW.trod_int Tryz.underlying42 h0
  obtain ⟨b, e1, _, wb⟩ := DataW.trod_int Tryz.underlying42 h1
  obtain ⟨c, e2, _, wc⟩ := DataW.trod_int Tryz.underlying42 h2
  obtain ⟨e, e3, _, we⟩ := DataW.trod_int Tryz.underlying42 h3
  simp only [List.cons.injEq, and_true] at e0 e1 e2 e3
  subst e0 e1 e2 e3
  exact ⟨⟨a, b, c, e⟩, rfl⟩
end
end Go.Proofs.YtnfjeeflcfmpbaaGreatDoor

/- The base of the tied cards of layer 11: the listed table's cells. -/
set_option linter.unusedVariables false
set_option linter.unusedSimpArgs false
namespace Go.Proofs.YtnfjeeflcfmpbaaGreatDoor
open Go.ChangeShapes Go.WideShapes Go.ChangeAt Go.RowKit

theorem cells_u8' : Tryz.prog.cellsOf 5 = 1 := by kernel_rfl
def laidL : List (String × DataW Unit) := [("math/bits.deBruijn32tab", Rows.laid_math_bits_deBruijn32tab)]
theorem tab_of_laid {W : World} (h : laidMetH Tryz.prog laidL W) : Tab32 W ∧ 0 < W.heap.size := by
  rw [MakeChecks.laidMetH_plain _ _ _ (by kernel_rfl)] at h
  obtain ⟨ps, ⟨g, t, cs, fuel, p, q, hg, ht, hv, hd, _, _⟩, _, _⟩ := h
  obtain rfl := Option.some.inj ((show Tryz.prog.globalNamed "math/bits.deBruijn32tab" = some 0 by kernel_rfl).symm.trans hg)
  obtain rfl := Option.some.inj ((show (Tryz.prog.globals[0]?).map (·.type) = some 190 by kernel_rfl).symm.trans ht)
  obtain ⟨xs, m, _, ex, _, hl, hel⟩ := DataW.trod_array Tryz.underlying190 hd
  have cI : Tryz.prog.cellsOf 5 = 1 := by kernel_rfl
  have e3 : (xs.map (·.1)) = Lib.deBruijn32tab.map fun n => .lit (.int .u8 (n : Nat)) := (DataW.agg.inj (Prod.mk.inj ex).1).symm
  have key : Tab32 W := fun r hr => by
    have hE := hel r hr
    rw [cI, Nat.mul_one, List.getElem?_eq_getElem (by rw [hl]; exact hr)] at hE
    obtain ⟨z, e1, e2, _⟩ := DataW.trod_int Tryz.underlying5 hE
    have e4 : (xs.map (·.1))[r]? = (Lib.deBruijn32tab.map fun n => (DataW.lit (.int .u8 (n : Nat)) : DataW Unit))[r]? := by rw [e3]
    rw [List.getElem?_map, List.getElem?_map, List.getElem?_eq_getElem (by rw [hl]; exact hr), List.getElem?_eq_getElem hr, e2] at e4
    have hz : z = ((Lib.deBruijn32tab.getD r 0 : Nat) : Int) := by
      simp only [Option.map_some, Option.some.injEq, DataW.lit.injEq, Lit.int.injEq, true_and] at e4
      rw [e4, List.getD, List.getElem?_eq_getElem hr]; rfl
    rw [World.var?_cell hg hv r, ← hz]
    have : cs.toList[r]? = some (.int .u8 z) := by
      have h0 : ((cs.toList.drop r).take 1)[0]? = some (.int .u8 z) := by rw [e1]; rfl
      simpa using h0
    simpa using this
  exact ⟨key, block_lt_of_cell (key 0 (by decide))⟩
theorem laid_shaped (os : Os) (args : Array Value) : ((World.laidAll Tryz.prog os laidL).forCall (fun _ _ => 0) ⟨#[], args, []⟩).Shaped Tryz.prog := World.shaped_of_ZipB (by kernel_rfl) (by kernel_rfl)
theorem laid_met (os : Os) (args : Array Value) : laidMetH Tryz.prog laidL ((World.laidAll Tryz.prog os laidL).forCall (fun _ _ => 0) ⟨#[], args, []⟩).memory := by
  rw [MakeChecks.laidMetH_plain _ _ _ (by kernel_rfl)]
  exact laidMet_laidAll _ (by kernel_rfl) (by kernel_rfl)
end Go.Proofs.YtnfjeeflcfmpbaaGreatDoor
