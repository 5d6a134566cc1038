/- Joined texts (a claim has at most 60 files): Qi Qj. -/
import Derived.Test.YtfbokhdimffabaaGreatDoorQh
import Derived.Laws.CopyOwn
import Derived.Shelf.Bits.Mul64
/- slices.Repeat of four samples; Fill, the program's. -/
namespace Go.Proofs.YtfbokhdimffabaaGreatDoor
open Go.ChangeShapes Go.WideShapes Go.ChangeAt Go.RowKit

theorem cell_of_heap {w : World} {g : Nat} {cur : List Value} {t : TypeId} (h : w.heap[g]? = some (.cells cur.toArray t (0, 0))) (j : Nat) : w.cell? ⟨g, j, none⟩ = cur[j]? := by
  have := cell_of_row w g j cur.toArray t (0, 0) h
  simpa using this
theorem info_u16_size : (Tryz.prog.info? 42).map (·.size) = some 1 := by kernel_rfl
/-- Four samples, M times. -/
def fillL (q : List Int) (M : Nat) : List Int := (List.range (4 * M)).map fun j => q.getD (j % 4) 0
theorem fillL_length (q : List Int) (M : Nat) : (fillL q M).length = 4 * M := by simp [fillL]
theorem fillL_succ (q : List Int) (M : Nat) (hq : q.length = 4) : fillL q (M + 1) = fillL q M ++ q := by
  have e : q = [q.getD 0 0, q.getD 1 0, q.getD 2 0, q.getD 3 0] := by
    match q, hq with
    | [a, b, c, d], _ => rfl
  have h0 : (4 * M) % 4 = 0 := by omega
  have h1 : (4 * M + 1) % 4 = 1 := by omega
  have h2 : (4 * M + 2) % 4 = 2 := by omega
  have h3 : (4 * M + 3) % 4 = 3 := by omega
  conv => rhs; rhs; rw [e]
  unfold fillL
  rw [show 4 * (M + 1) = 4 * M + 1 + 1 + 1 + 1 by omega, List.range_succ, List.range_succ, List.range_succ, List.range_succ]
  simp only [List.map_append, List.map_cons, List.map_nil, List.append_assoc, List.cons_append, List.nil_append]
  rw [h0, h1, show 4 * M + 1 + 1 = 4 * M + 2 by omega, show 4 * M + 2 + 1 = 4 * M + 3 by omega, h2, h3]
/-- The block's first p cells are the four samples, again and again. -/
def Filled (w : World) (g C p : Nat) (q : List Int) : Prop := ∃ cur : List Value, w.heap[g]? = some (.cells cur.toArray 42 (0, 0)) ∧ cur.length = C ∧ p % 4 = 0 ∧ ∀ j, j < p → cur[j]? = some (.int .u16 (q.getD (j % 4) 0))
/-- The first k cells of that. -/
def patV (q : List Int) (k : Nat) : List Value := (List.range k).map fun j => .int .u16 (q.getD (j % 4) 0)
theorem patV_length (q : List Int) (k : Nat) : (patV q k).length = k := by simp [patV]
theorem patV_get (q : List Int) (k j : Nat) (h : j < k) : (patV q k)[j]? = some (.int .u16 (q.getD (j % 4) 0)) := by simp [patV, h]
theorem patV_one (q : List Int) (k : Nat) : ∀ v ∈ patV q k, v.oneCell' = true := by
  intro v hv
  obtain ⟨j, _, rfl⟩ := List.mem_map.1 hv
  rfl
theorem Filled.more {w' : World} {g C p k : Nat} {q : List Int} {cur : List Value} (hc : cur.length = C) (h4 : p % 4 = 0) (hk4 : (p + k) % 4 = 0) (hp : ∀ j, j < p → cur[j]? = some (.int .u16 (q.getD (j % 4) 0))) (hpk : p + k ≤ C) (h : w'.heap[g]? = some (.cells (splice cur p (patV q k)).toArray 42 (0, 0))) : Filled w' g C (p + k) q := by
  refine ⟨_, h, by rw [length_splice _ _ _ (by rw [patV_length]; omega)]; exact hc, hk4, fun j hj => ?_⟩
  unfold splice
  by_cases h1 : j < p
  · rw [List.getElem?_append_left (by rw [List.length_take]; omega), List.getElem?_take_of_lt h1]
    exact hp j h1
  · rw [List.getElem?_append_right (by rw [List.length_take]; omega), List.length_take, List.getElem?_append_left (by rw [patV_length]; omega)]
    rw [Nat.min_eq_left (by omega), patV_get q k (j - p) (by omega), show (j - p) % 4 = j % 4 by omega]
theorem Filled.own {w w' : World} {C : Nat} {q : List Int} {M : Nat} (h : Filled w' w.heap.size C (4 * M) q) (hC : C = 4 * M) (hm : C ≤ maxLen) : w'.ownsRow w.heap.size 42 1 (.slice (some ⟨w.heap.size, 0, none⟩) (4 * M) (4 * M)) (4 * M) (usV (fillL q M)) := by
  obtain ⟨cur, hg, hl, _, hc⟩ := h
  have e : cur = usV (fillL q M) := by
    apply List.ext_getElem?
    intro j
    by_cases hj : j < 4 * M
    · rw [hc j hj]
      simp [usV, fillL, hj]
    · rw [List.getElem?_eq_none (by omega), List.getElem?_eq_none (by rw [usV_length, fillL_length]; omega)]
  rw [e] at hg
  exact ⟨by rw [usV_length, fillL_length]; omega, .inr ⟨_, 4 * M, _, rfl, Nat.le_refl _, hg, Nat.le_refl _, by omega, by simp [usV_length, fillL_length], by rw [List.take_of_length_le (by simp [usV_length, fillL_length])]⟩⟩
end Go.Proofs.YtfbokhdimffabaaGreatDoor

/- Fill, the program's. -/
namespace Go.Proofs.YtfbokhdimffabaaGreatDoor
open Go.ChangeShapes Go.WideShapes Go.ChangeAt Go.RowKit

/-- An image that is answered, and an error. -/
structure IRes where
  W : Int
  H : Int
  E : Int
  l : List Int
def ImR (w : World) (r : IRes) (e : Ending) (w' : World) : Prop := ∃ A' c', e = .returned (.tuple #[imgV r.W r.H A' r.l.length c', .int .i64 r.E]) ∧ w'.ownsRow w.heap.size 42 1 (.slice A' r.l.length c') r.l.length (usV r.l) ∧ Below w.heap.size w w'
def errI (E : Int) : IRes := ⟨0, 0, E, []⟩
def colQ (x : Col) : List Int := [x.r, x.g, x.b, x.a]
def fillI (W H : Int) (x : Col) : IRes := if mayB W H = true then ⟨W, H, 0, fillL (colQ x) (W * H).toNat⟩ else errI 4
theorem ImR.err {w w' : World} {E : Int} (hb : Below w.heap.size w w') : ImR w (errI E) (.returned (.tuple #[imgV 0 0 none 0 0, .int .i64 E])) w' :=
  ⟨none, 0, rfl, ⟨rfl, .inl ⟨rfl, rfl⟩⟩, hb⟩
theorem IB.put {w : World} {g : Nat} {x y z : Value} (h : IB w g x y z) (x' y' z' : Value) (B : Nat) (hB : B ≤ g) : IB (((w.setCell ⟨g, 0, none⟩ x').setCell ⟨g, 1, none⟩ y').setCell ⟨g, 2, none⟩ z') g x' y' z' ∧
    Below B w (((w.setCell ⟨g, 0, none⟩ x').setCell ⟨g, 1, none⟩ y').setCell ⟨g, 2, none⟩ z') ∧ Upd (· = g) w (((w.setCell ⟨g, 0, none⟩ x').setCell ⟨g, 1, none⟩ y').setCell ⟨g, 2, none⟩ z') :=
  ⟨IB.of (set3 h.blk _ _ _), (set3_upd w g _ _ _).below (by have := h.blk.lt; omega) (fun k hk e => by omega), set3_upd w g _ _ _⟩
theorem own_other {w w' : World} {base g : Nat} {e t : TypeId} {cs : Array Value} {A : Option Addr} {n c : Nat} {xs : List Value} (h : w.ownsRow base e 1 (.slice A n c) n xs) (hg : Blk w g t cs) (hne : e ≠ t) (u : Upd (· = g) w w') : w'.ownsRow base e 1 (.slice A n c) n xs :=
  own_upd h u (fun k hk e => own_blk_ne h hg hne (by rw [← e]; exact hk))
end Go.Proofs.YtfbokhdimffabaaGreatDoor
