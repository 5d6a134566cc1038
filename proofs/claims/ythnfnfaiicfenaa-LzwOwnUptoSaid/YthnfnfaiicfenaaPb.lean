/- The packer's state: the writer of bits, the strings that have codes. -/
import Derived.Test.YthnfnfaiicfenaaPa
import Derived.Test.YthnfnfaiicfenaaZf
import Derived.Test.YthnfnfaiicfenaaSl
import Derived.StillTailTactics
namespace Go.Proofs.Ythnfnfaiicfenaa
open Go.ChangeShapes Go.WideShapes Go.ChangeAt Go.RowKit
open Go.Maps (Keyed)

/-- Which code a string has that is one with a code, and a byte behind it. -/
def lk (M : List ((Nat × UInt8) × Nat)) (c : Nat) (x : UInt8) : Option Nat := (M.find? fun e => e.1.1 == c && e.1.2 == x).map (·.2)
theorem lk_nil (c : Nat) (x : UInt8) : lk [] c x = none := rfl
theorem lk_cons (c : Nat) (x : UInt8) (v : Nat) (M : List ((Nat × UInt8) × Nat)) (c' : Nat) (x' : UInt8) : lk (((c, x), v) :: M) c' x' = if c = c' ∧ x = x' then some v else lk M c' x' := by
  unfold lk
  rw [List.find?_cons]
  by_cases h : c = c' ∧ x = x'
  · obtain ⟨rfl, rfl⟩ := h; simp
  · rw [if_neg h]
    have : (c == c' && x == x') = false := by
      rw [Bool.and_eq_false_iff]
      by_cases h1 : c = c'
      · right; simp; exact fun h2 => h ⟨h1, h2⟩
      · left; simpa using h1
    simp [this]
/-- Block gm is a map that holds just these. -/
def MapOk (w : World) (gm : Nat) (M : List ((Nat × UInt8) × Nat)) : Prop :=
  ∃ (D : DataW Unit) (nn : Nat), w.ownsMap Try.prog 92 (plainElem Try.prog 3) gm nn D ∧ Maps.IsMap D ∧ nn ≤ M.length ∧
    ∀ c x l, c < 65536 → keyOf Try.prog 92 (keyV c x) = some l → Maps.has D l = (lk M c x).isSome ∧ ∀ v, lk M c x = some v → ∀ z, D.atKey l z = .lit (.int .i64 (v : Int))
theorem MapOk.upd {w w' : World} {gm : Nat} {M : List ((Nat × UInt8) × Nat)} (h : MapOk w gm M) {S : Nat → Prop} (u : Upd S w w') (hS : ¬ S gm) : MapOk w' gm M := by
  obtain ⟨D, nn, ⟨es, clock, h1, h2⟩, h3⟩ := h
  have hlt : gm < w.heap.size := (Array.getElem?_eq_some_iff.1 h1).1
  exact ⟨D, nn, ⟨es, clock, (u.block gm hlt hS).trans h1, h2⟩, h3⟩
theorem MapOk.lt {w : World} {gm : Nat} {M : List ((Nat × UInt8) × Nat)} (h : MapOk w gm M) : gm < w.heap.size := by
  obtain ⟨D, nn, ⟨es, clock, h1, h2⟩, h3⟩ := h
  exact (Array.getElem?_eq_some_iff.1 h1).1
theorem MapOk.ne {w : World} {gm g : Nat} {M : List ((Nat × UInt8) × Nat)} {t : TypeId} {cs : Array Value} (h : MapOk w gm M) (hb : Blk w g t cs) : g ≠ gm := fun e => by
  subst e
  obtain ⟨D, nn, ⟨es, clock, h1, h2⟩, h3⟩ := h
  unfold Blk at hb
  rw [hb] at h1
  cases h1
theorem MapOk.row {w : World} {gm : Nat} {M : List ((Nat × UInt8) × Nat)} {base : Nat} {e : TypeId} {size n : Nat} {v : Value} {xs : List Value} (h : MapOk w gm M) (hb : w.ownsRow base e size v n xs) : v.ownBlock ≠ some gm := fun hk => by
  rcases hb.2 with ⟨rfl, _⟩ | ⟨g, cap, cur, rfl, _, hh, _⟩
  · cases hk
  · have : g = gm := by simpa [Value.ownBlock] using hk
    subst this
    obtain ⟨D, nn, ⟨es, clock, h1, h2⟩, h3⟩ := h
    rw [hh] at h1
    cases h1
theorem map_empty : Maps.IsMap (.map [] : DataW Unit) := ⟨[], rfl⟩
theorem MapOk.made (w : World) : MapOk (w.alloc (.map #[] 0)) w.heap.size [] :=
  ⟨.map [], 0, World.ownsMap_made w _ _ _, map_empty, Nat.le_refl _, fun c x l _ _ => ⟨rfl, fun v hv => by cases hv⟩⟩
/-- All strings are forgotten. -/
theorem MapOk.cleared {w : World} {gm : Nat} {M : List ((Nat × UInt8) × Nat)} (h : MapOk w gm M) (ty : TypeId) : ∃ w', (Builtin.clear_ #[85] ty #[.map (some gm)]).run Try.prog w = .ok (.tuple #[]) w' ∧ MapOk w' gm [] ∧ Upd (· = gm) w w' := by
  obtain ⟨D, nn, ⟨es, clock, h1, h2⟩, h3⟩ := h
  have hlt : gm < w.heap.size := (Array.getElem?_eq_some_iff.1 h1).1
  refine ⟨_, run_clear w 85 ty 92 3 Try.underlying85 gm es clock h1, ⟨.map [], 0, ?_, map_empty, Nat.le_refl _, fun c x l _ _ => ⟨rfl, fun v hv => by cases hv⟩⟩, ?_⟩
  · refine ⟨#[], clock, ?_, ?_, Nat.zero_le _, rfl⟩
    · simp [hlt]
    · exact ⟨by simp, MapKept.stamped_empty clock, by simp⟩
  · exact ⟨rfl, rfl, rfl, by simp, fun k hk hS => by simp [Array.getElem?_setIfInBounds_ne (Ne.symm hS)]⟩
set_option maxRecDepth 100000 in
/-- One string more. -/
theorem MapOk.put {w' : World} {gm : Nat} {M : List ((Nat × UInt8) × Nat)} {D : DataW Unit} {nn : Nat} (h1 : Maps.IsMap D) (h2 : nn ≤ M.length) (h3 : ∀ c x l, c < 65536 → keyOf Try.prog 92 (keyV c x) = some l → Maps.has D l = (lk M c x).isSome ∧ ∀ v, lk M c x = some v → ∀ z, D.atKey l z = .lit (.int .i64 (v : Int)))
    {c v : Nat} {x : UInt8} {l : Lit} (hl : keyOf Try.prog 92 (keyV c x) = some l) (ho : w'.ownsMap Try.prog 92 (plainElem Try.prog 3) gm (nn + 1) (D.put l (.lit (.int .i64 (v : Int))))) : MapOk w' gm (((c, x), v) :: M) := by
  have hkl := key_law.key hl
  refine ⟨_, _, ho, h1.put _ _, by simp; omega, fun c' x' l' hc' hl' => ?_⟩
  rw [lk_cons]
  by_cases e : c = c' ∧ x = x'
  · obtain ⟨rfl, rfl⟩ := e
    obtain rfl := Option.some.inj (hl.symm.trans hl')
    rw [show (if c = c ∧ x = x then some v else lk M c x) = some v from if_pos ⟨rfl, rfl⟩]
    refine ⟨Maps.has_put_same h1 hkl _, fun v' hv' z => ?_⟩
    obtain rfl := Option.some.inj hv'
    exact Maps.atKey_put_same h1 hkl _ z
  · rw [if_neg e]
    have hne : l' ≠ l := fun el => e (by
      subst el
      have hi := key_law.inj hl hl'
      unfold keyV at hi
      injection hi with hi
      have h0 := congrArg (·[0]?) hi
      have h1 := congrArg (·[1]?) hi
      simp at h0 h1
      exact ⟨by omega, UInt8.toNat_inj.1 (by omega)⟩)
    obtain ⟨g1, g2⟩ := h3 c' x' l' hc' hl'
    exact ⟨by rw [Maps.has_put_other hne]; exact g1, fun v' hv' z => by rw [Maps.atKey_put_other hne]; exact g2 v' hv' z⟩
/-- A packer stands in block gp: its writer in gw, its strings in gm. -/
structure Pck (w : World) (N gp gw gm size : Nat) (high : Bool) (early : Nat) (bits : List Bool) (M : List ((Nat × UInt8) × Nat)) (n : Nat) (ahead : Bool) : Prop where
  blk : Blk w gp 87 #[.int .i64 (size : Int), .bool high, .int .i64 (early : Int), .pointer (some ⟨gw, 0, none⟩), .map (some gm), .int .i64 (n : Int), .bool ahead]
  wr : ∃ A c l, Wraw w N gw A c l high bits.length ∧ Packed high bits l
  map : MapOk w gm M
  lp : N ≤ gp
  lm : N ≤ gm
  room : N ≤ w.heap.size
section
variable {w w' : World} {N gp gw gm size : Nat} {high : Bool} {early : Nat} {bits : List Bool} {M : List ((Nat × UInt8) × Nat)} {n : Nat} {ahead : Bool}
theorem Pck.c0 (h : Pck w N gp gw gm size high early bits M n ahead) : w.cell? ⟨gp, 0, none⟩ = some (.int .i64 (size : Int)) := by rw [h.blk.cell]; rfl
theorem Pck.c1 (h : Pck w N gp gw gm size high early bits M n ahead) : w.cell? ⟨gp, 1, none⟩ = some (.bool high) := by rw [h.blk.cell]; rfl
theorem Pck.c2 (h : Pck w N gp gw gm size high early bits M n ahead) : w.cell? ⟨gp, 2, none⟩ = some (.int .i64 (early : Int)) := by rw [h.blk.cell]; rfl
theorem Pck.c3 (h : Pck w N gp gw gm size high early bits M n ahead) : w.cell? ⟨gp, 3, none⟩ = some (.pointer (some ⟨gw, 0, none⟩)) := by rw [h.blk.cell]; rfl
theorem Pck.c4 (h : Pck w N gp gw gm size high early bits M n ahead) : w.cell? ⟨gp, 4, none⟩ = some (.map (some gm)) := by rw [h.blk.cell]; rfl
theorem Pck.c5 (h : Pck w N gp gw gm size high early bits M n ahead) : w.cell? ⟨gp, 5, none⟩ = some (.int .i64 (n : Int)) := by rw [h.blk.cell]; rfl
theorem Pck.c6 (h : Pck w N gp gw gm size high early bits M n ahead) : w.cell? ⟨gp, 6, none⟩ = some (.bool ahead) := by rw [h.blk.cell]; rfl
theorem Pck.fresh (h : Pck w N gp gw gm size high early bits M n ahead) (hb : Below w.heap.size w w') : Pck w' N gp gw gm size high early bits M n ahead := by
  obtain ⟨A, c, l, h1, h2⟩ := h.wr
  exact ⟨h.blk.upd (Upd.of_fresh hb) id, ⟨A, c, l, h1.upd (Upd.of_fresh hb) id (fun _ _ => id), h2⟩, h.map.upd (Upd.of_fresh hb) id, h.lp, h.lm, Nat.le_trans h.room hb.size⟩
/-- The packer's own fields are written. -/
theorem Pck.setN (h : Pck w N gp gw gm size high early bits M n ahead) (m : Nat) : Pck (w.setCell ⟨gp, 5, none⟩ (.int .i64 (m : Int))) N gp gw gm size high early bits M m ahead := by
  obtain ⟨A, c, l, h1, h2⟩ := h.wr
  have u : Upd (· = gp) w (w.setCell ⟨gp, 5, none⟩ (.int .i64 (m : Int))) := (Upd.refl (· = gp) w).setCell (p := ⟨gp, 5, none⟩) (fun _ => rfl) _
  exact ⟨h.blk.set_ 5 _, ⟨A, c, l, h1.upd u (Blk.ne_ h1.1 h.blk (by decide)) (fun k hk e => by subst e; exact own_blk_ne h1.2.1 h.blk (by decide) hk), h2⟩, h.map.upd u (fun e => h.map.ne h.blk e.symm), h.lp, h.lm, Nat.le_trans h.room u.size⟩
theorem Pck.setA (h : Pck w N gp gw gm size high early bits M n ahead) (x : Bool) : Pck (w.setCell ⟨gp, 6, none⟩ (.bool x)) N gp gw gm size high early bits M n x := by
  obtain ⟨A, c, l, h1, h2⟩ := h.wr
  have u : Upd (· = gp) w (w.setCell ⟨gp, 6, none⟩ (.bool x)) := (Upd.refl (· = gp) w).setCell (p := ⟨gp, 6, none⟩) (fun _ => rfl) _
  exact ⟨h.blk.set_ 6 _, ⟨A, c, l, h1.upd u (Blk.ne_ h1.1 h.blk (by decide)) (fun k hk e => by subst e; exact own_blk_ne h1.2.1 h.blk (by decide) hk), h2⟩, h.map.upd u (fun e => h.map.ne h.blk e.symm), h.lp, h.lm, Nat.le_trans h.room u.size⟩
/-- The strings were written. -/
theorem Pck.turn (h : Pck w N gp gw gm size high early bits M n ahead) (u : Upd (· = gm) w w') {M' : List ((Nat × UInt8) × Nat)} (hm : MapOk w' gm M') : Pck w' N gp gw gm size high early bits M' n ahead := by
  obtain ⟨A, c, l, h1, h2⟩ := h.wr
  exact ⟨h.blk.upd u (h.map.ne h.blk), ⟨A, c, l, h1.upd u (h.map.ne h1.1) (fun k hk e => by subst e; exact h.map.row h1.2.1 hk), h2⟩, hm, h.lp, h.lm, Nat.le_trans h.room u.size⟩
/-- Bits were written. -/
theorem Pck.wrote (h : Pck w N gp gw gm size high early bits M n ahead) {A : Option Addr} {c : Nat} {l : List UInt8} (h1 : Wraw w N gw A c l high bits.length) {bits' : List Bool} (hp : PutAt w N gw A high bits' bits'.length w') :
    Pck w' N gp gw gm size high early bits' M n ahead ∧ Below N w w' := by
  obtain ⟨A', c', l', g1, g2, g3, g4, g5⟩ := hp
  have hS : ∀ k, WS gw A k → N ≤ k := fun k hk => by
    rcases hk with e | e
    · have := h1.2.2; omega
    · exact (h1.2.1.lt k (by rw [own_block_sl]; exact e)).1
  refine ⟨⟨h.blk.upd g4 (fun e => ?_), ⟨A', c', l', g1, g3⟩, h.map.upd g4 (fun e => ?_), h.lp, h.lm, Nat.le_trans h.room g4.size⟩, g4.below h.room (fun k hk e => by have := hS k e; omega)⟩
  · rcases e with e | e
    · exact Blk.ne_ h.blk h1.1 (by decide) e
    · exact own_blk_ne h1.2.1 h.blk (by decide) (by rw [own_block_sl]; exact e)
  · rcases e with e | e
    · exact h.map.ne h1.1 e.symm
    · exact h.map.row h1.2.1 (by rw [own_block_sl]; exact e)
end
end Go.Proofs.Ythnfnfaiicfenaa
