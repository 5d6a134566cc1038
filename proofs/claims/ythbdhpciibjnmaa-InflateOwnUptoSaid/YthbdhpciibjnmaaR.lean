/- Contracts of the reader of bits. -/
import Derived.Test.YthbdhpciibjnmaaCo
import Derived.Test.YthbdhpciibjnmaaM
import Derived.BigRegion
import Derived.Handy
import Derived.Deep.DeepCutAuto
namespace Go.Proofs.Ythbdhpciibjnmaa
open Go.ChangeShapes Go.WideShapes Go.ChangeAt Go.RowKit

theorem quiet_eq {P : Program} {f : FuncId} {args : Array Value} {w : World} {n : Nat} {v : Value}
    (h : Calls P f args (w.drewN n) fun e w' => e = .returned v ∧ w.drewN n = w') : Calls P f args (w.drewN n) fun e w'' => e = .returned v ∧ ∃ m, w'' = w.drewN m :=
  h.mono fun _ _ ⟨he, hm⟩ => ⟨he, n, hm.symm⟩
def ord (high : Bool) : Value := .func (.func (if high then 49 else 50)) #[] #[]
theorem highFirst_any (i k n : Int) (w : World) (h0 : 0 ≤ i) (h1 : 0 ≤ k) (h2 : 0 ≤ n) (h3 : n ≤ 64) (h4 : i ≤ 64) (h5 : k ≤ 64) :
    Calls Try.prog 49 #[.int .i64 i, .int .i64 k, .int .i64 n] w fun e w' => e = .returned (.int .i64 (n - i - k)) ∧ w = w' := by
  go_enter Try.func49, Try.ntmps49
  go_wp2
  go_ret
  exact ⟨rfl, rfl⟩
theorem lowFirst_any (i k n : Int) (w : World) :
    Calls Try.prog 50 #[.int .i64 i, .int .i64 k, .int .i64 n] w fun e w' => e = .returned (.int .i64 i) ∧ w = w' := by
  go_enter Try.func50, Try.ntmps50
  go_wp2
  go_ret
  exact ⟨rfl, rfl⟩
theorem orderOf_any (b : Bool) (w : World) :
    Calls Try.prog 33 #[.bool b] w fun e w' => e = .returned (ord b) ∧ w = w' := by
  cases b
  all_goals
    go_enter Try.func33, Try.ntmps33
    go_wp2
    go_ret
    exact ⟨rfl, rfl⟩
/-- A reader stands in block g: its bytes l, in a row of the call's own, its order, how many bits were taken. -/
def Rdr (w : World) (base g : Nat) (A : Option Addr) (c : Nat) (l : List UInt8) (high : Bool) (at_ : Nat) : Prop :=
  Blk w g 77 #[.slice A l.length c, .int .i64 (at_ : Int), ord high] ∧ w.ownsRow base 5 1 (.slice A l.length c) l.length (bytesV l) ∧ base ≤ g ∧ at_ ≤ 8 * l.length ∧ l.length ≤ 140737488355328

def NewRdr (w : World) (l : List UInt8) (high : Bool) (e : Ending) (w' : World) : Prop := ∃ g A' c', e = .returned (.pointer (some ⟨g, 0, none⟩)) ∧ Rdr w' w.heap.size g A' c' l high 0 ∧ Below w.heap.size w w'

set_option maxHeartbeats 400000 in
theorem newReader_any (A : Option Addr) (c : Nat) (l : List UInt8) (high : Bool) (B : Nat) (w : World) (h : Bs w B A l) (hB : B ≤ w.heap.size) (hl : l.length ≤ 140737488355328) :
    Calls Try.prog 18 #[.slice A l.length c, .bool high] w (NewRdr w l high) := by
  go_enter Try.func18, Try.ntmps18
  go_wp2_with (first | (go_at_call 32; refine (copyOf_any _ _ _ B _ h hB hl).mono ?_; rintro e w1 ⟨A1, c1, rfl, hown1, hb1⟩) | (go_at_call 33; refine (orderOf_any _ _).mono ?_; rintro e w2 ⟨rfl, rfl⟩; unfold ord))
  all_goals go_ret
  all_goals refine ⟨_, A1, c1, rfl, ⟨Blk.new _ _ _, hown1.alloc _, hb1.size, by omega, hl⟩, hb1.alloc hb1.size _⟩

section
variable {w w' : World} {base g : Nat} {A : Option Addr} {c : Nat} {l : List UInt8} {high : Bool} {at_ : Nat}
theorem Rdr.upd {S : Nat → Prop} (h : Rdr w base g A c l high at_) (hu : Upd S w w') (hg : ¬ S g) (hA : ∀ k, (Value.slice A l.length c).ownBlock = some k → ¬ S k) : Rdr w' base g A c l high at_ :=
  ⟨h.1.upd hu hg, own_upd h.2.1 hu hA, h.2.2⟩
theorem Rdr.data (h : Rdr w base g A c l high at_) : w.cell? ⟨g, 0, none⟩ = some (.slice A l.length c) := by rw [h.1.cell]; rfl
theorem Rdr.place (h : Rdr w base g A c l high at_) : w.cell? ⟨g, 1, none⟩ = some (.int .i64 (at_ : Int)) := by rw [h.1.cell]; rfl
theorem Rdr.shift (h : Rdr w base g A c l high at_) : w.cell? ⟨g, 2, none⟩ = some (ord high) := by rw [h.1.cell]; rfl
theorem Rdr.free (h : Rdr w base g A c l high at_) (i : Nat) : w.frozen? ⟨g, i, none⟩ = false := h.1.frozen i
theorem Rdr.ne (h : Rdr w base g A c l high at_) : (Value.slice A l.length c).ownBlock ≠ some g := own_blk_ne h.2.1 h.1 (by decide)
theorem Rdr.set_ (h : Rdr w base g A c l high at_) (k : Nat) (hk : k ≤ 8 * l.length) : Rdr (w.setCell ⟨g, 1, none⟩ (.int .i64 (k : Int))) base g A c l high k :=
  ⟨h.1.set_ 1 _, own_upd h.2.1 ((Upd.refl (· = g) w).setCell (fun _ => rfl) _) (fun k hk e => h.ne (by subst e; exact hk)), h.2.2.1, hk, h.2.2.2.2⟩
end

theorem left_any (w : World) (base g : Nat) (A : Option Addr) (c : Nat) (l : List UInt8) (high : Bool) (at_ : Nat) (h : Rdr w base g A c l high at_) :
    Calls Try.prog 72 #[.pointer (some ⟨g, 0, none⟩)] w fun e w' => e = .returned (.int .i64 (8 * (l.length : Int) - at_)) ∧ ∃ n, w' = w.drewN n := by
  have hc0 := h.data
  have hc1 := h.place
  have hb := h.2.2.2
  go_enter Try.func72, Try.ntmps72
  go_wp2_with fail
  go_quiet (fail)
  go_wp2
  go_ret
  exact ⟨rfl, _, rfl⟩
theorem left_nil (w : World) :
    Calls Try.prog 72 #[.pointer none] w fun e w' => e = .returned (.int .i64 0) ∧ w = w' := by
  go_enter Try.func72, Try.ntmps72
  go_wp2_with fail
  go_ret
  exact ⟨rfl, rfl⟩
theorem place_any (w : World) (base g : Nat) (A : Option Addr) (c : Nat) (l : List UInt8) (high : Bool) (at_ : Nat) (h : Rdr w base g A c l high at_) :
    Calls Try.prog 20 #[.pointer (some ⟨g, 0, none⟩)] w fun e w' => e = .returned (.int .i64 (at_ : Int)) ∧ w = w' := by
  have hc1 := h.place
  go_enter Try.func20, Try.ntmps20
  go_wp2_with fail
  go_ret
  exact ⟨rfl, rfl⟩
theorem place_nil (w : World) :
    Calls Try.prog 20 #[.pointer none] w fun e w' => e = .returned (.int .i64 0) ∧ w = w' := by
  go_enter Try.func20, Try.ntmps20
  go_wp2_with fail
  go_ret
  exact ⟨rfl, rfl⟩

def part (high : Bool) (f : Nat → Bool) (k n : Nat) : Nat := if high then numHi f k <<< (n - k) else numLo f k

theorem part_hi (f : Nat → Bool) (k n : Nat) : part true f k n = numHi f k <<< (n - k) := rfl
theorem part_lo (f : Nat → Bool) (k n : Nat) : part false f k n = numLo f k := rfl
end Go.Proofs.Ythbdhpciibjnmaa
