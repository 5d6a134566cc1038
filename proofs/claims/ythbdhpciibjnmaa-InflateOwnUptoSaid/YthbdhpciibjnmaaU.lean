/- Contracts of the reader's other calls: faults of Take, Bytes, Align, and all of them of a nil reader. -/
import Derived.Test.YthbdhpciibjnmaaR
namespace Go.Proofs.Ythbdhpciibjnmaa
open Go.ChangeShapes Go.WideShapes Go.ChangeAt Go.RowKit

theorem take_nil (n : Int) (w : World) :
    Calls Try.prog 51 #[.pointer none, .int .i64 n] w fun e w' => e = .returned (.tuple #[.int .u32 0, .int .i64 1]) ∧ w = w' := by
  go_enter Try.func51, Try.ntmps51
  go_wp2_with fail
  go_ret2
  exact ⟨rfl, rfl⟩
theorem take_range (g : Nat) (n : Int) (w : World) (hn : n < 0 ∨ 32 < n) :
    Calls Try.prog 51 #[.pointer (some ⟨g, 0, none⟩), .int .i64 n] w fun e w' => e = .returned (.tuple #[.int .u32 0, .int .i64 2]) ∧ w = w' := by
  rcases hn with hn | hn
  · have d1 : decide (n < 0) = true := by simp; omega
    go_enter Try.func51, Try.ntmps51
    go_wp2_with fail
    go_ret2
    exact ⟨rfl, rfl⟩
  · have d1 : decide (n < 0) = false := by simp; omega
    go_enter Try.func51, Try.ntmps51
    go_wp2_with fail
    go_ret2
    exact ⟨rfl, rfl⟩
set_option maxHeartbeats 400000 in
theorem take_end (w : World) (base g : Nat) (A : Option Addr) (c : Nat) (l : List UInt8) (high : Bool) (at_ : Nat) (n : Int) (h : Rdr w base g A c l high at_) (h0 : 0 ≤ n) (hn : n ≤ 32) (hl : 8 * (l.length : Int) - at_ < n) :
    Calls Try.prog 51 #[.pointer (some ⟨g, 0, none⟩), .int .i64 n] w fun e w' =>
      e = .returned (.tuple #[.int .u32 0, .int .i64 5]) ∧ ∃ k, w' = w.drewN k := by
  have d1 : decide (n < 0) = false := by simp; omega
  have d2 : decide ((32 : Int) < n) = false := by simp; omega
  have d3 : decide (8 * (l.length : Int) - (at_ : Int) < n) = true := by simp; omega
  go_enter Try.func51, Try.ntmps51
  go_wp2_with fail
  refine (left_any _ _ _ _ _ _ _ _ h).mono ?_
  rintro e w1 ⟨rfl, n1, rfl⟩
  go_wp2_with fail
  go_ret2
  exact ⟨rfl, _, rfl⟩
theorem own_cap {w : World} {base : Nat} {e : TypeId} {size n c : Nat} {A : Option Addr} {xs : List Value} (h : w.ownsRow base e size (.slice A n c) n xs) : n ≤ c ∧ c ≤ maxLen := by
  rcases h.2 with ⟨h1, rfl⟩ | ⟨g, cap, cur, h1, _, _, h2, h3, _⟩
  · injection h1 with _ _ h; subst h; exact ⟨Nat.le_refl _, Nat.zero_le _⟩
  · injection h1 with _ _ h; subst h; exact ⟨h2, h3⟩

end Go.Proofs.Ythbdhpciibjnmaa
