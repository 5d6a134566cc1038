/- Contracts of the stream's simplest methods: must, take, next, wantRoom. -/
import Derived.Test.YthbdhpciibjnmaaIw
namespace Go.Proofs.Ythbdhpciibjnmaa
open Go.ChangeShapes Go.WideShapes Go.ChangeAt Go.RowKit

theorem must_ok (w : World) : Calls Try.prog 52 #[.int .i64 0] w fun e w' => e = .returned (.tuple #[]) ∧ w = w' := by
  go_enter Try.func52, Try.ntmps52
  go_wp2_with fail
  go_end0
  exact ⟨rfl, rfl⟩
theorem must_no (k : Nat) (hk : k ≠ 0) (w : World) : Calls Try.prog 52 #[.int .i64 (k : Int)] w fun e w' => e = gaveUp k ∧ w = w' := by
  have d1 : (((k : Nat) : Int) != 0) = true := by simp; omega
  go_enter Try.func52, Try.ntmps52
  go_wp2_with fail
  exact ⟨rfl, rfl, rfl⟩

set_option maxHeartbeats 400000 in
theorem take_ok (w : World) (B gs gr : Nat) (A : Option Addr) (c : Nat) (b : List UInt8) (most p : Nat) (Ao : Option Addr) (co : Nat) (out : List UInt8) (fx : Option Addr) (h : Str w B gs gr A c b most p Ao co out fx) (n : Nat) (hn : n ≤ 32) (hl : p + n ≤ 8 * b.length) :
    Calls Try.prog 34 #[.pointer (some ⟨gs, 0, none⟩), .int .i64 (n : Int)] w fun e w' =>
      e = .returned (.int .i64 ((numAt b p n : Nat) : Int)) ∧ Str w' B gs gr A c b most (p + n) Ao co out fx ∧ Left w B w' := by
  have hc := h.in_
  have hlt : numAt b p n < 4294967296 := Nat.lt_of_lt_of_le (numAt_lt b p n) (Nat.pow_le_pow_right (n := 2) (by omega) hn)
  have HT := Lib.hid (take_any w B gr A c b false p n h.rdr hn hl)
  have HN : Hid (num false (fun i => bitAt b false (p + i)) n = numAt b p n) := Lib.hid rfl
  generalize numAt b p n = v at *
  go_enter Try.func34, Try.ntmps34
  go_wp2_with fail
  refine HT.out.mono ?_
  rw [HN.out]
  rintro e w1 ⟨rfl, hr, hu⟩
  have HS := Lib.hid (h.read hu hr)
  clear hr hu HT
  go_wp2_with fail
  refine (must_ok w1).mono ?_
  rintro e w2 ⟨rfl, rfl⟩
  go_wp2_with fail
  go_ret
  exact ⟨rfl, HS.out⟩
set_option maxHeartbeats 400000 in
theorem take_no (w : World) (B gs gr : Nat) (A : Option Addr) (c : Nat) (b : List UInt8) (most p : Nat) (Ao : Option Addr) (co : Nat) (out : List UInt8) (fx : Option Addr) (h : Str w B gs gr A c b most p Ao co out fx) (n : Nat) (hn : n ≤ 32) (hl : ¬ p + n ≤ 8 * b.length) :
    Calls Try.prog 34 #[.pointer (some ⟨gs, 0, none⟩), .int .i64 (n : Int)] w fun e w' => e = gaveUp 5 ∧ Left w B w' := by
  have hc := h.in_
  have hp := h.rdr.2.2.2
  have HT := Lib.hid (take_end w B gr A c b false p (n : Int) h.rdr (by omega) (by omega) (by omega))
  go_enter Try.func34, Try.ntmps34
  go_wp2_with fail
  refine HT.out.mono ?_
  rintro e w1 ⟨rfl, m, rfl⟩
  go_wp2_with fail
  refine (must_no 5 (by decide) _).mono ?_
  rintro e w2 ⟨rfl, rfl⟩
  trace_state
  exact ⟨rfl, rfl, (Left.refl w B).drewN m⟩
end Go.Proofs.Ythbdhpciibjnmaa
