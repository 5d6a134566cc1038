/- Runs, unpacked: plain mathematics, and the program's signs. -/
import Derived.Test.YthnfnfaiicfenaaZa
namespace Go.Proofs.Ythnfnfaiicfenaa
open Go.ChangeShapes Go.WideShapes Go.ChangeAt Go.RowKit

/-- What runs say, or the first fault that is met. -/
def runsF (most : Nat) : Nat → List UInt8 → List UInt8 → Except Nat (List UInt8)
  | 0, _, _ => .error 5
  | _ + 1, [], out => .ok out
  | f + 1, x :: r, out =>
    if x.toNat < 128 then
      if r.length < x.toNat + 1 then .error 5 else if most < out.length + (x.toNat + 1) then .error 3 else runsF most f (r.drop (x.toNat + 1)) (out ++ r.take (x.toNat + 1))
    else if x.toNat = 128 then runsF most f r out
    else match r with
      | [] => .error 5
      | y :: s => if most < out.length + (257 - x.toNat) then .error 3 else runsF most f s (out ++ List.replicate (257 - x.toNat) y)
def runsM (b : List UInt8) (most : Nat) : Except Nat (List UInt8) := runsF most (b.length + 1) b []
theorem runsF_nil (most f : Nat) (out : List UInt8) : runsF most (f + 1) [] out = .ok out := rfl
theorem runsF_cons (most f : Nat) (x : UInt8) (r out : List UInt8) : runsF most (f + 1) (x :: r) out =
    if x.toNat < 128 then
      if r.length < x.toNat + 1 then .error 5 else if most < out.length + (x.toNat + 1) then .error 3 else runsF most f (r.drop (x.toNat + 1)) (out ++ r.take (x.toNat + 1))
    else if x.toNat = 128 then runsF most f r out
    else match r with
      | [] => .error 5
      | y :: s => if most < out.length + (257 - x.toNat) then .error 3 else runsF most f s (out ++ List.replicate (257 - x.toNat) y) := rfl
theorem ret_two {a a' b b' : Int} (h1 : a = a') (h2 : b = b') : Ending.returned (.tuple #[.int .i64 a, .int .i64 b]) = .returned (.tuple #[.int .i64 a', .int .i64 b']) := by rw [h1, h2]
set_option maxRecDepth 100000 in
theorem signed_lo (n : Nat) (h : n < 128) (w : World) : Calls Try.prog 27 #[.int .i64 (n : Int)] w fun e w' => e = .returned (.tuple #[.int .i64 ((n : Int) + 1), .int .i64 1]) ∧ w = w' := by
  go_enter Try.func27, Try.ntmps27
  go_wp2_with fail
  go_ret2
  exact ⟨rfl, rfl⟩
set_option maxRecDepth 100000 in
theorem signed_no (w : World) : Calls Try.prog 27 #[.int .i64 128] w fun e w' => e = .returned (.tuple #[.int .i64 0, .int .i64 0]) ∧ w = w' := by
  go_enter Try.func27, Try.ntmps27
  go_wp2_with fail
  go_ret2
  exact ⟨rfl, rfl⟩
set_option maxRecDepth 100000 in
theorem signed_hi (n : Nat) (h : 128 < n) (h2 : n < 256) (w : World) : Calls Try.prog 27 #[.int .i64 (n : Int)] w fun e w' => e = .returned (.tuple #[.int .i64 1, .int .i64 (257 - (n : Int))]) ∧ w = w' := by
  have d1 : ((n : Int) == 128) = false := by simp; omega
  go_enter Try.func27, Try.ntmps27
  go_wp2_with fail
  go_ret2
  exact ⟨rfl, rfl⟩
end Go.Proofs.Ythnfnfaiicfenaa
