/- The weights' sums of the program, walked. -/
import Derived.Test.YtibgjklfbfahfaaOp
import Derived.Test.YtibgjklfbfahfaaTma
import Derived.Lib.Hide
import Derived.Lib.Walk
import Derived.WalkKit
import Derived.WalkLawsBesides
import Derived.Handy
import Derived.Outline
namespace Go.Proofs.Ytibgjklfbfahfaa
open Go.ChangeShapes Go.WideShapes Go.ChangeAt Go.RowKit

set_option maxRecDepth 100000 in
set_option maxHeartbeats 1000000 in
theorem mix0_any (a b c : Int) (ha : -65535 ≤ a ∧ a ≤ 65535) (hb : -65535 ≤ b ∧ b ≤ 65535) (hc : -65535 ≤ c ∧ c ≤ 65535) (w : World) :
    Calls Try.prog 25 #[.int .i64 0, .int .i64 a, .int .i64 b, .int .i64 c] w fun e w' => ∃ z, e = .returned (.int .i64 z) ∧ z = (19595 * a + 38470 * b + 7471 * c + 32768) / 65536 ∧ Below w.heap.size w w' := by
  go_enter Try.func25, Try.ntmps25
  go_wp2_with fail
  go_ret
  exact ⟨_, rfl, by omega, ((Below.refl _ w).alloc (Nat.le_refl _) _).alloc (by simp) _⟩
end Go.Proofs.Ytibgjklfbfahfaa
