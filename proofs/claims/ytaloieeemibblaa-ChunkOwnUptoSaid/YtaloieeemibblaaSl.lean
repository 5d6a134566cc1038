/- Slices of bytes, cut, for the walk: what is cut off reads as the rest. No program is named here. -/
import Derived.Test.YtaloieeemibblaaL
import Derived.Laws.Slices
import Derived.RegionTactic
namespace Go.Proofs.Ytaloieeemibblaa
open Go.RowKit

section
variable {P : Program} (w : World)
theorem wpList_slice_from {ops : Array Oper} {rest : List Oper} {o : Oper} {a : Act} {Q : Exit → Act → World → Prop} (hgd : o.guard = none) (x lo : Operand) (t : TypeId) (hop : o.op = Op.slice t x (some lo) none none)
    (ht : P.underlying t = some (.slice (P.elem t))) (hsz : ∀ w : World, (sizeOf (P.elem t)).run P w = .ok 1 w) (A : Option Addr) (n c k : Nat) (hx : a.eval x = .slice A n c) (hl : a.eval lo = .int .i64 (k : Int)) (hk : k ≤ n) (B : Nat) (l : List UInt8) (hn : l.length = n) (hc : n ≤ c) (hbs : Bs w B A l)
    (hK : ∀ A', Bs w B A' (l.drop k) → wpList P ops Q rest (a.put o.dst (.slice A' (n - k) (c - k))) w) : wpList P ops Q (o :: rest) a w := by
  refine wpList_plain hgd fun K' hK' => ?_
  have hr := run_slice_l (P := P) (w := w) t A n c ht .i64 (k : Int) (by omega) (by omega)
  unfold Oper.wp
  simp [execOp, hop, hx, hl, run_sliceAt_slice (P := P) (w := w) t _ _ _ _ ht, hr, hsz, Result.andThen, sliced, Int.toNat_natCast]
  subst hn
  refine hK' _ _ (hK _ ?_)
  have := hbs.drop (k := k) (cap := c) hk hc
  simpa using this
theorem wpList_slice_to {ops : Array Oper} {rest : List Oper} {o : Oper} {a : Act} {Q : Exit → Act → World → Prop} (hgd : o.guard = none) (x hi : Operand) (t : TypeId) (hop : o.op = Op.slice t x none (some hi) none)
    (ht : P.underlying t = some (.slice (P.elem t))) (hsz : ∀ w : World, (sizeOf (P.elem t)).run P w = .ok 1 w) (A : Option Addr) (n c k : Nat) (hx : a.eval x = .slice A n c) (hl : a.eval hi = .int .i64 (k : Int)) (hk : k ≤ n) (B : Nat) (l : List UInt8) (hn : l.length = n) (hc : n ≤ c) (hbs : Bs w B A l)
    (hK : ∀ A', Bs w B A' (l.take k) → wpList P ops Q rest (a.put o.dst (.slice A' k c)) w) : wpList P ops Q (o :: rest) a w := by
  refine wpList_plain hgd fun K' hK' => ?_
  have hr := run_slice_h (P := P) (w := w) t A n c ht .i64 (k : Int) (by omega) (by omega)
  unfold Oper.wp
  simp [execOp, hop, hx, hl, run_sliceAt_slice (P := P) (w := w) t _ _ _ _ ht, hr, hsz, Result.andThen, sliced, Int.toNat_natCast]
  subst hn
  refine hK' _ _ (hK _ ?_)
  intro hn
  rw [List.length_take] at hn
  have h1 := (hbs.take k) (by rw [List.length_take]; exact hn)
  obtain ⟨ad, rfl, h2, h3⟩ := h1
  rw [if_neg (by omega)]
  refine ⟨ad.add 0, rfl, by rw [block_of_add]; exact h2, fun j hj => ?_⟩
  rw [add_of_add, Nat.zero_add]
  exact h3 j hj
end
end Go.Proofs.Ytaloieeemibblaa
