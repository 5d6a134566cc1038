/- A region that draws its order, in a round of a range over a function: one that only reads. No program is named here. -/
import Derived.Test.YtaloieeemibblaaTl
import Derived.OrdersIn
import Derived.Still
import Derived.TacticsIn
import Derived.RangeFuncCalls
namespace Go.Proofs.Ytaloieeemibblaa
open Go.RowKit

section
variable {P : Program} {n ll : Nat} {ops : Array Oper}
/-- No statement that defers. -/
def noDefer (ops : Array Oper) : Bool := ops.all fun o => match o.op with
  | .defer _ => false
  | _ => true
theorem noDefer_at {i : Nat} {o : Oper} (h : noDefer ops = true) (hi : ops[i]? = some o) : ∀ c, o.op ≠ .defer c := by
  intro c e
  obtain ⟨hlt, rfl⟩ := Array.getElem?_eq_some_iff.1 hi
  have h1 := (Array.all_eq_true.1 h) i hlt
  rw [e] at h1
  cases h1
theorem operRound_of_still {o : Oper} {a : Act} {w : World} {K : Act → Prop} {K' : Act → World → Prop} {Q : Exit → Act → World → Prop} (hnd : ∀ c, o.op ≠ .defer c) (h : ∀ a, K a → K' a w) (hh : o.still P a w K) : o.wpIn (Fence.wide.inRound ll) n P a w K' Q := by
  unfold Oper.still at hh
  unfold Oper.wpIn
  refine ⟨fun _ _ => trivial, ?_⟩
  rw [Oper.semAt_eq _ _ _ hnd]
  generalize (execOp a.eval o).run P w = r at *
  cases r with
  | ok x w' =>
    cases x <;> simp only [Oper.stillUpon, Oper.uponIn] at hh ⊢
    case value v => obtain ⟨rfl, hk⟩ := hh; exact h _ hk
    case skip => obtain ⟨rfl, hk⟩ := hh; exact h _ hk
    case enter f args =>
      obtain ⟨rfl, v, hc, hk⟩ := hh
      exact ⟨fun k => (by cases k), (CallsIn.inRound ll (callsIn_wide.2 hc)).mono (fun e w'' he => by obtain ⟨rfl, rfl⟩ := he; exact h _ hk)⟩
  | halt x w' => simp only [Oper.stillUpon] at hh
theorem opRound_of_stOp {i : Nat} {a : Act} {w : World} {K : Act → Prop} {K' : Act → World → Prop} {Q : Exit → Act → World → Prop} (hnd : noDefer ops = true) (h : ∀ a, K a → K' a w) (hh : stOp P ops w i K a) : wpOpIn (Fence.wide.inRound ll) n P ops Q i K' a w := by
  unfold stOp at hh
  unfold wpOpIn
  cases ho : ops[i]? with
  | none => simp only [ho] at hh ⊢; exact h _ hh
  | some o =>
    simp only [ho] at hh ⊢
    by_cases hw : Region.wanted o (yielded ops a.tmps) = true
    · simp only [hw, if_true] at hh ⊢
      exact operRound_of_still (noDefer_at hnd ho) h hh
    · simp only [hw] at hh ⊢
      exact ⟨fun _ _ => trivial, h _ hh⟩
theorem anyRound_of_still {md : Region.Mode} {w : World} {Q : Act → Prop} {Q' : Exit → Act → World → Prop} (hnd : noDefer ops = true) (hQ : ∀ a, Q a → Q' .normal a w) : ∀ (fuel : Nat) (listed : Array Bool) (a : Act),
    wpAnyS P md ops w Q fuel listed a → wpAnyIn (Fence.wide.inRound ll) n P md ops Q' fuel listed a w
  | 0, _, _, h => ⟨h.1, hQ _ h.2⟩
  | fuel + 1, _, _, h => ⟨fun h0 => hQ _ (h.1 h0), fun i hi => opRound_of_stOp hnd (fun a' => anyRound_of_still hnd hQ fuel _ a') (h.2 i hi)⟩
/-- A region of a round that draws its order and only reads. -/
theorem wpRound_region_still {id : Nat} {Q : Exit → Act → World → Prop} {a : Act} {w : World} {l : List Oper} (hm : P.follows .mixedOrders = true) (hB : Region.lexB .any l.toArray = true) (hnd : noDefer l.toArray = true)
    (h : wpQuiet P l.toArray (fun w' => w' = w.drew) (fun a' => Q .normal a' w.drew) l a) : (Code.region id l.toArray true).wpIn (Fence.wide.inRound ll) n P Q a w := by
  have h' := still_of_quiet _ _ h
  simp only [Region.lexB, Bool.and_eq_true] at hB
  refine wpIn_region_any hm (anyRound_of_still (Q := fun a' => Q .normal a' w.drew) hnd (fun _ h => h) _ _ _ ?_)
  have := wpAnyS_lex (md := .any) hB.1 l.toArray.toList 0 (Array.replicate l.toArray.size false) a (by simp) (by simpa using hB.2) (by simpa using h')
  simpa using this
end
end Go.Proofs.Ytaloieeemibblaa
