/- A region that draws its order and first only reads: it is walked once, in the text's order. No program is named here. -/
import Derived.WalkKit
import Derived.BigQuiet
import Derived.Deep.QuietTactic
import Derived.StillTail
namespace Go.Proofs.Ytaloieeemibblaa
open Go.RowKit

theorem still_of_quiet {P : Program} {ops : Array Oper} {w : World} {Q : Act → Prop} (l : List Oper) : ∀ a, wpQuiet P ops (fun w' => w' = w) Q l a → wpStill P ops w Q l a := by
  induction l with
  | nil => intro a h; exact h
  | cons o rest ih =>
    intro a h
    unfold wpQuiet at h
    unfold wpStill
    by_cases hw : Region.wanted o (yielded ops a.tmps) = true
    · rw [if_pos hw] at h ⊢
      obtain ⟨v, h1, h2⟩ := h
      have h1' := h1 w rfl
      unfold Oper.quietAt Oper.quietUpon at h1'
      unfold Oper.still Oper.stillUpon
      split at h1'
      · rename_i he; rw [he]; obtain ⟨e1, rfl⟩ := h1'; exact ⟨e1, ih _ h2⟩
      · rename_i he; rw [he]; obtain ⟨e1, rfl⟩ := h1'; exact ⟨e1, ih _ h2⟩
      · rename_i he; rw [he]; exact ⟨h1'.1, v, h1'.2, ih _ h2⟩
      · exact h1'.elim
    · rw [if_neg hw] at h ⊢
      exact ih _ h
/-- A region that draws its order: its first n operations only read or call quietly, the others come in one order. -/
theorem wp_region_tail {P : Program} {id : Nat} {Q : Exit → Act → World → Prop} {a : Act} {w : World} {l : List Oper} (n : Nat) (hm : P.follows .mixedOrders = true) (hB : Region.lexTailB .any l.toArray n = true)
    (h : wpQuiet P l.toArray (fun w' => w' = w.drew) (fun a' => wpList P l.toArray Q (l.drop n) a' w.drew) (l.take n) a) : (Code.region id l.toArray true).wp P Q a w :=
  wp_region_still_tail n hm hB (still_of_quiet _ _ h)
/-- How the walk spells the address behind the first one. -/
theorem add_succ (a : Addr) (n : Nat) : a.add (n + 1) = ⟨a.block, a.off + (n + 1), none⟩ := by simp [Addr.add]
end Go.Proofs.Ytaloieeemibblaa
