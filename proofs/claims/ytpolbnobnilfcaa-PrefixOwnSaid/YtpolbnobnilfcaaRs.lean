/- What PrefixReads and PrefixOwn keep from round to round: the decoder, both readers, the document's table. -/
import Derived.Test.YtpolbnobnilfcaaWk
import Derived.Test.YtpolbnobnilfcaaNx
namespace Go.Proofs.Ytpolbnobnilfcaa
open Go.ChangeShapes Go.WideShapes Go.ChangeAt Go.RowKit

theorem tbl_cells {cs : List Value} (hl : cs.length = 37) (hF : ∀ k, k < 18 → ∃ z, cs[k]? = some (.int .i64 z)) (hO : ∀ k, k < 18 → ∃ A n c, cs[18 + k]? = some (.slice A n c)) (hA : ∃ b, cs[36]? = some (.bool b)) : cs.toArray.all (·.oneCell') = true := by
  rw [Array.all_eq_true_iff_forall_mem]
  intro v hv
  obtain ⟨j, hj, rfl⟩ := List.getElem_of_mem (List.mem_toArray.mp hv)
  by_cases h1 : j < 18
  · obtain ⟨z, h⟩ := hF j h1
    rw [List.getElem?_eq_getElem hj] at h
    rw [Option.some.inj h]
    rfl
  · by_cases h2 : j < 36
    · obtain ⟨A, n, c, h⟩ := hO (j - 18) (by omega)
      rw [show 18 + (j - 18) = j by omega, List.getElem?_eq_getElem hj] at h
      rw [Option.some.inj h]
      rfl
    · obtain ⟨b, h⟩ := hA
      obtain rfl : j = 36 := by omega
      rw [List.getElem?_eq_getElem hj] at h
      rw [Option.some.inj h]
      rfl
/-- The rows of the document's table, which lie from lo on and below hi. -/
def TblO (w : World) (lo hi : Nat) (l : List Int) (cs : List Value) : Prop :=
  ∀ k, k < 18 → ∃ A c, cs[18 + k]? = some (.slice A (symsOf l k).length c) ∧ w.ownsRow lo 3 1 (.slice A (symsOf l k).length c) (symsOf l k).length (intsV (natsI (symsOf l k))) ∧
    ∀ b, (Value.slice A (symsOf l k).length c).ownBlock = some b → lo ≤ b ∧ b < hi
theorem TblO.start {w w' : World} {l : List Int} {cs : List Value} (h : ∀ k, k < 18 → ∃ A c, cs[18 + k]? = some (.slice A (symsOf l k).length c) ∧ w'.ownsRow w.heap.size 3 1 (.slice A (symsOf l k).length c) (symsOf l k).length (intsV (natsI (symsOf l k)))) : TblO w' w.heap.size w'.heap.size l cs := fun k hk => by
  obtain ⟨A, c, h1, h2⟩ := h k hk
  exact ⟨A, c, h1, h2, fun b hb => h2.lt b hb⟩
theorem TblO.upd {w w' : World} {lo hi : Nat} {l : List Int} {cs : List Value} {S : Nat → Prop} (h : TblO w lo hi l cs) (u : Upd S w w') (hS : ∀ b, lo ≤ b → b < hi → ¬ S b) : TblO w' lo hi l cs := fun k hk => by
  obtain ⟨A, c, h1, h2, h3⟩ := h k hk
  exact ⟨A, c, h1, own_upd h2 u (fun b hb => hS b (h3 b hb).1 (h3 b hb).2), h3⟩
theorem TblO.val {w : World} {lo hi : Nat} {l : List Int} {cs : List Value} (h : TblO w lo hi l cs) (hl : cs.length = 37) (hF : ∀ k, k < 18 → cs[k]? = some (.int .i64 (firstOf l 16 k))) (hA : cs[36]? = some (.bool (anyOf l))) : TblV w w.heap.size l cs :=
  ⟨hl, hF, fun k hk => by obtain ⟨A, c, h1, h2, _⟩ := h k hk; exact ⟨A, c, h1, Vs.of_own h2⟩, hA⟩
/-- Both sides' readers stand at the bit at_; the decoder and the table are there. -/
def RdSt (w : World) (bD gd : Nat) (l : List Int) (bR gr : Nat) (A : Option Addr) (c : Nat) (bs : List UInt8) (high : Bool) (lo gT : Nat) (cs : List Value) (B : Option Addr) (d at_ : Nat) (wr : World) : Prop :=
  DecAt wr bD gd l ∧ Rdr wr bR gr A c bs high at_ ∧ Blk wr gT 46 cs.toArray ∧ Blk wr (gT + 1) 49 #[.slice B bs.length d, .bool high, .int .i64 (at_ : Int)] ∧ TblO wr lo gT l cs ∧ Below w.heap.size w wr ∧ gr < lo ∧ lo ≤ gT ∧ w.heap.size ≤ gr
section
variable {w wr w' : World} {bD gd : Nat} {l : List Int} {bR gr : Nat} {A : Option Addr} {c : Nat} {bs : List UInt8} {high : Bool} {lo gT : Nat} {cs : List Value} {B : Option Addr} {d at_ at2 : Nat}
/-- The program's reader goes on: only its block is written. -/
theorem RdSt.on (h : RdSt w bD gd l bR gr A c bs high lo gT cs B d at_ wr) (hu : Upd (· = gr) wr w') (hr : Rdr w' bR gr A c bs high at2) :
    DecAt w' bD gd l ∧ Rdr w' bR gr A c bs high at2 ∧ Blk w' gT 46 cs.toArray ∧ Blk w' (gT + 1) 49 #[.slice B bs.length d, .bool high, .int .i64 (at_ : Int)] ∧ TblO w' lo gT l cs ∧ Below w.heap.size w w' := by
  obtain ⟨h1, h2, h3, h4, h5, h6, h7, h8, h9⟩ := h
  exact ⟨h1.other h2.1 (by decide) (by decide) hu, hr, h3.upd hu (by omega), h4.upd hu (by omega), h5.upd hu (fun b _ _ e => by omega), h6.trans (hu.below h6.size (fun k hk e => by omega))⟩
end
end Go.Proofs.Ytpolbnobnilfcaa
