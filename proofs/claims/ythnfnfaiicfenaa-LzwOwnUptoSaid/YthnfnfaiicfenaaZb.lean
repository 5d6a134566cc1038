/- The reader's state: what was written, the table, the code ahead. -/
import Derived.Test.YthnfnfaiicfenaaZa
import Derived.Test.YthnfnfaiicfenaaP
import Derived.Test.YthnfnfaiicfenaaAn
import Derived.Deep.RegionHeld3
import Derived.WalkLawsBesides
namespace Go.Proofs.Ythnfnfaiicfenaa
open Go.ChangeShapes Go.WideShapes Go.ChangeAt Go.RowKit

/-- The cells of a row of texts. -/
def txV : List (Nat × Nat) → List Value
  | [] => []
  | x :: r => .int .i64 (x.1 : Int) :: .int .i64 (x.2 : Int) :: txV r
theorem txV_length (l : List (Nat × Nat)) : (txV l).length = l.length * 2 := by
  induction l with
  | nil => rfl
  | cons x r ih => simp [txV, ih]; omega
theorem txV_append (a b : List (Nat × Nat)) : txV (a ++ b) = txV a ++ txV b := by
  induction a with
  | nil => rfl
  | cons x r ih => simp [txV, ih]
theorem txV_get (l : List (Nat × Nat)) (k : Nat) (h : k < l.length) : (txV l)[k * 2]? = some (.int .i64 (l[k].1 : Int)) ∧ (txV l)[k * 2 + 1]? = some (.int .i64 (l[k].2 : Int)) := by
  induction l generalizing k with
  | nil => simp at h
  | cons x r ih =>
    cases k with
    | zero => exact ⟨rfl, rfl⟩
    | succ k =>
      have := ih k (by simpa using h)
      rw [show (k + 1) * 2 = k * 2 + 1 + 1 by omega]
      exact this
/-- An unpacker stands in block gu; its rows lie from block N on. -/
structure Upk (w : World) (N gu size : Nat) (high : Bool) (early : Nat) (most : Int) (Ao : Option Addr) (co : Nat) (out : List UInt8) (At : Option Addr) (ct : Nat) (tx : List (Nat × Nat)) (af an : Nat) : Prop where
  blk : Blk w gu 63 #[.int .i64 (size : Int), .bool high, .int .i64 (early : Int), .slice Ao out.length co, .int .i64 most, .slice At tx.length ct, .int .i64 (af : Int), .int .i64 (an : Int)]
  own : w.ownsRow N 5 1 (.slice Ao out.length co) out.length (bytesV out)
  tab : w.ownsRow N 61 2 (.slice At tx.length ct) tx.length (txV tx)
  lt : gu < N
  room : N ≤ w.heap.size
/-- What an unpacker's methods write. -/
def US (gu N : Nat) : Nat → Prop := fun k => k = gu ∨ N ≤ k
section
variable {w w' wm : World} {N gu size : Nat} {high : Bool} {early : Nat} {most : Int} {Ao : Option Addr} {co : Nat} {out : List UInt8} {At : Option Addr} {ct : Nat} {tx : List (Nat × Nat)} {af an : Nat}
theorem Upk.c0 (h : Upk w N gu size high early most Ao co out At ct tx af an) : w.cell? ⟨gu, 0, none⟩ = some (.int .i64 (size : Int)) := by rw [h.blk.cell]; rfl
theorem Upk.c1 (h : Upk w N gu size high early most Ao co out At ct tx af an) : w.cell? ⟨gu, 1, none⟩ = some (.bool high) := by rw [h.blk.cell]; rfl
theorem Upk.c2 (h : Upk w N gu size high early most Ao co out At ct tx af an) : w.cell? ⟨gu, 2, none⟩ = some (.int .i64 (early : Int)) := by rw [h.blk.cell]; rfl
theorem Upk.c3 (h : Upk w N gu size high early most Ao co out At ct tx af an) : w.cell? ⟨gu, 3, none⟩ = some (.slice Ao out.length co) := by rw [h.blk.cell]; rfl
theorem Upk.c4 (h : Upk w N gu size high early most Ao co out At ct tx af an) : w.cell? ⟨gu, 4, none⟩ = some (.int .i64 most) := by rw [h.blk.cell]; rfl
theorem Upk.c5 (h : Upk w N gu size high early most Ao co out At ct tx af an) : w.cell? ⟨gu, 5, none⟩ = some (.slice At tx.length ct) := by rw [h.blk.cell]; rfl
theorem Upk.c6 (h : Upk w N gu size high early most Ao co out At ct tx af an) : w.cell? ⟨gu, 6, none⟩ = some (.int .i64 (af : Int)) := by rw [h.blk.cell]; rfl
theorem Upk.c7 (h : Upk w N gu size high early most Ao co out At ct tx af an) : w.cell? ⟨gu, 7, none⟩ = some (.int .i64 (an : Int)) := by rw [h.blk.cell]; rfl
/-- New memory alone was made. -/
theorem Upk.fresh (h : Upk w N gu size high early most Ao co out At ct tx af an) (hb : Below w.heap.size w w') : Upk w' N gu size high early most Ao co out At ct tx af an :=
  ⟨h.blk.upd (Upd.of_fresh hb) id, own_upd h.own (Upd.of_fresh hb) (fun _ _ => id), own_upd h.tab (Upd.of_fresh hb) (fun _ _ => id), h.lt, Nat.le_trans h.room hb.size⟩
theorem Upk.drew (h : Upk w N gu size high early most Ao co out At ct tx af an) : Upk w.drew N gu size high early most Ao co out At ct tx af an := ⟨h.blk, h.own, h.tab, h.lt, h.room⟩
theorem Upk.drewN (h : Upk w N gu size high early most Ao co out At ct tx af an) (n : Nat) : Upk (w.drewN n) N gu size high early most Ao co out At ct tx af an := ⟨h.blk, h.own, h.tab, h.lt, h.room⟩
theorem Upd.fresh_ {S : Nat → Prop} (hb : Below w.heap.size w w') : Upd S w w' := (Upd.of_fresh hb).mono (fun _ _ h => h.elim)
/-- What was written grew, and the field is written. -/
theorem Upk.growOut (h : Upk w N gu size high early most Ao co out At ct tx af an) {A2 : Option Addr} {c2 n : Nat} {out2 : List UInt8} (hn : out2.length = n) (hO : wm.ownsRow N 5 1 (.slice A2 n c2) n (bytesV out2))
    (hg : w.grownBy wm (Value.slice Ao out.length co).ownBlock) :
    Upk (wm.setCell ⟨gu, 3, none⟩ (.slice A2 n c2)) N gu size high early most A2 c2 out2 At ct tx af an ∧ Upd (US gu N) w (wm.setCell ⟨gu, 3, none⟩ (.slice A2 n c2)) := by
  subst hn
  have hu0 := Upd.of_grown hg
  have hblk : Blk wm gu 63 _ := h.blk.upd hu0 (fun e => own_blk_ne h.own h.blk (by decide) e.symm)
  have hs : Upd (· = gu) wm (wm.setCell ⟨gu, 3, none⟩ (.slice A2 out2.length c2)) := (Upd.refl (· = gu) wm).setCell (p := ⟨gu, 3, none⟩) (fun _ => rfl) _
  refine ⟨⟨hblk.set_ 3 _, own_upd hO hs (fun k hk e => ?_), own_upd (own_upd h.tab hu0 (fun k hk e => own_own_ne h.tab h.own (by decide) k hk e.symm)) hs (fun k hk e => ?_), h.lt, Nat.le_trans h.room (by have := hg.size; have := hs.size; omega)⟩, ?_⟩
  · subst e; exact own_blk_ne hO hblk (by decide) hk
  · subst e; exact own_blk_ne h.tab h.blk (by decide) hk
  · refine Upd.then (S := US gu N) (T := (· = gu)) (hu0.mono fun k hk e => ?_) hs (fun i _ e => .inl e)
    exact .inr (h.own.lt k e.symm).1
/-- The table grew, and the field is written. -/
theorem Upk.growTab (h : Upk w N gu size high early most Ao co out At ct tx af an) {A2 : Option Addr} {c2 n : Nat} {tx2 : List (Nat × Nat)} (hn : tx2.length = n) (hO : wm.ownsRow N 61 2 (.slice A2 n c2) n (txV tx2))
    (hg : w.grownBy wm (Value.slice At tx.length ct).ownBlock) :
    Upk (wm.setCell ⟨gu, 5, none⟩ (.slice A2 n c2)) N gu size high early most Ao co out A2 c2 tx2 af an ∧ Upd (US gu N) w (wm.setCell ⟨gu, 5, none⟩ (.slice A2 n c2)) := by
  subst hn
  have hu0 := Upd.of_grown hg
  have hblk : Blk wm gu 63 _ := h.blk.upd hu0 (fun e => own_blk_ne h.tab h.blk (by decide) e.symm)
  have hs : Upd (· = gu) wm (wm.setCell ⟨gu, 5, none⟩ (.slice A2 tx2.length c2)) := (Upd.refl (· = gu) wm).setCell (p := ⟨gu, 5, none⟩) (fun _ => rfl) _
  refine ⟨⟨hblk.set_ 5 _, own_upd (own_upd h.own hu0 (fun k hk e => own_own_ne h.own h.tab (by decide) k hk e.symm)) hs (fun k hk e => ?_), own_upd hO hs (fun k hk e => ?_), h.lt, Nat.le_trans h.room (by have := hg.size; have := hs.size; omega)⟩, ?_⟩
  · subst e; exact own_blk_ne h.own h.blk (by decide) hk
  · subst e; exact own_blk_ne hO hblk (by decide) hk
  · refine Upd.then (S := US gu N) (T := (· = gu)) (hu0.mono fun k hk e => ?_) hs (fun i _ e => .inl e)
    exact .inr (h.tab.lt k e.symm).1
end
/-- Any one of the rows that may be. -/
def UpkO (w : World) (N gu size : Nat) (high : Bool) (early : Nat) (most : Int) (out : List UInt8) (tx : List (Nat × Nat)) (af an : Nat) : Prop :=
  ∃ Ao co At ct, Upk w N gu size high early most Ao co out At ct tx af an
theorem info_text : (Try.prog.info? 61).map (fun i => (i.zero, i.size, i.bytes)) = some (some (.agg #[.int .i64 0, .int .i64 0]), 2, 16) := by kernel_rfl
theorem belowAlloc {W w : World} (h : Below W.heap.size W w) (o : Obj) : Below W.heap.size W (w.alloc o) := h.alloc h.size o
theorem belowStep {W w w' : World} (h : Below W.heap.size W w) (k : Below w.heap.size w w') : Below W.heap.size W w' := h.trans (k.mono h.size)
/-- codes answers how many codes there are. -/
theorem codes_any (w : World) (N gu size : Nat) (high : Bool) (early : Nat) (most : Int) (Ao : Option Addr) (co : Nat) (out : List UInt8) (At : Option Addr) (ct : Nat) (tx : List (Nat × Nat)) (af an : Nat) (h : Upk w N gu size high early most Ao co out At ct tx af an)
    (h1 : 2 ≤ size) (h2 : size ≤ 8) (hl : tx.length ≤ 4096) :
    Calls Try.prog 39 #[.pointer (some ⟨gu, 0, none⟩)] w (AnswersB ((clr size + 2 + tx.length : Nat) : Int) w) := by
  have c0 := h.c0
  have c1 := h.c1
  have c2 := h.c2
  have c5 := h.c5
  have hlt := h.blk.lt
  have hc := clr_le h1 h2
  have hfull : Hid (∀ w', Below w.heap.size w w' → (Below w.heap.size w w' ∧ w'.cell? ⟨gu, 0, none⟩ = some (.int .i64 (size : Int)) ∧ w'.cell? ⟨gu, 1, none⟩ = some (.bool high) ∧ w'.cell? ⟨gu, 2, none⟩ = some (.int .i64 (early : Int)) ∧ w'.cell? ⟨gu, 5, none⟩ = some (.slice At tx.length ct))) :=
    Lib.hid fun w' hb => ⟨hb, (hb.cell (p := ⟨gu, 0, none⟩) hlt).trans c0, (hb.cell (p := ⟨gu, 1, none⟩) hlt).trans c1, (hb.cell (p := ⟨gu, 2, none⟩) hlt).trans c2, (hb.cell (p := ⟨gu, 5, none⟩) hlt).trans c5⟩
  clear h
  go_enter Try.func39, Try.ntmps39
  go_wp2_with fail
  go_region_held3 (fun w' => Below w.heap.size w w' ∧ w'.cell? ⟨gu, 0, none⟩ = some (.int .i64 (size : Int)) ∧ w'.cell? ⟨gu, 1, none⟩ = some (.bool high) ∧ w'.cell? ⟨gu, 2, none⟩ = some (.int .i64 (early : Int)) ∧ w'.cell? ⟨gu, 5, none⟩ = some (.slice At tx.length ct))
    (first | exact hfull.out _ (Below.refl _ _) | exact hfull.out _ (Below.drew (Below.refl _ _)) | exact hfull.out _ (Below.drew (And.left (by assumption))) | exact hfull.out _ (by assumption))
    ((go_at_call 48; refine (first_any size high early _ h1 h2).mono ?_; rintro e w6 ⟨rfl, hb6⟩; have hc6 := belowStep (And.left (by assumption)) hb6))
  all_goals
    go_wp2_with fail
    go_ret
    exact ⟨ret_i64 (by rw [IntWalk.i64_in _ (by omega)]; omega), by assumption⟩
end Go.Proofs.Ythnfnfaiicfenaa
