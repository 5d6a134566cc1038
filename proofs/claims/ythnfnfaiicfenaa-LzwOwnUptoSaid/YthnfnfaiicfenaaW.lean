/- Contracts of the writer of bits: its states, NewWriter, Align, Len, Bytes. -/
import Derived.Test.YthnfnfaiicfenaaU
import Derived.Test.YthnfnfaiicfenaaN
namespace Go.Proofs.Ythnfnfaiicfenaa
open Go.ChangeShapes Go.WideShapes Go.ChangeAt Go.RowKit

/-- A writer stands in block g: its bytes l, in a row of the call's own, its order, how many bits were written. -/
def Wraw (w : World) (base g : Nat) (A : Option Addr) (c : Nat) (l : List UInt8) (high : Bool) (len : Nat) : Prop :=
  Blk w g 111 #[.slice A l.length c, .int .i64 (len : Int), ord high] ∧ w.ownsRow base 5 1 (.slice A l.length c) l.length (bytesV l) ∧ base ≤ g

section
variable {w w' : World} {base g : Nat} {A : Option Addr} {c : Nat} {l : List UInt8} {high : Bool} {len : Nat}
theorem Wraw.upd {S : Nat → Prop} (h : Wraw w base g A c l high len) (hu : Upd S w w') (hg : ¬ S g) (hA : ∀ k, (Value.slice A l.length c).ownBlock = some k → ¬ S k) : Wraw w' base g A c l high len :=
  ⟨h.1.upd hu hg, own_upd h.2.1 hu hA, h.2.2⟩
theorem Wraw.data (h : Wraw w base g A c l high len) : w.cell? ⟨g, 0, none⟩ = some (.slice A l.length c) := by rw [h.1.cell]; rfl
theorem Wraw.place (h : Wraw w base g A c l high len) : w.cell? ⟨g, 1, none⟩ = some (.int .i64 (len : Int)) := by rw [h.1.cell]; rfl
theorem Wraw.shift (h : Wraw w base g A c l high len) : w.cell? ⟨g, 2, none⟩ = some (ord high) := by rw [h.1.cell]; rfl
theorem Wraw.free (h : Wraw w base g A c l high len) (i : Nat) : w.frozen? ⟨g, i, none⟩ = false := h.1.frozen i
theorem Wraw.ne (h : Wraw w base g A c l high len) : (Value.slice A l.length c).ownBlock ≠ some g := own_blk_ne h.2.1 h.1 (by decide)
theorem Wraw.setLen (h : Wraw w base g A c l high len) (k : Nat) : Wraw (w.setCell ⟨g, 1, none⟩ (.int .i64 (k : Int))) base g A c l high k :=
  ⟨h.1.set_ 1 _, own_upd h.2.1 ((Upd.refl (· = g) w).setCell (p := ⟨g, 1, none⟩) (fun _ => rfl) _) (fun k hk e => h.ne (by subst e; exact hk)), h.2.2⟩
/-- The field of the bytes is written: a grown row. -/
theorem Wraw.setData (hb : Blk w g 111 #[.slice A l.length c, .int .i64 (len : Int), ord high]) (hg : base ≤ g) {A' : Option Addr} {c' : Nat} {l' : List UInt8}
    (hown : w.ownsRow base 5 1 (.slice A' l'.length c') l'.length (bytesV l')) : Wraw (w.setCell ⟨g, 0, none⟩ (.slice A' l'.length c')) base g A' c' l' high len :=
  ⟨hb.set_ 0 _, own_upd hown ((Upd.refl (· = g) w).setCell (p := ⟨g, 0, none⟩) (fun _ => rfl) _) (fun k hk e => own_blk_ne hown hb (by decide) (by subst e; exact hk)), hg⟩
theorem Wraw.setByte {gd : Nat} (h : Wraw w base g (some ⟨gd, 0, none⟩) c l high len) (q : Nat) (x : UInt8) : Wraw (w.setCell ⟨gd, q, none⟩ (.int .u8 (x.toNat : Int))) base g (some ⟨gd, 0, none⟩) c (l.set q x) high len := by
  have hne : gd ≠ g := fun e => h.ne (by subst e; rfl)
  have hs := h.2.1.stored q (.int .u8 (x.toNat : Int))
  refine ⟨?_, ?_, h.2.2⟩
  · rw [List.length_set]
    exact h.1.upd ((Upd.refl (· = gd) w).setCell (p := ⟨gd, q, none⟩) (fun _ => rfl) _) (fun e => hne e.symm)
  · rw [List.length_set]
    have e : bytesV (l.set q x) = (bytesV l).set q (.int .u8 (x.toNat : Int)) := by simp [bytesV, bv, List.map_set]
    rw [e]
    exact hs.1
end

def NewWtr (w : World) (high : Bool) (e : Ending) (w' : World) : Prop := ∃ g, e = .returned (.pointer (some ⟨g, 0, none⟩)) ∧ Wraw w' w.heap.size g none 0 [] high 0 ∧ Below w.heap.size w w' ∧ g < w'.heap.size
set_option maxHeartbeats 400000 in
theorem newWriter_any (high : Bool) (w : World) : Calls Try.prog 47 #[.bool high] w (NewWtr w high) := by
  go_enter Try.func47, Try.ntmps47
  go_wp2_with (go_at_call 58; refine (orderOf_any _ _).mono ?_; rintro e w2 ⟨rfl, rfl⟩; unfold ord)
  all_goals go_ret
  all_goals exact ⟨_, rfl, ⟨Blk.new _ _ _, World.ownsRow_nil _ _ _ _, Nat.le_refl _⟩, (Below.refl _ _).alloc (Nat.le_refl _) _, by simp⟩

set_option maxHeartbeats 400000 in
theorem wbytes_any (w : World) (base g : Nat) (A : Option Addr) (c : Nat) (l : List UInt8) (high : Bool) (len : Nat) (h : Wraw w base g A c l high len) (hl : l.length ≤ 140737488355328) :
    Calls Try.prog 53 #[.pointer (some ⟨g, 0, none⟩)] w fun e w' => ∃ A' c', e = .returned (.slice A' l.length c') ∧
      w'.ownsRow w.heap.size 5 1 (.slice A' l.length c') l.length (bytesV l) ∧ Below w.heap.size w w' := by
  have hc0 := h.data
  have hbs := Bs.of_own h.2.1
  go_enter Try.func53, Try.ntmps53
  go_wp2_with (go_at_call 57; refine (copyOf_any _ _ _ _ _ hbs (Nat.le_refl _) hl).mono ?_; rintro e w1 ⟨A1, c1, rfl, hown1, hb1⟩)
  go_ret
  exact ⟨A1, c1, rfl, hown1, hb1⟩
theorem wbytes_nil (w : World) :
    Calls Try.prog 53 #[.pointer none] w fun e w' => e = .returned (.slice none 0 0) ∧ w = w' := by
  go_enter Try.func53, Try.ntmps53
  go_wp2_with fail
  go_ret
  exact ⟨rfl, rfl⟩
theorem put_nil (v n : Int) (w : World) :
    Calls Try.prog 67 #[.pointer none, .int .u32 v, .int .i64 n] w fun e w' => e = .returned (.int .i64 1) ∧ w = w' := by
  go_enter Try.func67, Try.ntmps67
  go_wp2_with fail
  go_ret
  exact ⟨rfl, rfl⟩
theorem put_range (g : Nat) (v n : Int) (w : World) (hn : n < 0 ∨ 32 < n) :
    Calls Try.prog 67 #[.pointer (some ⟨g, 0, none⟩), .int .u32 v, .int .i64 n] w fun e w' => e = .returned (.int .i64 2) ∧ w = w' := by
  rcases hn with hn | hn
  · have d1 : decide (n < 0) = true := by simp; omega
    go_enter Try.func67, Try.ntmps67
    go_wp2_with fail
    go_ret
    exact ⟨rfl, rfl⟩
  · have d1 : decide (n < 0) = false := by simp; omega
    go_enter Try.func67, Try.ntmps67
    go_wp2_with fail
    go_ret
    exact ⟨rfl, rfl⟩
end Go.Proofs.Ythnfnfaiicfenaa
