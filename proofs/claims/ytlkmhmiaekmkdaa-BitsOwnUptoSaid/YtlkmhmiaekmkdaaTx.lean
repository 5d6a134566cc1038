/- A step of the document's writer beside the program's. -/
import Derived.Test.YtlkmhmiaekmkdaaTw
namespace Go.Proofs.Ytlkmhmiaekmkdaa
open Go.ChangeShapes Go.WideShapes Go.ChangeAt Go.RowKit

def DocRes (w : World) (base : Nat) (B1 : Option Addr) (high : Bool) (bs : List Bool) (er : Int) (e : Ending) (w' : World) : Prop :=
  ∃ B2 d2 l2, e = .returned (.tuple #[.agg #[.bool high, .slice B2 l2.length d2, .int .i64 (bs.length : Int)], .int .i64 er]) ∧ WVal w' base B2 d2 l2 high bs ∧ Upd (fun k => B1.map (·.block) = some k) w w' ∧ OwnOr w B1 B2
theorem docPut (w : World) (base : Nat) (B : Option Addr) (d : Nat) (l : List UInt8) (high : Bool) (bs : List Bool) (v : Nat) (n : Int) (h : WVal w base B d l high bs) (hB : base ≤ w.heap.size) (hsz : bs.length + 32 ≤ 1125899906842000) :
    Calls Try.prog 27 #[.agg #[.bool high, .slice B l.length d, .int .i64 (bs.length : Int)], .int .u32 (v : Int), .int .i64 n] w (DocRes w base B high (bs ++ actBits high n v) (putErr n)) := by
  by_cases hn : 0 ≤ n ∧ n ≤ 32
  · obtain ⟨m, rfl⟩ := Int.eq_ofNat_of_zero_le hn.1
    refine (refPut_ok w base B d l high bs v m h hB (by omega) (by omega)).mono ?_
    rintro e w' ⟨B2, d2, l2, rfl, hV, hu, hO⟩
    have e : actBits high (m : Int) v = bitsOf high v m := by unfold actBits; rw [if_pos hn, Int.toNat_natCast]
    rw [e]
    exact ⟨B2, d2, l2, by unfold putErr; rw [if_pos hn], hV, hu, hO⟩
  · refine (refPut_range B l.length d high (bs.length : Int) (v : Int) n w (by omega)).mono ?_
    rintro e w' ⟨rfl, hb⟩
    have e : actBits high n v = [] := by unfold actBits; rw [if_neg hn]
    rw [e, List.append_nil]
    exact ⟨B, d, l, by unfold putErr; rw [if_neg hn], ⟨own_upd h.1 (Upd.of_fresh hb) (fun _ _ => id), h.2⟩, (Upd.of_fresh hb).mono (fun k _ h => h.elim), fun k hk => .inl hk⟩
theorem Both.theirs {base gW g0 : Nat} {high : Bool} {bs1 bs2 bs2' : List Bool} {w w5 W9 : World} {A1 B1 B2 : Option Addr} {c1 d1 d2 : Nat} {l1 l2 l2' : List UInt8} (hW : Wraw w5 base gW A1 c1 l1 high bs1.length) (hP : Packed high bs1 l1)
    (hD : Blk w5 g0 50 #[.bool high, .slice B1 l2.length d1, .int .i64 (bs2.length : Int)]) (hV : WVal w5 base B1 d1 l2 high bs2) (hA : ∀ k, A1.map (·.block) = some k → ¬ B1.map (·.block) = some k) (hB : base ≤ w5.heap.size) (hU : Up w w5) (hb : w.heap.size ≤ base) (hg : w.heap.size ≤ g0)
    (hV9 : WVal W9 base B2 d2 l2' high bs2') (hu : Upd (fun k => B1.map (·.block) = some k) w5 W9) (hO : OwnOr w5 B1 B2) :
    Blk W9 g0 50 #[.bool high, .slice B1 l2.length d1, .int .i64 (bs2.length : Int)] ∧ Both base gW g0 high bs1 bs2' (((W9.setCell ⟨g0, 0, none⟩ (.bool high)).setCell ⟨g0, 1, none⟩ (.slice B2 l2'.length d2)).setCell ⟨g0, 2, none⟩ (.int .i64 (bs2'.length : Int))) ∧ Up w (((W9.setCell ⟨g0, 0, none⟩ (.bool high)).setCell ⟨g0, 1, none⟩ (.slice B2 l2'.length d2)).setCell ⟨g0, 2, none⟩ (.int .i64 (bs2'.length : Int))) := by
  have hne : gW ≠ g0 := hW.1.ne_ hD (by decide)
  have n0 : ¬ A1.map (·.block) = some g0 := by have := own_blk_ne hW.2.1 hD (by decide); rwa [ownBlock_slice] at this
  have nW : ¬ B1.map (·.block) = some gW := by have := own_blk_ne hV.1 hW.1 (by decide); rwa [ownBlock_slice] at this
  have nD : ¬ B1.map (·.block) = some g0 := by have := own_blk_ne hV.1 hD (by decide); rwa [ownBlock_slice] at this
  have hD9 := hD.upd hu nD
  have hW9 := hW.upd hu nW (fun k hk e => hA k (by rw [ownBlock_slice] at hk; exact hk) e)
  have u3 : Upd (· = g0) W9 (((W9.setCell ⟨g0, 0, none⟩ (.bool high)).setCell ⟨g0, 1, none⟩ (.slice B2 l2'.length d2)).setCell ⟨g0, 2, none⟩ (.int .i64 (bs2'.length : Int))) := (((Upd.refl (· = g0) _).setCell (p := ⟨g0, 0, none⟩) (fun _ => rfl) _).setCell (p := ⟨g0, 1, none⟩) (fun _ => rfl) _).setCell (p := ⟨g0, 2, none⟩) (fun _ => rfl) _
  refine ⟨hD9, ⟨A1, c1, l1, B2, d2, l2', hW9.upd u3 hne (fun k hk e => n0 (by rw [ownBlock_slice] at hk; rw [← e]; exact hk)), hP, ((hD9.set_ 0 _).set_ 1 _).set_ 2 _, ⟨own_upd hV9.1 u3 (fun k hk e => own_blk_ne hV9.1 hD9 (by decide) (by subst e; exact hk)), hV9.2⟩, fun k hk hbk => ?_, ?_⟩, ?_⟩
  · rcases hO k hbk with h | h
    · exact hA k hk h
    · have := (hW.2.1.lt k (by rw [ownBlock_slice]; exact hk)).2; omega
  · exact Nat.le_trans hB (Nat.le_trans hu.size u3.size)
  · refine (hU.step hu (fun i e => ?_)).step u3 (fun i e => by omega)
    have := (hV.1.lt i (by rw [ownBlock_slice]; exact e)).1
    omega
end Go.Proofs.Ytlkmhmiaekmkdaa
