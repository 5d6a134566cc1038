/- The program's writer and the document's, side by side. -/
import Derived.Test.YtlkmhmiaekmkdaaWz
namespace Go.Proofs.Ytlkmhmiaekmkdaa
open Go.ChangeShapes Go.WideShapes Go.ChangeAt Go.RowKit

theorem packed_align {high : Bool} {bs : List Bool} {l : List UInt8} (h : Packed high bs l) : Packed high (bs ++ List.replicate ((8 - bs.length % 8) % 8) false) l ∧ (bs ++ List.replicate ((8 - bs.length % 8) % 8) false).length = (bs.length + 7) / 8 * 8 := by
  have hlen : (bs ++ List.replicate ((8 - bs.length % 8) % 8) false).length = (bs.length + 7) / 8 * 8 := by rw [List.length_append, List.length_replicate]; omega
  refine ⟨⟨by rw [hlen, h.1]; omega, fun i => ?_⟩, hlen⟩
  rw [h.2 i]
  by_cases hi : i < bs.length
  · rw [List.getElem?_append_left hi]
  · rw [List.getElem?_append_right (by omega), List.getElem?_eq_none (by omega), List.getElem?_replicate]
    split <;> rfl
/-- The program's writer in block gW holds bs1, the document's in block g0 holds bs2; their rows lie apart. -/
def Both (base gW g0 : Nat) (high : Bool) (bs1 bs2 : List Bool) (w : World) : Prop :=
  ∃ A1 c1 l1 B1 d1 l2, Wraw w base gW A1 c1 l1 high bs1.length ∧ Packed high bs1 l1 ∧ Blk w g0 50 #[.bool high, .slice B1 l2.length d1, .int .i64 (bs2.length : Int)] ∧ WVal w base B1 d1 l2 high bs2 ∧
    (∀ k, A1.map (·.block) = some k → ¬ B1.map (·.block) = some k) ∧ base ≤ w.heap.size
section
variable {base gW g0 : Nat} {high : Bool} {bs1 bs2 : List Bool} {w wr w' : World}
theorem Both.upd (h : Both base gW g0 high bs1 bs2 wr) (hu : Upd No wr w') : Both base gW g0 high bs1 bs2 w' := by
  obtain ⟨A1, c1, l1, B1, d1, l2, hW, hP, hD, hV, hA, hB⟩ := h
  exact ⟨A1, c1, l1, B1, d1, l2, hW.upd hu id (fun _ _ => id), hP, hD.upd hu id, ⟨own_upd hV.1 hu (fun _ _ => id), hV.2⟩, hA, Nat.le_trans hB hu.size⟩
/-- A step of the program's writer. -/
theorem Both.mine {A1 A2 B1 : Option Addr} {c1 c2 d1 : Nat} {l1 l1' l2 : List UInt8} {bs1' : List Bool} (hW : Wraw wr base gW A1 c1 l1 high bs1.length) (hD : Blk wr g0 50 #[.bool high, .slice B1 l2.length d1, .int .i64 (bs2.length : Int)]) (hV : WVal wr base B1 d1 l2 high bs2)
    (hA : ∀ k, A1.map (·.block) = some k → ¬ B1.map (·.block) = some k) (hB : base ≤ wr.heap.size) (hW' : Wraw w' base gW A2 c2 l1' high bs1'.length) (hP' : Packed high bs1' l1') (hu : Upd (WS gW A1) wr w') (hO : OwnOr wr A1 A2) : Both base gW g0 high bs1' bs2 w' := by
  have hne : gW ≠ g0 := hW.1.ne_ hD (by decide)
  have n0 : ¬ A1.map (·.block) = some g0 := by have := own_blk_ne hW.2.1 hD (by decide); rwa [ownBlock_slice] at this
  have nW : ¬ B1.map (·.block) = some gW := by have := own_blk_ne hV.1 hW.1 (by decide); rwa [ownBlock_slice] at this
  refine ⟨A2, c2, l1', B1, d1, l2, hW', hP', hD.upd hu (fun e => ?_), ⟨own_upd hV.1 hu (fun k hk e => ?_), hV.2⟩, fun k hk hb => ?_, Nat.le_trans hB hu.size⟩
  · rcases e with e | e
    · exact hne e.symm
    · exact n0 e
  · rw [ownBlock_slice] at hk
    rcases e with e | e
    · subst e; exact nW hk
    · exact hA k e hk
  · rcases hO k hk with h | h
    · exact hA k h hb
    · have := (hV.1.lt k (by rw [ownBlock_slice]; exact hb)).2; omega
theorem Both.put (h : Both base gW g0 high bs1 bs2 wr) (hU : Up w wr) (hb : w.heap.size ≤ base) (n : Int) (v : Nat) (hv : v < 4294967296) (hsz : bs1.length + 32 ≤ 1125899906842000) :
    Calls Try.prog 26 #[.pointer (some ⟨gW, 0, none⟩), .int .u32 (v : Int), .int .i64 n] wr fun e w' => e = .returned (.int .i64 (putErr n)) ∧ Both base gW g0 high (bs1 ++ actBits high n v) bs2 w' ∧ Up w w' := by
  have h0 := h
  obtain ⟨A1, c1, l1, B1, d1, l2, hW, hP, hD, hV, hA, hB⟩ := h
  by_cases hn : 0 ≤ n ∧ n ≤ 32
  · obtain ⟨m, rfl⟩ := Int.eq_ofNat_of_zero_le hn.1
    refine (put_any wr base gW A1 c1 l1 high bs1 v m hW hP hv (by omega) (by omega) hB).mono ?_
    rintro e w' ⟨rfl, A2, c2, l1', hW2, hlen, hP2, hu, hO⟩
    rw [hlen] at hW2
    have e : actBits high (m : Int) v = bitsOf high v m := by unfold actBits; rw [if_pos hn, Int.toNat_natCast]
    refine ⟨by unfold putErr; rw [if_pos hn], by rw [e]; exact Both.mine hW hD hV hA hB hW2 hP2 hu hO, hU.step hu (fun i e => ?_)⟩
    rcases e with e | e
    · subst e; exact Nat.le_trans hb hW.2.2
    · have := (hW.2.1.lt i (by rw [ownBlock_slice]; exact e)).1; omega
  · refine (put_range gW (v : Int) n wr (by omega)).mono ?_
    rintro e w' ⟨rfl, rfl⟩
    have e : actBits high n v = [] := by unfold actBits; rw [if_neg hn]
    exact ⟨by unfold putErr; rw [if_neg hn], by rw [e, List.append_nil]; exact h0, hU⟩
theorem Both.align (h : Both base gW g0 high bs1 bs2 wr) (hU : Up w wr) (hb : w.heap.size ≤ base) (hsz : bs1.length ≤ 1125899906842000) :
    Calls Try.prog 24 #[.pointer (some ⟨gW, 0, none⟩)] wr fun e w' => e = .returned (.tuple #[]) ∧ Both base gW g0 high (bs1 ++ List.replicate ((8 - bs1.length % 8) % 8) false) bs2 w' ∧ Up w w' := by
  obtain ⟨A1, c1, l1, B1, d1, l2, hW, hP, hD, hV, hA, hB⟩ := h
  refine (walign_any wr base gW A1 c1 l1 high bs1.length hW (by omega)).mono ?_
  rintro e w' ⟨rfl, hW2, hu⟩
  rw [← (packed_align hP).2] at hW2
  exact ⟨rfl, Both.mine hW hD hV hA hB hW2 (packed_align hP).1 (hu.mono (fun k _ e => .inl e)) (fun k hk => .inl hk), hU.step hu (fun i e => by subst e; exact Nat.le_trans hb hW.2.2)⟩
end
end Go.Proofs.Ytlkmhmiaekmkdaa
