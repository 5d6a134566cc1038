/- The small trial that each statement of layer 1 begins with answers true and leaves what was there. -/
import Derived.Test.YtlkmhmiaekmkdaaT
import Derived.Test.YtlkmhmiaekmkdaaP
import Derived.Test.YtlkmhmiaekmkdaaJ
namespace Go.Proofs.Ytlkmhmiaekmkdaa
open Go.ChangeShapes Go.WideShapes Go.ChangeAt Go.RowKit

theorem holds_of {high : Bool} {bs : List Bool} {l : List UInt8} (hb : bs.length ≤ 8 * l.length) (h : ∀ i, i < 8 * l.length → bitAt l high i = (bs[i]?).getD false) : Holds high bs l := by
  intro i
  by_cases hi : i < 8 * l.length
  · exact h i hi
  · rw [List.getElem?_eq_none (by omega)]
    unfold bitAt
    rw [List.getElem?_eq_none (by omega)]
    simp
/-- A composite literal of bytes is a row of the call's own. -/
theorem bs_lit (w : World) (t : TypeId) (l : List UInt8) (B : Nat) (hB : w.heap.size < B) : Bs (w.alloc (.cells (bytesV l).toArray t)) B (some ⟨w.heap.size, 0, none⟩) l := fun _ => by
  refine ⟨_, rfl, hB, fun j hj => ?_⟩
  have e : (⟨w.heap.size, 0, none⟩ : Addr).add j = ⟨w.heap.size, j, none⟩ := by unfold Addr.add; split <;> simp_all
  rw [e, (Blk.new w t _).cell j]
  simpa using bytesV_get l j hj

/-- Whatever stood in w stands in w' as it did. -/
def Up (w w' : World) : Prop := Upd (fun k => w.heap.size ≤ k) w w'
theorem Up.refl (w : World) : Up w w := Upd.refl _ w
theorem Up.step {w w' w'' : World} {T : Nat → Prop} (h : Up w w') (k : Upd T w' w'') (hT : ∀ i, T i → w.heap.size ≤ i) : Up w w'' := Upd.then h k (fun i _ ht => hT i ht)
theorem Up.fresh {w w' w'' : World} (h : Up w w') (k : Below w'.heap.size w' w'') : Up w w'' := h.step (Upd.of_fresh k) (fun _ h => h.elim)
theorem Up.below {w w' : World} (h : Up w w') : Below w.heap.size w w' := Upd.below h (Nat.le_refl _) (fun k hk => by omega)
theorem wk_take1 : num true (fun i => bitAt [165, 195] true (0 + i)) 3 = 5 := by decide
theorem wk_take2 : num true (fun i => bitAt [165, 195] true (0 + 3 + i)) 6 = 11 := by decide
theorem wk_get : numB true (fun i => byteAt [1, 2, 3] (0 + i)) 2 = 258 := by decide
theorem wk_packed : Packed true (([] ++ bitsOf true 5 3) ++ bitsOf true 1 2) [168] := ⟨by decide, holds_of (by decide) (by decide)⟩

set_option maxHeartbeats 4000000 in
set_option maxRecDepth 100000 in
theorem wakes_any (w : World) : Calls Try.prog 10 #[] w fun e w' => e = .returned (.bool true) ∧ Below w.heap.size w w' := by
  go_enter Try.func10, Try.ntmps10
  go_wp2_with fail
  refine (newReader_any (some ⟨w.heap.size, 0, none⟩) 2 [165, 195] true _ _ (bs_lit w 5 [165, 195] (w.heap.size + 1) (by omega)) (by simp) (by simp)).mono ?_
  rintro e w1 ⟨gR, A1, c1, rfl, hR1, hb1⟩
  have hz1 : w.heap.size + 1 ≤ w1.heap.size := by have := hb1.size; simpa using this
  go_wp2_with fail
  refine (newWriter_any true w1).mono ?_
  rintro e w2 ⟨gW, rfl, hW2, hb2, hgW⟩
  have hR2 := hR1.upd (Upd.of_fresh hb2) id (fun _ _ => id)
  have hgR : gR < w1.heap.size := hR1.1.lt
  have hne : gR ≠ gW := hR2.1.ne_ hW2.1 (by decide)
  go_wp2_with fail
  refine (take_any w2 _ gR _ _ _ _ 0 3 hR2 (by omega) (by simp)).mono ?_
  rw [wk_take1]
  rintro e w3 ⟨rfl, hR3, hu3⟩
  have hW3 := hW2.upd hu3 (fun e => hne e.symm) (by simp [Value.ownBlock])
  go_wp2_with fail
  refine (take_any w3 _ gR _ _ _ _ (0 + 3) 6 hR3 (by omega) (by simp)).mono ?_
  rw [wk_take2]
  rintro e w4 ⟨rfl, hR4, hu4⟩
  have hW4 := hW3.upd hu4 (fun e => hne e.symm) (by simp [Value.ownBlock])
  go_wp2_with fail
  refine (put_any w4 _ gW none 0 [] true [] 5 3 hW4 (packed_nil true) (by omega) (by omega) (by simp) ?_).mono ?_
  · have := hu3.size; have := hu4.size; have := hb2.size; omega
  rintro e w5 ⟨rfl, A5, c5, l5, hW5, hlen5, hP5, hu5, hO5⟩
  have hD4 := (hR4.2.1.lt)
  have hR5 := hR4.upd hu5 (fun e => by rcases e with e | e; exact hne e; simp at e) (fun k hk e => by rcases e with e | e; (subst e; exact own_blk_ne hR4.2.1 hW4.1 (by decide) hk); simp at e)
  go_wp2_with fail
  refine (put_any w5 _ gW A5 c5 l5 true ([] ++ bitsOf true 5 3) 1 2 (by rw [← hlen5]; exact hW5) hP5 (by omega) (by omega) (by simp [bitsOf]) ?_).mono ?_
  · have := hu3.size; have := hu4.size; have := hb2.size; have := hu5.size; omega
  rintro e w6 ⟨rfl, A6, c6, l6, hW6, hlen6, hP6, hu6, hO6⟩
  have hR6 := hR5.upd hu6 (fun e => by
    rcases e with e | e
    · exact hne e
    · rcases hO5 gR e with h | h
      · simp at h
      · have := hR4.1.lt; omega) (fun k hk e => by
    rcases e with e | e
    · subst e; exact own_blk_ne hR5.2.1 hW5.1 (by decide) hk
    · rcases hO5 k e with h | h
      · simp at h
      · have := (hD4 k hk).2; omega)
  have hl6 : l6 = [168] := packed_unique hP6 wk_packed
  subst hl6
  go_wp2_with fail
  refine (get_ok (some ⟨w6.heap.size, 0, none⟩) 3 [1, 2, 3] 0 2 true _ _ (bs_lit w6 5 [1, 2, 3] (w6.heap.size + 1) (by omega)) (by simp) (by omega) (by omega) (by simp)).mono ?_
  rw [wk_get]
  rintro e w7 ⟨rfl, n7, rfl⟩
  have hu7 : Upd No w6 ((w6.alloc (.cells (bytesV [1, 2, 3]).toArray 5)).drewN n7) := ((Upd.refl No w6).alloc _).drewN n7
  have hR7 := hR6.upd hu7 id (fun _ _ => id)
  go_wp2_with fail
  refine (left_any _ _ gR _ _ _ _ _ hR7).mono ?_
  rintro e w8 ⟨rfl, n8, rfl⟩
  go_wp2_with fail
  have hu8 : Upd No w6 ((w6.alloc (.cells (bytesV [1, 2, 3]).toArray 5)).drewN (n7 + n8)) := ((Upd.refl No w6).alloc _).drewN (n7 + n8)
  have hW8 := hW6.upd hu8 id (fun _ _ => id)
  refine (wbytes_any _ _ gW _ _ _ _ _ hW8 (by simp)).mono ?_
  rintro e w9 ⟨A9, c9, rfl, hown9, hb9⟩
  go_wp2_with fail
  refine (same_any A9 (some ⟨w9.heap.size, 0, none⟩) c9 1 [168] [168] (w9.heap.size + 1) _ (((Bs.of_own hown9).alloc (Nat.le_refl _) _).more (by omega)) (bs_lit w9 5 [168] (w9.heap.size + 1) (by omega)) (by simp [maxLen])).mono ?_
  rintro e w10 ⟨rfl, n10, rfl⟩
  go_wp2_with fail
  go_ret
  refine ⟨ret_bool (by decide), ?_⟩
  have u1 : Up w w1 := ((Up.refl w).fresh ((Below.refl _ _).alloc (Nat.le_refl _) (.cells (bytesV [165, 195]).toArray 5))).fresh hb1
  have u2 : Up w w2 := u1.fresh hb2
  have g1 : w.heap.size ≤ gR := by have := hR1.2.2.1; simp at this; omega
  have g2 : w.heap.size ≤ gW := by have := hW2.2.2; omega
  have u4 : Up w w4 := (u2.step hu3 (fun i e => by subst e; exact g1)).step hu4 (fun i e => by subst e; exact g1)
  have s4 : w.heap.size ≤ w4.heap.size := u4.size
  have u5 : Up w w5 := u4.step hu5 (fun i e => by
    rcases e with e | e
    · subst e; exact g2
    · simp at e)
  have u6 : Up w w6 := u5.step hu6 (fun i e => by
    rcases e with e | e
    · subst e; exact g2
    · rcases hO5 i e with h | h
      · simp at h
      · omega)
  have u8 : Up w _ := u6.step hu8 (fun i h => h.elim)
  have u9 : Up w w9 := u8.fresh hb9
  exact Up.below (Upd.drewN (u9.alloc _) n10)
end Go.Proofs.Ytlkmhmiaekmkdaa
