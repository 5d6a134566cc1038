/- The trial that each statement of layer 3 begins with answers true. -/
import Derived.Test.YtpolbnobnilfcaaKj
import Derived.Test.YtpolbnobnilfcaaPe
import Derived.Test.YtpolbnobnilfcaaR
import Derived.Test.YtpolbnobnilfcaaCl
namespace Go.Proofs.Ytpolbnobnilfcaa
open Go.ChangeShapes Go.WideShapes Go.ChangeAt Go.RowKit

theorem wk_room : roomAns [2, 1, 3, 3] = 0 := by decide +kernel
theorem wk_roomE : roomErr [2, 1, 3, 3] = 0 := by decide +kernel
theorem wk_codes : codesAns [2, 1, 3, 3] = [2, 0, 6, 7] := by decide +kernel
theorem wk_codesE : codesErr [2, 1, 3, 3] = 0 := by decide +kernel
theorem wk_build : buildErr [5, 1, 1, 0] 15 = 0 := by decide +kernel
theorem wk_one : codesErr [1] = 0 := by decide +kernel
theorem wk_next : nextOf [1] (fun i => bitAt [64] true (0 + i)) (8 * [(64 : UInt8)].length - 0) = (1, 0, 0) := by decide +kernel
theorem wk_least : leastOf [1, 1, 5] 14 = 9 := by decide +kernel
theorem wk_lens (L : List Int) (h : GoodLens [5, 1, 1, 0] 15 L) : L = [1, 2, 2, 0] := by
  obtain ⟨h1, h2, _, h4⟩ := h
  obtain ⟨ht, hs⟩ := h4 (by decide +kernel)
  have hs := hs [1, 1, 5] (by decide +kernel) (by decide)
  rw [show (15 : Nat) - 1 = 14 from rfl, wk_least] at hs
  match L, h1 with
  | [a, b, c, d], _ =>
    have e0 := h2 0 (by decide)
    have e1 := h2 1 (by decide)
    have e2 := h2 2 (by decide)
    have e3 := h2 3 (by decide)
    simp [itm] at e0 e1 e2 e3
    simp [List.range_succ, itm] at hs
    obtain rfl : d = 0 := by omega
    obtain rfl : a = 1 := by omega
    have hb : b = 1 ∨ b = 2 ∨ b = 3 := by omega
    rcases hb with rfl | rfl | rfl
    · obtain rfl : c = 3 := by omega
      exact absurd ht (by decide +kernel)
    · obtain rfl : c = 2 := by omega
      rfl
    · obtain rfl : c = 1 := by omega
      exact absurd ht (by decide +kernel)

theorem bs_lit (w : World) (t : TypeId) (l : List UInt8) (B : Nat) (hB : w.heap.size < B) : Bs (w.alloc (.cells (bytesV l).toArray t)) B (some ⟨w.heap.size, 0, none⟩) l := fun _ => by
  refine ⟨_, rfl, hB, fun j hj => ?_⟩
  have e : (⟨w.heap.size, 0, none⟩ : Addr).add j = ⟨w.heap.size, j, none⟩ := by unfold Addr.add; split <;> simp_all
  rw [e, cell_of_row _ w.heap.size j (bytesV l).toArray t (0, 0) (heap_alloc_new w _)]
  simpa using bytesV_get l j hj
set_option maxHeartbeats 4000000 in
set_option maxRecDepth 100000 in
theorem wakes_any (w : World) : Calls Try.prog 10 #[] w fun e w' => e = .returned (.bool true) ∧ Below w.heap.size w w' := by
  go_enter Try.func10, Try.ntmps10
  have hb0 : Below w.heap.size w (w.alloc (.cells (intsV [2, 1, 3, 3]).toArray 3)) := (Below.refl _ w).alloc (Nat.le_refl _) _
  go_wp2_with fail
  refine (codes_any (some ⟨w.heap.size, 0, none⟩) 4 [2, 1, 3, 3] _ (vs_lit w 3 (intsV [2, 1, 3, 3]) _ (by simp)) (by simp)).mono ?_
  unfold CodesRes
  rw [wk_codesE, wk_codes]
  rintro e w2 ⟨A2, n2, c2, rfl, o2, hb2⟩
  have hn2 := own_len o2
  rw [u32V_length] at hn2
  obtain rfl : 4 = n2 := hn2
  obtain ⟨g2, rfl, _⟩ := row_form o2 (by omega)
  have v2 : Vs w2 w2.heap.size (some ⟨g2, 0, none⟩) (u32V [2, 0, 6, 7]) := Vs.of_own o2
  have HB2 : Hid (Below w.heap.size w w2) := Lib.hid (hb0.trans (hb2.mono hb0.size))
  clear o2 hb2 hb0
  have hb2' : Below w2.heap.size w2 (w2.alloc (.cells (intsV [2, 1, 3, 3]).toArray 3)) := (Below.refl _ w2).alloc (Nat.le_refl _) _
  go_wp2_with fail
  refine (room_any (some ⟨w2.heap.size, 0, none⟩) 4 [2, 1, 3, 3] (w2.heap.size + 1) _ (vs_lit w2 3 (intsV [2, 1, 3, 3]) _ (by omega)) (by simp [maxLen])).mono ?_
  rw [wk_room, wk_roomE]
  rintro e w3 ⟨rfl, hw3⟩
  have hb3 : Below w2.heap.size w2 w3 := by rw [← hw3]; exact hb2'
  clear hw3 hb2'
  have hb3' := hb3.alloc hb3.size (.cells (intsV [5, 1, 1, 0]).toArray 3)
  go_wp2_with fail
  refine (build_any (some ⟨w3.heap.size, 0, none⟩) 4 [5, 1, 1, 0] 15 _ (vs_lit w3 3 (intsV [5, 1, 1, 0]) _ (by simp)) (by simp)).mono ?_
  unfold BuildRes
  rw [wk_build]
  rintro e w4 ⟨A4, n4, c4, L, rfl, o4, hL, _, hb4⟩
  obtain rfl := wk_lens L (hL rfl)
  clear hL
  have hn4 := own_len o4
  rw [intsV_length] at hn4
  obtain rfl : 4 = n4 := hn4
  have v4 : Is w4 w4.heap.size A4 [1, 2, 2, 0] := Vs.of_own o4
  have hb4' : Below w2.heap.size w2 w4 := hb3'.trans (hb4.mono hb3'.size)
  clear o4 hb3 hb3' hb4
  have hb5 := (Below.refl w4.heap.size w4).alloc (Nat.le_refl _) (.cells (intsV [1]).toArray 3)
  go_wp2_with fail
  refine (new_any (some ⟨w4.heap.size, 0, none⟩) 1 [1] _ (vs_lit w4 3 (intsV [1]) _ (by simp)) (by simp)).mono ?_
  intro e w6 hN
  unfold NewRes at hN
  rw [if_pos wk_one] at hN
  obtain ⟨gd, rfl, hd6, hb6⟩ := hN
  have hb6' := hb5.trans (hb6.mono hb5.size)
  clear hb6 hb5
  obtain ⟨b5, hb5e⟩ : ∃ b5, (w4.alloc (.cells (intsV [1]).toArray 3)).heap.size = b5 := ⟨_, rfl⟩
  rw [hb5e] at hd6
  clear hb5e
  have hb7 := (Below.refl w6.heap.size w6).alloc (Nat.le_refl _) (.cells (bytesV [64]).toArray 5)
  go_wp2_with fail
  refine (newReader_any (some ⟨w6.heap.size, 0, none⟩) 1 [64] true (w6.heap.size + 1) _ (bs_lit w6 5 [64] _ (by omega)) (by simp) (by simp)).mono ?_
  rintro e w8 ⟨gr, A8, c8, rfl, hR8, hb8⟩
  have hb8' := hb7.trans (hb8.mono hb7.size)
  have hd8 : DecAt w8 b5 gd [1] := hd6.upd (Upd.of_fresh hb8') (fun _ _ _ => id)
  have hgr : w6.heap.size ≤ gr := Nat.le_trans hb7.size hR8.2.2.1
  clear hd6 hb7 hb8
  go_wp2_with fail
  refine (next_any w8 b5 gd [1] hd8 (by decide +kernel) (by decide) (by decide +kernel) _ gr A8 c8 [64] true 0 hR8).mono ?_
  rw [wk_next]
  rintro e w9 ⟨rfl, _, hu9⟩
  have h9 : Below w4.heap.size w4 w9 := hb6'.trans ((hb8'.mono hb6'.size).trans (Upd.below hu9 (Nat.le_trans hb6'.size hb8'.size) (fun k hk e => by have := hb6'.size; omega)))
  have v4' : Is w9 w4.heap.size A4 [1, 2, 2, 0] := Vs.below v4 h9
  have h9' : Below w2.heap.size w2 w9 := hb4'.trans (h9.mono hb4'.size)
  have v2' : Vs w9 w2.heap.size (some ⟨g2, 0, none⟩) (u32V [2, 0, 6, 7]) := Vs.below v2 h9'
  have HB9 : Hid (Below w.heap.size w w9) := Lib.hid (HB2.out.trans (h9'.mono HB2.out.size))
  have h4le := h9.size
  clear hu9 h9 h9' v4 v2 hb8' hb6' hd8 hR8 HB2 hb4' hgr
  obtain ⟨_, e0, hc0⟩ := u32_at v2' 0 (by decide)
  obtain ⟨_, e1, hc1⟩ := u32_at v2' 1 (by decide)
  obtain ⟨_, e2, hc2⟩ := u32_at v2' 2 (by decide)
  obtain ⟨_, e3, hc3⟩ := u32_at v2' 3 (by decide)
  injection e0 with e0; subst e0
  injection e1 with e1; subst e1
  injection e2 with e2; subst e2
  injection e3 with e3; subst e3
  have ea : ∀ j, (⟨g2, 0, none⟩ : Addr).add j = ⟨g2, j, none⟩ := fun j => by unfold Addr.add; split <;> simp_all
  rw [ea] at hc0 hc1 hc2 hc3
  simp at hc0 hc1 hc2 hc3
  have h4w : Hid (w4.heap.size ≤ w9.heap.size) := Lib.hid h4le
  clear ea v2' h4le
  go_wp2_with fail
  have v4w : Is (w9.alloc (.cells (intsV [1, 2, 2, 0]).toArray 3)) (w9.heap.size + 1) A4 [1, 2, 2, 0] := Vs.more (Vs.below v4' ((Below.refl w4.heap.size w9).alloc h4w.out _)) (by have := h4w.out; omega)
  refine (sameInts_n A4 (some ⟨w9.heap.size, 0, none⟩) 4 4 c4 4 [1, 2, 2, 0] [1, 2, 2, 0] rfl rfl (w9.heap.size + 1) _ v4w (vs_lit w9 3 (intsV [1, 2, 2, 0]) _ (by omega)) (by simp [maxLen])).mono ?_
  rintro e w10 ⟨rfl, n, hw10⟩
  have HBA : Hid (Below w.heap.size w w10) := Lib.hid (by rw [hw10]; exact below_drewN (HB9.out.alloc HB9.out.size _) n)
  clear hw10
  go_wp2_with fail
  go_ret
  exact ⟨rfl, HBA.out⟩
theorem wakes_keeps : WakesKeeps := wakes_any
theorem room_keeps : RoomKeeps := fun A c n l B w hn h hl _ => by
  subst hn
  refine (room_any A c l B w h (by unfold maxLen; omega)).mono ?_
  rintro e w' ⟨rfl, rfl⟩
  exact ⟨rfl, Below.refl _ _⟩
theorem codes_keeps : CodesKeeps := fun A c n l w hn h hl => by
  subst hn
  exact codes_any A c l w h hl
end Go.Proofs.Ytpolbnobnilfcaa
