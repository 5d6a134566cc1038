/- Grids of colours in memory: Clone, Of, W, H, Cells. -/
import Derived.Test.YtnfjeeflcfmpbaaGreatDoorQp
namespace Go.Proofs.YtnfjeeflcfmpbaaGreatDoor
open Go.ChangeShapes Go.WideShapes Go.ChangeAt Go.RowKit

theorem crow_len {w : World} {base n : Nat} {v : Value} {e : TypeId} {l : List Col} (h : w.ownsRow base e 4 v n (colsV l)) : l.length = n := by
  have := h.1
  rw [colsV_length] at this
  omega
/-- A grid of colours stands at block g, its cells in row r. -/
structure CG (w : World) (base g r c W H : Nat) (l : List Col) : Prop where
  blk : Blk w g 137 #[.int .i64 (W : Int), .int .i64 (H : Int), .slice (some ⟨r, 0, none⟩) (W * H) c]
  row : w.ownsRow base 49 4 (.slice (some ⟨r, 0, none⟩) (W * H) c) (W * H) (colsV l)
  fresh : base ≤ g
  w1 : 1 ≤ W
  w2 : W ≤ 4096
  h1 : 1 ≤ H
  h2 : H ≤ 4096
  few : W * H ≤ 65536
section
variable {w w' : World} {base g r c W H : Nat} {l : List Col}
theorem CG.c0 (h : CG w base g r c W H l) : w.cell? ⟨g, 0, none⟩ = some (.int .i64 (W : Int)) := by rw [h.blk.cell]; rfl
theorem CG.c1 (h : CG w base g r c W H l) : w.cell? ⟨g, 1, none⟩ = some (.int .i64 (H : Int)) := by rw [h.blk.cell]; rfl
theorem CG.c2 (h : CG w base g r c W H l) : w.cell? ⟨g, 2, none⟩ = some (.slice (some ⟨r, 0, none⟩) (W * H) c) := by rw [h.blk.cell]; rfl
theorem CG.pos (h : CG w base g r c W H l) : 0 < W * H := Nat.mul_pos h.w1 h.h1
theorem CG.len (h : CG w base g r c W H l) : l.length = W * H := crow_len h.row
theorem CG.form (h : CG w base g r c W H l) : W * H ≤ c ∧ c ≤ maxLen ∧ base ≤ r ∧ r < w.heap.size := by
  obtain ⟨g', e1, h1, h2, h3, h4⟩ := crow_form h.row h.pos
  injection e1 with e1
  injection e1 with e1
  subst e1
  exact ⟨h1, h2, h3, h4⟩
theorem CG.cs (h : CG w base g r c W H l) : Cs w w.heap.size (some ⟨r, 0, none⟩) l := by
  have := h.row
  rw [← List.append_nil (colsV l)] at this
  exact Cs.of_own this h.form.2.2.2
theorem CG.at_ (h : CG w base g r c W H l) {k : Nat} (hk : k < l.length) : w.cell? ⟨r, k * 4, none⟩ = some (.int .u16 l[k].r) ∧ w.cell? ⟨r, k * 4 + 1, none⟩ = some (.int .u16 l[k].g) ∧ w.cell? ⟨r, k * 4 + 2, none⟩ = some (.int .u16 l[k].b) ∧ w.cell? ⟨r, k * 4 + 3, none⟩ = some (.int .u16 l[k].a) := by
  obtain ⟨b, off, e, _, h1⟩ := h.cs.at_ hk
  injection e with e
  injection e with e1 e2
  subst e1 e2
  simpa only [Nat.zero_add] using h1
theorem CG.upd {S : Nat → Prop} (h : CG w base g r c W H l) (u : Upd S w w') (h1 : ¬ S g) (h2 : ¬ S r) : CG w' base g r c W H l :=
  ⟨h.blk.upd u h1, own_upd h.row u (fun k hk => by simp [Value.ownBlock] at hk; subst hk; exact h2), h.fresh, h.w1, h.w2, h.h1, h.h2, h.few⟩
theorem CG.call (h : CG w base g r c W H l) (hb : Below w.heap.size w w') : CG w' base g r c W H l := h.upd (Upd.of_fresh hb) id id
theorem CG.low (h : CG w base g r c W H l) {b : Nat} (hb : b ≤ base) : CG w b g r c W H l := ⟨h.blk, own_low h.row hb, by have := h.fresh; omega, h.w1, h.w2, h.h1, h.h2, h.few⟩
theorem CG.ne (h : CG w base g r c W H l) : r ≠ g := fun e => by
  subst e
  exact own_blk_ne h.row h.blk (by decide) rfl
end
set_option maxRecDepth 100000 in
set_option maxHeartbeats 1000000 in
theorem cloneC_any (r o n c : Nat) (l : List Col) (hn : l.length = n) (B : Nat) (w : World) (h : Cs w B (some ⟨r, o, none⟩) l) (hB : B ≤ w.heap.size) (h0 : 0 < n) (hl : n ≤ 1048576) :
    Calls Tryz.prog 80 #[.slice (some ⟨r, o, none⟩) n c] w fun e w' => ∃ r' c', e = .returned (.slice (some ⟨r', 0, none⟩) n c') ∧ w'.ownsRow w.heap.size 49 4 (.slice (some ⟨r', 0, none⟩) n c') n (colsV l) ∧ Below w.heap.size w w' := by
  have hlit := World.ownsRow_made (base := w.heap.size) (e := 49) (size := 4) w #[] 0 (Nat.le_refl _) (by unfold maxLen; omega) rfl
  have hbe := (Below.refl w.heap.size w).alloc (Nat.le_refl _) (.cells #[] 49)
  obtain ⟨A1, c1, w1, hrun, o1, hg1⟩ := append_cols w.heap.size (w.alloc (.cells #[] 49)) (.slice (some ⟨w.heap.size, 0, none⟩) 0 0) 0 [] hlit (by simp) B (some ⟨r, o, none⟩) n c l hn (h.below (hbe.mono hB)) (by omega) 68
  simp only [Nat.zero_add, List.nil_append] at hrun o1
  have HRN := Lib.hid hrun
  have HG1 := Lib.hid (hbe.grown hg1 (by simp) (by intro q hq; simp [Value.ownBlock] at hq; omega))
  have HO1 := Lib.hid o1
  clear hlit hbe hrun o1 hg1 h
  have q22 : ∀ (w : World) (a : Option Addr) (n c n' c' : Nat), (binOp .eql 68 (.slice a n c) (.slice none n' c')).run Tryz.prog w = .ok (.bool a.isNone) w := fun w a n c n' c' => Lib.run_eql_slice_nil w _ _ a n c n' c' Tryz.underlying68
  go_enter Tryz.func80, Tryz.ntmps80
  go_wp2_with (at_builtin; refine wpList_append_run rfl (.tmp 5) (.tmp 6) _ rfl rfl rfl HRN.out ?_)
  go_ret
  obtain ⟨g, rfl, _⟩ := crow_form HO1.out h0
  exact ⟨g, c1, rfl, HO1.out, HG1.out⟩
set_option maxRecDepth 100000 in
set_option maxHeartbeats 1000000 in
theorem ofC_any (W H n c r o : Nat) (l : List Col) (hn : l.length = n) (hWH : W * H = n) (hm : mayB (W : Int) (H : Int) = true) (B : Nat) (w : World) (h : Cs w B (some ⟨r, o, none⟩) l) (hB : B ≤ w.heap.size) :
    Calls Tryz.prog 68 #[.int .i64 (W : Int), .int .i64 (H : Int), .slice (some ⟨r, o, none⟩) n c] w fun e w' => ∃ g r' c', e = .returned (.tuple #[.pointer (some ⟨g, 0, none⟩), .int .i64 0]) ∧ CG w' w.heap.size g r' c' W H l ∧ Below w.heap.size w w' := by
  go_enter Tryz.func68, Tryz.ntmps68
  go_wp2_with fail
  refine (mayBe_any (W : Int) (H : Int) w).mono ?_
  rintro e w1 ⟨rfl, rfl⟩
  obtain ⟨b1, b2, b3, b4, b5⟩ := mayB_bd hm
  have hmul : (W : Int) * (H : Int) = (n : Int) := by rw [← Int.natCast_mul, hWH]
  rw [hmul] at b5
  have hp : 0 < n := by rw [← hWH]; exact Nat.mul_pos (by omega) (by omega)
  have hwr : wrap64 ((W : Int) * (H : Int)) = (n : Int) := by rw [hmul]; exact IntWalk.wrap64_in _ (by omega)
  have HC := Lib.hid (cloneC_any r o n c l hn B w1 h hB hp (by omega))
  have HWH := Lib.hid hWH
  rw [hm]
  clear hm hmul h hWH
  go_wp2_with fail
  refine HC.out.mono ?_
  rintro e w2 ⟨r2, c2, rfl, o2, hb2⟩
  have O2 := Lib.hid o2
  have HB2 := Lib.hid hb2
  clear o2 hb2 HC
  go_wp2_with fail
  go_ret2
  have hs := HB2.out.size
  refine ⟨w2.heap.size, r2, c2, rfl, ⟨?_, ?_, hs, by omega, by omega, by omega, by omega, by rw [HWH.out]; omega⟩, HB2.out.alloc hs _⟩
  · rw [HWH.out]
    exact Blk.new w2 _ _
  · rw [HWH.out]
    exact own_upd O2.out ((Upd.refl No w2).alloc _) (fun _ _ => id)
section
variable {w : World} {base g r c W H : Nat} {l : List Col}
theorem wC_any (h : CG w base g r c W H l) : Calls Tryz.prog 106 #[.pointer (some ⟨g, 0, none⟩)] w fun e w' => e = .returned (.int .i64 (W : Int)) ∧ w' = w := by
  go_enter Tryz.func106, Tryz.ntmps106
  have k0 := h.c0
  go_wp2_with fail
  go_ret
  exact ⟨rfl, rfl⟩
theorem hC_any (h : CG w base g r c W H l) : Calls Tryz.prog 79 #[.pointer (some ⟨g, 0, none⟩)] w fun e w' => e = .returned (.int .i64 (H : Int)) ∧ w' = w := by
  go_enter Tryz.func79, Tryz.ntmps79
  have k1 := h.c1
  go_wp2_with fail
  go_ret
  exact ⟨rfl, rfl⟩
end
end Go.Proofs.YtnfjeeflcfmpbaaGreatDoor
