/- The head as it is written: numbers are set one by one by a closure. -/
import Derived.Test.YtnfjeeflcfmpbaaGreatDoorYg
import Derived.Test.YtnfjeeflcfmpbaaGreatDoorJ
set_option linter.unusedVariables false
set_option linter.unusedSimpArgs false
namespace Go.Proofs.YtnfjeeflcfmpbaaGreatDoor
open Go.ChangeShapes Go.WideShapes Go.ChangeAt Go.RowKit

/-- A box that holds a slice of the call's own. -/
def BoxB (w : World) (base g n : Nat) (l : List UInt8) : Prop := l.length = n ∧ base ≤ g ∧ ∃ A c, Blk w g 22 #[.slice A n c] ∧ w.ownsRow base 5 1 (.slice A n c) n (bytesV l)
theorem BoxB.upd {w w' : World} {base g n : Nat} {l : List UInt8} {S : Nat → Prop} (h : BoxB w base g n l) (u : Upd S w w') (h1 : ¬ S g) (hS : ∀ k, base ≤ k → ¬ S k) : BoxB w' base g n l := by
  obtain ⟨hl, hg, A, c, hb, ho⟩ := h
  exact ⟨hl, hg, A, c, hb.upd u h1, own_upd ho u (fun k hk => hS k (ho.lt k hk).1)⟩
set_option maxRecDepth 100000 in
theorem set1_any (w : World) (base g n : Nat) (l : List UInt8) (h : BoxB w base g n l) (hbase : base ≤ w.heap.size) (hn : n ≤ 4096) (a s v : Int) (at_ s' v' : Nat) (ha : a = (at_ : Int)) (hs : s = (s' : Int)) (hv : v = (v' : Int)) (h1 : 1 ≤ s') (h4 : s' ≤ 4) (hat : at_ + s' ≤ n) (hv2 : v' < 4294967296) :
    Calls Tryz.prog 88 #[.int .i64 a, .int .i64 s, .int .i64 v, .pointer (some ⟨g, 0, none⟩)] w fun e w' => e = .returned (.tuple #[]) ∧ BoxB w' base g n (setB l at_ s' false v' s') ∧ Upd (· = g) w w' := by
  subst ha hs hv
  obtain ⟨hl, hg, A, c, hb, ho⟩ := h
  have hbs : Bs w w.heap.size A l := by
    refine Bs.of_own (base := base) (e := 5) (c := c) ?_
    rw [hl]; exact ho
  have HS := Lib.hid (set_ok A c l at_ s' v' false w.heap.size w hbs (Nat.le_refl _) (by omega) h1 h4 (by omega))
  rw [hl] at HS
  have k0 : w.cell? ⟨g, 0, none⟩ = some (.slice A n c) := hb.cell 0
  have HB := Lib.hid hb
  have HL := Lib.hid hl
  clear hb ho hbs hl
  go_enter Tryz.func88, Tryz.ntmps88
  go_wp2_with fail
  refine HS.out.mono ?_
  rintro e w1 ⟨A1, c1, rfl, o1, hb1⟩
  rw [HL.out] at o1 ⊢
  have hb2 := HB.out.upd (Upd.of_fresh hb1) id
  have kf := hb2.frozen 0
  have hu := (Upd.of_fresh hb1).mono (T := (· = g)) (fun _ _ h => absurd h id)
  have hf : BoxB (w1.setCell ⟨g, 0, none⟩ (.slice A1 n c1)) base g n (setB l at_ s' false v' s') := by
    refine ⟨by rw [setB_length, HL.out], hg, A1, c1, by simpa using hb2.set_ 0 (.slice A1 n c1), own_upd (own_low o1 hbase) ((Upd.refl (· = g) w1).setCell (fun _ => rfl) _) (fun k hk e => own_blk_ne o1 hb2 (by decide) (by rw [hk, e]))⟩
  have k1 : w1.cell? ⟨g, 0, none⟩ = some (.slice A n c) := hb2.cell 0
  have HF := Lib.hid (And.intro hf (hu.setCell (p := ⟨g, 0, none⟩) (fun _ => rfl) (.slice A1 n c1)))
  clear o1 hb1 hb2 hu hf k0
  go_wp2_with fail
  go_end0
  exact ⟨rfl, HF.out⟩
/-- The head that is written. -/
def headB (al : Bool) (W H P : Nat) : List UInt8 :=
  let s := if al then 108 else 40
  let l := setB (List.replicate (14 + s) 0) 0 2 false 19778 2
  let l := setB l 2 4 false (14 + s + P) 4
  let l := setB l 10 4 false (14 + s) 4
  let l := setB l 14 4 false s 4
  let l := setB l 18 4 false W 4
  let l := setB l 22 4 false H 4
  let l := setB l 26 2 false 1 2
  let l := setB l 28 2 false (dep al) 2
  let l := setB l 30 4 false (if al then 3 else 0) 4
  let l := setB l 34 4 false P 4
  if al then setB (setB (setB (setB l 54 4 false 16711680 4) 58 4 false 65280 4) 62 4 false 255 4) 66 4 false 4278190080 4 else l
theorem headB_length (al : Bool) (W H P : Nat) : (headB al W H P).length = if al then 122 else 54 := by
  cases al <;> simp [headB, setB_length]
/-- The head's box, the masks' box, the bytes that are being made. -/
structure HdS (w : World) (hd : Array Value) (m3 : Int) (g n : Nat) (l : List UInt8) (wr : World) : Prop where
  hb : Blk wr w.heap.size 55 hd
  mb : Blk wr (w.heap.size + 1) 80 (mkC 16711680 65280 255 m3)
  bx : BoxB wr (w.heap.size + 2) g n l
  bel : Below w.heap.size w wr
theorem HdS.step {w wr w' : World} {hd : Array Value} {m3 : Int} {g n : Nat} {l l' : List UInt8} (h : HdS w hd m3 g n l wr) (hb : BoxB w' (w.heap.size + 2) g n l') (u : Upd (· = g) wr w') : HdS w hd m3 g n l' w' := by
  have hg := h.bx.2.1
  exact ⟨h.hb.upd u (by omega), h.mb.upd u (by omega), hb, h.bel.trans (u.below h.bel.size (fun k hk e => by omega))⟩
theorem HdS.lt {w wr : World} {hd : Array Value} {m3 : Int} {g n : Nat} {l : List UInt8} (h : HdS w hd m3 g n l wr) : w.heap.size + 2 ≤ wr.heap.size := by have := h.mb.lt; omega
theorem ix4u (a b c d : Value) (w : World) : (Instr.index 80 (.agg #[a, b, c, d]) (.int .i64 0)).run Tryz.prog w = .ok a w ∧ (Instr.index 80 (.agg #[a, b, c, d]) (.int .i64 1)).run Tryz.prog w = .ok b w ∧ (Instr.index 80 (.agg #[a, b, c, d]) (.int .i64 2)).run Tryz.prog w = .ok c w ∧ (Instr.index 80 (.agg #[a, b, c, d]) (.int .i64 3)).run Tryz.prog w = .ok d w := by
  refine ⟨?_, ?_, ?_, ?_⟩ <;> simp [Instr.index, run_underlying Tryz.underlying80, asIntOf, go_sem]
set_option maxRecDepth 100000 in
set_option maxHeartbeats 4000000 in
theorem bytesF_any (W H P : Nat) (hW : W ≤ 4096) (hH : H ≤ 4096) (hP : P ≤ 67108864) (w : World) :
    Calls Tryz.prog 39 #[hdV 40 54 (W : Nat) (H : Nat) false 24 0 0, mkV 16711680 65280 255 0, .int .i64 (P : Nat)] w fun e w' => ∃ A c, e = .returned (.slice A 54 c) ∧ w'.ownsRow w.heap.size 5 1 (.slice A 54 c) 54 (bytesV (headB false W H P)) ∧ Below w.heap.size w w' := by
  obtain ⟨bel, hsz, hb1, hb2⟩ := boxes2 w (hdC 40 54 (W : Nat) (H : Nat) false 24 0 0) (mkC 16711680 65280 255 0) 55 80
  obtain ⟨i0, hi, hz0, hz1, hz2⟩ := info_parts info_u8
  go_enter Tryz.func39, Tryz.ntmps39
  go_upto_region 1 with (fail)
  generalize (w.alloc (.cells (hdC 40 54 (W : Nat) (H : Nat) false 24 0 0) 55)).alloc (.cells (mkC 16711680 65280 255 0) 80) = w1 at *
  have HBel := Lib.hid bel; have HB1 := Lib.hid hb1; have HB2 := Lib.hid hb2
  have c0 : w1.cell? ⟨w.heap.size, 0, none⟩ = some (.int .i64 40) := hb1.cell 0
  have c1 : w1.cell? ⟨w.heap.size, 1, none⟩ = some (.int .i64 54) := hb1.cell 1
  have c2 : w1.cell? ⟨w.heap.size, 2, none⟩ = some (.int .i64 (W : Nat)) := hb1.cell 2
  have c3 : w1.cell? ⟨w.heap.size, 3, none⟩ = some (.int .i64 (H : Nat)) := hb1.cell 3
  have c4 : w1.cell? ⟨w.heap.size, 4, none⟩ = some (.bool false) := hb1.cell 4
  have c5 : w1.cell? ⟨w.heap.size, 5, none⟩ = some (.int .i64 24) := hb1.cell 5
  have c6 : w1.cell? ⟨w.heap.size, 6, none⟩ = some (.int .i64 0) := hb1.cell 6
  have c7 : w1.cell? ⟨w.heap.size, 7, none⟩ = some (.int .i64 0) := hb1.cell 7
  clear bel hb1 hb2
  go_wp2_with fail
  refine (end_any 40 54 (W : Nat) (H : Nat) false 24 0 0 (by omega) w1).mono ?_
  rintro e w2 ⟨rfl, hbe⟩
  have HU2 := Lib.hid hbe
  have hs2 := hbe.size
  clear hbe c0 c1 c2 c3 c4 c5 c6 c7
  go_upto_region 2 with (at_make; refine wpList_make_full _ rfl (.tmp 12) (.tmp 12) 22 rfl w2.heap.size 5 i0 (.int .u8 0) 1 Tryz.underlying22 hi hz0 hz1 .i64 .i64 54 54 54 rfl rfl rfl rfl (by rw [hz2]; omega) (by unfold maxLen; omega) (Nat.le_refl _) ?_; intro w3 hown3 hg3)
  rw [make_u8] at hown3
  have hu3 : Upd No w2 w3 := (Upd.of_grown hg3).mono (fun k _ h => by simp at h)
  have HS0 : Hid (HdS w (hdC 40 54 (W : Nat) (H : Nat) false 24 0 0) 0 w3.heap.size 54 (List.replicate 54 0) (w3.alloc (.cells #[.slice (some ⟨w2.heap.size, 0, none⟩) 54 54] 22))) := Lib.hid (by
    have u := ((Upd.of_fresh HU2.out).trans hu3).alloc (.cells #[.slice (some ⟨w2.heap.size, 0, none⟩) 54 54] 22)
    have hs3 := hu3.size
    refine ⟨HB1.out.upd u id, HB2.out.upd u id, ⟨by simp, by omega, some ⟨w2.heap.size, 0, none⟩, 54, Blk.new _ _ _, own_upd (own_low hown3 (by omega)) ((Upd.refl No w3).alloc _) (fun _ _ => id)⟩, HBel.out.trans (u.fresh.mono (by omega))⟩)
  clear hown3 hg3 hu3 HU2 HB1 HB2 HBel hi hz0 hz1 hz2 hs2
  generalize w3.heap.size = g at *
  generalize w3.alloc (.cells #[.slice (some ⟨w2.heap.size, 0, none⟩) 54 54] 22) = q0 at *
  obtain ⟨l0, hl0⟩ : ∃ l, l = List.replicate 54 (0 : UInt8) := ⟨_, rfl⟩
  rw [← hl0] at HS0
  have HE0 := Lib.hid hl0
  clear hl0
  have HC := Lib.hid (set1_any q0 (w.heap.size + 2) g 54 l0 HS0.out.bx HS0.out.lt (by omega) 0 2 19778 0 2 19778 rfl rfl (by rfl) (by omega) (by omega) (by omega) (by omega))
  go_wp2_with fail
  refine HC.out.mono ?_
  rintro e q1 ⟨rfl, hbx, hu⟩
  obtain ⟨l1, hl⟩ : ∃ l, l = setB l0 0 2 false 19778 2 := ⟨_, rfl⟩
  rw [← hl] at hbx
  have HE1 := Lib.hid hl
  have HS1 := Lib.hid (HS0.out.step hbx hu)
  clear hl hbx hu HC HS0
  have v1 : q1.cell? ⟨w.heap.size, 1, none⟩ = some (.int .i64 54) := HS1.out.hb.cell 1
  have HC := Lib.hid (set1_any q1 (w.heap.size + 2) g 54 l1 HS1.out.bx HS1.out.lt (by omega) 2 4 (54 + (P : Int)) 2 4 (54 + P) rfl rfl (by omega) (by omega) (by omega) (by omega) (by omega))
  go_wp2_with fail
  refine HC.out.mono ?_
  rintro e q2 ⟨rfl, hbx, hu⟩
  obtain ⟨l2, hl⟩ : ∃ l, l = setB l1 2 4 false (54 + P) 4 := ⟨_, rfl⟩
  rw [← hl] at hbx
  have HE2 := Lib.hid hl
  have HS2 := Lib.hid (HS1.out.step hbx hu)
  clear hl hbx hu HC HS1 v1
  have v1 : q2.cell? ⟨w.heap.size, 1, none⟩ = some (.int .i64 54) := HS2.out.hb.cell 1
  have HC := Lib.hid (set1_any q2 (w.heap.size + 2) g 54 l2 HS2.out.bx HS2.out.lt (by omega) 10 4 54 10 4 54 rfl rfl (by rfl) (by omega) (by omega) (by omega) (by omega))
  go_wp2_with fail
  refine HC.out.mono ?_
  rintro e q3 ⟨rfl, hbx, hu⟩
  obtain ⟨l3, hl⟩ : ∃ l, l = setB l2 10 4 false 54 4 := ⟨_, rfl⟩
  rw [← hl] at hbx
  have HE3 := Lib.hid hl
  have HS3 := Lib.hid (HS2.out.step hbx hu)
  clear hl hbx hu HC HS2 v1
  have v0 : q3.cell? ⟨w.heap.size, 0, none⟩ = some (.int .i64 40) := HS3.out.hb.cell 0
  have HC := Lib.hid (set1_any q3 (w.heap.size + 2) g 54 l3 HS3.out.bx HS3.out.lt (by omega) 14 4 40 14 4 40 rfl rfl (by rfl) (by omega) (by omega) (by omega) (by omega))
  go_wp2_with fail
  refine HC.out.mono ?_
  rintro e q4 ⟨rfl, hbx, hu⟩
  obtain ⟨l4, hl⟩ : ∃ l, l = setB l3 14 4 false 40 4 := ⟨_, rfl⟩
  rw [← hl] at hbx
  have HE4 := Lib.hid hl
  have HS4 := Lib.hid (HS3.out.step hbx hu)
  clear hl hbx hu HC HS3 v0
  have v2 : q4.cell? ⟨w.heap.size, 2, none⟩ = some (.int .i64 (W : Nat)) := HS4.out.hb.cell 2
  have HC := Lib.hid (set1_any q4 (w.heap.size + 2) g 54 l4 HS4.out.bx HS4.out.lt (by omega) 18 4 (W : Int) 18 4 W rfl rfl (by omega) (by omega) (by omega) (by omega) (by omega))
  go_wp2_with fail
  refine HC.out.mono ?_
  rintro e q5 ⟨rfl, hbx, hu⟩
  obtain ⟨l5, hl⟩ : ∃ l, l = setB l4 18 4 false W 4 := ⟨_, rfl⟩
  rw [← hl] at hbx
  have HE5 := Lib.hid hl
  have HS5 := Lib.hid (HS4.out.step hbx hu)
  clear hl hbx hu HC HS4 v2
  have v3 : q5.cell? ⟨w.heap.size, 3, none⟩ = some (.int .i64 (H : Nat)) := HS5.out.hb.cell 3
  have HC := Lib.hid (set1_any q5 (w.heap.size + 2) g 54 l5 HS5.out.bx HS5.out.lt (by omega) 22 4 (H : Int) 22 4 H rfl rfl (by omega) (by omega) (by omega) (by omega) (by omega))
  go_wp2_with fail
  refine HC.out.mono ?_
  rintro e q6 ⟨rfl, hbx, hu⟩
  obtain ⟨l6, hl⟩ : ∃ l, l = setB l5 22 4 false H 4 := ⟨_, rfl⟩
  rw [← hl] at hbx
  have HE6 := Lib.hid hl
  have HS6 := Lib.hid (HS5.out.step hbx hu)
  clear hl hbx hu HC HS5 v3
  have HC := Lib.hid (set1_any q6 (w.heap.size + 2) g 54 l6 HS6.out.bx HS6.out.lt (by omega) 26 2 1 26 2 1 rfl rfl (by rfl) (by omega) (by omega) (by omega) (by omega))
  go_wp2_with fail
  refine HC.out.mono ?_
  rintro e q7 ⟨rfl, hbx, hu⟩
  obtain ⟨l7, hl⟩ : ∃ l, l = setB l6 26 2 false 1 2 := ⟨_, rfl⟩
  rw [← hl] at hbx
  have HE7 := Lib.hid hl
  have HS7 := Lib.hid (HS6.out.step hbx hu)
  clear hl hbx hu HC HS6
  have v5 : q7.cell? ⟨w.heap.size, 5, none⟩ = some (.int .i64 24) := HS7.out.hb.cell 5
  have HC := Lib.hid (set1_any q7 (w.heap.size + 2) g 54 l7 HS7.out.bx HS7.out.lt (by omega) 28 2 24 28 2 24 rfl rfl (by rfl) (by omega) (by omega) (by omega) (by omega))
  go_wp2_with fail
  refine HC.out.mono ?_
  rintro e q8 ⟨rfl, hbx, hu⟩
  obtain ⟨l8, hl⟩ : ∃ l, l = setB l7 28 2 false 24 2 := ⟨_, rfl⟩
  rw [← hl] at hbx
  have HE8 := Lib.hid hl
  have HS8 := Lib.hid (HS7.out.step hbx hu)
  clear hl hbx hu HC HS7 v5
  have v6 : q8.cell? ⟨w.heap.size, 6, none⟩ = some (.int .i64 0) := HS8.out.hb.cell 6
  have HC := Lib.hid (set1_any q8 (w.heap.size + 2) g 54 l8 HS8.out.bx HS8.out.lt (by omega) 30 4 0 30 4 0 rfl rfl (by rfl) (by omega) (by omega) (by omega) (by omega))
  go_wp2_with fail
  refine HC.out.mono ?_
  rintro e q9 ⟨rfl, hbx, hu⟩
  obtain ⟨l9, hl⟩ : ∃ l, l = setB l8 30 4 false 0 4 := ⟨_, rfl⟩
  rw [← hl] at hbx
  have HE9 := Lib.hid hl
  have HS9 := Lib.hid (HS8.out.step hbx hu)
  clear hl hbx hu HC HS8 v6
  have HC := Lib.hid (set1_any q9 (w.heap.size + 2) g 54 l9 HS9.out.bx HS9.out.lt (by omega) 34 4 (P : Int) 34 4 P rfl rfl (by omega) (by omega) (by omega) (by omega) (by omega))
  go_wp2_with fail
  refine HC.out.mono ?_
  rintro e q10 ⟨rfl, hbx, hu⟩
  obtain ⟨l10, hl⟩ : ∃ l, l = setB l9 34 4 false P 4 := ⟨_, rfl⟩
  rw [← hl] at hbx
  have HE10 := Lib.hid hl
  have HS10 := Lib.hid (HS9.out.step hbx hu)
  clear hl hbx hu HC HS9
  have v6 : q10.cell? ⟨w.heap.size, 6, none⟩ = some (.int .i64 0) := HS10.out.hb.cell 6
  obtain ⟨_, _, A9, c9, b9, o9⟩ := HS10.out.bx
  have k9 : q10.cell? ⟨g, 0, none⟩ = some (.slice A9 54 c9) := b9.cell 0
  have HO := Lib.hid (own_low o9 (show w.heap.size ≤ w.heap.size + 2 by omega))
  clear b9 o9
  go_wp2_with fail
  go_ret
  refine ⟨_, _, rfl, ?_, HS10.out.bel⟩
  have e : headB false W H P = l10 := by rw [HE10.out, HE9.out, HE8.out, HE7.out, HE6.out, HE5.out, HE4.out, HE3.out, HE2.out, HE1.out, HE0.out]; rfl
  rw [e]
  exact HO.out
set_option maxRecDepth 100000 in
set_option maxHeartbeats 4000000 in
theorem bytesT_any (W H P : Nat) (hW : W ≤ 4096) (hH : H ≤ 4096) (hP : P ≤ 67108864) (w : World) :
    Calls Tryz.prog 39 #[hdV 108 122 (W : Nat) (H : Nat) false 32 3 0, mkV 16711680 65280 255 4278190080, .int .i64 (P : Nat)] w fun e w' => ∃ A c, e = .returned (.slice A 122 c) ∧ w'.ownsRow w.heap.size 5 1 (.slice A 122 c) 122 (bytesV (headB true W H P)) ∧ Below w.heap.size w w' := by
  obtain ⟨bel, hsz, hb1, hb2⟩ := boxes2 w (hdC 108 122 (W : Nat) (H : Nat) false 32 3 0) (mkC 16711680 65280 255 4278190080) 55 80
  obtain ⟨i0, hi, hz0, hz1, hz2⟩ := info_parts info_u8
  go_enter Tryz.func39, Tryz.ntmps39
  go_upto_region 1 with (fail)
  generalize (w.alloc (.cells (hdC 108 122 (W : Nat) (H : Nat) false 32 3 0) 55)).alloc (.cells (mkC 16711680 65280 255 4278190080) 80) = w1 at *
  have HBel := Lib.hid bel; have HB1 := Lib.hid hb1; have HB2 := Lib.hid hb2
  have c0 : w1.cell? ⟨w.heap.size, 0, none⟩ = some (.int .i64 108) := hb1.cell 0
  have c1 : w1.cell? ⟨w.heap.size, 1, none⟩ = some (.int .i64 122) := hb1.cell 1
  have c2 : w1.cell? ⟨w.heap.size, 2, none⟩ = some (.int .i64 (W : Nat)) := hb1.cell 2
  have c3 : w1.cell? ⟨w.heap.size, 3, none⟩ = some (.int .i64 (H : Nat)) := hb1.cell 3
  have c4 : w1.cell? ⟨w.heap.size, 4, none⟩ = some (.bool false) := hb1.cell 4
  have c5 : w1.cell? ⟨w.heap.size, 5, none⟩ = some (.int .i64 32) := hb1.cell 5
  have c6 : w1.cell? ⟨w.heap.size, 6, none⟩ = some (.int .i64 3) := hb1.cell 6
  have c7 : w1.cell? ⟨w.heap.size, 7, none⟩ = some (.int .i64 0) := hb1.cell 7
  clear bel hb1 hb2
  go_wp2_with fail
  refine (end_any 108 122 (W : Nat) (H : Nat) false 32 3 0 (by omega) w1).mono ?_
  rintro e w2 ⟨rfl, hbe⟩
  have HU2 := Lib.hid hbe
  have hs2 := hbe.size
  clear hbe c0 c1 c2 c3 c4 c5 c6 c7
  go_upto_region 2 with (at_make; refine wpList_make_full _ rfl (.tmp 12) (.tmp 12) 22 rfl w2.heap.size 5 i0 (.int .u8 0) 1 Tryz.underlying22 hi hz0 hz1 .i64 .i64 122 122 122 rfl rfl rfl rfl (by rw [hz2]; omega) (by unfold maxLen; omega) (Nat.le_refl _) ?_; intro w3 hown3 hg3)
  rw [make_u8] at hown3
  have hu3 : Upd No w2 w3 := (Upd.of_grown hg3).mono (fun k _ h => by simp at h)
  have HS0 : Hid (HdS w (hdC 108 122 (W : Nat) (H : Nat) false 32 3 0) 4278190080 w3.heap.size 122 (List.replicate 122 0) (w3.alloc (.cells #[.slice (some ⟨w2.heap.size, 0, none⟩) 122 122] 22))) := Lib.hid (by
    have u := ((Upd.of_fresh HU2.out).trans hu3).alloc (.cells #[.slice (some ⟨w2.heap.size, 0, none⟩) 122 122] 22)
    have hs3 := hu3.size
    refine ⟨HB1.out.upd u id, HB2.out.upd u id, ⟨by simp, by omega, some ⟨w2.heap.size, 0, none⟩, 122, Blk.new _ _ _, own_upd (own_low hown3 (by omega)) ((Upd.refl No w3).alloc _) (fun _ _ => id)⟩, HBel.out.trans (u.fresh.mono (by omega))⟩)
  clear hown3 hg3 hu3 HU2 HB1 HB2 HBel hi hz0 hz1 hz2 hs2
  generalize w3.heap.size = g at *
  generalize w3.alloc (.cells #[.slice (some ⟨w2.heap.size, 0, none⟩) 122 122] 22) = q0 at *
  obtain ⟨l0, hl0⟩ : ∃ l, l = List.replicate 122 (0 : UInt8) := ⟨_, rfl⟩
  rw [← hl0] at HS0
  have HE0 := Lib.hid hl0
  clear hl0
  have HC := Lib.hid (set1_any q0 (w.heap.size + 2) g 122 l0 HS0.out.bx HS0.out.lt (by omega) 0 2 19778 0 2 19778 rfl rfl (by rfl) (by omega) (by omega) (by omega) (by omega))
  go_wp2_with fail
  refine HC.out.mono ?_
  rintro e q1 ⟨rfl, hbx, hu⟩
  obtain ⟨l1, hl⟩ : ∃ l, l = setB l0 0 2 false 19778 2 := ⟨_, rfl⟩
  rw [← hl] at hbx
  have HE1 := Lib.hid hl
  have HS1 := Lib.hid (HS0.out.step hbx hu)
  clear hl hbx hu HC HS0
  have v1 : q1.cell? ⟨w.heap.size, 1, none⟩ = some (.int .i64 122) := HS1.out.hb.cell 1
  have HC := Lib.hid (set1_any q1 (w.heap.size + 2) g 122 l1 HS1.out.bx HS1.out.lt (by omega) 2 4 (122 + (P : Int)) 2 4 (122 + P) rfl rfl (by omega) (by omega) (by omega) (by omega) (by omega))
  go_wp2_with fail
  refine HC.out.mono ?_
  rintro e q2 ⟨rfl, hbx, hu⟩
  obtain ⟨l2, hl⟩ : ∃ l, l = setB l1 2 4 false (122 + P) 4 := ⟨_, rfl⟩
  rw [← hl] at hbx
  have HE2 := Lib.hid hl
  have HS2 := Lib.hid (HS1.out.step hbx hu)
  clear hl hbx hu HC HS1 v1
  have v1 : q2.cell? ⟨w.heap.size, 1, none⟩ = some (.int .i64 122) := HS2.out.hb.cell 1
  have HC := Lib.hid (set1_any q2 (w.heap.size + 2) g 122 l2 HS2.out.bx HS2.out.lt (by omega) 10 4 122 10 4 122 rfl rfl (by rfl) (by omega) (by omega) (by omega) (by omega))
  go_wp2_with fail
  refine HC.out.mono ?_
  rintro e q3 ⟨rfl, hbx, hu⟩
  obtain ⟨l3, hl⟩ : ∃ l, l = setB l2 10 4 false 122 4 := ⟨_, rfl⟩
  rw [← hl] at hbx
  have HE3 := Lib.hid hl
  have HS3 := Lib.hid (HS2.out.step hbx hu)
  clear hl hbx hu HC HS2 v1
  have v0 : q3.cell? ⟨w.heap.size, 0, none⟩ = some (.int .i64 108) := HS3.out.hb.cell 0
  have HC := Lib.hid (set1_any q3 (w.heap.size + 2) g 122 l3 HS3.out.bx HS3.out.lt (by omega) 14 4 108 14 4 108 rfl rfl (by rfl) (by omega) (by omega) (by omega) (by omega))
  go_wp2_with fail
  refine HC.out.mono ?_
  rintro e q4 ⟨rfl, hbx, hu⟩
  obtain ⟨l4, hl⟩ : ∃ l, l = setB l3 14 4 false 108 4 := ⟨_, rfl⟩
  rw [← hl] at hbx
  have HE4 := Lib.hid hl
  have HS4 := Lib.hid (HS3.out.step hbx hu)
  clear hl hbx hu HC HS3 v0
  have v2 : q4.cell? ⟨w.heap.size, 2, none⟩ = some (.int .i64 (W : Nat)) := HS4.out.hb.cell 2
  have HC := Lib.hid (set1_any q4 (w.heap.size + 2) g 122 l4 HS4.out.bx HS4.out.lt (by omega) 18 4 (W : Int) 18 4 W rfl rfl (by omega) (by omega) (by omega) (by omega) (by omega))
  go_wp2_with fail
  refine HC.out.mono ?_
  rintro e q5 ⟨rfl, hbx, hu⟩
  obtain ⟨l5, hl⟩ : ∃ l, l = setB l4 18 4 false W 4 := ⟨_, rfl⟩
  rw [← hl] at hbx
  have HE5 := Lib.hid hl
  have HS5 := Lib.hid (HS4.out.step hbx hu)
  clear hl hbx hu HC HS4 v2
  have v3 : q5.cell? ⟨w.heap.size, 3, none⟩ = some (.int .i64 (H : Nat)) := HS5.out.hb.cell 3
  have HC := Lib.hid (set1_any q5 (w.heap.size + 2) g 122 l5 HS5.out.bx HS5.out.lt (by omega) 22 4 (H : Int) 22 4 H rfl rfl (by omega) (by omega) (by omega) (by omega) (by omega))
  go_wp2_with fail
  refine HC.out.mono ?_
  rintro e q6 ⟨rfl, hbx, hu⟩
  obtain ⟨l6, hl⟩ : ∃ l, l = setB l5 22 4 false H 4 := ⟨_, rfl⟩
  rw [← hl] at hbx
  have HE6 := Lib.hid hl
  have HS6 := Lib.hid (HS5.out.step hbx hu)
  clear hl hbx hu HC HS5 v3
  have HC := Lib.hid (set1_any q6 (w.heap.size + 2) g 122 l6 HS6.out.bx HS6.out.lt (by omega) 26 2 1 26 2 1 rfl rfl (by rfl) (by omega) (by omega) (by omega) (by omega))
  go_wp2_with fail
  refine HC.out.mono ?_
  rintro e q7 ⟨rfl, hbx, hu⟩
  obtain ⟨l7, hl⟩ : ∃ l, l = setB l6 26 2 false 1 2 := ⟨_, rfl⟩
  rw [← hl] at hbx
  have HE7 := Lib.hid hl
  have HS7 := Lib.hid (HS6.out.step hbx hu)
  clear hl hbx hu HC HS6
  have v5 : q7.cell? ⟨w.heap.size, 5, none⟩ = some (.int .i64 32) := HS7.out.hb.cell 5
  have HC := Lib.hid (set1_any q7 (w.heap.size + 2) g 122 l7 HS7.out.bx HS7.out.lt (by omega) 28 2 32 28 2 32 rfl rfl (by rfl) (by omega) (by omega) (by omega) (by omega))
  go_wp2_with fail
  refine HC.out.mono ?_
  rintro e q8 ⟨rfl, hbx, hu⟩
  obtain ⟨l8, hl⟩ : ∃ l, l = setB l7 28 2 false 32 2 := ⟨_, rfl⟩
  rw [← hl] at hbx
  have HE8 := Lib.hid hl
  have HS8 := Lib.hid (HS7.out.step hbx hu)
  clear hl hbx hu HC HS7 v5
  have v6 : q8.cell? ⟨w.heap.size, 6, none⟩ = some (.int .i64 3) := HS8.out.hb.cell 6
  have HC := Lib.hid (set1_any q8 (w.heap.size + 2) g 122 l8 HS8.out.bx HS8.out.lt (by omega) 30 4 3 30 4 3 rfl rfl (by rfl) (by omega) (by omega) (by omega) (by omega))
  go_wp2_with fail
  refine HC.out.mono ?_
  rintro e q9 ⟨rfl, hbx, hu⟩
  obtain ⟨l9, hl⟩ : ∃ l, l = setB l8 30 4 false 3 4 := ⟨_, rfl⟩
  rw [← hl] at hbx
  have HE9 := Lib.hid hl
  have HS9 := Lib.hid (HS8.out.step hbx hu)
  clear hl hbx hu HC HS8 v6
  have HC := Lib.hid (set1_any q9 (w.heap.size + 2) g 122 l9 HS9.out.bx HS9.out.lt (by omega) 34 4 (P : Int) 34 4 P rfl rfl (by omega) (by omega) (by omega) (by omega) (by omega))
  go_wp2_with fail
  refine HC.out.mono ?_
  rintro e q10 ⟨rfl, hbx, hu⟩
  obtain ⟨l10, hl⟩ : ∃ l, l = setB l9 34 4 false P 4 := ⟨_, rfl⟩
  rw [← hl] at hbx
  have HE10 := Lib.hid hl
  have HS10 := Lib.hid (HS9.out.step hbx hu)
  clear hl hbx hu HC HS9
  have v6 : q10.cell? ⟨w.heap.size, 6, none⟩ = some (.int .i64 3) := HS10.out.hb.cell 6
  have m0 : q10.cell? ⟨w.heap.size + 1, 0, none⟩ = some (.int .u32 16711680) := HS10.out.mb.cell 0
  have m1 : q10.cell? ⟨w.heap.size + 1, 1, none⟩ = some (.int .u32 65280) := HS10.out.mb.cell 1
  have m2 : q10.cell? ⟨w.heap.size + 1, 2, none⟩ = some (.int .u32 255) := HS10.out.mb.cell 2
  have m3 : q10.cell? ⟨w.heap.size + 1, 3, none⟩ = some (.int .u32 4278190080) := HS10.out.mb.cell 3
  have i0 := fun w => (ix4u (.int .u32 16711680) (.int .u32 65280) (.int .u32 255) (.int .u32 4278190080) w).1
  have i1 := fun w => (ix4u (.int .u32 16711680) (.int .u32 65280) (.int .u32 255) (.int .u32 4278190080) w).2.1
  have i2 := fun w => (ix4u (.int .u32 16711680) (.int .u32 65280) (.int .u32 255) (.int .u32 4278190080) w).2.2.1
  have i3 := fun w => (ix4u (.int .u32 16711680) (.int .u32 65280) (.int .u32 255) (.int .u32 4278190080) w).2.2.2
  obtain ⟨l11, hl11⟩ : ∃ l, l = setB l10 54 4 false 16711680 4 := ⟨_, rfl⟩
  obtain ⟨l12, hl12⟩ : ∃ l, l = setB l11 58 4 false 65280 4 := ⟨_, rfl⟩
  obtain ⟨l13, hl13⟩ : ∃ l, l = setB l12 62 4 false 255 4 := ⟨_, rfl⟩
  obtain ⟨l14, hl14⟩ : ∃ l, l = setB l13 66 4 false 4278190080 4 := ⟨_, rfl⟩
  have HE11 := Lib.hid hl11; have HE12 := Lib.hid hl12; have HE13 := Lib.hid hl13; have HE14 := Lib.hid hl14
  clear hl11 hl12 hl13 hl14
  go_wp2_with fail
  go_loopw [56] (fun i wr => (i = .int .i64 0 ∧ Hid (HdS w (hdC 108 122 (W : Nat) (H : Nat) false 32 3 0) 4278190080 g 122 l10 wr)) ∨ (i = .int .i64 1 ∧ Hid (HdS w (hdC 108 122 (W : Nat) (H : Nat) false 32 3 0) 4278190080 g 122 l11 wr)) ∨ (i = .int .i64 2 ∧ Hid (HdS w (hdC 108 122 (W : Nat) (H : Nat) false 32 3 0) 4278190080 g 122 l12 wr)) ∨ (i = .int .i64 3 ∧ Hid (HdS w (hdC 108 122 (W : Nat) (H : Nat) false 32 3 0) 4278190080 g 122 l13 wr)) ∨ (i = .int .i64 4 ∧ Hid (HdS w (hdC 108 122 (W : Nat) (H : Nat) false 32 3 0) 4278190080 g 122 l14 wr))) (fun i _ => 4 - (intOf i).toNat)
  case atStart => exact .inl ⟨rfl, HS10⟩
  case round =>
    clear HS10 m0 m1 m2 m3 v6
    rcases hrel with ⟨rfl, HX⟩ | ⟨rfl, HX⟩ | ⟨rfl, HX⟩ | ⟨rfl, HX⟩ | ⟨rfl, HX⟩
    · have HC := Lib.hid (set1_any wr (w.heap.size + 2) g 122 l10 HX.out.bx HX.out.lt (by omega) 54 4 16711680 54 4 16711680 rfl rfl rfl (by omega) (by omega) (by omega) (by omega))
      rw [← HE11.out] at HC
      go_wp2_with fail
      refine HC.out.mono ?_
      rintro e w9 ⟨rfl, hbx, hu⟩
      have HX9 := Lib.hid (HX.out.step hbx hu)
      clear hbx hu HC HX
      go_wp2_with fail
      go_roundw
      case rel => exact .inr (.inl ⟨rfl, HX9⟩)
      case measure => simp [intOf]
    · have HC := Lib.hid (set1_any wr (w.heap.size + 2) g 122 l11 HX.out.bx HX.out.lt (by omega) 58 4 65280 58 4 65280 rfl rfl rfl (by omega) (by omega) (by omega) (by omega))
      rw [← HE12.out] at HC
      go_wp2_with fail
      refine HC.out.mono ?_
      rintro e w9 ⟨rfl, hbx, hu⟩
      have HX9 := Lib.hid (HX.out.step hbx hu)
      clear hbx hu HC HX
      go_wp2_with fail
      go_roundw
      case rel => exact .inr (.inr (.inl ⟨rfl, HX9⟩))
      case measure => simp [intOf]
    · have HC := Lib.hid (set1_any wr (w.heap.size + 2) g 122 l12 HX.out.bx HX.out.lt (by omega) 62 4 255 62 4 255 rfl rfl rfl (by omega) (by omega) (by omega) (by omega))
      rw [← HE13.out] at HC
      go_wp2_with fail
      refine HC.out.mono ?_
      rintro e w9 ⟨rfl, hbx, hu⟩
      have HX9 := Lib.hid (HX.out.step hbx hu)
      clear hbx hu HC HX
      go_wp2_with fail
      go_roundw
      case rel => exact .inr (.inr (.inr (.inl ⟨rfl, HX9⟩)))
      case measure => simp [intOf]
    · have HC := Lib.hid (set1_any wr (w.heap.size + 2) g 122 l13 HX.out.bx HX.out.lt (by omega) 66 4 4278190080 66 4 4278190080 rfl rfl rfl (by omega) (by omega) (by omega) (by omega))
      rw [← HE14.out] at HC
      go_wp2_with fail
      refine HC.out.mono ?_
      rintro e w9 ⟨rfl, hbx, hu⟩
      have HX9 := Lib.hid (HX.out.step hbx hu)
      clear hbx hu HC HX
      go_wp2_with fail
      go_roundw
      case rel => exact .inr (.inr (.inr (.inr (⟨rfl, HX9⟩))))
      case measure => simp [intOf]
    · obtain ⟨_, _, A9, c9, b9, o9⟩ := HX.out.bx
      have k9 : wr.cell? ⟨g, 0, none⟩ = some (.slice A9 122 c9) := b9.cell 0
      have HO := Lib.hid (own_low o9 (show w.heap.size ≤ w.heap.size + 2 by omega))
      clear b9 o9
      go_wp2_with fail
      go_ret
      refine ⟨_, _, rfl, ?_, HX.out.bel⟩
      have e : headB true W H P = l14 := by rw [HE14.out, HE13.out, HE12.out, HE11.out, HE10.out, HE9.out, HE8.out, HE7.out, HE6.out, HE5.out, HE4.out, HE3.out, HE2.out, HE1.out, HE0.out]; rfl
      rw [e]
      exact HO.out
end Go.Proofs.YtnfjeeflcfmpbaaGreatDoor
