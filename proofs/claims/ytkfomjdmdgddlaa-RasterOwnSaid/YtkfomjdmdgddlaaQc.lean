/- Copies of images; two images compared. -/
import Derived.Test.YtkfomjdmdgddlaaQb
import Derived.Deep.RegionHeld3
import Derived.Deep.CutBlock
namespace Go.Proofs.Ytkfomjdmdgddlaa
open Go.ChangeShapes Go.WideShapes Go.ChangeAt Go.RowKit

theorem set3 {w : World} {g : Nat} {t : TypeId} {a b c : Value} (h : Blk w g t #[a, b, c]) (x y z : Value) : Blk (((w.setCell ⟨g, 0, none⟩ x).setCell ⟨g, 1, none⟩ y).setCell ⟨g, 2, none⟩ z) g t #[x, y, z] := by
  simpa using ((h.set_ 0 x).set_ 1 y).set_ 2 z
theorem set3_upd (w : World) (g : Nat) (x y z : Value) : Upd (· = g) w (((w.setCell ⟨g, 0, none⟩ x).setCell ⟨g, 1, none⟩ y).setCell ⟨g, 2, none⟩ z) :=
  (((Upd.refl (· = g) w).setCell (p := ⟨g, 0, none⟩) (fun _ => rfl) _).setCell (p := ⟨g, 1, none⟩) (fun _ => rfl) _).setCell (p := ⟨g, 2, none⟩) (fun _ => rfl) _
/-- An image's box, and what it holds. -/
structure IB (w : World) (g : Nat) (x y z : Value) : Prop where
  blk : Blk w g 24 #[x, y, z]
  c0 : w.cell? ⟨g, 0, none⟩ = some x
  c1 : w.cell? ⟨g, 1, none⟩ = some y
  c2 : w.cell? ⟨g, 2, none⟩ = some z
  f0 : w.frozen? ⟨g, 0, none⟩ = false
  f1 : w.frozen? ⟨g, 1, none⟩ = false
  f2 : w.frozen? ⟨g, 2, none⟩ = false
theorem IB.of {w : World} {g : Nat} {x y z : Value} (h : Blk w g 24 #[x, y, z]) : IB w g x y z :=
  ⟨h, by rw [h.cell]; rfl, by rw [h.cell]; rfl, by rw [h.cell]; rfl, h.frozen 0, h.frozen 1, h.frozen 2⟩
theorem own_low {w : World} {base b : Nat} {e : TypeId} {size n : Nat} {v : Value} {xs : List Value} (h : w.ownsRow base e size v n xs) (hb : b ≤ base) : w.ownsRow b e size v n xs := by
  obtain ⟨q1, q2⟩ := h
  refine ⟨q1, ?_⟩
  rcases q2 with q | ⟨g', cap, cur, q1, q2, q3⟩
  · exact .inl q
  · exact .inr ⟨g', cap, cur, q1, by omega, q3⟩
set_option maxRecDepth 100000 in
set_option maxHeartbeats 1000000 in
theorem copy_any (W H : Int) (A : Option Addr) (n c : Nat) (l : List Int) (hn : l.length = n) (B : Nat) (w : World) (h : Us w B A l) (hB : B ≤ w.heap.size) (h47 : n * 2 ≤ 140737488355328) :
    Calls Try.prog 38 #[imgV W H A n c] w fun e w' => ∃ A' c', e = .returned (imgV W H A' n c') ∧ w'.ownsRow w.heap.size 28 1 (.slice A' n c') n (usV l) ∧ Below w.heap.size w w' := by
  obtain ⟨i0, hi, hz0, hz1, hz2⟩ := info_parts info_u16
  go_enter Try.func38, Try.ntmps38
  have hb0 := (Blk.new w 24 (imgC W H A n c)).alloc (.cells (imgC 0 0 none 0 0) 24)
  have hb1 := Blk.new (w.alloc (.cells (imgC W H A n c) 24)) 24 (imgC 0 0 none 0 0)
  have hbb := ((Below.refl w.heap.size w).alloc (Nat.le_refl _) (.cells (imgC W H A n c) 24)).alloc (by simp) (.cells (imgC 0 0 none 0 0) 24)
  rw [World.size_alloc] at hb1
  go_upto_region 1 with (fail)
  generalize (w.alloc (.cells (imgC W H A n c) 24)).alloc (.cells (imgC 0 0 none 0 0) 24) = W1 at *
  have HS : Hid (w.heap.size + 1 < W1.heap.size) := Lib.hid hb1.lt
  have k2 := fun o => (IB.of (hb0.alloc o)).c2
  have HB0 := Lib.hid hb0
  have HB1 := Lib.hid hb1
  have HBB := Lib.hid hbb
  have HV := Lib.hid (Vs.below h (hbb.mono hB))
  have hBs := hbb.size
  clear hb0 hb1 hbb h
  have hlit := Lib.hid (World.ownsRow_made (base := W1.heap.size) (e := 28) (size := 1) W1 #[] 0 (Nat.le_refl _) (by unfold maxLen; omega) rfl)
  have HLN := Lib.hid ((usV_length l).trans hn)
  go_wp2_with (at_builtin; refine wpList_append_vs _ rfl (.tmp 3) (.tmp 5) _ rfl W1.heap.size 28 i0 (.int .u16 0) 2 Try.underlying22 hi hz0 hz1 hz2 rfl (.slice (some ⟨W1.heap.size, 0, none⟩) 0 0) 0 [] rfl hlit.out B A n c (usV l) HLN.out rfl (Vs.alloc HV.out (by omega) _) (usV_one l) (by unfold maxLen; omega) (by omega) (by simp) ?_; intro A1 c1 w1 o1 hg1 _; simp only [Nat.zero_add, List.nil_append] at o1 ⊢; have HU1 := Lib.hid (((Upd.refl (fun k => some k = (Value.slice (some ⟨W1.heap.size, 0, none⟩) 0 0).ownBlock) W1).alloc _).trans (Upd.of_grown hg1)); have hbk := IB.of (HB0.out.upd HU1.out (by simp [Value.ownBlock]; have := HS.out; omega)); have k0 := hbk.c0; have k1 := hbk.c1; have k3 := hbk.c2; have q2 := hbk.f2; have hbz := IB.of (HB1.out.upd HU1.out (by simp [Value.ownBlock]; have := HS.out; omega)); have j0 := hbz.c0; have j1 := hbz.c1; have j2 := hbz.c2; have e0 := hbz.f0; have e1 := hbz.f1; have e2 := hbz.f2; have HZ1 := Lib.hid hbz.blk; have HG1 := Lib.hid hg1; clear hbk hbz hg1)
  have hu2 := (Upd.refl (· = w.heap.size) w1).setCell (p := ⟨w.heap.size, 2, none⟩) (fun _ => rfl) (.slice A1 n c1)
  have hz9 := set3 (HZ1.out.upd hu2 (by omega)) (.int .i64 W) (.int .i64 H) (.slice A1 n c1)
  have hu9 := set3_upd (w1.setCell ⟨w.heap.size, 2, none⟩ (.slice A1 n c1)) (w.heap.size + 1) (.int .i64 W) (.int .i64 H) (.slice A1 n c1)
  have n0 := (IB.of hz9).c0; have n1 := (IB.of hz9).c1; have n2 := (IB.of hz9).c2
  refine bodyPost_ret (v := imgV W H A1 n c1) (by simp [results, Try.results38, go_sem, n0, n1, n2]) rfl ?_
  have hs := HS.out
  refine ⟨A1, c1, rfl, ?_, ?_⟩
  · exact own_low (own_upd (own_upd o1 hu2 (fun k hk e => by have := (o1.lt k hk).1; omega)) hu9 (fun k hk e => by have := (o1.lt k hk).1; omega)) hBs
  · have hs1 := HU1.out.size
    exact ((HBB.out.trans (HU1.out.below hBs (fun k hk e => by simp [Value.ownBlock] at e; omega))).trans (hu2.below (by omega) (fun k hk e => by omega))).trans (hu9.below (by simp; omega) (fun k hk e => by omega))
theorem copy_n (W H : Int) (A : Option Addr) (n c : Nat) (l : List Int) (hn : l.length = n) (B : Nat) (w : World) (h : Us w B A l) (hB : B ≤ w.heap.size) (h47 : n * 2 ≤ 140737488355328) (w0 : World) (h0 : w0.heap.size = w.heap.size + 2) (hb : Below w.heap.size w w0) :
    Calls Try.prog 38 #[imgV W H A n c] w0 fun e w' => ∃ A' c', e = .returned (imgV W H A' n c') ∧ w'.ownsRow w.heap.size 28 1 (.slice A' n c') n (usV l) ∧ Upd No w0 w' ∧ ∀ k, A'.map (·.block) = some k → w.heap.size + 2 ≤ k := by
  refine (copy_any W H A n c l hn B w0 (Vs.below h (hb.mono hB)) (by omega) h47).mono ?_
  rintro e w' ⟨A1, c1, rfl, ho, hbw⟩
  exact ⟨A1, c1, rfl, own_low ho (by omega), Upd.of_fresh hbw, fun k hk => by have := (row_lt ho k hk).1; omega⟩
set_option maxRecDepth 100000 in
set_option maxHeartbeats 1000000 in
theorem own_any (W H : Int) (A : Option Addr) (n c : Nat) (l : List Int) (hn : l.length = n) (B : Nat) (w : World) (h : Us w B A l) (hB : B ≤ w.heap.size) (h47 : n * 2 ≤ 140737488355328) :
    Calls Try.prog 12 #[imgV W H A n c] w fun e w' => ∃ A' c', e = .returned (imgV W H A' n c') ∧ w'.ownsRow w.heap.size 28 1 (.slice A' n c') n (usV l) ∧ Below w.heap.size w w' := by
  go_enter Try.func12, Try.ntmps12
  have hb1 := Blk.new (w.alloc (.cells (imgC W H A n c) 24)) 24 (imgC 0 0 none 0 0)
  have hbb := ((Below.refl w.heap.size w).alloc (Nat.le_refl _) (.cells (imgC W H A n c) 24)).alloc (by simp) (.cells (imgC 0 0 none 0 0) 24)
  have HC := Lib.hid (copy_n W H A n c l hn B w h hB h47 _ (by simp) hbb)
  rw [World.size_alloc] at hb1
  go_wp2_with fail
  refine HC.out.mono ?_
  rintro e w1 ⟨A1, c1, rfl, o1, u1, hk1⟩
  have hz := hb1.upd u1 id
  have j0 := (IB.of hz).c0; have j1 := (IB.of hz).c1; have j2 := (IB.of hz).c2; have e0 := (IB.of hz).f0; have e1 := (IB.of hz).f1; have e2 := (IB.of hz).f2
  have hz9 := set3 hz (.int .i64 W) (.int .i64 H) (.slice A1 n c1)
  have hu9 := set3_upd w1 (w.heap.size + 1) (.int .i64 W) (.int .i64 H) (.slice A1 n c1)
  have HR := Lib.hid (own_upd o1 hu9 (fun k hk e => by have := hk1 k (by rw [← own_block_sl A1 n c1]; exact hk); omega))
  have HB := Lib.hid ((hbb.trans (u1.below hbb.size (fun _ _ h => h))).trans (hu9.below (B := w.heap.size) (by have := u1.size; have := hbb.size; omega) (fun k hk e => by omega)))
  have HZ9 := Lib.hid hz9
  clear HC hb1 hbb o1 u1 hk1 hz hz9 hu9
  go_wp2_with fail
  have n0 := (IB.of HZ9.out).c0; have n1 := (IB.of HZ9.out).c1; have n2 := (IB.of HZ9.out).c2
  refine bodyPost_ret (v := imgV W H A1 n c1) (by simp [results, Try.results12, go_sem, n0, n1, n2]) rfl ?_
  exact ⟨A1, c1, rfl, HR.out, HB.out⟩
end Go.Proofs.Ytkfomjdmdgddlaa
