/- Joined texts (a claim has at most 60 files): Qg Qh. -/
import Derived.Test.YtfbokhdimffabaaGreatDoorTma
/- A run of a row; the document's pixel. -/
namespace Go.Proofs.YtfbokhdimffabaaGreatDoor
open Go.ChangeShapes Go.WideShapes Go.ChangeAt Go.RowKit

theorem newImg (W H : Int) (A : Option Addr) (n c : Nat) (w : World) : ∃ W1, w.alloc (.cells #[.int .i64 W, .int .i64 H, .slice A n c] 26) = W1 ∧ IB W1 w.heap.size (.int .i64 W) (.int .i64 H) (.slice A n c) ∧ Below w.heap.size w W1 :=
  ⟨_, rfl, IB.of (Blk.new w 26 _), (Below.refl w.heap.size w).alloc (Nat.le_refl _) _⟩
theorem place_lt {W H X Y n : Nat} (hx : X + n ≤ W) (hy : Y < H) : Y * W + X + n ≤ W * H := by
  have h1 : (Y + 1) * W ≤ H * W := Nat.mul_le_mul_right W hy
  rw [Nat.add_mul, Nat.one_mul] at h1
  rw [Nat.mul_comm W H]
  omega
/-- The numbers on the way to a run of P pixels. -/
theorem run_nums {W H X Y P : Nat} (hx : X + P ≤ W) (hy : Y < H) (hf : W * H ≤ 65536) : ∃ m s F q G : Nat, wrap64 ((Y : Int) * (W : Int)) = (m : Int) ∧ wrap64 ((m : Int) + (X : Int)) = (s : Int) ∧ wrap64 (4 * (s : Int)) = (F : Int) ∧ wrap64 (4 * (P : Int)) = (q : Int) ∧ wrap64 ((F : Int) + (q : Int)) = (G : Int) ∧
    F = 4 * (Y * W + X) ∧ q = 4 * P ∧ G = F + 4 * P ∧ G ≤ 4 * (W * H) := by
  have hp := place_lt hx hy
  refine ⟨Y * W, Y * W + X, 4 * (Y * W + X), 4 * P, 4 * (Y * W + X) + 4 * P, ?_, ?_, ?_, ?_, ?_, rfl, rfl, rfl, ?_⟩
  · rw [← Int.natCast_mul]
    generalize Y * W = m at *
    exact IntWalk.wrap64_in _ (by omega)
  · rw [← Int.natCast_add]
    generalize Y * W = m at *
    exact IntWalk.wrap64_in _ (by omega)
  · generalize Y * W = m at *
    rw [IntWalk.wrap64_in _ (by omega)]; omega
  · generalize Y * W = m at *
    rw [IntWalk.wrap64_in _ (by omega)]; omega
  · generalize Y * W = m at *
    rw [IntWalk.wrap64_in _ (by omega)]; omega
  · generalize Y * W = m at *
    omega
set_option maxRecDepth 100000 in
set_option maxHeartbeats 1000000 in
theorem pixel_go (w : World) (r o c X Y W m s F n : Nat) (H : Int) (x : Col) (r1 : wrap64 ((Y : Int) * (W : Int)) = (m : Int)) (r2 : wrap64 ((m : Int) + (X : Int)) = (s : Int)) (r3 : wrap64 (4 * (s : Int)) = (F : Int)) (hn : F + 4 ≤ n) (hm : n ≤ 262144)
    (h0 : w.cell? ⟨r, o + F, none⟩ = some (.int .u16 x.r)) (h1 : w.cell? ⟨r, o + (F + 1), none⟩ = some (.int .u16 x.g)) (h2 : w.cell? ⟨r, o + (F + 2), none⟩ = some (.int .u16 x.b)) (h3 : w.cell? ⟨r, o + (F + 3), none⟩ = some (.int .u16 x.a)) :
    Calls Tryz.prog 66 #[imgV W H (some ⟨r, o, none⟩) n c, .int .i64 (X : Int), .int .i64 (Y : Int)] w fun e w' => e = .returned (colV x) ∧ Below w.heap.size w w' := by
  have hr : r < w.heap.size := block_lt_of_cell h0
  obtain ⟨W0, hW0, hi, hb0⟩ := newImg W H (some ⟨r, o, none⟩) n c w
  obtain ⟨W1, hW1, hz, hb1⟩ := newCol W0
  have hs0 : w.heap.size < W0.heap.size := hi.blk.lt
  have hb := hb0.trans (hb1.mono hb0.size)
  have c0 := (hb.cell (p := ⟨r, o + F, none⟩) hr).trans h0
  have c1 := (hb.cell (p := ⟨r, o + (F + 1), none⟩) hr).trans h1
  have c2 := (hb.cell (p := ⟨r, o + (F + 2), none⟩) hr).trans h2
  have c3 := (hb.cell (p := ⟨r, o + (F + 3), none⟩) hr).trans h3
  have hi1 := IB.of (hi.blk.upd (Upd.of_fresh hb1) id)
  have k0 := hi1.c0
  have k2 := hi1.c2
  obtain ⟨b0, d0, d1, d2, d3, f0, f1, f2, f3⟩ := hz
  have hsz : W0.heap.size = w.heap.size + 1 := by rw [← hW0, World.size_alloc]
  rw [hsz] at b0 d0 d1 d2 d3 f0 f1 f2 f3
  have hz9 := CB.of (x := x) (set4 b0 (.int .u16 x.r) (.int .u16 x.g) (.int .u16 x.b) (.int .u16 x.a))
  have hu9 := set4_upd W1 (w.heap.size + 1) (.int .u16 x.r) (.int .u16 x.g) (.int .u16 x.b) (.int .u16 x.a)
  have HB := Lib.hid (hb.trans (hu9.below (by have := hb.size; omega) (fun k hk e => by omega)))
  have HW := Lib.hid (show (w.alloc (.cells #[.int .i64 (W : Int), .int .i64 H, .slice (some ⟨r, o, none⟩) n c] 26)).alloc (.cells #[.int .u16 0, .int .u16 0, .int .u16 0, .int .u16 0] 70) = W1 by rw [hW0, hW1])
  have HZ9 := Lib.hid hz9
  clear hW1 hW0 hz9 hu9 b0 hb hb0 hb1 hi1 hi hsz hs0 h0 h1 h2 h3 hr
  have i0 : (F : Int) < (n : Int) := by omega
  have i1 : ((F : Int) + 1) < (n : Int) := by omega
  have i2 : ((F : Int) + 2) < (n : Int) := by omega
  have i3 : ((F : Int) + 3) < (n : Int) := by omega
  go_enter Tryz.func66, Tryz.ntmps66
  go_upto_region 1 with (fail)
  rw [HW.out]
  clear HW
  go_upto_region 2 with (fail)
  refine wp_region_tail 24 (by kernel_rfl) (by kernel_rfl) ?_
  simp only [List.take_succ_cons, List.take_zero, List.drop_succ_cons, List.drop_zero]
  repeat (go_big_quiet_step (fail))
  refine wpQuiet_nil ?_
  have g0 : W1.drew.frozen? ⟨w.heap.size + 1, 0, none⟩ = false := f0
  go_wp2_with fail
  have n0 := HZ9.out.c0; have n1 := HZ9.out.c1; have n2 := HZ9.out.c2; have n3 := HZ9.out.c3
  refine bodyPost_ret (v := colV x) (by simp [results, Tryz.results66, go_sem, n0, n1, n2, n3]) rfl ?_
  exact ⟨rfl, HB.out.drew⟩
theorem pixel_any {w : World} {r o c n W H : Nat} {l : List Int} (hn : l.length = n) (hn4 : n = 4 * (W * H)) (hf : W * H ≤ 65536) (h : Smp w r o l) (X Y : Nat) (hx : X < W) (hy : Y < H) :
    Calls Tryz.prog 66 #[imgV W H (some ⟨r, o, none⟩) n c, .int .i64 (X : Int), .int .i64 (Y : Int)] w fun e w' => e = .returned (colV (pxAt l (4 * (Y * W + X)))) ∧ Below w.heap.size w w' := by
  obtain ⟨m, s, F, q, G, r1, r2, r3, r4, r5, hF, hq, hG, hGn⟩ := run_nums (W := W) (X := X) (P := 1) (by omega) hy hf
  obtain ⟨q0, q1, q2, q3⟩ := h.px (k := F) (by omega)
  rw [← hF]
  exact pixel_go w r o c X Y W m s F n H _ r1 r2 r3 (by omega) (by omega) q0 (by rw [← Nat.add_assoc]; exact q1) (by rw [← Nat.add_assoc]; exact q2) (by rw [← Nat.add_assoc]; exact q3)
end Go.Proofs.YtfbokhdimffabaaGreatDoor

/- The pixel at a place: the program's way and the document's. -/
namespace Go.Proofs.YtfbokhdimffabaaGreatDoor
open Go.ChangeShapes Go.WideShapes Go.ChangeAt Go.RowKit

theorem goodB_nat {W H : Int} {n : Nat} (h : goodB W H n = true) : ∃ w h : Nat, W = (w : Int) ∧ H = (h : Int) ∧ n = 4 * (w * h) ∧ w * h ≤ 65536 ∧ 1 ≤ w ∧ w ≤ 4096 ∧ 1 ≤ h ∧ h ≤ 4096 := by
  simp only [goodB, Bool.and_eq_true, decide_eq_true_eq] at h
  obtain ⟨h1, h2⟩ := h
  obtain ⟨a1, a2, a3, a4, a5⟩ := mayB_bd h1
  obtain ⟨a, rfl⟩ : ∃ a : Nat, W = (a : Int) := ⟨W.toNat, by omega⟩
  obtain ⟨b, rfl⟩ : ∃ b : Nat, H = (b : Int) := ⟨H.toNat, by omega⟩
  rw [four_mul, ← Int.natCast_mul] at h2
  rw [← Int.natCast_mul] at a5
  exact ⟨a, b, rfl, rfl, by omega, by omega, by omega, by omega, by omega, by omega⟩
/-- The pixel at a place, or the zero colour. -/
def atOk (W H : Int) (n : Nat) (x y : Int) : Bool := goodB W H n && inB x y 1 1 W H
def atPx (W H : Int) (l : List Int) (x y : Int) : Col := if atOk W H l.length x y = true then pxAt l (4 * (y.toNat * W.toNat + x.toNat)) else col0
/-- A slice of samples: its room is enough. -/
theorem two_boxes (W H : Int) (A : Option Addr) (n c : Nat) (w : World) : ∃ W1, (w.alloc (.cells #[.int .i64 W, .int .i64 H, .slice A n c] 26)).alloc (.cells #[.int .u16 0, .int .u16 0, .int .u16 0, .int .u16 0] 70) = W1 ∧
    IB W1 w.heap.size (.int .i64 W) (.int .i64 H) (.slice A n c) ∧ CB W1 (w.heap.size + 1) col0 ∧ Below w.heap.size w W1 := by
  obtain ⟨h1, _, h2, h3⟩ := boxes2 w #[.int .i64 W, .int .i64 H, .slice A n c] #[.int .u16 0, .int .u16 0, .int .u16 0, .int .u16 0] 26 70
  exact ⟨_, rfl, IB.of h2, CB.of h3, h1⟩
/-- A colour's box that is written over. -/
theorem CB.put {w : World} {g : Nat} {x : Col} (h : CB w g x) (y : Col) (B : Nat) (hB : B ≤ g) : CB ((((w.setCell ⟨g, 0, none⟩ (.int .u16 y.r)).setCell ⟨g, 1, none⟩ (.int .u16 y.g)).setCell ⟨g, 2, none⟩ (.int .u16 y.b)).setCell ⟨g, 3, none⟩ (.int .u16 y.a)) g y ∧
    Below B w ((((w.setCell ⟨g, 0, none⟩ (.int .u16 y.r)).setCell ⟨g, 1, none⟩ (.int .u16 y.g)).setCell ⟨g, 2, none⟩ (.int .u16 y.b)).setCell ⟨g, 3, none⟩ (.int .u16 y.a)) :=
  ⟨CB.of (set4 h.blk _ _ _ _), (set4_upd w g _ _ _ _).below (by have := h.blk.lt; omega) (fun k hk e => by omega)⟩
theorem IB.call {w w' : World} {g : Nat} {x y z : Value} (h : IB w g x y z) (hb : Below w.heap.size w w') : IB w' g x y z := IB.of (h.blk.upd (Upd.of_fresh hb) id)
theorem CB.call {w w' : World} {g : Nat} {x : Col} (h : CB w g x) (hb : Below w.heap.size w w') : CB w' g x := CB.of (h.blk.upd (Upd.of_fresh hb) id)
end Go.Proofs.YtfbokhdimffabaaGreatDoor
