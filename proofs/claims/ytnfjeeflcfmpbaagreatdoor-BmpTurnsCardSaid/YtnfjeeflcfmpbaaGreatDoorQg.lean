/- Joined texts (a claim has at most 60 files): Yb Qg. -/
import Derived.Test.YtnfjeeflcfmpbaaGreatDoorAs
import Derived.Test.YtnfjeeflcfmpbaaGreatDoorQf
import Derived.Test.YtnfjeeflcfmpbaaGreatDoorYa
import Derived.Lib.TrailingZeros
import Derived.Laws.Bits64b
/- The head's small parts, the lowest bit of a number, a pixel's number by the masks that are written. -/
set_option linter.unusedVariables false
set_option linter.unusedSimpArgs false
namespace Go.Proofs.YtnfjeeflcfmpbaaGreatDoor
open Go.RowKit

/-- A head, as a value. -/
abbrev hdV (s p W H : Int) (dn : Bool) (d k n : Int) : Value := .agg #[.int .i64 s, .int .i64 p, .int .i64 W, .int .i64 H, .bool dn, .int .i64 d, .int .i64 k, .int .i64 n]
abbrev hdC (s p W H : Int) (dn : Bool) (d k n : Int) : Array Value := #[.int .i64 s, .int .i64 p, .int .i64 W, .int .i64 H, .bool dn, .int .i64 d, .int .i64 k, .int .i64 n]
abbrev mkV (a b c d : Int) : Value := .agg #[.int .u32 a, .int .u32 b, .int .u32 c, .int .u32 d]
abbrev mkC (a b c d : Int) : Array Value := #[.int .u32 a, .int .u32 b, .int .u32 c, .int .u32 d]
theorem end_any (s p W H : Int) (dn : Bool) (d k n : Int) (hs : 0 ≤ s ∧ s ≤ 4294967296) (w : World) : Calls Tryz.prog 34 #[hdV s p W H dn d k n] w fun e w' => e = .returned (.int .i64 (14 + s)) ∧ Below w.heap.size w w' := by
  have hb := (Below.refl w.heap.size w).alloc (Nat.le_refl _) (.cells (hdC s p W H dn d k n) 55)
  go_enter Tryz.func34, Tryz.ntmps34
  go_wp2_with fail
  go_ret
  exact ⟨rfl, hb⟩
theorem ofBytes_any (w : World) : Calls Tryz.prog 33 #[] w fun e w' => e = .returned (mkV 16711680 65280 255 0) ∧ Below w.heap.size w w' := by
  have hb := (Below.refl w.heap.size w).alloc (Nat.le_refl _) (.cells (mkC 16711680 65280 255 0) 80)
  go_enter Tryz.func33, Tryz.ntmps33
  go_wp2_with fail
  refine bodyPost_ret (v := mkV 16711680 65280 255 0) (by simp [results, Tryz.results33, go_sem]) rfl ?_
  exact ⟨rfl, hb⟩
theorem rowLength_any (s p : Int) (W D : Nat) (H : Int) (dn : Bool) (k n : Int) (hW : W ≤ 4294967296) (hD : D ≤ 32) (w : World) : Calls Tryz.prog 85 #[hdV s p (W : Int) H dn (D : Int) k n] w fun e w' => e = .returned (.int .i64 (((W * D + 31) / 32 * 4 : Nat) : Int)) ∧ Below w.heap.size w w' := by
  have hb := (Below.refl w.heap.size w).alloc (Nat.le_refl _) (.cells (hdC s p (W : Int) H dn (D : Int) k n) 55)
  obtain ⟨M, hM⟩ : ∃ M, W * D = M := ⟨_, rfl⟩
  have hMb : M ≤ 4294967296 * 32 := by rw [← hM]; exact Nat.mul_le_mul hW hD
  have m1 : wrap64 ((W : Int) * (D : Int)) = (M : Int) := by rw [← Int.natCast_mul, hM]; exact IntWalk.wrap64_in _ (by omega)
  rw [hM]
  clear hM
  go_enter Tryz.func85, Tryz.ntmps85
  go_wp2_with fail
  go_ret
  exact ⟨by congr 2, hb⟩
/-- The table of lowest bits, in its variable. -/
abbrev Tab32 (w : World) : Prop := ∀ j, j < Lib.deBruijn32tab.length → w.cell? ⟨0, j, none⟩ = some (.int .u8 (Lib.deBruijn32tab.getD j 0))
theorem Tab32.below {B : Nat} {w w' : World} (h : Tab32 w) (hb : Below B w w') (hB : 0 < B) : Tab32 w' := fun j hj => by
  have := h j hj
  exact (hb.cell (p := ⟨0, j, none⟩) hB).trans this
theorem tz32_core (x k idx : Nat) (w : World) (hx0 : ((x : Int) == 0) = false)
    (key : bits BinOp.and IntKind.u32 (x : Int) (-(x : Int) % 4294967296) * 125613361 % 4294967296 / 134217728 = (idx : Int))
    (hi : idx < 32) (hk : k < 32) (hcell : w.cell? ⟨0, idx, none⟩ = some (.int .u8 k)) :
    Calls Tryz.prog 113 #[.int .u32 x] w fun e w' => e = .returned (.int .i64 k) ∧ w' = w := by
  go_enter Tryz.func113, Tryz.ntmps113
  go_wp2_with (simp only [key])
  go_ret
  exact ⟨rfl, rfl⟩
theorem tz32_zero (w : World) : Calls Tryz.prog 113 #[.int .u32 0] w fun e w' => e = .returned (.int .i64 32) ∧ w' = w := by
  go_enter Tryz.func113, Tryz.ntmps113
  go_wp2
  go_ret
  exact ⟨rfl, rfl⟩
theorem tz32_key (x a : Nat) (hx : x < 4294967296) (hx0 : x ≠ 0) (hlow : x &&& (4294967296 - x) = a) :
    bits BinOp.and IntKind.u32 (x : Int) (-(x : Int) % 4294967296) * 125613361 % 4294967296 / 134217728 = ((a * 125613361 % 4294967296 / 134217728 : Nat) : Int) := by
  have e1 : -(x : Int) % 4294967296 = ((4294967296 - x : Nat) : Int) := by omega
  rw [e1, and_u32 x _ hx (by omega), hlow]
  omega
theorem tz32_any (x : Nat) (hx : x < 4294967296) (w : World) (hT : Tab32 w) : Calls Tryz.prog 113 #[.int .u32 x] w fun e w' => e = .returned (.int .i64 (Lib.ctz 32 x)) ∧ w' = w := by
  by_cases hx0 : x = 0
  · subst hx0
    exact tz32_zero w
  · obtain ⟨hlow, hk⟩ := Lib.lowest_bit 32 x hx0 hx
    obtain ⟨hi, htab⟩ := Lib.deBruijn32_at _ hk
    have hcell := hT _ hi
    rw [htab] at hcell
    exact tz32_core x _ _ w (by simp; omega) (tz32_key x _ hx hx0 hlow) hi hk hcell
end Go.Proofs.YtnfjeeflcfmpbaaGreatDoor

/- A run of a row; the document's pixel. -/
namespace Go.Proofs.YtnfjeeflcfmpbaaGreatDoor
open Go.ChangeShapes Go.WideShapes Go.ChangeAt Go.RowKit

theorem newImg (W H : Int) (A : Option Addr) (n c : Nat) (w : World) : ∃ W1, w.alloc (.cells #[.int .i64 W, .int .i64 H, .slice A n c] 26) = W1 ∧ IB W1 w.heap.size (.int .i64 W) (.int .i64 H) (.slice A n c) ∧ Below w.heap.size w W1 :=
  ⟨_, rfl, IB.of (Blk.new w 26 _), (Below.refl w.heap.size w).alloc (Nat.le_refl _) _⟩
theorem place_lt {W H X Y n : Nat} (hx : X + n ≤ W) (hy : Y < H) : Y * W + X + n ≤ W * H := by
  have h1 : (Y + 1) * W ≤ H * W := Nat.mul_le_mul_right W hy
  rw [Nat.add_mul, Nat.one_mul] at h1
  rw [Nat.mul_comm W H]
  omega
/-- The numbers on the way to a run of P pixels. -/
theorem run_nums {W H X Y P : Nat} (hx : X + P ≤ W) (hy : Y < H) (hf : W * H ≤ 65536) : ∃ m s F q G : Nat, wrap64 ((Y : Int) * (W : Int)) = (m : Int) ∧ wrap64 ((m : Int) + (X : Int)) = (s : Int) ∧ wrap64 (4 * (s : Int)) = (F : Int) ∧ wrap64 (4 * (P : Int)) = (q : Int) ∧ wrap64 ((F : Int) + (q : Int)) = (G : Int) ∧
    F = 4 * (Y * W + X) ∧ q = 4 * P ∧ G = F + 4 * P ∧ G ≤ 4 * (W * H) := by
  have hp := place_lt hx hy
  refine ⟨Y * W, Y * W + X, 4 * (Y * W + X), 4 * P, 4 * (Y * W + X) + 4 * P, ?_, ?_, ?_, ?_, ?_, rfl, rfl, rfl, ?_⟩
  · rw [← Int.natCast_mul]
    generalize Y * W = m at *
    exact IntWalk.wrap64_in _ (by omega)
  · rw [← Int.natCast_add]
    generalize Y * W = m at *
    exact IntWalk.wrap64_in _ (by omega)
  · generalize Y * W = m at *
    rw [IntWalk.wrap64_in _ (by omega)]; omega
  · generalize Y * W = m at *
    rw [IntWalk.wrap64_in _ (by omega)]; omega
  · generalize Y * W = m at *
    rw [IntWalk.wrap64_in _ (by omega)]; omega
  · generalize Y * W = m at *
    omega
set_option maxRecDepth 100000 in
set_option maxHeartbeats 1000000 in
theorem pixel_go (w : World) (r o c X Y W m s F n : Nat) (H : Int) (x : Col) (r1 : wrap64 ((Y : Int) * (W : Int)) = (m : Int)) (r2 : wrap64 ((m : Int) + (X : Int)) = (s : Int)) (r3 : wrap64 (4 * (s : Int)) = (F : Int)) (hn : F + 4 ≤ n) (hm : n ≤ 262144)
    (h0 : w.cell? ⟨r, o + F, none⟩ = some (.int .u16 x.r)) (h1 : w.cell? ⟨r, o + (F + 1), none⟩ = some (.int .u16 x.g)) (h2 : w.cell? ⟨r, o + (F + 2), none⟩ = some (.int .u16 x.b)) (h3 : w.cell? ⟨r, o + (F + 3), none⟩ = some (.int .u16 x.a)) :
    Calls Tryz.prog 42 #[imgV W H (some ⟨r, o, none⟩) n c, .int .i64 (X : Int), .int .i64 (Y : Int)] w fun e w' => e = .returned (colV x) ∧ Below w.heap.size w w' := by
  have hr : r < w.heap.size := block_lt_of_cell h0
  obtain ⟨W0, hW0, hi, hb0⟩ := newImg W H (some ⟨r, o, none⟩) n c w
  obtain ⟨W1, hW1, hz, hb1⟩ := newCol W0
  have hs0 : w.heap.size < W0.heap.size := hi.blk.lt
  have hb := hb0.trans (hb1.mono hb0.size)
  have c0 := (hb.cell (p := ⟨r, o + F, none⟩) hr).trans h0
  have c1 := (hb.cell (p := ⟨r, o + (F + 1), none⟩) hr).trans h1
  have c2 := (hb.cell (p := ⟨r, o + (F + 2), none⟩) hr).trans h2
  have c3 := (hb.cell (p := ⟨r, o + (F + 3), none⟩) hr).trans h3
  have hi1 := IB.of (hi.blk.upd (Upd.of_fresh hb1) id)
  have k0 := hi1.c0
  have k2 := hi1.c2
  obtain ⟨b0, d0, d1, d2, d3, f0, f1, f2, f3⟩ := hz
  have hsz : W0.heap.size = w.heap.size + 1 := by rw [← hW0, World.size_alloc]
  rw [hsz] at b0 d0 d1 d2 d3 f0 f1 f2 f3
  have hz9 := CB.of (x := x) (set4 b0 (.int .u16 x.r) (.int .u16 x.g) (.int .u16 x.b) (.int .u16 x.a))
  have hu9 := set4_upd W1 (w.heap.size + 1) (.int .u16 x.r) (.int .u16 x.g) (.int .u16 x.b) (.int .u16 x.a)
  have HB := Lib.hid (hb.trans (hu9.below (by have := hb.size; omega) (fun k hk e => by omega)))
  have HW := Lib.hid (show (w.alloc (.cells #[.int .i64 (W : Int), .int .i64 H, .slice (some ⟨r, o, none⟩) n c] 26)).alloc (.cells #[.int .u16 0, .int .u16 0, .int .u16 0, .int .u16 0] 49) = W1 by rw [hW0, hW1])
  have HZ9 := Lib.hid hz9
  clear hW1 hW0 hz9 hu9 b0 hb hb0 hb1 hi1 hi hsz hs0 h0 h1 h2 h3 hr
  have i0 : (F : Int) < (n : Int) := by omega
  have i1 : ((F : Int) + 1) < (n : Int) := by omega
  have i2 : ((F : Int) + 2) < (n : Int) := by omega
  have i3 : ((F : Int) + 3) < (n : Int) := by omega
  go_enter Tryz.func42, Tryz.ntmps42
  go_upto_region 1 with (fail)
  rw [HW.out]
  clear HW
  go_upto_region 2 with (fail)
  refine wp_region_tail 24 (by kernel_rfl) (by kernel_rfl) ?_
  simp only [List.take_succ_cons, List.take_zero, List.drop_succ_cons, List.drop_zero]
  repeat (go_big_quiet_step (fail))
  refine wpQuiet_nil ?_
  have g0 : W1.drew.frozen? ⟨w.heap.size + 1, 0, none⟩ = false := f0
  go_wp2_with fail
  have n0 := HZ9.out.c0; have n1 := HZ9.out.c1; have n2 := HZ9.out.c2; have n3 := HZ9.out.c3
  refine bodyPost_ret (v := colV x) (by simp [results, Tryz.results42, go_sem, n0, n1, n2, n3]) rfl ?_
  exact ⟨rfl, HB.out.drew⟩
theorem pixel_any {w : World} {r o c n W H : Nat} {l : List Int} (hn : l.length = n) (hn4 : n = 4 * (W * H)) (hf : W * H ≤ 65536) (h : Smp w r o l) (X Y : Nat) (hx : X < W) (hy : Y < H) :
    Calls Tryz.prog 42 #[imgV W H (some ⟨r, o, none⟩) n c, .int .i64 (X : Int), .int .i64 (Y : Int)] w fun e w' => e = .returned (colV (pxAt l (4 * (Y * W + X)))) ∧ Below w.heap.size w w' := by
  obtain ⟨m, s, F, q, G, r1, r2, r3, r4, r5, hF, hq, hG, hGn⟩ := run_nums (W := W) (X := X) (P := 1) (by omega) hy hf
  obtain ⟨q0, q1, q2, q3⟩ := h.px (k := F) (by omega)
  rw [← hF]
  exact pixel_go w r o c X Y W m s F n H _ r1 r2 r3 (by omega) (by omega) q0 (by rw [← Nat.add_assoc]; exact q1) (by rw [← Nat.add_assoc]; exact q2) (by rw [← Nat.add_assoc]; exact q3)
end Go.Proofs.YtnfjeeflcfmpbaaGreatDoor
