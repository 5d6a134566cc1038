/- The masks that are written may be. -/
import Derived.Test.YthbhaggldighlaaGreatDoorYc
import Derived.Test.YthbhaggldighlaaGreatDoorYh
import Derived.BigQuiet
import Derived.Lib.Tables
import Derived.Lib.BitFns
import Derived.Lib.Walk
import Derived.Lib.Strings
import Derived.Lib.Slices
import Derived.Lib.Small
import Derived.Deep.QuietTactic
set_option linter.unusedVariables false
set_option linter.unusedSimpArgs false
namespace Go.Proofs.YthbhaggldighlaaGreatDoor
open Go.ChangeShapes Go.WideShapes Go.ChangeAt Go.RowKit

theorem ret_n {a b : Int} (h : a = b) : Ending.returned (.int .i64 a) = .returned (.int .i64 b) := by rw [h]
set_option maxRecDepth 100000 in
theorem oc_any (x b1 b2 b3 b4 : Int) (e1 : x / 16777216 = b1) (e2 : bits BinOp.and IntKind.u32 (x / 65536) 255 = b2) (e3 : bits BinOp.and IntKind.u32 (x / 256) 255 = b3) (e4 : bits BinOp.and IntKind.u32 x 255 = b4)
    (h1 : 0 ≤ b1 ∧ b1 ≤ 255) (h2 : 0 ≤ b2 ∧ b2 ≤ 255) (h3 : 0 ≤ b3 ∧ b3 ≤ 255) (h4 : 0 ≤ b4 ∧ b4 ≤ 255) (hn : (Lib.pop8 b1 + Lib.pop8 b2 + Lib.pop8 b3 + Lib.pop8 b4) % 256 = 8) (w : World) : Calls Tryz.prog 186 #[.int .u32 x] w fun e w' => e = .returned (.int .i64 8) ∧ ∃ m, w' = w.drewN m := by
  obtain ⟨a1, c1⟩ := h1; obtain ⟨a2, c2⟩ := h2; obtain ⟨a3, c3⟩ := h3; obtain ⟨a4, c4⟩ := h4
  have HN := Lib.hid hn
  clear hn
  go_enter Tryz.func186, Tryz.ntmps186
  go_wp2_with fail
  go_quiet (fail)
  go_wp2_with fail
  go_ret
  exact ⟨ret_n HN.out, nq, rfl⟩
theorem oc_r (w : World) : Calls Tryz.prog 186 #[.int .u32 16711680] w fun e w' => e = .returned (.int .i64 8) ∧ ∃ m, w' = w.drewN m := oc_any _ 0 255 0 0 (by decide) (by decide) (by decide) (by decide) (by omega) (by omega) (by omega) (by omega) (by decide +kernel) w
theorem oc_g (w : World) : Calls Tryz.prog 186 #[.int .u32 65280] w fun e w' => e = .returned (.int .i64 8) ∧ ∃ m, w' = w.drewN m := oc_any _ 0 0 255 0 (by decide) (by decide) (by decide) (by decide) (by omega) (by omega) (by omega) (by omega) (by decide +kernel) w
theorem oc_b (w : World) : Calls Tryz.prog 186 #[.int .u32 255] w fun e w' => e = .returned (.int .i64 8) ∧ ∃ m, w' = w.drewN m := oc_any _ 0 0 0 255 (by decide) (by decide) (by decide) (by decide) (by omega) (by omega) (by omega) (by omega) (by decide +kernel) w
theorem oc_a (w : World) : Calls Tryz.prog 186 #[.int .u32 4278190080] w fun e w' => e = .returned (.int .i64 8) ∧ ∃ m, w' = w.drewN m := oc_any _ 255 0 0 0 (by decide) (by decide) (by decide) (by decide) (by omega) (by omega) (by omega) (by omega) (by decide +kernel) w
set_option maxRecDepth 100000 in
theorem ln_r (w : World) : Calls Tryz.prog 187 #[.int .u32 16711680] w fun e w' => e = .returned (.int .i64 24) ∧ w' = w := by
  go_enter Tryz.func187, Tryz.ntmps187
  go_wp2_with fail
  go_ret
  exact ⟨ret_n (by decide +kernel), rfl⟩
set_option maxRecDepth 100000 in
theorem ln_g (w : World) : Calls Tryz.prog 187 #[.int .u32 65280] w fun e w' => e = .returned (.int .i64 16) ∧ w' = w := by
  go_enter Tryz.func187, Tryz.ntmps187
  go_wp2_with fail
  go_ret
  exact ⟨ret_n (by decide +kernel), rfl⟩
set_option maxRecDepth 100000 in
theorem ln_b (w : World) : Calls Tryz.prog 187 #[.int .u32 255] w fun e w' => e = .returned (.int .i64 8) ∧ w' = w := by
  go_enter Tryz.func187, Tryz.ntmps187
  go_wp2_with fail
  go_ret
  exact ⟨ret_n (by decide +kernel), rfl⟩
set_option maxRecDepth 100000 in
theorem ln_a (w : World) : Calls Tryz.prog 187 #[.int .u32 4278190080] w fun e w' => e = .returned (.int .i64 32) ∧ w' = w := by
  go_enter Tryz.func187, Tryz.ntmps187
  go_wp2_with fail
  go_ret
  exact ⟨ret_n (by decide +kernel), rfl⟩
set_option maxRecDepth 100000 in
set_option maxHeartbeats 4000000 in
theorem mayBeT_ok (w : World) : Calls Tryz.prog 156 #[mkV 16711680 65280 255 4278190080, .int .i64 32] w fun e w' => e = .returned (.bool true) ∧ Below w.heap.size w w' := by
  have hb := Blk.new w 116 (mkC 16711680 65280 255 4278190080)
  have bel := (Below.refl w.heap.size w).alloc (Nat.le_refl _) (.cells (mkC 16711680 65280 255 4278190080) 116)
  have x0 := fun w => (ix4u (.int .u32 16711680) (.int .u32 65280) (.int .u32 255) (.int .u32 4278190080) w).1
  have x1 := fun w => (ix4u (.int .u32 16711680) (.int .u32 65280) (.int .u32 255) (.int .u32 4278190080) w).2.1
  have x2 := fun w => (ix4u (.int .u32 16711680) (.int .u32 65280) (.int .u32 255) (.int .u32 4278190080) w).2.2.1
  have x3 := fun w => (ix4u (.int .u32 16711680) (.int .u32 65280) (.int .u32 255) (.int .u32 4278190080) w).2.2.2
  have p0 : bits BinOp.and IntKind.u32 16711680 0 = 0 := by decide
  have p1 : bits BinOp.and IntKind.u32 65280 16711680 = 0 := by decide
  have p2 : bits BinOp.and IntKind.u32 255 16776960 = 0 := by decide
  have p3 : bits BinOp.and IntKind.u32 4278190080 16777215 = 0 := by decide
  have q0 : bits BinOp.and IntKind.u32 16711680 4278255616 = 65536 := by decide
  have q1 : bits BinOp.and IntKind.u32 65280 4294902016 = 256 := by decide
  have q2 : bits BinOp.and IntKind.u32 255 4294967041 = 1 := by decide
  have q3 : bits BinOp.and IntKind.u32 4278190080 16777216 = 16777216 := by decide
  have r0 : bits BinOp.and IntKind.u32 16711680 16777216 = 0 := by decide
  have r1 : bits BinOp.and IntKind.u32 65280 65536 = 0 := by decide
  have r2 : bits BinOp.and IntKind.u32 255 256 = 0 := by decide
  have r3 : bits BinOp.and IntKind.u32 4278190080 0 = 0 := by decide
  have s0 : bits BinOp.or IntKind.u32 0 16711680 = 16711680 := by decide
  have s1 : bits BinOp.or IntKind.u32 16711680 65280 = 16776960 := by decide
  have s2 : bits BinOp.or IntKind.u32 16776960 255 = 16777215 := by decide
  have s3 : bits BinOp.or IntKind.u32 16777215 4278190080 = 4294967295 := by decide
  go_enter Tryz.func156, Tryz.ntmps156
  go_upto_region 1 with (fail)
  generalize w.alloc (.cells (mkC 16711680 65280 255 4278190080) 116) = w1 at *
  have y0 : w1.cell? ⟨w.heap.size, 0, none⟩ = some (.int .u32 16711680) := hb.cell 0
  have y1 : w1.cell? ⟨w.heap.size, 1, none⟩ = some (.int .u32 65280) := hb.cell 1
  have y2 : w1.cell? ⟨w.heap.size, 2, none⟩ = some (.int .u32 255) := hb.cell 2
  have y3 : w1.cell? ⟨w.heap.size, 3, none⟩ = some (.int .u32 4278190080) := hb.cell 3
  have HBel := Lib.hid bel
  clear bel hb
  go_wp2_with fail
  go_loopw [5, 10] (fun a i wr => Hid (Below w.heap.size w wr) ∧ ((i = .int .i64 0 ∧ a = .int .u32 0) ∨ (i = .int .i64 1 ∧ a = .int .u32 16711680) ∨ (i = .int .i64 2 ∧ a = .int .u32 16776960) ∨ (i = .int .i64 3 ∧ a = .int .u32 16777215) ∨ (i = .int .i64 4 ∧ a = .int .u32 4294967295))) (fun _ i _ => 4 - (intOf i).toNat)
  case atStart => exact ⟨HBel, .inl ⟨rfl, rfl⟩⟩
  case round =>
    clear y0 y1 y2 y3 HBel
    obtain ⟨HX, ⟨rfl, rfl⟩ | ⟨rfl, rfl⟩ | ⟨rfl, rfl⟩ | ⟨rfl, rfl⟩ | ⟨rfl, rfl⟩⟩ := hrel
    · go_wp2_with fail
      refine (oc_r wr).mono ?_
      rintro e w2 ⟨rfl, m, rfl⟩
      go_wp2_with fail
      refine (ln_r _).mono ?_
      rintro e w3 ⟨rfl, rfl⟩
      go_wp2_with fail
      go_roundw
      case rel => exact ⟨Lib.hid (below_drewN HX.out m), .inr (.inl ⟨rfl, rfl⟩)⟩
      case measure => simp [intOf]
    · go_wp2_with fail
      refine (oc_g wr).mono ?_
      rintro e w2 ⟨rfl, m, rfl⟩
      go_wp2_with fail
      refine (ln_g _).mono ?_
      rintro e w3 ⟨rfl, rfl⟩
      go_wp2_with fail
      go_roundw
      case rel => exact ⟨Lib.hid (below_drewN HX.out m), .inr (.inr (.inl ⟨rfl, rfl⟩))⟩
      case measure => simp [intOf]
    · go_wp2_with fail
      refine (oc_b wr).mono ?_
      rintro e w2 ⟨rfl, m, rfl⟩
      go_wp2_with fail
      refine (ln_b _).mono ?_
      rintro e w3 ⟨rfl, rfl⟩
      go_wp2_with fail
      go_roundw
      case rel => exact ⟨Lib.hid (below_drewN HX.out m), .inr (.inr (.inr (.inl ⟨rfl, rfl⟩)))⟩
      case measure => simp [intOf]
    · go_wp2_with fail
      refine (oc_a wr).mono ?_
      rintro e w2 ⟨rfl, m, rfl⟩
      go_wp2_with fail
      refine (ln_a _).mono ?_
      rintro e w3 ⟨rfl, rfl⟩
      go_wp2_with fail
      go_roundw
      case rel => exact ⟨Lib.hid (below_drewN HX.out m), .inr (.inr (.inr (.inr ⟨rfl, rfl⟩)))⟩
      case measure => simp [intOf]
    · go_wp2_with fail
      go_ret
      exact ⟨rfl, HX.out⟩
end Go.Proofs.YthbhaggldighlaaGreatDoor
