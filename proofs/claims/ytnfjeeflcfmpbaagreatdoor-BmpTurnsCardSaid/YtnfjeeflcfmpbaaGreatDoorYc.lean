/- A pixel's number, by the masks that are written. -/
import Derived.Test.YtnfjeeflcfmpbaaGreatDoorQg
import Derived.Test.YtnfjeeflcfmpbaaGreatDoorQj
set_option linter.unusedVariables false
set_option linter.unusedSimpArgs false
namespace Go.Proofs.YtnfjeeflcfmpbaaGreatDoor
open Go.RowKit

/-- The cells of four samples, one by one. -/
theorem ix4 (a b c d : Value) (w : World) : (Instr.index 177 (.agg #[a, b, c, d]) (.int .i64 0)).run Tryz.prog w = .ok a w ∧ (Instr.index 177 (.agg #[a, b, c, d]) (.int .i64 1)).run Tryz.prog w = .ok b w ∧ (Instr.index 177 (.agg #[a, b, c, d]) (.int .i64 2)).run Tryz.prog w = .ok c w ∧ (Instr.index 177 (.agg #[a, b, c, d]) (.int .i64 3)).run Tryz.prog w = .ok d w := by
  refine ⟨?_, ?_, ?_, ?_⟩ <;> simp [Instr.index, run_underlying Tryz.underlying177, asIntOf, go_sem]
theorem down8_any (s : Int) (hs : 0 ≤ s ∧ s ≤ 65535) (w : World) : Calls Tryz.prog 114 #[.int .u16 s, .int .i64 255] w fun e w' => e = .returned (.tuple #[.int .i64 ((dn8 s).toNat : Nat), .int .i64 0]) ∧ w' = w :=
  (down_any s 255 hs w).mono fun e w' h => by
    obtain ⟨rfl, ⟨_, rfl⟩ | ⟨h, _⟩⟩ := h
    · exact ⟨by rw [dn8_nat hs], rfl⟩
    · omega
theorem down0_any (s : Int) (hs : 0 ≤ s ∧ s ≤ 65535) (w : World) : Calls Tryz.prog 114 #[.int .u16 s, .int .i64 0] w fun e w' => e = .returned (.tuple #[.int .i64 0, .int .i64 2]) ∧ w' = w :=
  (down_any s 0 hs w).mono fun e w' h => by
    obtain ⟨rfl, ⟨h, _⟩ | ⟨_, rfl⟩⟩ := h
    · omega
    · exact ⟨rfl, rfl⟩
/-- The sum of the first k parts. -/
def mkP (r g b a : Nat) : Nat → Nat
  | 0 => 0
  | 1 => r * 65536
  | 2 => r * 65536 + g * 256
  | 3 => r * 65536 + g * 256 + b
  | _ => r * 65536 + g * 256 + b + a * 16777216
def mask3 (al : Bool) : Nat := if al then 4278190080 else 0
set_option maxRecDepth 100000 in
theorem mnum_any (al : Bool) (r g b a : Int) (hr : 0 ≤ r ∧ r ≤ 65535) (hg : 0 ≤ g ∧ g ≤ 65535) (hb : 0 ≤ b ∧ b ≤ 65535) (ha : 0 ≤ a ∧ a ≤ 65535) (w : World) (hT : Tab32 w) (hB : 0 < w.heap.size) :
    Calls Tryz.prog 84 #[mkV 16711680 65280 255 (mask3 al : Nat), colV ⟨r, g, b, a⟩] w fun e w' => e = .returned (.int .u32 (pxV al r g b a : Nat)) ∧ Below w.heap.size w w' := by
  obtain ⟨bel, hsz, hb1, hb2⟩ := boxes2 w (mkC 16711680 65280 255 (mask3 al : Nat)) (colC ⟨r, g, b, a⟩) 80 49
  go_enter Tryz.func84, Tryz.ntmps84
  go_upto_region 1 with (fail)
  generalize (w.alloc (.cells (mkC 16711680 65280 255 (mask3 al : Nat)) 80)).alloc (.cells (colC ⟨r, g, b, a⟩) 49) = w1 at *
  have c0 : w1.cell? ⟨w.heap.size + 1, 0, none⟩ = some (.int .u16 r) := hb2.cell 0
  have c1 : w1.cell? ⟨w.heap.size + 1, 1, none⟩ = some (.int .u16 g) := hb2.cell 1
  have c2 : w1.cell? ⟨w.heap.size + 1, 2, none⟩ = some (.int .u16 b) := hb2.cell 2
  have c3 : w1.cell? ⟨w.heap.size + 1, 3, none⟩ = some (.int .u16 a) := hb2.cell 3
  have m0 : w1.cell? ⟨w.heap.size, 0, none⟩ = some (.int .u32 16711680) := hb1.cell 0
  have m1 : w1.cell? ⟨w.heap.size, 1, none⟩ = some (.int .u32 65280) := hb1.cell 1
  have m2 : w1.cell? ⟨w.heap.size, 2, none⟩ = some (.int .u32 255) := hb1.cell 2
  have m3 : w1.cell? ⟨w.heap.size, 3, none⟩ = some (.int .u32 (mask3 al : Nat)) := hb1.cell 3
  have HT := Lib.hid (Tab32.below hT bel hB)
  have HBel := Lib.hid bel
  obtain ⟨dr, hdr⟩ : ∃ n, (dn8 r).toNat = n := ⟨_, rfl⟩
  obtain ⟨dg, hdg⟩ : ∃ n, (dn8 g).toNat = n := ⟨_, rfl⟩
  obtain ⟨db, hdb⟩ : ∃ n, (dn8 b).toNat = n := ⟨_, rfl⟩
  obtain ⟨da, hda⟩ : ∃ n, (dn8 a).toNat = n := ⟨_, rfl⟩
  have lr : dr < 256 := hdr ▸ (dn8 r).toNat_lt
  have lg : dg < 256 := hdg ▸ (dn8 g).toNat_lt
  have lb : db < 256 := hdb ▸ (dn8 b).toNat_lt
  have la : da < 256 := hda ▸ (dn8 a).toNat_lt
  have HDr : Hid (∀ w, Calls Tryz.prog 114 #[.int .u16 r, .int .i64 255] w fun e w' => e = .returned (.tuple #[.int .i64 (dr : Nat), .int .i64 0]) ∧ w' = w) := Lib.hid (fun w => hdr ▸ down8_any r hr w)
  have HDg : Hid (∀ w, Calls Tryz.prog 114 #[.int .u16 g, .int .i64 255] w fun e w' => e = .returned (.tuple #[.int .i64 (dg : Nat), .int .i64 0]) ∧ w' = w) := Lib.hid (fun w => hdg ▸ down8_any g hg w)
  have HDb : Hid (∀ w, Calls Tryz.prog 114 #[.int .u16 b, .int .i64 255] w fun e w' => e = .returned (.tuple #[.int .i64 (db : Nat), .int .i64 0]) ∧ w' = w) := Lib.hid (fun w => hdb ▸ down8_any b hb w)
  have HDa : Hid (∀ w, Calls Tryz.prog 114 #[.int .u16 a, .int .i64 255] w fun e w' => e = .returned (.tuple #[.int .i64 (da : Nat), .int .i64 0]) ∧ w' = w) := Lib.hid (fun w => hda ▸ down8_any a ha w)
  have HD0 := Lib.hid (fun w => down0_any a ha w)
  have HV : Hid (pxV al r g b a = db + 256 * dg + 65536 * dr + if al then 16777216 * da else 0) := Lib.hid (by unfold pxV; rw [hdr, hdg, hdb, hda])
  clear hdr hdg hdb hda hb1 hb2 bel hT hr hg hb ha
  have o0 : bits .or .u32 ((0 : Nat) : Int) ((dr : Int) * 65536) = ((dr * 65536 : Nat) : Int) := by
    have := or_u32 0 (dr * 65536) (by omega) (by omega)
    rw [Nat.zero_or] at this
    rw [show (dr : Int) * 65536 = ((dr * 65536 : Nat) : Int) from by omega]
    exact this
  have o1 : ∀ X : Nat, X = dr * 65536 → bits .or .u32 (X : Int) ((dg : Int) * 256) = ((dr * 65536 + dg * 256 : Nat) : Int) := by
    rintro X rfl
    have := or_u32 (dr * 65536) (dg * 256) (by omega) (by omega)
    rw [show (dg : Int) * 256 = ((dg * 256 : Nat) : Int) from by omega, this, Nat.or_comm, show dr * 65536 = dr * 2 ^ 16 from by omega, or_side _ _ 16 (by omega), Nat.add_comm]
  have o2 : ∀ X : Nat, X = dr * 65536 + dg * 256 → bits .or .u32 (X : Int) (db : Int) = ((dr * 65536 + dg * 256 + db : Nat) : Int) := by
    rintro X rfl
    have := or_u32 (dr * 65536 + dg * 256) db (by omega) (by omega)
    rw [this, Nat.or_comm, show dr * 65536 + dg * 256 = (dr * 256 + dg) * 2 ^ 8 from by omega, or_side _ _ 8 (by omega)]
    omega
  have o3 : ∀ X : Nat, X = dr * 65536 + dg * 256 + db → bits .or .u32 (X : Int) ((da : Int) * 16777216) = ((dr * 65536 + dg * 256 + db + da * 16777216 : Nat) : Int) := by
    rintro X rfl
    have := or_u32 (dr * 65536 + dg * 256 + db) (da * 16777216) (by omega) (by omega)
    rw [show (da : Int) * 16777216 = ((da * 16777216 : Nat) : Int) from by omega, this, show da * 16777216 = da * 2 ^ 24 from by omega, or_side _ _ 24 (by omega)]
  have o4 : ∀ X : Nat, X < 4294967296 → bits .or .u32 (X : Int) 0 = (X : Int) := by
    intro X hX
    have := or_u32 X 0 hX (by omega)
    rw [Nat.or_zero] at this
    exact this
  have O0 := Lib.hid o0; have O1 := Lib.hid o1; have O2 := Lib.hid o2; have O3 := Lib.hid o3; have O4 := Lib.hid o4
  clear o0 o1 o2 o3 o4
  have i0 := fun w => (ix4 (.int .u16 r) (.int .u16 g) (.int .u16 b) (.int .u16 a) w).1
  have i1 := fun w => (ix4 (.int .u16 r) (.int .u16 g) (.int .u16 b) (.int .u16 a) w).2.1
  have i2 := fun w => (ix4 (.int .u16 r) (.int .u16 g) (.int .u16 b) (.int .u16 a) w).2.2.1
  have i3 := fun w => (ix4 (.int .u16 r) (.int .u16 g) (.int .u16 b) (.int .u16 a) w).2.2.2
  go_wp2_with fail
  go_loopw [5, 20] (fun x i wr => ∃ k : Nat, k ≤ 4 ∧ i = .int .i64 (k : Int) ∧ wr = w1 ∧ ((k < 4 ∧ x = .int .u32 (mkP dr dg db da k : Nat)) ∨ (k = 4 ∧ x = .int .u32 (pxV al r g b a : Nat)))) (fun _ i _ => 4 - (intOf i).toNat)
  case atStart => exact ⟨0, by omega, rfl, rfl, .inl ⟨by omega, rfl⟩⟩
  case round =>
    obtain ⟨k, hk, rfl, rfl, ⟨hk4, rfl⟩ | ⟨rfl, rfl⟩⟩ := hrel
    · rcases (show k = 0 ∨ k = 1 ∨ k = 2 ∨ k = 3 by omega) with rfl | rfl | rfl | rfl
      · have HZ := Lib.hid (tz32_any 16711680 (by omega) wr HT.out)
        rw [show Lib.ctz 32 16711680 = 16 from by decide +kernel] at HZ
        obtain ⟨X, hX⟩ : ∃ X, mkP dr dg db da 0 = X := ⟨_, rfl⟩
        have HX := Lib.hid hX
        rw [hX]
        clear hX
        have ho : bits .or .u32 (X : Int) ((dr : Int) * 65536) = ((dr * 65536 : Nat) : Int) := by
          rw [← HX.out]
          exact O0.out
        go_wp2_with fail
        refine HZ.out.mono ?_
        rintro e w2 ⟨rfl, rfl⟩
        go_wp2_with fail
        refine (HDr.out _).mono ?_
        rintro e w3 ⟨rfl, rfl⟩
        go_wp2_with fail
        go_roundw
        case rel => exact ⟨1, by omega, rfl, trivial, .inl ⟨by omega, by simp only [mkP]; congr 1 <;> omega⟩⟩
        case measure => simp [intOf]
      · have HZ := Lib.hid (tz32_any 65280 (by omega) wr HT.out)
        rw [show Lib.ctz 32 65280 = 8 from by decide +kernel] at HZ
        obtain ⟨X, hX⟩ : ∃ X, mkP dr dg db da 1 = X := ⟨_, rfl⟩
        have HX := Lib.hid hX
        rw [hX]
        clear hX
        have ho := O1.out X HX.out.symm
        go_wp2_with fail
        refine HZ.out.mono ?_
        rintro e w2 ⟨rfl, rfl⟩
        go_wp2_with fail
        refine (HDg.out _).mono ?_
        rintro e w3 ⟨rfl, rfl⟩
        go_wp2_with fail
        go_roundw
        case rel => exact ⟨2, by omega, rfl, trivial, .inl ⟨by omega, by simp only [mkP]; congr 1 <;> omega⟩⟩
        case measure => simp [intOf]
      · have HZ := Lib.hid (tz32_any 255 (by omega) wr HT.out)
        rw [show Lib.ctz 32 255 = 0 from by decide +kernel] at HZ
        obtain ⟨X, hX⟩ : ∃ X, mkP dr dg db da 2 = X := ⟨_, rfl⟩
        have HX := Lib.hid hX
        rw [hX]
        clear hX
        have ho := O2.out X HX.out.symm
        go_wp2_with fail
        refine HZ.out.mono ?_
        rintro e w2 ⟨rfl, rfl⟩
        go_wp2_with fail
        refine (HDb.out _).mono ?_
        rintro e w3 ⟨rfl, rfl⟩
        go_wp2_with fail
        go_roundw
        case rel => exact ⟨3, by omega, rfl, trivial, .inl ⟨by omega, by simp only [mkP]; congr 1 <;> omega⟩⟩
        case measure => simp [intOf]
      · obtain ⟨X, hX⟩ : ∃ X, mkP dr dg db da 3 = X := ⟨_, rfl⟩
        have HX := Lib.hid hX
        rw [hX]
        clear hX
        cases al with
        | false =>
          have HZ := Lib.hid (tz32_zero wr)
          have ho := O4.out X (by rw [← HX.out]; simp only [mkP]; omega)
          simp only [mask3, Bool.false_eq_true, if_false] at m3
          go_wp2_with fail
          refine HZ.out.mono ?_
          rintro e w2 ⟨rfl, rfl⟩
          go_wp2_with fail
          refine (HD0.out _).mono ?_
          rintro e w3 ⟨rfl, rfl⟩
          go_wp2_with fail
          go_roundw
          case rel => exact ⟨4, by omega, rfl, trivial, .inr ⟨rfl, by rw [HV.out, ← HX.out]; simp only [mkP, Bool.false_eq_true, if_false]; congr 1 <;> omega⟩⟩
          case measure => simp [intOf]
        | true =>
          have HZ := Lib.hid (tz32_any 4278190080 (by omega) wr HT.out)
          rw [show Lib.ctz 32 4278190080 = 24 from by decide +kernel] at HZ
          have ho := O3.out X HX.out.symm
          simp only [mask3, if_true] at m3
          go_wp2_with fail
          refine HZ.out.mono ?_
          rintro e w2 ⟨rfl, rfl⟩
          go_wp2_with fail
          refine (HDa.out _).mono ?_
          rintro e w3 ⟨rfl, rfl⟩
          go_wp2_with fail
          go_roundw
          case rel => exact ⟨4, by omega, rfl, trivial, .inr ⟨rfl, by rw [HV.out]; simp only [if_true]; congr 1 <;> omega⟩⟩
          case measure => simp [intOf]
    · go_wp2_with fail
      go_ret
      exact ⟨rfl, HBel.out⟩
end Go.Proofs.YtnfjeeflcfmpbaaGreatDoor
