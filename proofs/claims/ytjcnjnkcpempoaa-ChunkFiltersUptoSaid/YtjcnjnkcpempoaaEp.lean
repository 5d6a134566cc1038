/- A number's four bytes. -/
import Derived.Test.YtjcnjnkcpempoaaEo
set_option linter.unusedVariables false
set_option linter.unusedSimpArgs false
namespace Go.Proofs.Ytjcnjnkcpempoaa
open Go.ChangeShapes Go.WideShapes Go.ChangeAt Go.RowKit

/-- A number as four bytes, the highest first. -/
def beB (v : Nat) : List UInt8 := [UInt8.ofNat (v >>> 24), UInt8.ofNat (v >>> 16), UInt8.ofNat (v >>> 8), UInt8.ofNat v]
theorem beB_length (v : Nat) : (beB v).length = 4 := rfl
theorem setB_be (v : Nat) : setB (List.replicate 4 0) 0 4 true v 4 = beB v := by
  simp [setB, shB, beB, List.replicate]
set_option maxRecDepth 100000 in
set_option maxHeartbeats 1000000 in
theorem number_any (v : Nat) (w : World) : Calls Try.prog 35 #[.int .u32 (v : Nat), .int .i64 4] w fun e w' => ∃ A' c', e = .returned (.slice A' 4 c') ∧ w'.ownsRow w.heap.size 5 1 (.slice A' 4 c') 4 (bytesV (beB v)) ∧ Below w.heap.size w w' := by
  obtain ⟨i0, hi, hz0, hz1, hz2⟩ := info_parts info_u8
  go_enter Try.func35, Try.ntmps35
  go_wp2_with (at_make; refine wpList_make_full _ rfl (.tmp 8) (.tmp 8) 22 rfl w.heap.size 5 i0 (.int .u8 0) 1 Try.underlying22 hi hz0 hz1 .i64 .i64 4 4 4 rfl rfl rfl rfl (by rw [hz2]; omega) (by unfold maxLen; omega) (Nat.le_refl _) ?_; intro w1 hown1 hg1)
  rw [make_u8] at hown1
  have hb1 := (Below.refl w.heap.size w).grown hg1 (Nat.le_refl _) (by simp)
  have hbs := Bs.of_own (l := List.replicate 4 0) hown1
  refine (set_ok (some ⟨w.heap.size, 0, none⟩) 4 (List.replicate 4 0) 0 4 v true w1.heap.size w1 hbs (Nat.le_refl _) (by simp) (by omega) (by omega) (by simp)).mono ?_
  rintro e w2 ⟨A', c', rfl, ho, hb2⟩
  rw [setB_be] at ho
  have HF := Lib.hid (And.intro (own_low ho hb1.size) (hb1.trans (hb2.mono hb1.size)))
  clear ho hb1 hb2 hbs hown1 hg1
  go_wp2_with fail
  go_ret
  exact ⟨A', c', rfl, HF.out⟩
end Go.Proofs.Ytjcnjnkcpempoaa
