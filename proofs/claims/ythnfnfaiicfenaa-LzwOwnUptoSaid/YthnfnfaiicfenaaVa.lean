/- The document's GifUnpack and TiffUnpack. -/
import Derived.Test.YthnfnfaiicfenaaRd
import Derived.Test.YthnfnfaiicfenaaZg
namespace Go.Proofs.Ythnfnfaiicfenaa
open Go.ChangeShapes Go.WideShapes Go.ChangeAt Go.RowKit

set_option maxHeartbeats 4000000 in
theorem refTiff_any (w : World) (A : Option Addr) (c n : Nat) (b : List UInt8) (most : Int) (hn : b.length = n) (h : Bs w w.heap.size A b) (hb : b.length ≤ 4000000) (hmax : most ≤ 9223372036854775807) :
    Calls Try.prog 16 #[.slice A n c, .int .i64 most] w (UnpackR w (tiffM b most)) := by
  subst hn
  have HU : Hid (Calls Try.prog 25 #[.slice A b.length c, .int .i64 256, .int .i64 9, .bool true, .int .i64 1, .int .i64 most] w (UnpackR w (tiffM b most))) := Lib.hid (refUnpack_any w A c b 256 9 true 1 most h hb (by omega) (by omega) (by omega) hmax wM_tiff)
  clear h
  go_enter Try.func16, Try.ntmps16
  go_wp2_with fail
  refine HU.out.mono ?_
  intro e w2 hr
  obtain ⟨v, k, rfl⟩ := hr.form
  have HR := Lib.hid hr
  clear hr
  go_wp2_with fail
  go_ret2
  exact HR.out
set_option maxHeartbeats 4000000 in
theorem refGif_any (w : World) (A : Option Addr) (c n : Nat) (b : List UInt8) (size most : Int) (hn : b.length = n) (h : Bs w w.heap.size A b) (hb : b.length ≤ 4000000) (hmax : most ≤ 9223372036854775807) :
    Calls Try.prog 13 #[.slice A n c, .int .i64 size, .int .i64 most] w (UnpackR w (gifM b size most)) := by
  subst hn
  by_cases hs : size < 2 ∨ 8 < size
  · have HX : Hid (gifM b size most = .error 2) := Lib.hid (by unfold gifM; rw [if_pos hs])
    rw [HX.out]
    by_cases h2 : size < 2
    · have d1 : decide (size < 2) = true := by simp; omega
      clear hs
      go_enter Try.func13, Try.ntmps13
      go_wp2_with fail
      go_ret2
      exact ⟨rfl, Below.refl _ _⟩
    · have d1 : decide (size < 2) = false := by simp; omega
      have d2 : decide (8 < size) = true := by simp; omega
      clear hs
      go_enter Try.func13, Try.ntmps13
      go_wp2_with fail
      go_ret2
      exact ⟨rfl, Below.refl _ _⟩
  · have HX : Hid (gifM b size most = unpackM b false (clr size.toNat) 0 most.toNat) := Lib.hid (by unfold gifM; rw [if_neg hs])
    rw [HX.out]
    obtain ⟨s, rfl⟩ : ∃ s : Nat, size = s := ⟨size.toNat, by omega⟩
    have hs1 : 2 ≤ s := by omega
    have hs2 : s ≤ 8 := by omega
    have d1 : decide ((s : Int) < 2) = false := by simp; omega
    have d2 : decide ((8 : Int) < (s : Int)) = false := by simp; omega
    have hc := clr_le hs1 hs2
    have e1 : wrap64 ((2 : Int) ^ s) = (clr s : Nat) := by
      have e : (2 : Int) ^ s = (clr s : Nat) := by unfold clr; exact (Int.natCast_pow 2 s).symm
      rw [e]
      exact IntWalk.wrap64_in _ ⟨by omega, by omega⟩
    have HU := Lib.hid (refUnpack_any w A c b (clr s) (s + 1) false 0 most h hb hc.1 hc.2 (by omega) hmax (wM_gif s hs1 hs2))
    clear hs h HX
    rw [Int.toNat_natCast]
    go_enter Try.func13, Try.ntmps13
    go_wp2_with fail
    refine HU.out.mono ?_
    intro e w2 hr
    obtain ⟨v, k, rfl⟩ := hr.form
    have HR := Lib.hid hr
    clear hr
    go_wp2_with fail
    go_ret2
    exact HR.out
end Go.Proofs.Ythnfnfaiicfenaa
