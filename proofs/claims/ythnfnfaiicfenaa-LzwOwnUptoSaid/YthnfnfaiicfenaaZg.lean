/- GifUnpack and TiffUnpack; copies that are handed in. -/
import Derived.Test.YthnfnfaiicfenaaZf
import Derived.Test.YthnfnfaiicfenaaSame
namespace Go.Proofs.Ythnfnfaiicfenaa
open Go.ChangeShapes Go.WideShapes Go.ChangeAt Go.RowKit

def gifM (b : List UInt8) (size most : Int) : Except Nat (List UInt8) := if size < 2 ∨ 8 < size then .error 2 else unpackM b false (clr size.toNat) 0 most.toNat
def tiffM (b : List UInt8) (most : Int) : Except Nat (List UInt8) := unpackM b true (clr 8) 1 most.toNat
theorem UnpackR.from_ {w w1 : World} {x : Except Nat (List UInt8)} {e : Ending} {w' : World} (hb : Below w.heap.size w w1) (h : UnpackR w1 x e w') : UnpackR w x e w' := by
  unfold UnpackR at *
  cases x with
  | error k => exact ⟨h.1, hb.trans (h.2.mono hb.size)⟩
  | ok out =>
    obtain ⟨Ao, co, h1, h2, h3⟩ := h
    exact ⟨Ao, co, h1, own_mono h2 hb.size, hb.trans (h3.mono hb.size)⟩
/-- What a call of two results answers is handed on. -/
theorem UnpackR.form {w : World} {x : Except Nat (List UInt8)} {e : Ending} {w' : World} (h : UnpackR w x e w') : ∃ v k, e = .returned (.tuple #[v, .int .i64 k]) := by
  unfold UnpackR at h
  cases x with
  | error k => exact ⟨_, _, h.1⟩
  | ok out => obtain ⟨Ao, co, h1, _⟩ := h; exact ⟨_, _, h1⟩
set_option maxHeartbeats 4000000 in
theorem gifUnpack_any (w : World) (A : Option Addr) (c n : Nat) (b : List UInt8) (size most : Int) (hn : b.length = n) (h : Bs w w.heap.size A b) (hb : b.length ≤ 4000000) :
    Calls Try.prog 11 #[.slice A n c, .int .i64 size, .int .i64 most] w (UnpackR w (gifM b size most)) := by
  subst hn
  by_cases hs : size < 2 ∨ 8 < size
  · have HX : Hid (gifM b size most = .error 2) := Lib.hid (by unfold gifM; rw [if_pos hs])
    rw [HX.out]
    by_cases h2 : size < 2
    · have d1 : decide (size < 2) = true := by simp; omega
      clear hs
      go_enter Try.func11, Try.ntmps11
      go_wp2_with fail
      go_ret2
      exact ⟨rfl, Below.refl _ _⟩
    · have d1 : decide (size < 2) = false := by simp; omega
      have d2 : decide (8 < size) = true := by simp; omega
      clear hs
      go_enter Try.func11, Try.ntmps11
      go_wp2_with fail
      go_ret2
      exact ⟨rfl, Below.refl _ _⟩
  · have HX : Hid (gifM b size most = unpackM b false (clr size.toNat) 0 most.toNat) := Lib.hid (by unfold gifM; rw [if_neg hs])
    rw [HX.out]
    obtain ⟨s, rfl⟩ : ∃ s : Nat, size = s := ⟨size.toNat, by omega⟩
    have hs1 : 2 ≤ s := by omega
    have hs2 : s ≤ 8 := by omega
    have d1 : decide ((s : Int) < 2) = false := by simp; omega
    have d2 : decide ((8 : Int) < (s : Int)) = false := by simp; omega
    have HB := Lib.hid h
    clear hs h HX
    rw [Int.toNat_natCast]
    go_enter Try.func11, Try.ntmps11
    go_wp2_with fail
    refine (gif_any s _).mono ?_
    rintro e w1 ⟨rfl, hb1⟩
    have HU := Lib.hid (unpack_any w1 A c b s false 0 most ((HB.out.below hb1).more hb1.size) hb hs1 hs2 (by omega))
    have HB1 := Lib.hid hb1
    clear hb1
    go_wp2_with fail
    refine HU.out.mono ?_
    intro e w2 hr
    obtain ⟨v, k, rfl⟩ := hr.form
    have HR := Lib.hid (hr.from_ HB1.out)
    clear hr
    go_wp2_with fail
    go_ret2
    exact HR.out
set_option maxHeartbeats 4000000 in
theorem tiffUnpack_any (w : World) (A : Option Addr) (c n : Nat) (b : List UInt8) (most : Int) (hn : b.length = n) (h : Bs w w.heap.size A b) (hb : b.length ≤ 4000000) :
    Calls Try.prog 15 #[.slice A n c, .int .i64 most] w (UnpackR w (tiffM b most)) := by
  subst hn
  have HB := Lib.hid h
  clear h
  unfold tiffM
  go_enter Try.func15, Try.ntmps15
  go_wp2_with fail
  refine (tiff_any _).mono ?_
  rintro e w1 ⟨rfl, hb1⟩
  have HU := Lib.hid (unpack_any w1 A c b 8 true 1 most ((HB.out.below hb1).more hb1.size) hb (by omega) (by omega) (by omega))
  have HB1 := Lib.hid hb1
  clear hb1
  go_wp2_with fail
  refine HU.out.mono ?_
  intro e w2 hr
  obtain ⟨v, k, rfl⟩ := hr.form
  have HR := Lib.hid (hr.from_ HB1.out)
  clear hr
  go_wp2_with fail
  go_ret2
  exact HR.out
end Go.Proofs.Ythnfnfaiicfenaa
