/- The program's runs, unpacked. -/
import Derived.Test.YthnfnfaiicfenaaUc
import Derived.Test.YthnfnfaiicfenaaSl
import Derived.Test.YthnfnfaiicfenaaRc
import Derived.Test.YthnfnfaiicfenaaZf
import Derived.Deep.DeepCutAuto
namespace Go.Proofs.Ythnfnfaiicfenaa
open Go.ChangeShapes Go.WideShapes Go.ChangeAt Go.RowKit

/-- One sign: how many bytes, how often, and what the model says of them. -/
def Stepped (x : UInt8) (r out : List UInt8) (M g l t : Nat) (piece : List UInt8) : Prop := l ≤ 128 ∧ t ≤ 128 ∧ piece.length ≤ 128 ∧ (l : Int) * (t : Int) = ((piece.length : Nat) : Int) ∧
    (∀ w, Calls Try.prog 27 #[.int .i64 (x.toNat : Int)] w fun e w' => e = .returned (.tuple #[.int .i64 (l : Int), .int .i64 (t : Int)]) ∧ w = w') ∧
    (l ≤ r.length → ∀ (w : World) (A : Option Addr) (c : Nat), Bs w w.heap.size A (r.take l) → Calls Try.prog 28 #[.slice A l c, .int .i64 (t : Int)] w (RepR w piece.length piece)) ∧
    runsF M (g + 1) (x :: r) out = if r.length < l then .error 5 else if M < out.length + piece.length then .error 3 else runsF M g (r.drop l) (out ++ piece)
theorem stepped_any (x : UInt8) (r out : List UInt8) (M g : Nat) (hL : out.length ≤ M) : ∃ l t piece, Stepped x r out M g l t piece := by
  have hx := byte_lt x
  unfold Stepped
  rw [runsF_cons]
  by_cases h1 : x.toNat < 128
  · by_cases hr : r.length < x.toNat + 1
    · refine ⟨x.toNat + 1, 1, List.replicate (x.toNat + 1) 0, by omega, by omega, by simp; omega, by simp, fun w => ?_, fun hl => absurd hl (by omega), by rw [if_pos h1, if_pos hr, if_pos hr]⟩
      have := signed_lo x.toNat h1 w
      rw [Int.natCast_succ]; exact this
    · have e : (r.take (x.toNat + 1)).length = x.toNat + 1 := by rw [List.length_take]; omega
      refine ⟨x.toNat + 1, 1, r.take (x.toNat + 1), by omega, by omega, by omega, by rw [e]; simp, fun w => ?_, fun hl w A c h => ?_, by rw [if_pos h1, e]⟩
      · have := signed_lo x.toNat h1 w
        rw [Int.natCast_succ]; exact this
      · rw [e]; exact repeat_once w A c (x.toNat + 1) _ e h (by omega) (by omega)
  · by_cases h2 : x.toNat = 128
    · refine ⟨0, 0, [], by omega, by omega, by simp, by simp, fun w => by rw [h2]; exact signed_no w, fun _ w A c _ => repeat_none w A 0 c, ?_⟩
      rw [if_neg h1, if_pos h2, if_neg (by omega), if_neg (by simp; omega)]; simp
    · have hs : ∀ w, Calls Try.prog 27 #[.int .i64 (x.toNat : Int)] w fun e w' => e = .returned (.tuple #[.int .i64 ((1 : Nat) : Int), .int .i64 ((257 - x.toNat : Nat) : Int)]) ∧ w = w' := fun w => by
        have := signed_hi x.toNat (by omega) (by omega) w
        have e : ((257 - x.toNat : Nat) : Int) = 257 - (x.toNat : Int) := by omega
        rw [e]; exact this
      cases r with
      | nil => exact ⟨1, 257 - x.toNat, List.replicate (257 - x.toNat) 0, by omega, by omega, by simp; omega, by simp, hs, fun h => absurd h (by simp), by rw [if_neg h1, if_neg h2]; simp⟩
      | cons y s =>
        refine ⟨1, 257 - x.toNat, List.replicate (257 - x.toNat) y, by omega, by omega, by simp; omega, by simp, hs, fun _ w A c h => ?_, ?_⟩
        · rw [List.length_replicate]; exact repeat_byte w A c _ y h (by omega) (by omega)
        · rw [if_neg h1, if_neg h2, if_neg (by simp), List.length_replicate]; rfl
set_option maxHeartbeats 8000000 in
set_option maxRecDepth 100000 in
theorem runs_any (w : World) (A : Option Addr) (c n : Nat) (b : List UInt8) (most : Int) (hn : b.length = n) (h : Bs w w.heap.size A b) (hc : n ≤ c) (hb : n ≤ 1048576) (hmax : most ≤ 9223372036854775807) :
    Calls Try.prog 17 #[.slice A n c, .int .i64 most] w (UnpackR w (runsM b most.toNat)) := by
  have HB := Lib.hid h
  have HN := Lib.hid hn
  obtain ⟨X, HX⟩ : ∃ X, Hid (runsM b most.toNat = X) := ⟨_, Lib.hid rfl⟩
  rw [HX.out]
  obtain ⟨M, hM⟩ : ∃ M, M = most.toNat := ⟨_, rfl⟩
  rw [← hM] at HX
  have mx : max most 0 = (M : Int) := by omega
  have hM63 : (M : Int) ≤ 9223372036854775807 := by omega
  have HX0 : Hid (runsF M (b.length + 1) b [] = X) := HX
  clear h hn HX hM hmax
  obtain ⟨i0, hi, hz0, hz1, hz2⟩ := info_parts info_u8
  go_enter Try.func17, Try.ntmps17
  go_wp2_with fail
  go_loopg [0, 6] n (fun gk vb vo wr => ∃ (A1 : Option Addr) (c1 : Nat) (r : List UInt8) (Ao : Option Addr) (co : Nat) (out : List UInt8) (L f : Nat), vb = .slice A1 gk c1 ∧ vo = .slice Ao L co ∧ gk ≤ c1 ∧ Hid (r.length = gk) ∧ Hid (out.length = L) ∧ L + 128 * gk ≤ 134217728 ∧ L ≤ M ∧ gk < f ∧ Hid (Bs w w.heap.size A1 r) ∧ Hid (wr.ownsRow w.heap.size 5 1 (.slice Ao L co) L (bytesV out)) ∧ Hid (Below w.heap.size w wr) ∧ Hid (runsF M f r out = X))
  case atStart => exact ⟨A, c, b, none, 0, [], 0, n + 1, rfl, rfl, hc, HN, Lib.hid rfl, by omega, by omega, by omega, HB, Lib.hid (World.ownsRow_nil _ _ _ _), Lib.hid (Below.refl _ _), Lib.hid (by have := HX0.out; rw [HN.out] at this; exact this)⟩
  case round =>
    obtain ⟨A1, c1, r, Ao, co, out, L, f, rfl, rfl, hc1, HR, HL, hL1, hL2, hf, HBr, HO, HBw, HXr⟩ := hrel
    clear HX0 HN HB
    obtain ⟨g, rfl⟩ : ∃ g, f = g + 1 := ⟨f - 1, by omega⟩
    cases r with
    | nil =>
      obtain rfl : 0 = gk := HR.out
      have HXn : Hid (X = .ok out) := Lib.hid (by have := HXr.out; rw [runsF_nil] at this; exact this.symm)
      clear HXr
      go_wp2_with fail
      go_ret2
      rw [HXn.out]
      have e := HL.out
      subst e
      exact ⟨_, _, rfl, HO.out, HBw.out⟩
    | cons x s =>
      obtain ⟨l, t, piece, hl, ht, hp, hprod, hsig, hrep, hmod⟩ := stepped_any x s out M g (by rw [HL.out]; exact hL2)
      rw [HXr.out, HL.out] at hmod
      have hs1 : s.length + 1 = gk := HR.out
      obtain ⟨ad, rfl, hadb, hx0⟩ := Bs.at_ (HBr.out.below HBw.out) (k := 0) (by simp)
      replace hx0 : wr.cell? ad = some (.int .u8 (x.toNat : Int)) := hx0
      have hxb := byte_lt x
      have HSIG := Lib.hid hsig
      have HREP := Lib.hid hrep
      have HMOD := Lib.hid hmod
      have HAD := Lib.hid hadb
      have w1 : IntKind.i64.wrap ((l : Int) * (t : Int)) = (piece.length : Int) := by rw [hprod]; exact IntWalk.i64_in _ (by omega)
      have HSL := Lib.hid hs1
      clear hsig hrep hmod hadb HXr hprod
      have hgk1 : 1 ≤ gk := by omega
      clear hs1
      go_wp2_with fail
      refine (HSIG.out _).mono ?_
      rintro e w2 ⟨rfl, rfl⟩
      have HBW1 := Lib.hid (HBr.out.below HBw.out)
      by_cases h5 : gk - 1 < l
      · have HXn : Hid (X = .error 5) := Lib.hid (by
          have e := HMOD.out
          rw [if_pos (by have := HSL.out; omega)] at e; exact e)
        have h5' : (gk : Int) - 1 < (l : Int) := by omega
        clear HMOD
        go_wp2_with (refine wpList_slice_from _ rfl (.tmp 20) (.const (.int .i64 1)) 22 rfl Try.underlying22 (fun w => by kernel_rfl) (some ad) gk c1 1 rfl rfl hgk1 w.heap.size (x :: s) HR.out hc1 HBW1.out ?_; intro A2 hbs2)
        go_ret2
        rw [HXn.out]
        exact ⟨rfl, HBw.out⟩
      have h5n : ¬ gk - 1 < l := h5
      have HX3 : Hid (X = if M < L + piece.length then .error 3 else runsF M g (s.drop l) (out ++ piece)) := Lib.hid (by
        have e := HMOD.out
        rw [if_neg (by have := HSL.out; omega)] at e; exact e)
      clear HMOD
      have hM3 : IntKind.i64.wrap ((L : Int) + (piece.length : Int)) = (L : Int) + (piece.length : Int) := IntWalk.i64_in _ (by omega)
      by_cases h3 : M < L + piece.length
      · have HXn : Hid (X = .error 3) := Lib.hid (by
          have e := HX3.out
          rw [if_pos h3] at e; exact e)
        have h3' : (M : Int) < (L : Int) + (piece.length : Int) := by omega
        clear HX3
        go_wp2_with (refine wpList_slice_from _ rfl (.tmp 20) (.const (.int .i64 1)) 22 rfl Try.underlying22 (fun w => by kernel_rfl) (some ad) gk c1 1 rfl rfl hgk1 w.heap.size (x :: s) HR.out hc1 HBW1.out ?_; intro A2 hbs2)
        go_ret2
        rw [HXn.out]
        exact ⟨rfl, HBw.out⟩
      have HXn : Hid (runsF M g (s.drop l) (out ++ piece) = X) := Lib.hid (by
        have e := HX3.out
        rw [if_neg h3] at e; exact e.symm)
      have h3' : ¬ (M : Int) < (L : Int) + (piece.length : Int) := by omega
      clear HX3
      go_wp2_with (refine wpList_slice_from _ rfl (.tmp 20) (.const (.int .i64 1)) 22 rfl Try.underlying22 (fun w => by kernel_rfl) (some ad) gk c1 1 rfl rfl hgk1 w.heap.size (x :: s) HR.out hc1 HBW1.out ?_; intro A2 hbs2)
      have HS2 : Hid (Bs wr w.heap.size A2 s) := Lib.hid hbs2
      have HSn : Hid (s.length = gk - 1) := Lib.hid (by have := HSL.out; omega)
      clear hbs2
      have hl2 : l ≤ gk - 1 := by omega
      have hcc : gk - 1 ≤ c1 - 1 := by omega
      go_wp2_with fail
      refine (HREP.out (by have := HSn.out; omega) wr A2 (c1 - 1) ((HS2.out.take l).more HBw.out.size)).mono ?_
      rintro e w5 ⟨A5, c5, rfl, hbs5, hb5⟩
      have hO5 := row_up HO.out (Upd.of_fresh hb5) (fun _ _ => id)
      have HB5 := Lib.hid (HBw.out.trans (hb5.mono HBw.out.size))
      have HW5 := Lib.hid (hb5.mono HBw.out.size)
      have HBS5 := Lib.hid hbs5
      have hsz5 := HB5.out.size
      clear hbs5 hb5 HREP HSIG
      by_cases hcl : c1 - 1 = l
      · go_wp2_with (at_builtin; refine wpList_append_bs _ rfl (.tmp 35) (.tmp 40) _ rfl w.heap.size 5 i0 Try.underlying22 hi hz0 hz1 hz2 (.slice Ao L co) L (bytesV out) rfl hO5 w5.heap.size A5 c5 piece rfl HBS5.out (by omega) hsz5 ?_; intro A7 c7 w7 o7 hg7 hat7)
        have HB7 : Hid (Below w.heap.size w w7) := Lib.hid (HB5.out.grown hg7 hsz5 (fun g hg => (hO5.lt g hg).1))
        have HS7 : Hid (Bs w7 w.heap.size A2 s) := Lib.hid (HS2.out.below (HW5.out.grown hg7 hsz5 (fun g hg => (hO5.lt g hg).1)))
        have HO7 : Hid (w7.ownsRow w.heap.size 5 1 (.slice A7 (L + piece.length) c7) (L + piece.length) (bytesV (out ++ piece))) := Lib.hid (by rw [bytesV_append]; exact o7)
        clear o7 hg7 hat7 hO5 hsz5
        have HS8 : Hid (Bs w w.heap.size (if c1 - 1 = l then A2 else A2.map (·.add l)) (s.drop l)) := Lib.hid ((HS7.out.drop (by rw [HSn.out]; exact hl2) (by rw [HSn.out]; exact hcc)).keep fun p hp => (HB7.out.cell hp).symm)
        have HL8 : Hid ((s.drop l).length = gk - 1 - l) := Lib.hid (by rw [List.length_drop, HSn.out])
        have HL9 : Hid ((out ++ piece).length = L + piece.length) := Lib.hid (by rw [List.length_append, HL.out])
        have HS9 : Hid (Bs w w.heap.size A2 (s.drop l)) := Lib.hid (by have := HS8.out; rw [if_pos hcl] at this; exact this)
        have hz : gk - 1 - l ≤ 0 := by omega
        clear HS8
        go_roundg (gk - 1 - l)
        case measure => omega
        case rel => exact ⟨A2, 0, s.drop l, A7, c7, out ++ piece, L + piece.length, g, rfl, rfl, hz, HL8, HL9, by omega, by omega, by omega, HS9, HO7, HB7, HXn⟩
      · go_wp2_with (at_builtin; refine wpList_append_bs _ rfl (.tmp 35) (.tmp 40) _ rfl w.heap.size 5 i0 Try.underlying22 hi hz0 hz1 hz2 (.slice Ao L co) L (bytesV out) rfl hO5 w5.heap.size A5 c5 piece rfl HBS5.out (by omega) hsz5 ?_; intro A7 c7 w7 o7 hg7 hat7)
        have HB7 : Hid (Below w.heap.size w w7) := Lib.hid (HB5.out.grown hg7 hsz5 (fun g hg => (hO5.lt g hg).1))
        have HS7 : Hid (Bs w7 w.heap.size A2 s) := Lib.hid (HS2.out.below (HW5.out.grown hg7 hsz5 (fun g hg => (hO5.lt g hg).1)))
        have HO7 : Hid (w7.ownsRow w.heap.size 5 1 (.slice A7 (L + piece.length) c7) (L + piece.length) (bytesV (out ++ piece))) := Lib.hid (by rw [bytesV_append]; exact o7)
        clear o7 hg7 hat7 hO5 hsz5
        have HS8 : Hid (Bs w w.heap.size (if c1 - 1 = l then A2 else A2.map (·.add l)) (s.drop l)) := Lib.hid ((HS7.out.drop (by rw [HSn.out]; exact hl2) (by rw [HSn.out]; exact hcc)).keep fun p hp => (HB7.out.cell hp).symm)
        have HL8 : Hid ((s.drop l).length = gk - 1 - l) := Lib.hid (by rw [List.length_drop, HSn.out])
        have HL9 : Hid ((out ++ piece).length = L + piece.length) := Lib.hid (by rw [List.length_append, HL.out])
        have HS9 : Hid (Bs w w.heap.size (A2.map (·.add l)) (s.drop l)) := Lib.hid (by have := HS8.out; rw [if_neg hcl] at this; exact this)
        clear HS8
        go_roundg (gk - 1 - l)
        case measure => omega
        case rel => exact ⟨A2.map (·.add l), c1 - 1 - l, s.drop l, A7, c7, out ++ piece, L + piece.length, g, rfl, rfl, by omega, HL8, HL9, by omega, by omega, by omega, HS9, HO7, HB7, HXn⟩
end Go.Proofs.Ythnfnfaiicfenaa
