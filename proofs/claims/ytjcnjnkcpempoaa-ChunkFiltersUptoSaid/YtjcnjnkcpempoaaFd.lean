/- The document's Filter, good numbers. -/
import Derived.Test.YtjcnjnkcpempoaaEj
import Derived.Test.YtjcnjnkcpempoaaFc
set_option linter.unusedVariables false
set_option linter.unusedSimpArgs false
namespace Go.Proofs.Ytjcnjnkcpempoaa
open Go.ChangeShapes Go.WideShapes Go.ChangeAt Go.RowKit

theorem fat_left {W bpp k j : Nat} {lb : List UInt8} (hj : j < W) : atM lb W ((j : Int) - (bpp : Int)) (k : Int) = if bpp ≤ j then byteAt (pcF W lb k) (j - bpp) else 0 := by
  unfold atM
  by_cases h : bpp ≤ j
  · rw [if_neg (by omega), if_pos h, pcF, byteAt_take (by omega), byteAt_drop, show ((k : Int)).toNat * W + ((j : Int) - (bpp : Int)).toNat = W * k + (j - bpp) from by rw [Int.toNat_natCast, Nat.mul_comm]; omega]
  · rw [if_pos (by omega), if_neg h]
theorem fat_up {W k : Nat} {lb : List UInt8} (x : Nat) (hx : x < W) : atM lb W (x : Int) ((k : Int) - 1) = byteAt (abF W lb k) x := by
  unfold atM
  rcases k with _ | k
  · rw [if_pos (by omega)]
    exact (byteAt_zeros W x).symm
  · rw [if_neg (by omega), abF, pcF, byteAt_take hx, byteAt_drop, show (((k + 1 : Nat) : Int) - 1).toNat * W + ((x : Int)).toNat = W * k + x from by rw [Int.toNat_natCast, show (((k + 1 : Nat) : Int) - 1).toNat = k by omega, Nat.mul_comm]]
theorem fat_corner {W bpp k j : Nat} {lb : List UInt8} (hj : j < W) : atM lb W ((j : Int) - (bpp : Int)) ((k : Int) - 1) = if bpp ≤ j then byteAt (abF W lb k) (j - bpp) else 0 := by
  by_cases h : bpp ≤ j
  · rw [if_pos h, ← fat_up (j - bpp) (by omega)]
    congr 1
    omega
  · unfold atM
    rw [if_pos (by omega), if_neg h]
theorem fat_gs {W bpp k j K : Nat} {lb : List UInt8} (hj : j < W) : gsN K (atM lb W ((j : Int) - (bpp : Int)) (k : Int)) (atM lb W (j : Int) ((k : Int) - 1)) (atM lb W ((j : Int) - (bpp : Int)) ((k : Int) - 1)) = gsB K bpp j (pcF W lb k) (abF W lb k) := by
  rw [fat_left hj, fat_up j hj, fat_corner hj]
  rfl
set_option maxRecDepth 100000 in
set_option maxHeartbeats 2000000 in
theorem refFilt_rows (W bpp K N m c : Nat) (A : Option Addr) (lb : List UInt8) (hW1 : 1 ≤ W) (hW : W ≤ 1048576) (hb1 : 1 ≤ bpp) (hb8 : bpp ≤ 8) (hk4 : K ≤ 4) (hm : lb.length = m) (hN : W * N = m) (hmb : m ≤ 70368744177664) (B : Nat) (w : World) (hbs : Bs w B A lb) (hB : B ≤ w.heap.size) :
    Calls Try.prog 20 #[.slice A m c, .int .i64 (W : Nat), .int .i64 (bpp : Nat), .int .i64 (K : Nat)] w fun e w' => Below w.heap.size w w' ∧
      ∃ A' c', e = .returned (.tuple #[.slice A' ((W + 1) * N) c', .int .i64 0]) ∧ w'.ownsRow w.heap.size 5 1 (.slice A' ((W + 1) * N) c') ((W + 1) * N) (bytesV (outF K W bpp lb N)) := by
  obtain ⟨i0, hti, hz0, hz1, hz2⟩ := info_parts info_u8
  have hNm : N ≤ m := by have := Nat.mul_le_mul_right N hW1; omega
  have HNN := Lib.hid hN; have HLB := Lib.hid hm
  have hrem : ((m : Int) % (W : Int)) = 0 := by
    rw [← hN, Int.natCast_mul]
    exact Int.mul_emod_right _ _
  have hremb : ((m : Int) % (W : Int) != 0) = false := by simpa using hrem
  have hquo : ((m : Int) / (W : Int)) = (N : Int) := by
    rw [← hN, Int.natCast_mul]
    exact Int.mul_ediv_cancel_left _ (by omega)
  have hmay : mayC (W : Int) (bpp : Int) = true := by simp [mayC]; omega
  have HMB := Lib.hid (refBad_any (W : Int) (bpp : Int) w)
  rw [hmay] at HMB
  have i1 : ¬ ((K : Int) < 0) := by omega
  have i2 : ¬ ((4 : Int) < (K : Int)) := by omega
  have i3 : ¬ ((W : Int) = 0) := by omega
  have HKU : Hid ((K : Int) = ((UInt8.ofNat K).toNat : Int)) := Lib.hid (by
    have : K = 0 ∨ K = 1 ∨ K = 2 ∨ K = 3 ∨ K = 4 := by omega
    rcases this with h | h | h | h | h <;> subst h <;> rfl)
  clear hm hN hmay hrem
  go_enter Try.func20, Try.ntmps20
  go_wp2_with fail
  refine HMB.out.mono ?_
  rintro e w2 ⟨rfl, rfl⟩
  simp only [Bool.not_true]
  go_wp2_with fail
  clear hremb
  go_loopw [10, 11] (fun o y wr => ∃ k A1 c1, k ≤ N ∧ y = .int .i64 (k : Int) ∧ o = .slice A1 (Nat.mul (W + 1) k) c1 ∧ Hid (wr.ownsRow w2.heap.size 5 1 (.slice A1 (Nat.mul (W + 1) k) c1) (Nat.mul (W + 1) k) (bytesV (outF K W bpp lb k)) ∧ Below w2.heap.size w2 wr)) (fun _ y _ => N - (intOf y).toNat)
  case atStart => exact ⟨0, none, 0, Nat.zero_le _, rfl, by rw [show Nat.mul (W + 1) 0 = 0 from rfl], Lib.hid ⟨by rw [show Nat.mul (W + 1) 0 = 0 from rfl]; exact World.ownsRow_nil _ _ _ _, Below.refl _ _⟩⟩
  case round =>
    obtain ⟨k, A1, c1, hk, rfl, rfl, HR⟩ := hrel
    by_cases hlt : k < N
    · have hFm : W * k + W ≤ m := by
        have e1 := Nat.mul_le_mul_left W (show k + 1 ≤ N by omega)
        rw [Nat.mul_succ, HNN.out] at e1
        exact e1
      have hZm : (W + 1) * k + (W + 1) ≤ 140737488355328 := by
        rw [Nat.add_mul, Nat.one_mul]
        omega
      have hbr : Bs wr B A lb := hbs.below (HR.out.2.mono hB)
      obtain ⟨ad, rfl, hadB, hx0⟩ := hbr.at_ (k := W * k) (by rw [HLB.out]; omega)
      clear hx0
      have HCELL : Hid (∀ w9, Below w2.heap.size w2 w9 → ∀ j, j < W → w9.cell? (ad.add (W * k + j)) = some (.int .u8 (byteAt (pcF W lb k) j : Nat))) := Lib.hid (fun w9 hb j hj => by
        obtain ⟨ad', e, _, hc⟩ := (hbs.below (hb.mono hB)).at_ (k := W * k + j) (by rw [HLB.out]; omega)
        injection e with e
        subst e
        rw [byteAt_get _ _ (by rw [HLB.out]; omega)] at hc
        rw [pcF, byteAt_take hj, byteAt_drop]
        exact hc)
      have HROW : Hid (outF K W bpp lb k ++ [UInt8.ofNat K] ++ flt K bpp (pcF W lb k) (abF W lb k) W = outF K W bpp lb (k + 1)) := Lib.hid rfl
      have HAT : Hid (∀ (j : Nat) (w9 : World), j < W → Below w2.heap.size w2 w9 → ∀ x y : Int, x ≤ (j : Int) → y ≤ (k : Int) →
          Calls Try.prog 43 #[.slice (some ad) m c, .int .i64 (W : Nat), .int .i64 x, .int .i64 y] w9 (fun e w' => e = .returned (.int .i64 (atM lb W x y : Nat)) ∧ w' = w9) ∧
          Calls Try.prog 44 #[.slice (some ad) m c, .int .i64 (W : Nat), .int .i64 x, .int .i64 y] w9 (fun e w' => e = .returned (.int .i64 (atM lb W x y : Nat)) ∧ w' = w9)) := Lib.hid (fun j w9 hj hb x y hx hy => by
        have h9 := hbs.below (hb.mono hB)
        have hin : 0 ≤ x → 0 ≤ y → y.toNat * W + x.toNat < m := fun hx0 hy0 => by
          have e1 := Nat.mul_le_mul_right W (show y.toNat ≤ k by omega)
          rw [Nat.mul_comm k W] at e1
          omega
        exact ⟨refAt_any (some ad) m c W lb HLB.out x y hin (by omega) B w9 h9, refCorner_any (some ad) m c W lb HLB.out x y hin (by omega) B w9 h9⟩)
      have HP : Hid ((k : Int) * (W : Int) = ((W * k : Nat) : Int)) := Lib.hid (by push_cast; rw [Int.mul_comm])
      have HMS : Hid ((W + 1) * (k + 1) = (W + 1) * k + 1 + W) := Lib.hid (by rw [Nat.mul_succ]; omega)
      have HR2 : Hid (wr.ownsRow w2.heap.size 5 1 (.slice A1 ((W + 1) * k) c1) ((W + 1) * k) (bytesV (outF K W bpp lb k)) ∧ Below w2.heap.size w2 wr) := Lib.hid ⟨HR.out.1, HR.out.2⟩
      rw [show Nat.mul (W + 1) k = (W + 1) * k from rfl]
      clear HR hbr hk
      generalize (W + 1) * k = Z at *
      generalize W * k = F at *
      have hp := HP.out
      have hs2 := HR2.out.2.size
      clear HP
      go_wp2_with (at_builtin; refine wpList_append_byte _ rfl (.tmp 40) (.tmp 43) _ rfl w2.heap.size 5 i0 Try.underlying22 hti hz0 hz1 hz2 A1 Z c1 _ rfl (own_upd HR2.out.1 ((Upd.refl No wr).alloc _) (fun _ _ => id)) (UInt8.ofNat K) wr.heap.size 1 rfl (by rw [← HKU.out]; exact (Blk.new _ _ _).cell 0) (by omega) (by simp; omega) ?_; intro gd0 c0 w0 hO0 hB0 _)
      have HS0 : Hid (w0.ownsRow w2.heap.size 5 1 (.slice (some ⟨gd0, 0, none⟩) (Z + 1) c0) (Z + 1) (bytesV (outF K W bpp lb k ++ [UInt8.ofNat K])) ∧ Below w2.heap.size w2 w0) := Lib.hid ⟨hO0, (HR2.out.2.alloc hs2 _).trans hB0⟩
      clear hO0 hB0 HR2
      go_loopw [10, 12] (fun o x wr => ∃ j A1 c1, j ≤ W ∧ x = .int .i64 (j : Int) ∧ o = .slice A1 (Z + 1 + j) c1 ∧ Hid (wr.ownsRow w2.heap.size 5 1 (.slice A1 (Z + 1 + j) c1) (Z + 1 + j) (bytesV (outF K W bpp lb k ++ [UInt8.ofNat K] ++ flt K bpp (pcF W lb k) (abF W lb k) j)) ∧ Below w2.heap.size w2 wr)) (fun _ x _ => W - (intOf x).toNat)
      case atStart => exact ⟨0, _, c0, Nat.zero_le _, rfl, rfl, Lib.hid ⟨by simpa [flt] using HS0.out.1, HS0.out.2⟩⟩
      case round =>
        obtain ⟨j, A3, c3, hj, rfl, rfl, HJ⟩ := hrel
        clear HS0
        by_cases hjW : j < W
        · have HG := Lib.hid (fat_gs (W := W) (bpp := bpp) (k := k) (j := j) (K := K) (lb := lb) hjW)
          have HAl := Lib.hid ((HAT.out j wr hjW HJ.out.2 ((j : Int) - (bpp : Int)) (k : Int) (by omega) (by omega)).1)
          have HAu := Lib.hid ((HAT.out j wr hjW HJ.out.2 (j : Int) ((k : Int) - 1) (by omega) (by omega)).1)
          have HAc := Lib.hid ((HAT.out j wr hjW HJ.out.2 ((j : Int) - (bpp : Int)) ((k : Int) - 1) (by omega) (by omega)).2)
          have l1 := atM_lt lb W ((j : Int) - (bpp : Int)) (k : Int)
          have l2 := atM_lt lb W (j : Int) ((k : Int) - 1)
          have l3 := atM_lt lb W ((j : Int) - (bpp : Int)) ((k : Int) - 1)
          have HX : Hid (flt K bpp (pcF W lb k) (abF W lb k) (j + 1) = flt K bpp (pcF W lb k) (abF W lb k) j ++ [UInt8.ofNat (byteAt (pcF W lb k) j + 256 - gsB K bpp j (pcF W lb k) (abF W lb k))]) := Lib.hid rfl
          rw [← HG.out] at HX
          clear HG
          have hx := HCELL.out wr HJ.out.2 j hjW
          have hxl := byteAt_lt (pcF W lb k) j
          generalize atM lb W ((j : Int) - (bpp : Int)) (k : Int) = a at *
          generalize atM lb W (j : Int) ((k : Int) - 1) = b at *
          generalize atM lb W ((j : Int) - (bpp : Int)) ((k : Int) - 1) = d at *
          have hgl := gsN_lt K l1 l2 l3
          have HGU := Lib.hid (refGuess_any K a b d hk4 l1 l2 l3 wr)
          generalize gsN K a b d = g at *
          generalize byteAt (pcF W lb k) j = x at *
          have HV : Hid (((x : Int) - (g : Int)) % 256 = ((UInt8.ofNat (x + 256 - g)).toNat : Int)) := Lib.hid (by
            have := u8_val x (256 - g)
            rw [show x + (256 - g) = x + 256 - g by omega] at this
            rw [this]; omega)
          have hsz := HJ.out.2.size
          go_wp2_with fail
          refine HAl.out.mono ?_
          rintro e w5 ⟨rfl, rfl⟩
          go_wp2_with fail
          refine HAu.out.mono ?_
          rintro e w6 ⟨rfl, rfl⟩
          go_wp2_with fail
          refine HAc.out.mono ?_
          rintro e w7 ⟨rfl, rfl⟩
          go_wp2_with fail
          refine HGU.out.mono ?_
          rintro e w8 ⟨rfl, rfl⟩
          go_wp2_with (at_builtin; refine wpList_append_byte _ rfl (.tmp 73) (.tmp 86) _ rfl w2.heap.size 5 i0 Try.underlying22 hti hz0 hz1 hz2 A3 (Z + 1 + j) c3 _ rfl (own_upd HJ.out.1 ((Upd.refl No w8).alloc _) (fun _ _ => id)) (UInt8.ofNat (x + 256 - g)) w8.heap.size 1 rfl (by rw [← HV.out]; exact (Blk.new _ _ _).cell 0) (by omega) (by simp; omega) ?_; intro gd c9 w9 hO9 hB9 _)
          go_roundw
          case rel => exact ⟨j + 1, some ⟨gd, 0, none⟩, c9, by omega, by go_num, rfl, Lib.hid ⟨by rw [HX.out, ← List.append_assoc]; exact hO9, (HJ.out.2.alloc hsz _).trans hB9⟩⟩
          case measure => simp [intOf]; omega
        · obtain rfl : W = j := by omega
          have HE := HJ.out
          rw [HROW.out] at HE
          have HE2 := Lib.hid HE
          clear HE HJ HAT
          go_wp2_with fail
          go_roundw
          case rel => exact ⟨k + 1, A3, c3, by omega, by go_num, by rw [show Nat.mul (W + 1) (k + 1) = Z + 1 + W from HMS.out], by rw [show Nat.mul (W + 1) (k + 1) = Z + 1 + W from HMS.out]; exact Lib.hid ⟨HE2.out.1, HE2.out.2⟩⟩
          case measure => simp [intOf]; omega
    · obtain rfl : k = N := by omega
      go_wp2_with fail
      go_ret2
      exact ⟨HR.out.2, A1, c1, rfl, HR.out.1⟩
set_option maxRecDepth 100000 in
set_option maxHeartbeats 2000000 in
theorem refFilt_no (width bpp kind : Int) (A : Option Addr) (m c : Nat) (w : World) (hm : m ≤ 140737488355328) (h : mayC width bpp = false ∨ kind < 0 ∨ 4 < kind ∨ m % width.toNat ≠ 0) :
    Calls Try.prog 20 #[.slice A m c, .int .i64 width, .int .i64 bpp, .int .i64 kind] w fun e w' => e = .returned (.tuple #[.slice none 0 0, .int .i64 190]) ∧ w' = w := by
  have HMB := Lib.hid (refBad_any width bpp w)
  go_enter Try.func20, Try.ntmps20
  cases hmay : mayC width bpp with
  | false =>
    rw [hmay] at HMB
    clear h hmay
    go_wp2_with fail
    refine HMB.out.mono ?_
    rintro e w2 ⟨rfl, rfl⟩
    simp only [Bool.not_false]
    go_wp2_with fail
    go_ret2
    exact ⟨rfl, rfl⟩
  | true =>
    rw [hmay] at h HMB
    obtain ⟨W, b, rfl, rfl, W1, W2, b1, b2⟩ := mayC_ok hmay
    clear hmay
    by_cases hk0 : kind < 0
    · clear h
      go_wp2_with fail
      refine HMB.out.mono ?_
      rintro e w2 ⟨rfl, rfl⟩
      simp only [Bool.not_true]
      go_wp2_with fail
      go_ret2
      exact ⟨rfl, rfl⟩
    · by_cases hk4 : 4 < kind
      · clear h
        go_wp2_with fail
        refine HMB.out.mono ?_
        rintro e w2 ⟨rfl, rfl⟩
        simp only [Bool.not_true]
        go_wp2_with fail
        go_ret2
        exact ⟨rfl, rfl⟩
      · have hr : m % W ≠ 0 := by
          rcases h with h | h | h | h
          · cases h
          · exact absurd h hk0
          · exact absurd h hk4
          · simpa using h
        have hrem : ¬ ((m : Int) % (W : Int)) = 0 := by
          intro e
          apply hr
          have : ((m % W : Nat) : Int) = 0 := by push_cast; exact e
          omega
        have hW0 : ¬ (W : Int) = 0 := by omega
        have hremb : ((m : Int) % (W : Int) != 0) = true := by simpa using hrem
        clear h hr hrem
        go_wp2_with fail
        refine HMB.out.mono ?_
        rintro e w2 ⟨rfl, rfl⟩
        simp only [Bool.not_true]
        go_wp2_with fail
        go_ret2
        exact ⟨rfl, rfl⟩
theorem refFilt_any (width bpp kind : Int) (A : Option Addr) (m c : Nat) (lb : List UInt8) (hm : lb.length = m) (hmb : m ≤ 70368744177664) (B : Nat) (w : World) (hbs : Bs w B A lb) (hB : B ≤ w.heap.size) :
    Calls Try.prog 20 #[.slice A m c, .int .i64 width, .int .i64 bpp, .int .i64 kind] w (OutB w (filtM width bpp kind lb)) := by
  by_cases h : mayC width bpp = false ∨ kind < 0 ∨ 4 < kind ∨ m % width.toNat ≠ 0
  · refine (refFilt_no width bpp kind A m c w (by omega) h).mono ?_
    rintro e w' ⟨rfl, rfl⟩
    unfold filtM OutB
    rw [if_pos (by rw [hm]; exact h)]
    exact ⟨Below.refl _ _, rfl⟩
  · have hmay : mayC width bpp = true := by
      cases hc : mayC width bpp with
      | true => rfl
      | false => exact absurd (.inl hc) h
    obtain ⟨W, b, rfl, rfl, W1, W2, b1, b2⟩ := mayC_ok hmay
    have hk0 : 0 ≤ kind := by rcases Int.lt_or_le kind 0 with hk | hk; exact absurd (.inr (.inl hk)) h; exact hk
    have hk4 : kind ≤ 4 := by rcases Int.lt_or_le 4 kind with hk | hk; exact absurd (.inr (.inr (.inl hk))) h; exact hk
    obtain ⟨K, rfl⟩ : ∃ K : Nat, kind = K := ⟨kind.toNat, by omega⟩
    have hr : m % W = 0 := Classical.byContradiction fun hn => h (.inr (.inr (.inr (by simpa using hn))))
    have hN : W * (m / W) = m := by have := Nat.div_add_mod m W; omega
    refine (refFilt_rows W b K (m / W) m c A lb W1 W2 b1 b2 (by omega) hm hN hmb B w hbs hB).mono ?_
    rintro e w' ⟨hb, A', c', rfl, ho⟩
    unfold filtM OutB
    rw [if_neg (by rw [hm]; exact h)]
    refine ⟨hb, A', c', ?_⟩
    simp only [Int.toNat_natCast]
    rw [outF_length, hm]
    exact ⟨rfl, ho⟩
end Go.Proofs.Ytjcnjnkcpempoaa
