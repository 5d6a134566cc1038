/- Crop, the program's. -/
import Derived.Test.YtkfomjdmdgddlaaQk
import Derived.Test.YtkfomjdmdgddlaaCt
namespace Go.Proofs.Ytkfomjdmdgddlaa
open Go.ChangeShapes Go.WideShapes Go.ChangeAt Go.RowKit

/-- The first k rows of a part, P pixels wide. -/
def partL (l : List Int) (W X Y P : Nat) : Nat → List Int
  | 0 => []
  | k + 1 => partL l W X Y P k ++ (l.drop (4 * ((Y + k) * W + X))).take (4 * P)
theorem partL_length {l : List Int} {W H X Y P : Nat} (hl : l.length = 4 * (W * H)) (hx : X + P ≤ W) : ∀ k, Y + k ≤ H → (partL l W X Y P k).length = 4 * (P * k)
  | 0, _ => by simp [partL]
  | k + 1, hk => by
    have ih := partL_length (Y := Y) hl hx k (by omega)
    have hp := place_lt (W := W) (H := H) (X := X) (Y := Y + k) (n := P) hx (by omega)
    rw [partL, List.length_append, ih, List.length_take, List.length_drop, Nat.mul_succ]
    omega
def cropI (W H : Int) (l : List Int) (x y p q : Int) : IRes :=
  if goodB W H l.length = true then (if inB x y p q W H = true then ⟨p, q, 0, partL l W.toNat x.toNat y.toNat p.toNat q.toNat⟩ else errI 2) else errI 6
/-- The program's frame: an image's box, a rectangle's, the answer's. -/
structure FrC (w : World) (W H : Int) (A : Option Addr) (n c : Nat) (x y p q : Int) (w1 : World) : Prop where
  im : IB w1 w.heap.size (.int .i64 W) (.int .i64 H) (.slice A n c)
  re : Blk w1 (w.heap.size + 1) 44 #[.int .i64 x, .int .i64 y, .int .i64 p, .int .i64 q]
  z : IB w1 (w.heap.size + 1 + 1) (.int .i64 0) (.int .i64 0) (.slice none 0 0)
  bel : Below w.heap.size w w1
theorem FrC.upd {w w1 w2 : World} {W H : Int} {A : Option Addr} {n c : Nat} {x y p q : Int} {S : Nat → Prop} (h : FrC w W H A n c x y p q w1) (u : Upd S w1 w2) (hS : ∀ k, k ≤ w.heap.size + 1 + 1 → ¬ S k) : FrC w W H A n c x y p q w2 :=
  ⟨IB.of (h.im.blk.upd u (hS _ (by omega))), h.re.upd u (hS _ (by omega)), IB.of (h.z.blk.upd u (hS _ (by omega))), h.bel.trans (u.below h.bel.size (fun k hk => hS k (by omega)))⟩
theorem FrC.call {w w1 w2 : World} {W H : Int} {A : Option Addr} {n c : Nat} {x y p q : Int} (h : FrC w W H A n c x y p q w1) (hb : Below w1.heap.size w1 w2) : FrC w W H A n c x y p q w2 := h.upd (Upd.of_fresh hb) (fun _ _ => id)
theorem FrC.r0 {w w1 : World} {W H : Int} {A : Option Addr} {n c : Nat} {x y p q : Int} (h : FrC w W H A n c x y p q w1) : w1.cell? ⟨w.heap.size + 1, 0, none⟩ = some (.int .i64 x) := by rw [h.re.cell]; rfl
theorem FrC.r1 {w w1 : World} {W H : Int} {A : Option Addr} {n c : Nat} {x y p q : Int} (h : FrC w W H A n c x y p q w1) : w1.cell? ⟨w.heap.size + 1, 1, none⟩ = some (.int .i64 y) := by rw [h.re.cell]; rfl
theorem FrC.r2 {w w1 : World} {W H : Int} {A : Option Addr} {n c : Nat} {x y p q : Int} (h : FrC w W H A n c x y p q w1) : w1.cell? ⟨w.heap.size + 1, 2, none⟩ = some (.int .i64 p) := by rw [h.re.cell]; rfl
theorem FrC.r3 {w w1 : World} {W H : Int} {A : Option Addr} {n c : Nat} {x y p q : Int} (h : FrC w W H A n c x y p q w1) : w1.cell? ⟨w.heap.size + 1, 3, none⟩ = some (.int .i64 q) := by rw [h.re.cell]; rfl
theorem FrC.new (w : World) (W H : Int) (A : Option Addr) (n c : Nat) (x y p q : Int) : ∃ w1, ((w.alloc (.cells #[.int .i64 W, .int .i64 H, .slice A n c] 24)).alloc (.cells #[.int .i64 x, .int .i64 y, .int .i64 p, .int .i64 q] 44)).alloc (.cells #[.int .i64 0, .int .i64 0, .slice none 0 0] 24) = w1 ∧ FrC w W H A n c x y p q w1 ∧ w1.heap.size = w.heap.size + 1 + 1 + 1 := by
  obtain ⟨h1, h2, h3, h4, h5⟩ := boxes3 w #[.int .i64 W, .int .i64 H, .slice A n c] #[.int .i64 x, .int .i64 y, .int .i64 p, .int .i64 q] #[.int .i64 0, .int .i64 0, .slice none 0 0] 24 44 24
  exact ⟨_, rfl, ⟨IB.of h3, h4, IB.of h5, h1⟩, h2⟩
/-- The answer is put into its box. -/
theorem FrC.put {w w1 : World} {W H : Int} {A : Option Addr} {n c : Nat} {x y p q : Int} (h : FrC w W H A n c x y p q w1) (u v z : Value) : IB (((w1.setCell ⟨w.heap.size + 1 + 1, 0, none⟩ u).setCell ⟨w.heap.size + 1 + 1, 1, none⟩ v).setCell ⟨w.heap.size + 1 + 1, 2, none⟩ z) (w.heap.size + 1 + 1) u v z ∧
    Below w.heap.size w (((w1.setCell ⟨w.heap.size + 1 + 1, 0, none⟩ u).setCell ⟨w.heap.size + 1 + 1, 1, none⟩ v).setCell ⟨w.heap.size + 1 + 1, 2, none⟩ z) ∧
    Upd (· = w.heap.size + 1 + 1) w1 (((w1.setCell ⟨w.heap.size + 1 + 1, 0, none⟩ u).setCell ⟨w.heap.size + 1 + 1, 1, none⟩ v).setCell ⟨w.heap.size + 1 + 1, 2, none⟩ z) :=
  have t := IB.put h.z u v z w.heap.size (by omega)
  ⟨t.1, h.bel.trans t.2.1, t.2.2⟩
set_option maxRecDepth 100000 in
set_option maxHeartbeats 2000000 in
theorem crop_any (W H : Int) (A : Option Addr) (n c : Nat) (l : List Int) (hn : l.length = n) (hc : n ≤ c) (hcm : c ≤ maxLen) (B : Nat) (w : World) (h : Us w B A l) (hB : B ≤ w.heap.size) (x y p q : Int) (hp : p ≤ 9223372036854775807) (hq : q ≤ 9223372036854775807) :
    Calls Try.prog 20 #[imgV W H A n c, .agg #[.int .i64 x, .int .i64 y, .int .i64 p, .int .i64 q]] w (ImR w (cropI W H l x y p q)) := by
  obtain ⟨w1, hw1, hf, hsz⟩ := FrC.new w W H A n c x y p q
  have HW1 := Lib.hid hw1
  have HF := Lib.hid hf
  have HSZ := Lib.hid hsz
  have HV := Lib.hid (Vs.below h (hf.bel.mono hB))
  clear hw1 hf hsz h
  go_enter Try.func20, Try.ntmps20
  go_upto_region 1 with (fail)
  rw [HW1.out]
  clear HW1
  have q0 := HF.out.im.c0; have q1 := HF.out.im.c1; have q2 := HF.out.im.c2
  go_wp2_with fail
  refine (good_any W H A n c w1).mono ?_
  rintro e w2 ⟨rfl, hb2⟩
  have HF2 := Lib.hid (HF.out.call hb2)
  have HV2 := Lib.hid (Vs.below HV.out (hb2.mono (by have := HF.out.bel.size; omega)))
  have hs2 := Nat.le_trans HF.out.bel.size hb2.size
  clear HF HV hb2 q0 q1 q2
  cases hg : goodB W H n with
  | false =>
    have HE : Hid (cropI W H l x y p q = errI 6) := Lib.hid (by unfold cropI; rw [hn, if_neg (by rw [hg]; simp)])
    obtain ⟨_, d0, d1, d2, f0, f1, f2⟩ := HF2.out.z
    have HP := Lib.hid (HF2.out.put (.int .i64 0) (.int .i64 0) (.slice none 0 0))
    clear hg
    go_wp2_with fail
    have n0 := HP.out.1.c0; have n1 := HP.out.1.c1; have n2 := HP.out.1.c2
    refine bodyPost_ret (v := .tuple #[imgV 0 0 none 0 0, .int .i64 6]) (by simp [results, Try.results20, go_sem, n0, n1, n2]) rfl ?_
    rw [HE.out]
    exact ImR.err HP.out.2.1
  | true =>
    obtain ⟨W, H, rfl, rfl, hn4, hfew, hw1, hw2, hh1, hh2⟩ := goodB_nat hg
    obtain ⟨r, o, rfl, hrB, hsm⟩ := Us.smp HV2.out (by have := Nat.mul_pos hw1 hh1; omega)
    have HG := Lib.hid hg
    have q0 := HF2.out.im.c0; have q1 := HF2.out.im.c1; have q2 := HF2.out.im.c2
    have r0 := HF2.out.r0; have r1 := HF2.out.r1; have r2 := HF2.out.r2; have r3 := HF2.out.r3
    have HN4 := Lib.hid hn4
    have HFEW := Lib.hid hfew
    have HSM := Lib.hid hsm
    have HHo := Lib.hid (sizesHolds_any (W : Int) (H : Int) x y p q (by omega) (by omega) hp hq w2)
    clear hg hsm HV2 hn4 hfew
    go_wp2_with fail
    refine HHo.out.mono ?_
    rintro e w3 ⟨rfl, hb3⟩
    have HF3 := Lib.hid (HF2.out.call hb3)
    have HS3 := Lib.hid (HSM.out.below hb3 (by omega))
    have hs3 := hb3.size
    clear HF2 HSM hb3 q0 q1 q2 r0 r1 r2 r3 HHo
    cases hi : inB x y p q (W : Int) (H : Int) with
    | false =>
      have HE : Hid (cropI W H l x y p q = errI 2) := Lib.hid (by unfold cropI; rw [hn, if_pos HG.out, if_neg (by rw [hi]; simp)])
      obtain ⟨_, d0, d1, d2, f0, f1, f2⟩ := HF3.out.z
      have HP := Lib.hid (HF3.out.put (.int .i64 0) (.int .i64 0) (.slice none 0 0))
      clear hi
      go_wp2_with fail
      have n0 := HP.out.1.c0; have n1 := HP.out.1.c1; have n2 := HP.out.1.c2
      refine bodyPost_ret (v := .tuple #[imgV 0 0 none 0 0, .int .i64 2]) (by simp [results, Try.results20, go_sem, n0, n1, n2]) rfl ?_
      rw [HE.out]
      exact ImR.err HP.out.2.1
    | true =>
      obtain ⟨i1, i2, i3, i4, i5, i6⟩ := inB_bd hi
      obtain ⟨X, rfl⟩ : ∃ X : Nat, x = (X : Int) := ⟨x.toNat, by omega⟩
      obtain ⟨Y, rfl⟩ : ∃ Y : Nat, y = (Y : Int) := ⟨y.toNat, by omega⟩
      obtain ⟨P, rfl⟩ : ∃ P : Nat, p = (P : Int) := ⟨p.toNat, by omega⟩
      obtain ⟨Q, rfl⟩ : ∃ Q : Nat, q = (Q : Int) := ⟨q.toNat, by omega⟩
      have HE : Hid (cropI W H l X Y P Q = ⟨P, Q, 0, partL l W X Y P Q⟩) := Lib.hid (by unfold cropI; rw [hn, if_pos HG.out, if_pos hi]; simp)
      have hP : 1 ≤ P := by omega
      have hQ : 1 ≤ Q := by omega
      have hQ2 : Q ≤ 4096 := by omega
      have hx : X + P ≤ W := by omega
      have hy : Y + Q ≤ H := by omega
      have hPQ : P * Q ≤ W * H := Nat.mul_le_mul (by omega) (by omega)
      have HPQ := Lib.hid hPQ
      have hPQ2 : P * Q ≤ 65536 := Nat.le_trans hPQ HFEW.out
      have hlen : l.length = 4 * (W * H) := hn.trans HN4.out
      clear hi i1 i2 i3 i4 i5 i6 hp hq hPQ
      obtain ⟨M, hM⟩ : ∃ M, 4 * (P * Q) = M := ⟨_, rfl⟩
      have m1 : wrap64 (4 * (P : Int)) = ((4 * P : Nat) : Int) := by rw [IntWalk.wrap64_in _ (by omega)]; omega
      have m2 : wrap64 (((4 * P : Nat) : Int) * (Q : Int)) = (M : Int) := by rw [← Int.natCast_mul, ← hM, Nat.mul_assoc]; exact IntWalk.wrap64_in _ (by omega)
      have hM2 : M ≤ 262144 := by omega
      have hb1 : 2 * M ≤ 281474976710656 := by omega
      have hb2 : M ≤ maxLen := by unfold maxLen; omega
      have HM := Lib.hid hM
      generalize 4 * P = P4 at m1 m2
      obtain ⟨i0, hi, hz0, hz1, hz2⟩ := info_parts info_u16
      have q0 := HF3.out.im.c0; have q1 := HF3.out.im.c1; have q2 := HF3.out.im.c2
      have r0 := HF3.out.r0; have r1 := HF3.out.r1; have r2 := HF3.out.r2; have r3 := HF3.out.r3
      have HXY := Lib.hid (And.intro hx hy)
      have HLN := Lib.hid hlen
      have HPQ2 := Lib.hid hPQ2
      clear hM hx hy hlen hPQ2
      go_wp2_with (at_make; refine wpList_make_own _ rfl (.const (.int .i64 0)) (.tmp 25) 22 rfl w3.heap.size 28 i0 (.int .u16 0) 1 Try.underlying22 hi hz0 hz1 .i64 .i64 _ M rfl rfl (by simp [m2]) (by rw [hz2]; exact hb1) hb2 (Nat.le_refl _) ?_; intro w4 hown4 hg4; have HB4 := Lib.hid ((Below.refl w3.heap.size w3).grown hg4 (by simp) (by simp)); have O4 := Lib.hid hown4; have HF4 := Lib.hid (HF3.out.call HB4.out); have t2 := HF4.out.r2; have t3 := HF4.out.r3; clear hown4 hg4)
      have HFC : Hid (∀ w', Below w3.heap.size w3 w' → FrC w W H (some ⟨r, o, none⟩) n c X Y P Q w') := Lib.hid (fun w' hb => HF3.out.call hb)
      clear m1 m2 hb1 hb2 q0 q1 q2 r0 r1 r2 r3 HF3 HF4 t2 t3
      go_loopw [6, 29] (fun v i wr => ∃ (k m cr : Nat) (A : Option Addr), k ≤ Q ∧ i = .int .i64 (k : Int) ∧ v = .slice A m cr ∧ Hid ((partL l W X Y P k).length = m) ∧ m ≤ 262144 ∧ Hid (wr.ownsRow w3.heap.size 28 1 (.slice A m cr) m (usV (partL l W X Y P k))) ∧ Hid (Below w3.heap.size w3 wr)) (fun _ i _ => Q - (intOf i).toNat)
      case atStart => exact ⟨0, 0, M, _, by omega, rfl, rfl, Lib.hid rfl, by omega, O4, HB4⟩
      case round =>
        obtain ⟨k, m, cr, A, hk, rfl, rfl, HN, hm, HO, HB⟩ := hrel
        have hs := HB.out.size
        have hF := HFC.out _ HB.out
        by_cases hlt : k < Q
        · obtain ⟨Z, hZ⟩ : ∃ Z, Y + k = Z := ⟨_, rfl⟩
          have hZ' : (Y : Int) + (k : Int) = (Z : Int) := by omega
          have hZH : Z < H := by have := HXY.out.2; omega
          have HRun := Lib.hid (run_any hn HN4.out hc hcm HFEW.out (HS3.out.below HB.out (by omega)) X Z P hP HXY.out.1 hZH)
          have hl1 := partL_length HLN.out HXY.out.1 (k + 1) (show Y + (k + 1) ≤ H by have := HXY.out.2; omega)
          have hS : partL l W X Y P (k + 1) = partL l W X Y P k ++ (l.drop (4 * (Z * W + X))).take (4 * P) := by rw [partL, hZ]
          have hm2 : m + 4 * P ≤ 262144 := by
            have e1 : P * (k + 1) ≤ P * Q := Nat.mul_le_mul_left P hlt
            have e2 := HPQ2.out
            have hl0 := partL_length HLN.out HXY.out.1 k (show Y + k ≤ H by have := HXY.out.2; omega)
            rw [HN.out] at hl0
            have e3 : P * (k + 1) = P * k + P := Nat.mul_succ P k
            omega
          have HL2 : Hid ((partL l W X Y P (k + 1)).length = m + 4 * P) := Lib.hid (by
            have hl0 := partL_length HLN.out HXY.out.1 k (show Y + k ≤ H by have := HXY.out.2; omega)
            rw [HN.out] at hl0
            have e3 : P * (k + 1) = P * k + P := Nat.mul_succ P k
            rw [hl1, e3, hl0]
            omega)
          have HS := Lib.hid hS
          obtain ⟨_, q0, q1, q2, _, _, _⟩ := hF.im
          have r0 := hF.r0; have r1 := hF.r1; have r2 := hF.r2; have r3 := hF.r3
          have hb47 : (m + 4 * P) * 2 ≤ 140737488355328 := by omega
          have hbml : m + 4 * P ≤ maxLen := by unfold maxLen; omega
          have hZb : wrap64 ((Y : Int) + (k : Int)) = (Z : Int) := by rw [hZ']; exact IntWalk.wrap64_in _ (by omega)
          clear hl1 hS hF hZ' hZ
          generalize 4 * (Z * W + X) = F at *
          generalize 4 * P = P4 at *
          go_wp2_with fail
          refine HRun.out.mono ?_
          rintro e w5 ⟨rfl, hb5, hsm5, hl5⟩
          have HO5 := Lib.hid (own_upd HO.out (Upd.of_fresh hb5) (fun _ _ => id))
          have HB5 := Lib.hid (HB.out.trans (hb5.mono hs))
          have HV5 := Lib.hid (Smp.us (B := w5.heap.size) hsm5 (by have := hb5.size; omega))
          have HL5 := Lib.hid ((usV_length _).trans hl5)
          have hs5 := HB5.out.size
          clear hb5 hsm5 hl5 HRun q0 q1 q2 r0 r1 r2 r3 hZb
          go_wp2_with (
            at_builtin
            refine wpList_append_vs _ rfl (.tmp 32) (.tmp 42) _ rfl w3.heap.size 28 i0 (.int .u16 0) 2 Try.underlying22 hi hz0 hz1 hz2 rfl (.slice A m cr) m _ rfl HO5.out w5.heap.size (some ⟨r, o + F, none⟩) P4 (c - F) _ HL5.out rfl HV5.out (usV_one _) hbml hb47 hs5 ?_
            intro A6 c6 w6 o6 hg6 _
            rw [← usV_append, ← HS.out] at o6
            have HO6 := Lib.hid o6
            have HB6 := Lib.hid (HB5.out.grown hg6 hs5 (fun q hq => (HO5.out.lt q hq).1))
            clear o6 hg6)
          go_roundw
          case rel => exact ⟨k + 1, m + P4, c6, A6, by omega, by go_num, rfl, HL2, hm2, HO6, HB6⟩
          case measure => simp [intOf]; omega
        · obtain rfl : k = Q := by omega
          have r2 := hF.r2; have r3 := hF.r3
          obtain ⟨_, d0, d1, d2, f0, f1, f2⟩ := hF.z
          have HP := Lib.hid (hF.put (.int .i64 P) (.int .i64 k) (.slice A m cr))
          have HOE := Lib.hid (own_other (own_low HO.out (show w.heap.size ≤ w3.heap.size by omega)) hF.z.blk (by decide) HP.out.2.2)
          clear hF
          go_wp2_with fail
          have n0 := HP.out.1.c0; have n1 := HP.out.1.c1; have n2 := HP.out.1.c2
          refine bodyPost_ret (v := .tuple #[imgV P k A m cr, .int .i64 0]) (by simp [results, Try.results20, go_sem, n0, n1, n2]) rfl ?_
          rw [HE.out]
          have hml := HN.out
          subst hml
          exact ⟨A, cr, rfl, HOE.out, HP.out.2.1⟩
end Go.Proofs.Ytkfomjdmdgddlaa
