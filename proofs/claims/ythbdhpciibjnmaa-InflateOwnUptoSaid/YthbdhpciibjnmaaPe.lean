/- Contract of the program's Next. -/
import Derived.Test.YthbdhpciibjnmaaPd
import Derived.Test.YthbdhpciibjnmaaCp
import Derived.Test.YthbdhpciibjnmaaT
import Derived.Test.YthbdhpciibjnmaaU
namespace Go.Proofs.Ythbdhpciibjnmaa
open Go.ChangeShapes Go.WideShapes Go.ChangeAt Go.RowKit

theorem anyOf_list (l : List Int) : anyOf l = l.any fun x => decide (0 < x) := by
  rw [Bool.eq_iff_iff]
  unfold anyOf
  rw [List.any_eq_true, List.any_eq_true]
  constructor
  · rintro ⟨j, hj, h⟩
    have hj2 : j < l.length := by simpa using hj
    rw [lenAt_get l j hj2] at h
    exact ⟨_, List.getElem_mem hj2, h⟩
  · rintro ⟨x, hx, h⟩
    obtain ⟨j, hj, rfl⟩ := List.getElem_of_mem hx
    exact ⟨j, by simpa using hj, by rw [lenAt_get l j hj]; exact h⟩
theorem any_upTo (l : List Int) (hg : l.any badLen = false) : (l.any fun x => decide (0 < x)) = decide (0 < upTo l 16) := by
  induction l with
  | nil => simp [upTo]
  | cons x r ih =>
    rw [List.any_cons, Bool.or_eq_false_iff] at hg
    have e : upTo (x :: r) 16 = (if 0 < x ∧ x ≤ ((16 : Nat) : Int) then 2 ^ (16 - x).toNat else 0) + upTo r 16 := by simp [upTo]
    have h1 := hg.1
    unfold badLen at h1
    rw [Bool.or_eq_false_iff] at h1
    have b1 : ¬ x < 0 := of_decide_eq_false h1.1
    have b2 : ¬ 16 < x := of_decide_eq_false h1.2
    rw [List.any_cons, ih hg.2, e]
    by_cases hx : 0 < x
    · rw [if_pos (by omega)]
      have := Nat.two_pow_pos (16 - x).toNat
      simp [hx]
      omega
    · rw [if_neg (by omega)]
      simp [hx]
theorem any_end (l : List Int) (hg : l.any badLen = false) : anyOf l = decide (0 < endN l 16) := by
  have h := endN_upTo l 16 (Nat.le_refl _)
  rw [Nat.sub_self, Nat.pow_zero, Nat.mul_one] at h
  rw [anyOf_list, any_upTo l hg, h]
/-- Behind n bits that make v: what is still to come. -/
def nextRest (l : List Int) (f : Nat → Bool) (av n v : Nat) : Nat × Nat × Nat := if v * 2 ^ (16 - n) < endN l 16 then nextFrom l f av n v (16 - n) else (n, 0, 32)
theorem next_rest (l : List Int) (hg : l.any badLen = false) (f : Nat → Bool) (av : Nat) : nextOf l f av = nextRest l f av 0 0 := by
  unfold nextOf nextRest
  rw [any_end l hg, Nat.zero_mul, Nat.sub_zero]
  by_cases h : 0 < endN l 16 <;> simp [h]
theorem rest_stop {l : List Int} {f : Nat → Bool} {av n v : Nat} (h : ¬ v * 2 ^ (16 - n) < endN l 16) : nextRest l f av n v = (n, 0, 32) := if_neg h
theorem rest_end {l : List Int} {f : Nat → Bool} {av n v : Nat} (h : v * 2 ^ (16 - n) < endN l 16) (hn : n < 16) (ha : av ≤ n) : nextRest l f av n v = (n, 0, 5) := by
  unfold nextRest
  rw [if_pos h]
  obtain ⟨r, hr⟩ : ∃ r, 16 - n = r + 1 := ⟨15 - n, by omega⟩
  rw [hr, nextFrom_end ha]
theorem rest_hit {l : List Int} {f : Nat → Bool} {av n v y : Nat} (h : v * 2 ^ (16 - n) < endN l 16) (hn : n < 16) (ha : n < av) (hv : endN l n ≤ v) (hy : y = 2 * v + (f n).toNat) (hh : y < endN l (n + 1)) : nextRest l f av n v = (n + 1, (syms l (n + 1)).getD (y - 2 * endN l n) 0, 0) := by
  unfold nextRest
  rw [if_pos h]
  obtain ⟨r, hr⟩ : ∃ r, 16 - n = r + 1 := ⟨15 - n, by omega⟩
  rw [hr, nextFrom_hit (by omega) hy (by omega) hh]
theorem rest_go {l : List Int} {f : Nat → Bool} {av n v y : Nat} (h : v * 2 ^ (16 - n) < endN l 16) (hn : n < 16) (ha : n < av) (hy : y = 2 * v + (f n).toNat) (hh : ¬ y < endN l (n + 1)) : nextRest l f av n v = nextRest l f av (n + 1) y := by
  have hm := moreB_limit (l := l) (n + 1) y (by omega) (by omega)
  rw [nextRest, if_pos h]
  obtain ⟨r, hr⟩ : ∃ r, 16 - n = r + 1 := ⟨15 - n, by omega⟩
  have hr2 : 16 - (n + 1) = r := by omega
  rw [hr]
  unfold nextRest
  by_cases c : y * 2 ^ (16 - (n + 1)) < endN l 16
  · rw [if_pos c, nextFrom_go (by omega) hy (fun k => hh k.2) (by rw [hm]; exact decide_eq_true c), hr2]
  · rw [if_neg c, nextFrom_no (by omega) hy (fun k => hh k.2) (by rw [hm]; exact decide_eq_false c)]
theorem rest_n {l : List Int} {n v : Nat} (h : v * 2 ^ (16 - n) < endN l 16) (hn : n ≤ 16) (hv : endN l n ≤ v) : n < 16 := by
  rcases Nat.lt_or_ge n 16 with c | c
  · exact c
  · obtain rfl : n = 16 := by omega
    simp at h
    omega

section
variable {w : World} {base g : Nat} {l : List Int}
theorem DecAt.upd {w' : World} {S : Nat → Prop} (h : DecAt w base g l) (u : Upd S w w') (hS : ∀ k, base ≤ k → k < w.heap.size → ¬ S k) : DecAt w' base g l := by
  obtain ⟨A, c, L, h1, h2, h3, h4⟩ := h
  exact ⟨A, c, L, h1.upd u (hS g h4 h1.lt), own_upd h2 u (fun k hk => by have := h2.lt k hk; exact hS k this.1 this.2), h3, h4⟩
/-- A decoder stays where only a block of another type is written. -/
theorem DecAt.other {w' : World} {gr : Nat} {t : TypeId} {cs : Array Value} (h : DecAt w base g l) (hB : Blk w gr t cs) (ht1 : 129 ≠ t) (ht2 : 3 ≠ t) (u : Upd (· = gr) w w') : DecAt w' base g l := by
  obtain ⟨A, c, L, h1, h2, h3, h4⟩ := h
  exact ⟨A, c, L, h1.upd u (Blk.ne_ h1 hB ht1), own_upd h2 u (fun k hk e => own_blk_ne h2 hB ht2 (by subst e; exact hk)), h3, h4⟩
theorem decL_lay (A : Option Addr) (c i : Nat) (hi : i < 51) : (decL l A c)[i]? = some (.int .i64 (layF l l.length 16 16 i)) := by
  unfold decL
  rw [List.getElem?_append_left (by rw [intsV_length]; unfold layL; rw [layN_length]; exact hi), layL_map]
  simp [hi]
theorem decL_used (A : Option Addr) (c : Nat) : (decL l A c)[51]? = some (.int .i64 ((endN l 16 : Nat) : Int)) := by
  have e : (intsV (layL l)).length = 51 := by rw [intsV_length]; unfold layL; rw [layN_length]
  unfold decL
  rw [List.getElem?_append_right (by omega), e]
  rfl
theorem decL_syms (A : Option Addr) (c : Nat) : (decL l A c)[52]? = some (.slice A (totN l) c) := by
  have e : (intsV (layL l)).length = 51 := by rw [intsV_length]; unfold layL; rw [layN_length]
  unfold decL
  rw [List.getElem?_append_right (by omega), e]
  rfl
theorem DecAt.cell (h : DecAt w base g l) (i : Nat) (hi : i < 51) : w.cell? ⟨g, i, none⟩ = some (.int .i64 (layF l l.length 16 16 i)) := by
  obtain ⟨A, c, L, h1, h2, h3, h4⟩ := h
  rw [h1.cell, List.getElem?_toArray, decL_lay A c i hi]
theorem DecAt.count (h : DecAt w base g l) (n : Nat) (hn : n < 17) : w.cell? ⟨g, n, none⟩ = some (.int .i64 ((cntZ l n : Nat) : Int)) := by
  rw [h.cell n (by omega)]; unfold layF; rw [if_pos hn, List.take_length]
theorem DecAt.first (h : DecAt w base g l) (n : Nat) (hn : n < 17) : w.cell? ⟨g, 17 + n, none⟩ = some (.int .i64 ((fstN l n : Nat) : Int)) := by
  rw [h.cell (17 + n) (by omega)]; unfold layF; rw [if_neg (by omega), if_pos (by omega), if_pos (by omega), Nat.add_sub_cancel_left]
theorem DecAt.ahead (h : DecAt w base g l) (n : Nat) (hn : n < 17) : w.cell? ⟨g, 34 + n, none⟩ = some (.int .i64 ((ahdN l n : Nat) : Int)) := by
  rw [h.cell (34 + n) (by omega)]; unfold layF; rw [if_neg (by omega), if_neg (by omega), if_pos (by omega), Nat.add_sub_cancel_left]
theorem DecAt.used (h : DecAt w base g l) : w.cell? ⟨g, 51, none⟩ = some (.int .i64 ((endN l 16 : Nat) : Int)) := by
  obtain ⟨A, c, L, h1, h2, h3, h4⟩ := h
  rw [h1.cell, List.getElem?_toArray, decL_used]
/-- The symbols' row, and in it that of place r among those of length n. -/
theorem DecAt.sym (h : DecAt w base g l) (n r : Nat) (h1 : 1 ≤ n) (h2 : n ≤ 16) (hr : r < cntN l n) : ∃ gs c, w.cell? ⟨g, 52, none⟩ = some (.slice (some ⟨gs, 0, none⟩) (totN l) c) ∧ ahdN l n + r < totN l ∧ totN l ≤ c ∧ c ≤ maxLen ∧ w.cell? ⟨gs, ahdN l n + r, none⟩ = some (.int .i64 (((syms l n).getD r 0 : Nat) : Int)) := by
  obtain ⟨A, c, L, hB, hO, hP, h4⟩ := h
  have hp := placed_all l L hP n r h1 h2 hr
  have hlt : ahdN l n + r < L.length := (List.getElem?_eq_some_iff.mp hp).1
  rw [hP.1] at hlt
  obtain ⟨gs, rfl, hc1, hc2, _, _⟩ := row_form hO (by omega)
  refine ⟨gs, c, by rw [hB.cell, List.getElem?_toArray, decL_syms], hlt, hc1, hc2, ?_⟩
  have hl := own_len hO
  rw [hO.cellAt (ahdN l n + r) (by omega)]
  have e : (intsV L)[ahdN l n + r]? = (L[ahdN l n + r]?).map fun x => Value.int .i64 x := by simp [intsV]
  rw [e, hp]
  rfl
end
theorem shl_test (V N U : Nat) (hV : V ≤ 131071) : decide (wrap64 ((V : Int) * 2 ^ (16 - N)) < (U : Int)) = decide (V * 2 ^ (16 - N) < U) := by
  have h1 : 2 ^ (16 - N) ≤ 65536 := Nat.pow_le_pow_right (n := 2) (by omega) (show 16 - N ≤ 16 by omega)
  have h2 : V * 2 ^ (16 - N) ≤ 131071 * 65536 := Nat.mul_le_mul hV h1
  have e : (V : Int) * 2 ^ (16 - N) = ((V * 2 ^ (16 - N) : Nat) : Int) := by simp
  rw [e]
  generalize V * 2 ^ (16 - N) = q at *
  rw [IntWalk.wrap64_in _ (by omega)]
  simp
theorem take_one (w : World) (base g : Nat) (A : Option Addr) (c : Nat) (l : List UInt8) (high : Bool) (at_ : Nat) (h : Rdr w base g A c l high at_) (hl : at_ + 1 ≤ 8 * l.length) (t : Nat) (ht : (bitAt l high at_).toNat = t) :
    Calls Try.prog 51 #[.pointer (some ⟨g, 0, none⟩), .int .i64 1] w fun e w' =>
      e = .returned (.tuple #[.int .u32 (t : Int), .int .i64 0]) ∧ Rdr w' base g A c l high (at_ + 1) ∧ Upd (· = g) w w' := by
  have h1 := take_any w base g A c l high at_ 1 h (by omega) hl
  rw [num_one, Nat.add_zero, ht] at h1
  exact h1
theorem end_split (l : List Int) (n : Nat) : endN l (n + 1) = fstN l (n + 1) + cntZ l (n + 1) := by
  unfold fstN cntZ
  rw [if_neg (by omega), Nat.add_sub_cancel]
  rfl
def NextP (w : World) (base gr : Nat) (A : Option Addr) (c : Nat) (bs : List UInt8) (high : Bool) (at_ : Nat) (x : Nat × Nat × Nat) (e : Ending) (w' : World) : Prop :=
  e = .returned (.tuple #[.int .i64 ((x.2.1 : Nat) : Int), .int .i64 ((x.2.2 : Nat) : Int)]) ∧ Rdr w' base gr A c bs high (at_ + x.1) ∧ Upd (· = gr) w w'
theorem next_nil (v : Value) (a b : Option Addr) (hv : v = .pointer b) (h : a = none ∨ b = none) (w : World) : Calls Try.prog 74 #[.pointer a, v] w fun e w' => e = .returned (.tuple #[.int .i64 0, .int .i64 1]) ∧ w = w' := by
  subst hv
  rcases a with _ | a
  · go_enter Try.func74, Try.ntmps74
    go_wp2_with fail
    go_ret2
    exact ⟨rfl, rfl⟩
  · obtain rfl : b = none := by simpa using h
    go_enter Try.func74, Try.ntmps74
    go_wp2_with fail
    go_ret2
    exact ⟨rfl, rfl⟩

set_option maxHeartbeats 4000000 in
set_option maxRecDepth 100000 in
theorem next_any (w : World) (base0 gd : Nat) (l : List Int) (hD : DecAt w base0 gd l) (hg : l.any badLen = false) (hl : l.length ≤ 4096) (hro : 0 ≤ roomOf l) (base gr : Nat) (A : Option Addr) (c : Nat) (bs : List UInt8) (high : Bool) (at_ : Nat) (hR : Rdr w base gr A c bs high at_) :
    Calls Try.prog 74 #[.pointer (some ⟨gd, 0, none⟩), .pointer (some ⟨gr, 0, none⟩)] w (NextP w base gr A c bs high at_ (nextOf l (fun i => bitAt bs high (at_ + i)) (8 * bs.length - at_))) := by
  rw [next_rest l hg]
  generalize hf : (fun i => bitAt bs high (at_ + i)) = f
  have HF := Lib.hid hf; clear hf
  have hbb := hR.2.2.2
  obtain ⟨av, hav⟩ : ∃ av, 8 * bs.length - at_ = av := ⟨_, rfl⟩
  rw [hav]
  have HX : ∃ X, Hid (nextRest l f av 0 0 = X) := ⟨_, Lib.hid rfl⟩
  obtain ⟨X, HX⟩ := HX
  rw [HX.out]
  have HG := Lib.hid hg; clear hg
  have HRO := Lib.hid hro; clear hro
  have HD := Lib.hid hD; clear hD
  go_enter Try.func74, Try.ntmps74
  go_wp2_with fail
  go_loopw [6, 7] (fun v n wr => ∃ V N : Nat, N ≤ 16 ∧ N ≤ av ∧ V ≤ 131071 ∧ v = .int .i64 (V : Int) ∧ n = .int .i64 (N : Int) ∧ Rdr wr base gr A c bs high (at_ + N) ∧ Upd (· = gr) w wr ∧ Hid (endN l N ≤ V) ∧ Hid (nextRest l f av N V = X)) (fun _ n _ => 17 - (intOf n).toNat)
  case atStart => exact ⟨0, 0, by omega, by omega, by omega, rfl, rfl, hR, Upd.refl _ _, Lib.hid (Nat.zero_le _), HX⟩
  case round =>
    obtain ⟨V, N, hN, hNa, hV, rfl, rfl, hR1, hU, HV, HX1⟩ := hrel
    have HR := Lib.hid hR1; clear hR1
    have HD1 := Lib.hid (HD.out.other hR.1 (by decide) (by decide) hU)
    have hcu := HD1.out.used
    obtain ⟨U, hU0⟩ : ∃ U, endN l 16 = U := ⟨_, rfl⟩
    rw [hU0] at hcu
    have e1 : IntKind.i64.wrap ((16 : Int) - N) = (16 : Int) - N := IntWalk.i64_in _ (by omega)
    have HU0 := Lib.hid hU0; clear hU0
    by_cases hcond : V * 2 ^ (16 - N) < U
    · have dB : decide (wrap64 ((V : Int) * 2 ^ (16 - N)) < (U : Int)) = true := by rw [shl_test V N U hV]; simpa using hcond
      have HC : Hid (V * 2 ^ (16 - N) < endN l 16) := Lib.hid (by rw [HU0.out]; exact hcond)
      clear hcond
      have hN16 : N < 16 := rest_n HC.out hN HV.out
      by_cases hend : N < av
      · obtain ⟨t, ht⟩ : ∃ t, (f N).toNat = t := ⟨_, rfl⟩
        have ht1 : t ≤ 1 := by rw [← ht]; exact Bool.toNat_le _
        have htb : (bitAt bs high (at_ + N)).toNat = t := by rw [← ht, ← HF.out]
        obtain ⟨y, hy⟩ : ∃ y, y = 2 * V + t := ⟨_, rfl⟩
        have hU16 : U ≤ 65536 := by rw [← HU0.out]; exact endN_bd l HRO.out 16 (by omega)
        have hV2 : V < 65536 := by
          have h1 := HC.out
          rw [HU0.out] at h1
          have h2 := Nat.two_pow_pos (16 - N)
          have h3 : V * 1 ≤ V * 2 ^ (16 - N) := Nat.mul_le_mul_left V h2
          omega
        have hVe := HV.out
        have hF : fstN l (N + 1) = 2 * endN l N := by unfold fstN; rw [Nat.add_sub_cancel]
        have hes := end_split l (N + 1 - 1)
        rw [Nat.add_sub_cancel] at hes
        obtain ⟨r, hr⟩ : ∃ r, y = fstN l (N + 1) + r := ⟨y - fstN l (N + 1), by omega⟩
        have hy1 : y ≤ 131071 := by omega
        have hC4 := cntZ_le l (N + 1)
        have hF17 := fstN_le l HRO.out (N + 1) (by omega)
        have HQH := Lib.hid (fun (h : y < endN l (N + 1)) => rest_hit HC.out hN16 hend hVe (by rw [ht]; exact hy) h)
        have HQG := Lib.hid (fun (h : ¬ y < endN l (N + 1)) => rest_go HC.out hN16 hend (f := f) (by rw [ht]; exact hy) h)
        have HES := Lib.hid hes; clear hes
        have HFF := Lib.hid hF; clear hF
        have HTB := Lib.hid htb; clear htb ht
        have HY : Hid (y = 2 * V + t) := Lib.hid hy
        have HRr : Hid (y = fstN l (N + 1) + r) := Lib.hid hr
        obtain ⟨F, hF0⟩ : ∃ F, fstN l (N + 1) = F := ⟨_, rfl⟩
        obtain ⟨C, hC0⟩ : ∃ C, cntZ l (N + 1) = C := ⟨_, rfl⟩
        rw [hF0] at hr hF17
        rw [hC0] at hC4
        have ey : 2 * (V : Int) + (t : Int) = (y : Int) := by omega
        have er : (y : Int) - (F : Int) = (r : Int) := by omega
        have hrb : r ≤ 131071 := by omega
        have HF0 := Lib.hid hF0; clear hF0
        have HC0 := Lib.hid hC0; clear hC0
        clear hy hr hVe
        go_wp2_with fail
        go_quiet (fail)
        go_wp2_with fail
        refine (take_one (wr.drewN nq) base gr A c bs high (at_ + N) HR.out (by omega) t HTB.out).mono ?_
        rintro e w1 ⟨rfl, hR1, hU1⟩
        have HU1 := Lib.hid (Upd.trans (hU.drewN nq) hU1)
        have HD2 := Lib.hid (HD.out.other hR.1 (by decide) (by decide) HU1.out)
        have HR1 := Lib.hid hR1; clear hR1 hU1
        have q1 := HD2.out.first (N + 1) (by omega)
        have q2 := HD2.out.count (N + 1) (by omega)
        rw [HF0.out] at q1
        rw [HC0.out] at q2
        have i1 : (0 : Int) ≤ (N : Int) + 1 := by omega
        have i2 : (N : Int) + 1 < 17 := by omega
        have n1 : ((N : Int) + 1).toNat = N + 1 := by omega
        by_cases hit : r < C
        · have dR : decide ((r : Int) < (C : Int)) = true := by simp; omega
          obtain ⟨gs, cc, q3, q4, q5, q6, q7⟩ := HD2.out.sym (N + 1) r (by omega) (by omega) (by have := HC0.out; unfold cntZ at this; rw [if_neg (by omega)] at this; omega)
          have q8 := HD2.out.ahead (N + 1) (by omega)
          have hX : X = (N + 1, (syms l (N + 1)).getD r 0, 0) := by
            rw [← HX1.out, HQH.out (by have h1 := HES.out; have h2 := HRr.out; have h3 := HC0.out; omega)]
            have h2 := HRr.out
            have h3 := HFF.out
            rw [show y - 2 * endN l N = r from by omega]
          have HXE := Lib.hid hX; clear hX
          have hDb := ahdN_le l (N + 1)
          have hDb2 : (N + 1) * l.length ≤ 16 * 4096 := Nat.mul_le_mul (by omega) hl
          obtain ⟨D, hD0⟩ : ∃ D, ahdN l (N + 1) = D := ⟨_, rfl⟩
          rw [hD0] at q4 q7 q8 hDb
          obtain ⟨T, hT0⟩ : ∃ T, totN l = T := ⟨_, rfl⟩
          rw [hT0] at q3 q4 q5
          clear hD0 hT0
          have eD : IntKind.i64.wrap ((D : Int) + r) = (D : Int) + r := IntWalk.i64_in _ (by omega)
          have nD : ((D : Int) + r).toNat = D + r := by omega
          have iD : (0 : Int) ≤ (D : Int) + r := by omega
          have iD2 : (D : Int) + r < T := by omega
          go_wp2_with fail
          go_quiet (fail)
          go_wp2_with fail
          go_ret2
          rw [HXE.out]
          exact ⟨rfl, HR1.out, HU1.out.drewN _⟩
        · have dR : decide ((r : Int) < (C : Int)) = false := by simp; omega
          have hnot : ¬ y < endN l (N + 1) := by have h1 := HES.out; have h2 := HRr.out; have h3 := HC0.out; omega
          have HXN : Hid (nextRest l f av (N + 1) y = X) := Lib.hid (by rw [← HX1.out, HQG.out hnot])
          go_wp2_with fail
          go_roundw
          case rel => exact ⟨y, N + 1, by omega, by omega, hy1, rfl, by go_num, HR1.out, HU1.out, Lib.hid (by omega), HXN⟩
          case measure => simp [intOf]; omega
      · have HE : Hid (nextRest l f av N V = (N, 0, 5)) := Lib.hid (rest_end HC.out hN16 (by omega))
        have hXe : X = (N, 0, 5) := by rw [← HX1.out, HE.out]
        have HXE := Lib.hid hXe; clear hXe
        go_wp2_with fail
        go_quiet (fail)
        go_wp2_with fail
        refine (take_end (wr.drewN nq) base gr A c bs high (at_ + N) 1 HR.out (by omega) (by omega) (by omega)).mono ?_
        rintro e w1 ⟨rfl, n1, rfl⟩
        go_wp2_with fail
        go_ret2
        rw [HXE.out]
        exact ⟨rfl, HR.out, hU.drewN _⟩
    · have dB : decide (wrap64 ((V : Int) * 2 ^ (16 - N)) < (U : Int)) = false := by rw [shl_test V N U hV]; simpa using hcond
      have hXe : X = (N, 0, 32) := by rw [← HX1.out]; exact rest_stop (by rw [HU0.out]; exact hcond)
      have HXE := Lib.hid hXe; clear hXe hcond
      go_wp2_with fail
      go_quiet (fail)
      go_wp2_with fail
      go_ret2
      rw [HXE.out]
      exact ⟨rfl, HR.out, hU.drewN nq⟩
end Go.Proofs.Ythbdhpciibjnmaa
