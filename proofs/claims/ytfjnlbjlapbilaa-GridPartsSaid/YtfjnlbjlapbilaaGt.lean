/- Tiles: the iterator over the pieces of a size. -/
import Derived.Test.YtfjnlbjlapbilaaGl
import Derived.Test.YtfjnlbjlapbilaaTm
import Derived.Test.YtfjnlbjlapbilaaSu
import Derived.Test.YtfjnlbjlapbilaaTr
namespace Go.Proofs.Ytfjnlbjlapbilaa
open Go.ChangeShapes Go.WideShapes Go.ChangeAt Go.RowKit Go.Shelf
attribute [local go_sem] Oper.semAt_some

/-- A tile's side, cut to the size. -/
def cutT (h : Nat) (th : Int) : Nat := min th.toNat h
theorem cutT_bd {h : Nat} {th : Int} (h1 : 1 ≤ h) (h2 : 1 ≤ th) : 1 ≤ cutT h th ∧ cutT h th ≤ h := by unfold cutT; omega
theorem tile_at {h : Nat} {th : Int} (h1 : 1 ≤ h) (h2 : 1 ≤ th) {j : Nat} (hj : j < cntT h (cutT h th)) : (j : Int) * th = ((j * cutT h th : Nat) : Int) ∧ j * cutT h th < h := by
  have hc := cutT_bd h1 h2
  have hlt := (cntT_iff (w := h) (i := j) hc.1).1 hj
  refine ⟨?_, hlt⟩
  by_cases hth : th ≤ h
  · have e : ((cutT h th : Nat) : Int) = th := by unfold cutT; omega
    rw [Int.natCast_mul, e]
  · have e : cutT h th = h := by unfold cutT; omega
    rw [e, cntT_one h1 (Nat.le_refl _)] at hj
    obtain rfl : j = 0 := by omega
    simp
theorem tile_end {h : Nat} {th : Int} (h1 : 1 ≤ h) (h2 : 1 ≤ th) : (h : Int) ≤ ((cntT h (cutT h th) : Nat) : Int) * th := by
  have hc := cutT_bd h1 h2
  have hf := cntT_full (w := h) hc.1
  have hle : ((cutT h th : Nat) : Int) ≤ th := by unfold cutT; omega
  have h3 : ((cntT h (cutT h th) : Nat) : Int) * ((cutT h th : Nat) : Int) ≤ ((cntT h (cutT h th) : Nat) : Int) * th := Int.mul_le_mul_of_nonneg_left hle (by omega)
  rw [← Int.natCast_mul] at h3
  omega
theorem tile_len {h : Nat} {th : Int} (h1 : 1 ≤ h) (h2 : 1 ≤ th) {j : Nat} (hj : j < cntT h (cutT h th)) : min th ((h : Int) - (j : Int) * th) = (lenT h (cutT h th) j : Int) := by
  obtain ⟨e, hlt⟩ := tile_at h1 h2 hj
  rw [e]
  unfold lenT
  have e2 : ((cutT h th : Nat) : Int) = min th h := by unfold cutT; omega
  generalize j * cutT h th = m at *
  omega
theorem tile_next {h : Nat} {th : Int} (h1 : 1 ≤ h) (h2 : 1 ≤ th) (h3 : th ≤ 9223372036854775807) (h4 : h ≤ 4096) {j : Nat} (hj : j < cntT h (cutT h th)) : wrap64 ((j : Int) * th + th) = ((j + 1 : Nat) : Int) * th := by
  rw [show ((j + 1 : Nat) : Int) * th = (j : Int) * th + th by rw [Int.natCast_add, Int.add_mul]; simp]
  obtain ⟨e, hlt⟩ := tile_at h1 h2 hj
  by_cases hth : th ≤ h
  · rw [e]
    generalize j * cutT h th = m at *
    exact IntWalk.wrap64_in _ (by omega)
  · have e : cutT h th = h := by unfold cutT; omega
    rw [e, cntT_one h1 (Nat.le_refl _)] at hj
    obtain rfl : j = 0 := by omega
    exact IntWalk.wrap64_in _ (by simp; omega)
theorem tile_pos {h : Nat} {th : Int} (h1 : 1 ≤ h) (h2 : 1 ≤ th) {j : Nat} (hj : j < cntT h (cutT h th)) : 0 ≤ (j : Int) * th ∧ (j : Int) * th < h := by
  obtain ⟨e, hlt⟩ := tile_at h1 h2 hj
  rw [e]
  omega

/-- The k-th tile's four numbers. -/
def tileA (w h t u k : Nat) : Array Value := #[.int .i64 (((k % cntT w t) * t : Nat) : Int), .int .i64 (((k / cntT w t) * u : Nat) : Int), .int .i64 (lenT w t (k % cntT w t) : Int), .int .i64 (lenT h u (k / cntT w t) : Int)]
def tileEnc (w h t u k : Nat) : Array Value := #[.agg (tileA w h t u k)]
theorem tileA_at {w h t u i j : Nat} (hi : i < cntT w t) : tileA w h t u (cntT w t * j + i) = #[.int .i64 ((i * t : Nat) : Int), .int .i64 ((j * u : Nat) : Int), .int .i64 (lenT w t i : Int), .int .i64 (lenT h u j : Int)] := by
  unfold tileA
  rw [Nat.mul_add_mod, Nat.mod_eq_of_lt hi, Nat.mul_add_div (by omega), Nat.div_eq_of_lt hi, Nat.add_zero]

set_option maxRecDepth 100000 in
theorem tiles_any (w : World) (a b c d : Int) : Calls Try.prog 29 #[.int .i64 a, .int .i64 b, .int .i64 c, .int .i64 d] w fun e w' => e = .returned (.func (.func 51) #[] #[.pointer (some ⟨w.heap.size, 0, none⟩), .pointer (some ⟨w.heap.size + 1, 0, none⟩), .pointer (some ⟨w.heap.size + 1 + 1, 0, none⟩), .pointer (some ⟨w.heap.size + 1 + 1 + 1, 0, none⟩)]) ∧
    w' = (((w.alloc (.cells #[.int .i64 a] 3)).alloc (.cells #[.int .i64 b] 3)).alloc (.cells #[.int .i64 c] 3)).alloc (.cells #[.int .i64 d] 3) := by
  go_enter Try.func29, Try.ntmps29
  go_wp2_with fail
  go_ret
  exact ⟨rfl, rfl⟩

theorem tile_lt {a b i j : Nat} (hi : i < a) (hj : j < b) : a * j + i < a * b := by
  have h1 : a * (j + 1) ≤ a * b := Nat.mul_le_mul_left a hj
  rw [Nat.mul_add, Nat.mul_one] at h1
  omega
/-- The four boxes of the iterator. -/
def TBox (V : World) (b : Nat) (x y tw th : Int) : Prop := V.cell? ⟨b, 0, none⟩ = some (.int .i64 x) ∧ V.cell? ⟨b + 1, 0, none⟩ = some (.int .i64 y) ∧ V.cell? ⟨b + 1 + 1, 0, none⟩ = some (.int .i64 tw) ∧ V.cell? ⟨b + 1 + 1 + 1, 0, none⟩ = some (.int .i64 th)

set_option maxRecDepth 100000 in
set_option maxHeartbeats 4000000 in
theorem tiles1_bad (n : Nat) (_ : 1 ≤ n) (l b : Nat) (x y tw th : Int) (hbad : ¬ (mayB x y = true ∧ 1 ≤ tw ∧ 1 ≤ th)) (V : World) (hB : TBox V b x y tw th) :
    CallsIn Fence.wide n Try.prog 51 #[.func (.yield l) #[] #[], .pointer (some ⟨b, 0, none⟩), .pointer (some ⟨b + 1, 0, none⟩), .pointer (some ⟨b + 1 + 1, 0, none⟩), .pointer (some ⟨b + 1 + 1 + 1, 0, none⟩)] V fun e V' => (∃ v, e = .returned v) ∧ V' = V := by
  refine callsIn_of_wp Try.func51 rfl trivial ?_ rfl
  simp only [Try.ntmps51, List.size_toArray, List.length_cons, List.length_nil, Nat.reduceAdd, Nat.reduceSub, Array.replicate_succ, Array.replicate_zero, List.push_toArray, List.append_toArray, List.nil_append, List.cons_append]
  obtain ⟨c1, c2, c3, c4⟩ := hB
  cases hm : mayB x y with
  | false =>
    gi_wp2_with (refine ⟨trivial, ?_⟩; gi_at_call 52; refine (callsIn_wide.2 (mayBe_any x y V)).mono ?_; rintro e V0 ⟨rfl, rfl⟩; rw [hm])
    refine bodyPost_ret (results_none rfl _ _ _) rfl ?_
    exact ⟨⟨_, rfl⟩, rfl⟩
  | true =>
    by_cases h1 : tw < 1
    · gi_wp2_with (refine ⟨trivial, ?_⟩; gi_at_call 52; refine (callsIn_wide.2 (mayBe_any x y V)).mono ?_; rintro e V0 ⟨rfl, rfl⟩; rw [hm])
      refine bodyPost_ret (results_none rfl _ _ _) rfl ?_
      exact ⟨⟨_, rfl⟩, rfl⟩
    · have h2 : th < 1 := by
        rcases Int.lt_or_le th 1 with h | h
        · exact h
        · exact absurd ⟨hm, by omega, h⟩ hbad
      clear hbad
      gi_wp2_with (refine ⟨trivial, ?_⟩; gi_at_call 52; refine (callsIn_wide.2 (mayBe_any x y V)).mono ?_; rintro e V0 ⟨rfl, rfl⟩; rw [hm])
      refine bodyPost_ret (results_none rfl _ _ _) rfl ?_
      exact ⟨⟨_, rfl⟩, rfl⟩

set_option maxRecDepth 100000 in
set_option maxHeartbeats 4000000 in
theorem tiles1_in (n : Nat) (_ : 1 ≤ n) (l b W H : Nat) (tw th : Int) (hm : mayB (W : Int) (H : Int) = true) (ht1 : 1 ≤ tw) (hu1 : 1 ≤ th) (ht2 : tw ≤ 9223372036854775807) (hu2 : th ≤ 9223372036854775807) (I : Nat → World → Prop) (R Jx : World → Prop)
    (hI : ∀ k V, I k V → TBox V b W H tw th)
    (hY : ∀ k x V, k < cntT W (cutT W tw) * cntT H (cutT H th) → I k V → R V → x = k → YieldAt Fence.wide (n - 1) Try.prog l (tileEnc W H (cutT W tw) (cutT H th) x) V fun e V' => (e = .returned (.bool true) ∧ I (k + 1) V' ∧ R V') ∨ (e = .returned (.bool false) ∧ Jx V'))
    (V : World) (h0 : I 0 V) (hR : R V) :
    CallsIn Fence.wide n Try.prog 51 #[.func (.yield l) #[] #[], .pointer (some ⟨b, 0, none⟩), .pointer (some ⟨b + 1, 0, none⟩), .pointer (some ⟨b + 1 + 1, 0, none⟩), .pointer (some ⟨b + 1 + 1 + 1, 0, none⟩)] V fun e V' => (∃ v, e = .returned v) ∧ ((I (cntT W (cutT W tw) * cntT H (cutT H th)) V' ∧ R V') ∨ Jx V') := by
  obtain ⟨w1, w2, w3, w4, _⟩ := mayB_bd hm
  have W1 : 1 ≤ W := by omega
  have H1 : 1 ≤ H := by omega
  have W2 : W ≤ 4096 := by omega
  have H2 : H ≤ 4096 := by omega
  refine callsIn_of_wp Try.func51 rfl trivial ?_ rfl
  simp only [Try.ntmps51, List.size_toArray, List.length_cons, List.length_nil, Nat.reduceAdd, Nat.reduceSub, Array.replicate_succ, Array.replicate_zero, List.push_toArray, List.append_toArray, List.nil_append, List.cons_append]
  obtain ⟨c1, c2, c3, c4⟩ := hI 0 V h0
  have h1 : ¬ tw < 1 := by omega
  have h2 : ¬ th < 1 := by omega
  gi_wp2_with (refine ⟨trivial, ?_⟩; gi_at_call 52; refine (callsIn_wide.2 (mayBe_any W H V)).mono ?_; rintro e V0 ⟨rfl, rfl⟩; rw [hm])
  clear c1 c2 c3 c4
  gi_loopw [6] (fun i wr => ∃ j : Nat, j ≤ cntT H (cutT H th) ∧ i = .int .i64 ((j : Int) * th) ∧ I (cntT W (cutT W tw) * j) wr ∧ R wr) (fun i _ => ((H : Int) - intOf i).toNat)
  case atStart => exact ⟨0, Nat.zero_le _, by simp, by rw [Nat.mul_zero]; exact h0, hR⟩
  case round =>
    obtain ⟨j, hj, rfl, hIj, hRj⟩ := hrel
    obtain ⟨c1, c2, c3, c4⟩ := hI _ wr hIj
    by_cases hlt : j < cntT H (cutT H th)
    · obtain ⟨p1, p2⟩ := tile_pos H1 hu1 hlt
      have pn := tile_next H1 hu1 hu2 H2 hlt
      have pl := tile_len H1 hu1 hlt
      have pa := (tile_at H1 hu1 hlt).1
      have HP : Hid ((j : Int) * th = (j : Int) * th) := Lib.hid rfl
      obtain ⟨yv, hyv⟩ : ∃ yv, (j : Int) * th = yv := ⟨_, rfl⟩
      rw [hyv] at p1 p2 pn pl pa ⊢
      have HYV := Lib.hid hyv; have HPN := Lib.hid pn; have HPL := Lib.hid pl; have HPA := Lib.hid pa
      have HIJ := Lib.hid hIj; have HRJ := Lib.hid hRj
      clear hyv pn pl pa hIj hRj HP
      gi_wp2_with fail
      obtain ⟨wo, hwo⟩ : ∃ wo : World, wo = wr := ⟨_, rfl⟩
      subst hwo
      clear c1 c2 c3 c4
      gi_loopw [7] (fun i wr => ∃ m : Nat, m ≤ cntT W (cutT W tw) ∧ i = .int .i64 ((m : Int) * tw) ∧ I (cntT W (cutT W tw) * j + m) wr ∧ R wr) (fun i _ => ((W : Int) - intOf i).toNat)
      case atStart => exact ⟨0, Nat.zero_le _, by simp, by rw [Nat.add_zero]; exact HIJ.out, HRJ.out⟩
      case round =>
        obtain ⟨m, hm2, rfl, hIm, hRm⟩ := hrel
        obtain ⟨c1, c2, c3, c4⟩ := hI _ wr hIm
        by_cases hlm : m < cntT W (cutT W tw)
        · obtain ⟨q1, q2⟩ := tile_pos W1 ht1 hlm
          have qn := tile_next W1 ht1 ht2 W2 hlm
          have ql := tile_len W1 ht1 hlm
          have qa := (tile_at W1 ht1 hlm).1
          have hk : cntT W (cutT W tw) * j + m < cntT W (cutT W tw) * cntT H (cutT H th) := tile_lt hlm hlt
          obtain ⟨fn, tmps, assign, body, hy, hRd⟩ := hY _ _ wr hk hIm hRm rfl
          unfold tileEnc at hy
          rw [tileA_at hlm, ← qa, ← HPA.out] at hy
          obtain ⟨xv, hxv⟩ : ∃ xv, (m : Int) * tw = xv := ⟨_, rfl⟩
          rw [hxv] at q1 q2 qn ql hy ⊢
          have HXV := Lib.hid hxv; have HQN := Lib.hid qn
          have pl := HPL.out
          generalize lenT W (cutT W tw) m = LX at ql hy
          generalize lenT H (cutT H th) j = LY at pl hy
          have HYD := Lib.hid (yield_one hRd)
          clear hxv qn qa hIm hRm hRd hk
          have rx : wrap64 ((W : Int) - xv) = (W : Int) - xv := IntWalk.wrap64_in _ (by omega)
          have ry : wrap64 ((H : Int) - yv) = (H : Int) - yv := IntWalk.wrap64_in _ (by omega)
          gi_wp2_with fail
          refine RoundIn.mono HYD.out ?_
          rintro e w4 ⟨bb, rfl, hb1, hb2⟩
          have HB1 := Lib.hid hb1; have HB2 := Lib.hid hb2
          clear hb1 hb2 c1 c2 c3 c4
          cases bb with
          | true =>
            obtain ⟨c1, c2, c3, c4⟩ := hI _ w4 (HB1.out (by trivial)).1
            have r3 : wrap64 (xv + tw) = ((m + 1 : Nat) : Int) * tw := HQN.out
            gi_wp2_with fail
            go_roundw
            case rel => exact ⟨m + 1, by omega, by rw [r3], (HB1.out (by trivial)).1, (HB1.out (by trivial)).2⟩
            case measure =>
              have := HXV.out
              have e : ((m + 1 : Nat) : Int) * tw = xv + tw := by rw [Int.natCast_add, Int.add_mul, this]; simp
              simp only [intOf]
              rw [r3, e]
              omega
          | false =>
            gi_wp2_with fail
            refine bodyPost_ret (results_none rfl _ _ _) rfl ?_
            exact ⟨⟨_, rfl⟩, .inr (HB2.out (by trivial))⟩
        · obtain rfl : m = cntT W (cutT W tw) := by omega
          have p3 := tile_end W1 ht1
          have HIm := Lib.hid hIm; have HRm := Lib.hid hRm
          have r3 : wrap64 (yv + th) = ((j + 1 : Nat) : Int) * th := HPN.out
          clear hIm hRm
          gi_wp2_with fail
          go_roundw
          case rel => exact ⟨j + 1, by omega, by rw [r3], by rw [Nat.mul_add, Nat.mul_one]; exact HIm.out, HRm.out⟩
          case measure =>
            have := HYV.out
            have e : ((j + 1 : Nat) : Int) * th = yv + th := by rw [Int.natCast_add, Int.add_mul, this]; simp
            simp only [intOf]
            rw [r3, e]
            omega
    · obtain rfl : j = cntT H (cutT H th) := by omega
      have p3 := tile_end H1 hu1
      have HIJ := Lib.hid hIj
      gi_wp2_with fail
      go_end0
      exact ⟨⟨_, rfl⟩, .inl ⟨HIJ.out, hRj⟩⟩
end Go.Proofs.Ytfjnlbjlapbilaa
