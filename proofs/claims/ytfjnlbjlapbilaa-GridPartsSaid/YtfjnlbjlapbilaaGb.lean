/- A grid in memory: Of, New, W, H, Cells, what lies within, a run of a row. -/
import Derived.Test.YtfjnlbjlapbilaaGa
namespace Go.Proofs.Ytfjnlbjlapbilaa
open Go.ChangeShapes Go.WideShapes Go.ChangeAt Go.RowKit

/-- A grid stands at block g, its cells in row r. -/
structure GridAt (w : World) (base : Nat) (tg e : TypeId) (g r c W H : Nat) (xs : List Value) : Prop where
  blk : Blk w g tg #[.int .i64 (W : Int), .int .i64 (H : Int), .slice (some ⟨r, 0, none⟩) (W * H) c]
  row : w.ownsRow base e 1 (.slice (some ⟨r, 0, none⟩) (W * H) c) (W * H) xs
  fresh : base ≤ g
  w1 : 1 ≤ W
  w2 : W ≤ 4096
  h1 : 1 ≤ H
  h2 : H ≤ 4096
  few : W * H ≤ 65536

section
variable {w w' : World} {base : Nat} {tg e : TypeId} {g r c W H : Nat} {xs : List Value}
theorem GridAt.c0 (h : GridAt w base tg e g r c W H xs) : w.cell? ⟨g, 0, none⟩ = some (.int .i64 (W : Int)) := by rw [h.blk.cell]; rfl
theorem GridAt.c1 (h : GridAt w base tg e g r c W H xs) : w.cell? ⟨g, 1, none⟩ = some (.int .i64 (H : Int)) := by rw [h.blk.cell]; rfl
theorem GridAt.c2 (h : GridAt w base tg e g r c W H xs) : w.cell? ⟨g, 2, none⟩ = some (.slice (some ⟨r, 0, none⟩) (W * H) c) := by rw [h.blk.cell]; rfl
theorem GridAt.pos (h : GridAt w base tg e g r c W H xs) : 0 < W * H := Nat.mul_pos h.w1 h.h1
theorem GridAt.len (h : GridAt w base tg e g r c W H xs) : xs.length = W * H := by have := h.row.1; omega
theorem GridAt.form (h : GridAt w base tg e g r c W H xs) : W * H ≤ c ∧ c ≤ maxLen ∧ base ≤ r ∧ r < w.heap.size := by
  obtain ⟨g', e1, h1, h2, h3, h4⟩ := row_form h.row h.pos
  injection e1 with e1
  injection e1 with e1
  subst e1
  exact ⟨h1, h2, h3, h4⟩
theorem GridAt.vs (h : GridAt w base tg e g r c W H xs) : Vs w w.heap.size (some ⟨r, 0, none⟩) xs := Vs.of_own h.row
theorem GridAt.at_ (h : GridAt w base tg e g r c W H xs) {k : Nat} (hk : k < xs.length) : w.cell? ⟨r, k, none⟩ = some xs[k] := by
  obtain ⟨ad, e1, _, h2⟩ := h.vs.at_ hk
  injection e1 with e1
  subst e1
  have e2 : (⟨r, 0, none⟩ : Addr).add k = ⟨r, k, none⟩ := by unfold Addr.add; split <;> simp_all
  rw [e2] at h2
  exact h2
theorem GridAt.upd {S : Nat → Prop} (h : GridAt w base tg e g r c W H xs) (u : Upd S w w') (h1 : ¬ S g) (h2 : ¬ S r) : GridAt w' base tg e g r c W H xs :=
  ⟨h.blk.upd u h1, own_upd h.row u (fun k hk => by simp [Value.ownBlock] at hk; subst hk; exact h2), h.fresh, h.w1, h.w2, h.h1, h.h2, h.few⟩
theorem GridAt.below (h : GridAt w base tg e g r c W H xs) (hb : Below w.heap.size w w') : GridAt w' base tg e g r c W H xs :=
  h.upd (Upd.of_fresh hb) id id
theorem GridAt.low (h : GridAt w base tg e g r c W H xs) {b : Nat} (hb : b ≤ base) : GridAt w b tg e g r c W H xs := by
  refine ⟨h.blk, ?_, by have := h.fresh; omega, h.w1, h.w2, h.h1, h.h2, h.few⟩
  obtain ⟨q1, q2⟩ := h.row
  refine ⟨q1, ?_⟩
  rcases q2 with q | ⟨g', cap, cur, q1, q2, q3⟩
  · exact .inl q
  · exact .inr ⟨g', cap, cur, q1, by omega, q3⟩
end

theorem mayB_bd {x y : Int} (h : mayB x y = true) : 1 ≤ x ∧ x ≤ 4096 ∧ 1 ≤ y ∧ y ≤ 4096 ∧ x * y ≤ 65536 := by
  simp only [mayB, sideB, Bool.and_eq_true, decide_eq_true_eq] at h
  omega
theorem mayB_mul {x y : Int} (h : mayB x y = true) : ((x.toNat * y.toNat : Nat) : Int) = x * y := by
  obtain ⟨h1, _, h2, _⟩ := mayB_bd h
  rw [Int.natCast_mul, Int.toNat_of_nonneg (by omega), Int.toNat_of_nonneg (by omega)]

/-- What Of answers. -/
def OfR (w : World) (x y : Int) (n : Nat) (xs : List Value) (e : Ending) (w' : World) : Prop :=
  if mayB x y = false then e = .returned (.tuple #[.pointer none, .int .i64 4]) ∧ w' = w
  else if (n : Int) ≠ x * y then e = .returned (.tuple #[.pointer none, .int .i64 3]) ∧ w' = w
  else ∃ g r c', e = .returned (.tuple #[.pointer (some ⟨g, 0, none⟩), .int .i64 0]) ∧ GridAt w' w.heap.size 87 3 g r c' x.toNat y.toNat xs ∧ r < g ∧ Below w.heap.size w w'

set_option maxRecDepth 100000 in
set_option maxHeartbeats 1000000 in
theorem of_any (x y : Int) (A : Option Addr) (c n : Nat) (xs : List Value) (hn : xs.length = n) (hu : ∀ u ∈ xs, u.oneCell' = true) (B : Nat) (w : World) (h : Vs w B A xs) (hB : B ≤ w.heap.size) :
    Calls Try.prog 37 #[.int .i64 x, .int .i64 y, .slice A n c] w (OfR w x y n xs) := by
  go_enter Try.func37, Try.ntmps37
  go_wp2_with fail
  refine (mayBe_any x y w).mono ?_
  rintro e w1 ⟨rfl, rfl⟩
  cases hm : mayB x y with
  | false =>
    go_wp2_with fail
    go_ret2
    unfold OfR
    rw [if_pos hm]
    exact ⟨rfl, rfl⟩
  | true =>
    obtain ⟨b1, b2, b3, b4, b5⟩ := mayB_bd hm
    have hmul := mayB_mul hm
    have HR : Hid (∀ e w', (((n : Int) ≠ x * y → e = .returned (.tuple #[.pointer none, .int .i64 3]) ∧ w' = w1) ∧ ((n : Int) = x * y → ∃ g r c', e = .returned (.tuple #[.pointer (some ⟨g, 0, none⟩), .int .i64 0]) ∧ GridAt w' w1.heap.size 87 3 g r c' x.toNat y.toNat xs ∧ r < g ∧ Below w1.heap.size w1 w')) → OfR w1 x y n xs e w') := Lib.hid (by
      intro e w' ⟨k1, k2⟩
      unfold OfR
      rw [if_neg (by rw [hm]; simp)]
      split
      · rename_i k; exact k1 k
      · rename_i k; exact k2 (by simpa using k))
    have HM := Lib.hid hm
    have HMUL := Lib.hid hmul
    have b0 : 1 ≤ x * y := by
      have := Int.mul_pos (show 0 < x by omega) (show 0 < y by omega)
      omega
    have hwr : wrap64 (x * y) = x * y := IntWalk.wrap64_in _ (by omega)
    clear hm hmul
    by_cases hne : (n : Int) = x * y
    · have hnp : 0 < n := by omega
      obtain ⟨ad, rfl, _⟩ := h.at_ (k := 0) (by rw [hn]; exact hnp)
      have HX : Hid (x.toNat * y.toNat = n) := Lib.hid (by have := HMUL.out; omega)
      have HNE := Lib.hid hne
      have hn48 : n ≤ 65536 := by omega
      have d1 : ((n : Int) != x * y) = false := by simp [hne]
      clear hne
      go_wp2_with fail
      refine (cloneint_n ad c n xs hn hu B w1 h hB hnp (by omega)).mono ?_
      rintro e w2 ⟨r, c2, rfl, o2, hb2⟩
      have O2 := Lib.hid o2; have HB2 := Lib.hid hb2
      clear o2 hb2
      go_wp2_with fail
      go_ret2
      have hs := HB2.out.size
      have hrl := row_lt O2.out r rfl
      refine HR.out _ _ ⟨fun k => absurd HNE.out k, fun _ => ⟨w2.heap.size, r, c2, rfl, ⟨?_, ?_, hs, by omega, by omega, by omega, by omega, by rw [HX.out]; exact hn48⟩, hrl.2, HB2.out.alloc hs _⟩⟩
      · rw [HX.out, Int.toNat_of_nonneg (by omega), Int.toNat_of_nonneg (by omega)]
        exact Blk.new w2 _ _
      · rw [HX.out]
        exact own_upd O2.out ((Upd.refl No w2).alloc _) (fun _ _ => id)
    · have d1 : ((n : Int) != x * y) = true := by simp [hne]
      have HNE := Lib.hid hne
      clear hne
      go_wp2_with fail
      go_ret2
      exact HR.out _ _ ⟨fun _ => ⟨rfl, rfl⟩, fun k => absurd k HNE.out⟩

section
variable {w : World} {base g r c W H : Nat} {xs : List Value}
theorem w_any (h : GridAt w base 87 3 g r c W H xs) : Calls Try.prog 43 #[.pointer (some ⟨g, 0, none⟩)] w fun e w' => e = .returned (.int .i64 (W : Int)) ∧ w' = w := by
  go_enter Try.func43, Try.ntmps43
  have k0 := h.c0
  go_wp2_with fail
  go_ret
  exact ⟨rfl, rfl⟩
theorem h_any (h : GridAt w base 87 3 g r c W H xs) : Calls Try.prog 44 #[.pointer (some ⟨g, 0, none⟩)] w fun e w' => e = .returned (.int .i64 (H : Int)) ∧ w' = w := by
  go_enter Try.func44, Try.ntmps44
  have k1 := h.c1
  go_wp2_with fail
  go_ret
  exact ⟨rfl, rfl⟩
theorem cells_any (h : GridAt w base 87 3 g r c W H xs) (hu : ∀ u ∈ xs, u.oneCell' = true) : Calls Try.prog 38 #[.pointer (some ⟨g, 0, none⟩)] w fun e w' => ∃ r' c', e = .returned (.slice (some ⟨r', 0, none⟩) (W * H) c') ∧
      w'.ownsRow w.heap.size 3 1 (.slice (some ⟨r', 0, none⟩) (W * H) c') (W * H) xs ∧ Below w.heap.size w w' := by
  go_enter Try.func38, Try.ntmps38
  have k2 := h.c2
  have hp := h.pos
  have hf := h.few
  obtain ⟨n, hn⟩ : ∃ n, W * H = n := ⟨_, rfl⟩
  rw [hn] at k2 hp hf ⊢
  go_wp2_with fail
  refine (cloneint_n ⟨r, 0, none⟩ c n xs (by have := h.len; omega) hu w.heap.size w h.vs (Nat.le_refl _) hp (by omega)).mono ?_
  rintro e w2 ⟨r2, c2, rfl, o2, hb2⟩
  go_wp2_with fail
  go_ret
  exact ⟨r2, c2, rfl, o2, hb2⟩
theorem w_nil (w : World) : Calls Try.prog 43 #[.pointer none] w fun e w' => e = .returned (.int .i64 0) ∧ w' = w := by
  go_enter Try.func43, Try.ntmps43
  go_wp2_with fail
  go_ret
  exact ⟨rfl, rfl⟩
end

/-- Does a part lie within? -/
def inB (x y w h W H : Int) : Bool := decide (1 ≤ w) && decide (1 ≤ h) && decide (0 ≤ x) && decide (0 ≤ y) && decide (x ≤ W - w) && decide (y ≤ H - h)
set_option maxRecDepth 100000 in
set_option maxHeartbeats 1000000 in
theorem sizesHolds_any (W H x y p q : Int) (hW : 0 ≤ W ∧ W ≤ 4096) (hH : 0 ≤ H ∧ H ≤ 4096) (hp : p ≤ 9223372036854775807) (hq : q ≤ 9223372036854775807) (w : World) :
    Calls Try.prog 56 #[.int .i64 W, .int .i64 H, .agg #[.int .i64 x, .int .i64 y, .int .i64 p, .int .i64 q]] w fun e w' => e = .returned (.bool (inB x y p q W H)) ∧ Below w.heap.size w w' := by
  go_enter Try.func56, Try.ntmps56
  have HB := Lib.hid ((Below.refl w.heap.size w).alloc (Nat.le_refl _) (.cells #[.int .i64 x, .int .i64 y, .int .i64 p, .int .i64 q] 37))
  by_cases h1 : (1 : Int) ≤ p
  case neg =>
    have HE : Hid (inB x y p q W H = false) := Lib.hid (by simp [inB, h1])
    go_wp2_with fail
    go_ret
    exact ⟨ret_bl HE.out.symm, HB.out⟩
  by_cases h2 : (1 : Int) ≤ q
  case neg =>
    have HE : Hid (inB x y p q W H = false) := Lib.hid (by simp [inB, h2])
    go_wp2_with fail
    go_ret
    exact ⟨ret_bl HE.out.symm, HB.out⟩
  by_cases h3 : (0 : Int) ≤ x
  case neg =>
    have HE : Hid (inB x y p q W H = false) := Lib.hid (by simp [inB, h3])
    go_wp2_with fail
    go_ret
    exact ⟨ret_bl HE.out.symm, HB.out⟩
  by_cases h4 : (0 : Int) ≤ y
  case neg =>
    have HE : Hid (inB x y p q W H = false) := Lib.hid (by simp [inB, h4])
    go_wp2_with fail
    go_ret
    exact ⟨ret_bl HE.out.symm, HB.out⟩
  have s1 : wrap64 (W - p) = W - p := IntWalk.wrap64_in _ (by omega)
  have s2 : wrap64 (H - q) = H - q := IntWalk.wrap64_in _ (by omega)
  by_cases h5 : x ≤ W - p
  case neg =>
    have HE : Hid (inB x y p q W H = false) := Lib.hid (by simp [inB, h5])
    go_wp2_with fail
    go_ret
    exact ⟨ret_bl HE.out.symm, HB.out⟩
  have HE : Hid (inB x y p q W H = decide (y ≤ H - q)) := Lib.hid (by simp [inB, h1, h2, h3, h4, h5])
  go_wp2_with fail
  go_ret
  exact ⟨ret_bl HE.out.symm, HB.out⟩
set_option maxRecDepth 100000 in
set_option maxHeartbeats 1000000 in
theorem holds_any {w : World} {base g r c W H : Nat} {xs : List Value} (h : GridAt w base 87 3 g r c W H xs) (x y p q : Int) (hp : p ≤ 9223372036854775807) (hq : q ≤ 9223372036854775807) :
    Calls Try.prog 41 #[.pointer (some ⟨g, 0, none⟩), .int .i64 x, .int .i64 y, .int .i64 p, .int .i64 q] w fun e w' => e = .returned (.bool (inB x y p q W H)) ∧ Below w.heap.size w w' := by
  go_enter Try.func41, Try.ntmps41
  have hw2 := h.w2
  have hh2 := h.h2
  have HS := Lib.hid (sizesHolds_any (W : Int) (H : Int) x y p q (by omega) (by omega) hp hq w)
  go_wp2_with fail
  refine (w_any h).mono ?_
  rintro e w2 ⟨rfl, rfl⟩
  go_wp2_with fail
  refine (h_any h).mono ?_
  rintro e w3 ⟨rfl, rfl⟩
  go_wp2_with fail
  refine HS.out.mono ?_
  rintro e w4 ⟨rfl, hb⟩
  go_wp2_with fail
  go_ret
  exact ⟨rfl, hb⟩
theorem inB_bd {x y w h W H : Int} (k : inB x y w h W H = true) : 1 ≤ w ∧ 1 ≤ h ∧ 0 ≤ x ∧ 0 ≤ y ∧ x ≤ W - w ∧ y ≤ H - h := by
  simp only [inB, Bool.and_eq_true, decide_eq_true_eq] at k
  omega
end Go.Proofs.Ytfjnlbjlapbilaa
