/- Paste, the program's, walked: into another grid, and of a grid into itself. -/
import Derived.Test.YtfjnlbjlapbilaaGpa
import Derived.Test.YtfjnlbjlapbilaaCt
namespace Go.Proofs.Ytfjnlbjlapbilaa
open Go.ChangeShapes Go.WideShapes Go.ChangeAt Go.RowKit

/-- The worlds that a world becomes where nothing of it is changed, each by a name. -/
theorem names_of (wr : World) : ∃ (U : Type) (Wf : U → World), (∃ u, wr.drew = Wf u) ∧ (∀ u, Upd No wr (Wf u)) ∧ ∀ u w', Below (Wf u).heap.size (Wf u) w' → ∃ u', w' = Wf u' :=
  ⟨{ w' : World // Upd No wr w' }, Subtype.val, ⟨⟨wr.drew, (Upd.refl No wr).drew⟩, rfl⟩, fun u => u.2, fun u w' h => ⟨⟨w', u.2.trans (Upd.of_fresh h)⟩, rfl⟩⟩
theorem GridAt.run_src {w : World} {base : Nat} {tg : TypeId} {g r c W H : Nat} {xs : List Value} (h : GridAt w base tg 3 g r c W H xs) {F P : Nat} (_ : F + P ≤ W * H) : ∀ j v, ((xs.drop F).take P)[j]? = some v → w.cell? ((⟨r, F, none⟩ : Addr).add j) = some v := by
  intro j v hv
  obtain ⟨hj, hv2⟩ := List.getElem?_eq_some_iff.1 hv
  rw [List.length_take, List.length_drop] at hj
  have e2 : (⟨r, F, none⟩ : Addr).add j = ⟨r, F + j, none⟩ := by unfold Addr.add; split <;> simp_all
  rw [e2, h.at_ (k := F + j) (by omega), ← hv2]
  simp [List.getElem_take, List.getElem_drop]
theorem run_zero {w : World} {base g r c W H : Nat} {xs : List Value} (h : GridAt w base 87 3 g r c W H xs) (k n : Nat) (hn : 1 ≤ n) (hx : n ≤ W) (hk : k < H) :
    Calls Try.prog 42 #[.pointer (some ⟨g, 0, none⟩), .int .i64 0, .int .i64 (k : Int), .int .i64 (n : Int)] w fun e w' => e = .returned (.slice (some ⟨r, k * W, none⟩) n (c - k * W)) ∧ w' = w :=
  run_any h 0 k n hn (by omega) hk
set_option maxRecDepth 100000 in
set_option maxHeartbeats 2000000 in
/-- Paste, of whatever rows: what both grids hold behind k rows is told by xs and ys. -/
theorem paste_gen {w : World} {base base' g r c g' r' c' W H P Q : Nat} (xs ys : Nat → List Value) (h : GridAt w base 87 3 g r c W H (xs 0)) (h' : GridAt w base' 87 3 g' r' c' P Q (ys 0)) (X Y : Nat) (hx : X + P ≤ W) (hy : Y + Q ≤ H)
    (hone : ∀ k, ∀ u ∈ ys k, u.oneCell' = true)
    (hstep : ∀ k, k < Q → ∀ w1 w2, GridAt w1 base' 87 3 g' r' c' P Q (ys k) → Upd (· = r) w1 w2 → GridAt w2 base 87 3 g r c W H (splice (xs k) ((Y + k) * W + X) (((ys k).drop (k * P)).take P)) →
      GridAt w2 base 87 3 g r c W H (xs (k + 1)) ∧ GridAt w2 base' 87 3 g' r' c' P Q (ys (k + 1))) :
    Calls Try.prog 19 #[.pointer (some ⟨g, 0, none⟩), .int .i64 (X : Int), .int .i64 (Y : Int), .pointer (some ⟨g', 0, none⟩)] w fun e w' => e = .returned (.int .i64 0) ∧ GridAt w' base 87 3 g r c W H (xs Q) ∧ Upd (· = r) w w' := by
  go_enter Try.func19, Try.ntmps19
  have hi : inB (X : Int) (Y : Int) (P : Int) (Q : Int) W H = true := by
    have := h'.w1; have := h'.h1
    simp only [inB, Bool.and_eq_true, decide_eq_true_eq]
    omega
  obtain ⟨U, Wf, hU0, hU1, hU2⟩ := names_of w
  have HH : Hid (∀ u, Calls Try.prog 41 #[.pointer (some ⟨g, 0, none⟩), .int .i64 (X : Int), .int .i64 (Y : Int), .int .i64 (P : Int), .int .i64 (Q : Int)] (Wf u) fun e w' => e = .returned (.bool true) ∧ ∃ u', w' = Wf u') := Lib.hid (fun u => by
    have := holds_any (h.upd (hU1 u) id id) (X : Int) (Y : Int) (P : Int) (Q : Int) (by have := h'.w2; omega) (by have := h'.h2; omega)
    rw [hi] at this
    exact this.mono (fun e w' ⟨h1, h2⟩ => ⟨h1, hU2 u w' h2⟩))
  have HXY := Lib.hid (And.intro hx hy)
  have hp1 := h'.w1
  have hp2 := h'.w2
  have hq2 := h'.h2
  have HGu : Hid (∀ u, GridAt (Wf u) base 87 3 g r c W H (xs 0)) := Lib.hid (fun u => h.upd (hU1 u) id id)
  have HGu' : Hid (∀ u, GridAt (Wf u) base' 87 3 g' r' c' P Q (ys 0)) := Lib.hid (fun u => h'.upd (hU1 u) id id)
  have HUu : Hid (∀ u, Upd (· = r) w (Wf u)) := Lib.hid (fun u => (hU1 u).mono (fun _ _ h => h.elim))
  have k0 := fun u => (HGu'.out u).c0
  have k1 := fun u => (HGu'.out u).c1
  have HU0 := Lib.hid hU0
  have hne : Nonempty U := by obtain ⟨u, _⟩ := hU0; exact ⟨u⟩
  clear h h' hi hx hy hU0 hU1 hU2
  go_upto_region 3 with (fail)
  refine wp_region_class (fun w' => ∃ u, w' = Wf u) 12 (by kernel_rfl) (by kernel_rfl) HU0.out ?_
  simp only [List.take_succ_cons, List.take_zero, List.drop_succ_cons, List.drop_zero]
  repeat (go_big_quiet_step (fail))
  go_big_quiet_want
  go_big_quiet_op
  refine ⟨_, HH.out, ?_⟩
  go_big_quiet_on
  repeat (go_big_quiet_step (fail))
  refine wpQuiet_nil ?_
  rintro _ ⟨u, rfl⟩
  have HGn := Lib.hid (HGu.out u)
  have HGn' := Lib.hid (HGu'.out u)
  have HU0 := Lib.hid (HUu.out u)
  have k1 := k1 u
  go_wp2_with fail
  obtain ⟨W0, hW0⟩ : ∃ W0 : World, Wf u = W0 := ⟨_, rfl⟩
  rw [hW0] at HU0 HGn HGn' ⊢
  clear hW0 HH HGu HGu' HUu k0 k1
  go_loopw [33] (fun i wr => ∃ k : Nat, k ≤ Q ∧ i = .int .i64 (k : Int) ∧ Hid (GridAt wr base 87 3 g r c W H (xs k)) ∧ Hid (GridAt wr base' 87 3 g' r' c' P Q (ys k)) ∧ Hid (Upd (· = r) w wr)) (fun i _ => Q - (intOf i).toNat)
  case atStart => exact ⟨0, Nat.zero_le _, rfl, HGn, HGn', HU0⟩
  case round =>
    obtain ⟨k, hk, rfl, HA, HB, HU⟩ := hrel
    by_cases hlt : k < Q
    · obtain ⟨Z, hZ⟩ : ∃ Z, Y + k = Z := ⟨_, rfl⟩
      have hZ' : (Y : Int) + (k : Int) = (Z : Int) := by omega
      have hZH : Z < H := by have := HXY.out.2; omega
      have hpl := place_lt HXY.out.1 hZH
      have hql := place_lt (W := P) (H := Q) (X := 0) (Y := k) (n := P) (by omega) hlt
      rw [Nat.add_zero] at hql
      have HR1 := Lib.hid (run_at (HA.out.upd ((Upd.refl No wr).drew) id id) X Z P (wrap64 (Z : Int)) (IntWalk.wrap64_in _ (by have := HA.out.h2; omega)) hp1 HXY.out.1 hZH)
      have HR2 := Lib.hid (run_zero (HB.out.upd ((Upd.refl No wr).drew) id id) k P hp1 (Nat.le_refl _) hlt)
      have j0 := HB.out.c0
      have hcl : (((ys k).drop (k * P)).take P).length = P := by rw [List.length_take, List.length_drop, HB.out.len]; omega
      obtain ⟨w4, hrun, hG4, hU4⟩ := copy_part (w := wr.drew) (by decide) (HA.out.upd ((Upd.refl No wr).drew) id id) (Z * W + X) P (c - (Z * W + X)) (c' - k * P) ⟨r', k * P, none⟩ _ hcl ((HB.out.upd ((Upd.refl No wr).drew) id id).run_src hql) hpl (fun u hu => hone k u (List.mem_of_mem_drop (List.mem_of_mem_take hu))) 3
      obtain ⟨hA4, hB4⟩ := hstep k hlt wr.drew w4 (HB.out.upd ((Upd.refl No wr).drew) id id) hU4 (by rw [hZ]; exact hG4)
      have HA4 := Lib.hid hA4
      have HB4 := Lib.hid hB4
      have HU4 := Lib.hid (HU.out.trans (((Upd.refl _ wr).drew).trans hU4))
      have HRN := Lib.hid hrun
      clear hA4 hB4 hU4 hG4 hcl hrun hpl hql
      go_wp2_with fail
      refine wp_region_tail 17 (by kernel_rfl) (by kernel_rfl) ?_
      simp only [List.take_succ_cons, List.take_zero, List.drop_succ_cons, List.drop_zero]
      repeat (go_big_quiet_step (fail))
      go_big_quiet_want
      go_big_quiet_op
      refine ⟨_, HR1.out, ?_⟩
      go_big_quiet_on
      repeat (go_big_quiet_step (fail))
      go_big_quiet_want
      go_big_quiet_op
      refine ⟨_, HR2.out, ?_⟩
      go_big_quiet_on
      repeat (go_big_quiet_step (fail))
      refine wpQuiet_nil ?_
      refine wpList_copy_run rfl (.tmp 45) (.tmp 52) _ rfl rfl rfl HRN.out ?_
      go_wp2_with fail
      go_roundw
      case rel => exact ⟨k + 1, by omega, by go_num, HA4, HB4, HU4⟩
      case measure => simp [intOf]; omega
    · obtain rfl : k = Q := by omega
      go_wp2_with fail
      go_ret
      exact ⟨rfl, HA.out, HU.out⟩
theorem grid_row_ne {w : World} {base base' g r c g' r' c' W H P Q : Nat} {xs ys : List Value} (h : GridAt w base 87 3 g r c W H xs) (h' : GridAt w base' 87 3 g' r' c' P Q ys) : ¬ g' = r := fun e => by
  subst e
  exact own_blk_ne h.row h'.blk (by decide) rfl
/-- What Paste answers and leaves behind. -/
def PasteR (w : World) (base g r c W H : Nat) (l m : List Int) (P Q : Nat) (x y : Int) (e : Ending) (w' : World) : Prop :=
  if inB x y P Q W H = false then e = .returned (.int .i64 2) ∧ Below w.heap.size w w'
  else e = .returned (.int .i64 0) ∧ GridAt w' base 87 3 g r c W H (intsV (pasteL l W x.toNat y.toNat m P Q)) ∧ Upd (· = r) w w'
set_option maxRecDepth 100000 in
set_option maxHeartbeats 2000000 in
theorem paste_any {w : World} {base base' g r c g' r' c' W H P Q : Nat} {l m : List Int} (h : GridAt w base 87 3 g r c W H (intsV l)) (h' : GridAt w base' 87 3 g' r' c' P Q (intsV m)) (hne : ¬ r' = r) (x y : Int) :
    Calls Try.prog 19 #[.pointer (some ⟨g, 0, none⟩), .int .i64 x, .int .i64 y, .pointer (some ⟨g', 0, none⟩)] w (PasteR w base g r c W H l m P Q x y) := by
  cases hi : inB x y P Q W H with
  | true =>
    obtain ⟨i1, i2, i3, i4, i5, i6⟩ := inB_bd hi
    obtain ⟨X, rfl⟩ : ∃ X : Nat, x = (X : Int) := ⟨x.toNat, by omega⟩
    obtain ⟨Y, rfl⟩ : ∃ Y : Nat, y = (Y : Int) := ⟨y.toNat, by omega⟩
    refine (paste_gen (fun k => intsV (pasteL l W X Y m P k)) (fun _ => intsV m) h h' X Y (by omega) (by omega) (fun _ => intsV_one m) ?_).mono ?_
    · intro k hk w1 w2 hB hU hA
      refine ⟨?_, hB.upd hU (grid_row_ne h h') hne⟩
      rw [intsV_part, splice_ints] at hA
      exact hA
    · intro e w' hq
      unfold PasteR
      rw [if_neg (by rw [hi]; simp)]
      simp only [Int.toNat_natCast]
      exact hq
  | false =>
    have HI := Lib.hid hi
    obtain ⟨U, Wf, hU0, hU1, hU2⟩ := names_of w
    have HH : Hid (∀ u, Calls Try.prog 41 #[.pointer (some ⟨g, 0, none⟩), .int .i64 x, .int .i64 y, .int .i64 (P : Int), .int .i64 (Q : Int)] (Wf u) fun e w' => e = .returned (.bool false) ∧ ∃ u', w' = Wf u') := Lib.hid (fun u => by
      have := holds_any (h.upd (hU1 u) id id) x y (P : Int) (Q : Int) (by have := h'.w2; omega) (by have := h'.h2; omega)
      rw [hi] at this
      exact this.mono (fun e w' ⟨h1, h2⟩ => ⟨h1, hU2 u w' h2⟩))
    have HBu : Hid (∀ u, Below w.heap.size w (Wf u)) := Lib.hid (fun u => (hU1 u).fresh)
    have k0 := fun u => (h'.upd (hU1 u) id id).c0
    have k1 := fun u => (h'.upd (hU1 u) id id).c1
    have HU0 := Lib.hid hU0
    have hne : Nonempty U := by obtain ⟨u, _⟩ := hU0; exact ⟨u⟩
    clear hi h h' hU0 hU1 hU2
    go_enter Try.func19, Try.ntmps19
    go_upto_region 3 with (fail)
    refine wp_region_class (fun w' => ∃ u, w' = Wf u) 12 (by kernel_rfl) (by kernel_rfl) HU0.out ?_
    simp only [List.take_succ_cons, List.take_zero, List.drop_succ_cons, List.drop_zero]
    repeat (go_big_quiet_step (fail))
    go_big_quiet_want
    go_big_quiet_op
    refine ⟨_, HH.out, ?_⟩
    go_big_quiet_on
    repeat (go_big_quiet_step (fail))
    refine wpQuiet_nil ?_
    rintro _ ⟨u, rfl⟩
    clear k0 k1 HH
    go_wp2_with fail
    go_ret
    unfold PasteR
    rw [if_pos HI.out]
    exact ⟨rfl, HBu.out u⟩
theorem paste_self {w : World} {base g r c W H : Nat} {l : List Int} (h : GridAt w base 87 3 g r c W H (intsV l)) :
    Calls Try.prog 19 #[.pointer (some ⟨g, 0, none⟩), .int .i64 0, .int .i64 0, .pointer (some ⟨g, 0, none⟩)] w fun e w' => e = .returned (.int .i64 0) ∧ GridAt w' base 87 3 g r c W H (intsV l) ∧ Upd (· = r) w w' := by
  have hl := h.len
  rw [intsV_length] at hl
  refine paste_gen (fun _ => intsV l) (fun _ => intsV l) h h 0 0 (by omega) (by omega) (fun _ => intsV_one l) ?_
  intro k hk w1 w2 hB hU hA
  have hp := place_lt (W := W) (H := H) (X := 0) (Y := k) (n := W) (by omega) hk
  rw [intsV_part, splice_ints, Nat.zero_add, Nat.add_zero, spL_same l (k * W) W (by rw [hl]; omega)] at hA
  exact ⟨hA, hA⟩
theorem paste_nil {w : World} {base g r c W H : Nat} {xs : List Value} (_ : GridAt w base 87 3 g r c W H xs) :
    Calls Try.prog 19 #[.pointer (some ⟨g, 0, none⟩), .int .i64 0, .int .i64 0, .pointer none] w fun e w' => e = .returned (.int .i64 1) ∧ w' = w := by
  go_enter Try.func19, Try.ntmps19
  go_wp2_with fail
  go_ret
  exact ⟨rfl, rfl⟩
end Go.Proofs.Ytfjnlbjlapbilaa
