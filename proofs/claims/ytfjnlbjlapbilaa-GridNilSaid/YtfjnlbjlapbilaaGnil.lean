/- A nil grid of strings answers as such: no cell, no part, nothing set, no rows, no size, for every place. -/
import Derived.Test.YtfjnlbjlapbilaaGn
import Derived.Test.YtfjnlbjlapbilaaOp
import Derived.Test.YtfjnlbjlapbilaaCt
import Derived.Deep.CondSized
import Derived.Deep.CutBlock
import Derived.Deep.QuietTactic
import Derived.BigQuiet
namespace Go.Proofs.Ytfjnlbjlapbilaa
open Go.ChangeShapes Go.WideShapes Go.ChangeAt Go.RowKit Go.Shelf
attribute [local go_sem] Oper.semAt_some
theorem upd_putObj {S : Nat → Prop} (W : World) (l : Nat) (o' : Obj) (hS : S l) : Upd S W (W.putObj l o') := (Upd.of_grown (grownBy_putObj' W l o')).mono (fun k _ e => by injection e with e; subst e; exact hS)
namespace GridNil

set_option maxHeartbeats 4000000 in
set_option maxRecDepth 100000 in
theorem walk (x y : Int) (w : World) (_ : -9223372036854775808 ≤ x ∧ x ≤ 9223372036854775807) (_ : -9223372036854775808 ≤ y ∧ y ≤ 9223372036854775807) :
    Calls Try.prog 9 #[.int .i64 x, .int .i64 y] w fun e w' => e = .returned (.bool true) ∧ Below w.heap.size w w' := by
  refine (callsIn_wide (n := 3)).1 ?_
  refine callsIn_of_wp_marks Try.func9 rfl trivial ?_ rfl
  simp only [Try.ntmps9, List.size_toArray, List.length_cons, List.length_nil, Nat.reduceAdd, Nat.reduceSub, Array.replicate_succ, Array.replicate_zero, List.push_toArray, List.append_toArray, List.nil_append, List.cons_append]
  refine wpIn_wide.2 ?_
  go_wp2_with fail
  refine (wakes_any w).mono ?_
  rintro e w1 ⟨rfl, hb1⟩
  have HB1 := Lib.hid hb1
  clear hb1
  go_wp2_with fail
  refine (atS_nil w1 x y).mono ?_
  rintro e w2 ⟨rfl, hb2⟩
  replace HB1 := Lib.hid (HB1.out.trans (hb2.mono HB1.out.size))
  clear hb2
  go_wp2_with fail
  refine (cropS_nil w2 0 0 1 1).mono ?_
  rintro e w3 ⟨rfl, rfl⟩
  go_wp2_with fail
  refine (rowsS_nil _).mono ?_
  rintro e w4 ⟨rfl, rfl⟩
  go_wp2_with fail
  obtain ⟨w5, hw5⟩ : ∃ w5 : World, (w3.alloc (.cells #[.int .i64 0] 3)).alloc (.cells #[.pointer none] 56) = w5 := ⟨_, rfl⟩
  have hs5 : w5.heap.size = w3.heap.size + 1 + 1 := by rw [← hw5]; simp
  have kn : w5.cell? ⟨w3.heap.size, 0, none⟩ = some (.int .i64 0) := by rw [← hw5, ((Blk.new w3 3 #[.int .i64 0]).alloc _).cell]; rfl
  have kg : w5.cell? ⟨w3.heap.size + 1, 0, none⟩ = some (.pointer none) := by
    have h := (Blk.new (w3.alloc (.cells #[.int .i64 0] 3)) 56 #[.pointer none]).cell 0
    rw [← hw5]
    rw [World.size_alloc] at h
    rw [h]; rfl
  have HB5 : Hid (Below w.heap.size w w5) := Lib.hid (by
    have hs := HB1.out.size
    rw [← hw5]; exact (HB1.out.alloc hs _).alloc (by simp; omega) _)
  rw [hw5]
  clear hw5 HB1
  refine wpIn_wide.1 (wpIn_range_seq (F := Fence.wide) (n := 3) rfl (by omega) (gf := 55) (lb := #[.pointer (some ⟨w3.heap.size + 1, 0, none⟩)]) rfl trivial (enters_of Try.func55 (by kernel_rfl) rfl) (fun _ => #[undef, undef]) 0
    (fun _ _ => True) (fun _ _ => trivial) (fun _ _ _ _ _ _ => trivial) (fun _ W => Upd No w5 W) ?seq (fun _ => rfl) (fun _ W o h => h.alloc o) ?ip (Upd.refl _ _) _ (fun l k W K hK => wpIn_skip hK) (fun _ _ _ h => absurd h (by omega)) ?done)
  case seq =>
    intro l J W hb _ h0
    exact rowsS1_nil Fence.wide _ trivial trivial rfl (by omega) l _ J W (by rw [hb.cell (p := ⟨w3.heap.size + 1, 0, none⟩) (by simp; omega)]; exact kg) h0 (fun W => callsIn_wide.2 (hS_nil W))
  case ip =>
    intro _ W l o o' hl _ _ h
    exact h.then (upd_putObj (S := fun k => w5.heap.size ≤ k) W l o' hl) (fun i hi h => absurd hi (by omega))
  case done =>
    intro D W hD hU hK
    have kn2 : W.cell? ⟨w3.heap.size, 0, none⟩ = some (.int .i64 0) := (World.cell?_of_block (a := ⟨w3.heap.size, 0, none⟩) (hU.block w3.heap.size (by omega) id)).trans kn
    have HBW : Hid (Below w.heap.size w W) := Lib.hid (HB5.out.trans (hU.below HB5.out.size (fun _ _ => id)))
    have HK := Lib.hid hK
    clear hK kn kg
    go_upto_region 9 with (fail)
    obtain ⟨U, Wf, hU0, hU1, hU2⟩ := names_of W
    have HSet : Hid (∀ u, Calls Try.prog 35 #[.pointer none, .int .i64 x, .int .i64 y, .string ⟨#[97]⟩] (Wf u) fun e w' => e = .returned (.bool false) ∧ ∃ u', w' = Wf u') := Lib.hid (fun u => (setS_nil (Wf u) x y _).mono (fun e w' ⟨h1, h2⟩ => ⟨h1, hU2 u w' h2⟩))
    have HPas : Hid (∀ u, Calls Try.prog 36 #[.pointer none, .int .i64 0, .int .i64 0, .pointer none] (Wf u) fun e w' => e = .returned (.int .i64 1) ∧ ∃ u', w' = Wf u') := Lib.hid (fun u => (pasteS_nil (Wf u) 0 0).mono (fun e w' ⟨h1, h2⟩ => ⟨h1, hU2 u w' (same_below h2)⟩))
    have HWn : Hid (∀ u, Calls Try.prog 26 #[.pointer none] (Wf u) fun e w' => e = .returned (.int .i64 0) ∧ ∃ u', w' = Wf u') := Lib.hid (fun u => (wS_nil (Wf u)).mono (fun e w' ⟨h1, h2⟩ => ⟨h1, hU2 u w' (same_below h2)⟩))
    have HHn : Hid (∀ u, Calls Try.prog 27 #[.pointer none] (Wf u) fun e w' => e = .returned (.int .i64 0) ∧ ∃ u', w' = Wf u') := Lib.hid (fun u => (hS_nil (Wf u)).mono (fun e w' ⟨h1, h2⟩ => ⟨h1, hU2 u w' (same_below h2)⟩))
    have HCe : Hid (∀ u, Calls Try.prog 28 #[.pointer none] (Wf u) fun e w' => e = .returned (.slice none 0 0) ∧ ∃ u', w' = Wf u') := Lib.hid (fun u => (cellsS_nil (Wf u)).mono (fun e w' ⟨h1, h2⟩ => ⟨h1, hU2 u w' (same_below h2)⟩))
    have kn3 : ∀ u, (Wf u).cell? ⟨w3.heap.size, 0, none⟩ = some (.int .i64 0) := fun u => (World.cell?_of_block (a := ⟨w3.heap.size, 0, none⟩) ((hU1 u).block w3.heap.size (by have := hU.size; omega) id)).trans kn2
    have HF : Hid (∀ u, Below w.heap.size w (Wf u) ∧ (Wf u).heap[D]? = some (.deferred (some []))) := Lib.hid (fun u => ⟨HBW.out.trans ((hU1 u).fresh.mono HBW.out.size), ((hU1 u).block D (Array.getElem?_eq_some_iff.1 HK.out).1 id).trans HK.out⟩)
    have HU0 := Lib.hid hU0
    have hne : Nonempty U := by obtain ⟨u, _⟩ := hU0; exact ⟨u⟩
    clear hU0 hU1 hU2 kn2 hU
    refine wp_region_class (fun w' => ∃ u, w' = Wf u) 41 (by kernel_rfl) (by kernel_rfl) HU0.out ?_
    simp only [List.take_succ_cons, List.take_zero, List.drop_succ_cons, List.drop_zero]
    repeat (go_big_quiet_step (fail))
    go_big_quiet_want
    go_big_quiet_op
    refine ⟨_, HSet.out, ?_⟩
    go_big_quiet_on
    repeat (go_big_quiet_step (fail))
    go_big_quiet_want
    go_big_quiet_op
    refine ⟨_, HPas.out, ?_⟩
    go_big_quiet_on
    repeat (go_big_quiet_step (fail))
    go_big_quiet_want
    go_big_quiet_op
    refine ⟨_, HWn.out, ?_⟩
    go_big_quiet_on
    repeat (go_big_quiet_step (fail))
    go_big_quiet_want
    go_big_quiet_op
    refine ⟨_, HHn.out, ?_⟩
    go_big_quiet_on
    repeat (go_big_quiet_step (fail))
    go_big_quiet_want
    go_big_quiet_op
    refine ⟨_, HCe.out, ?_⟩
    go_big_quiet_on
    repeat (go_big_quiet_step (fail))
    refine wpQuiet_nil ?_
    rintro _ ⟨u, rfl⟩
    go_wp2_with fail
    obtain ⟨hbu, hku⟩ := HF.out u
    refine ⟨by simp, .inl ⟨_, _, rfl, run_takeDeferred hku, ?_⟩⟩
    have hs0 := HB5.out.size
    exact ⟨_, results_tmp rfl _ _ _, rfl, hbu.trans ((upd_putObj (S := fun k => w.heap.size ≤ k) (Wf u) D (.deferred none) (by omega)).below hbu.size (fun k hk h => by omega))⟩

set_option maxRecDepth 100000 in
theorem lifted (os : Os) (started : os.Started) (H : Type) (enc : TypeId × Value → H) :
    ReturnsInHanded {} Try.checked os 9 .any (Rows.gridNilSpec.pre6 enc Try.prog Try.f9 Rows.gridNilRow.domain false) (Rows.gridNilSpec.post enc Try.prog Try.f9 false true false false) := by
  refine returnsInHanded_of_change (C := Try.checked) prog_own started (by kernel_rfl) Try.func9
    (ChangeSpec.witness6 (enc := enc) (C := Try.checked) false ⟨#[], #[.int .i64 0, .int .i64 0], []⟩ 8 (by kernel_rfl) (by kernel_rfl) (by kernel_rfl) (by kernel_rfl)) ?_
  intro W base args ds gs before hval0 hW hcnd _
  have hval : ∀ (j : Nat) t v, Try.f9.params[j]? = some t → args[j]? = some v → Value.okWide Try.prog W .any base t v := hval0
  have hW' := hW
  obtain ⟨p, q, hA0, hV, rfl, hfz, hnd⟩ := hW
  have hA : DataW.TrodAll enc Try.prog W 0 (fun _ => true) true Try.f9.params.toList args.toList ds p := hA0
  rw [Try.params9] at hA hval
  obtain ⟨v0, vs0, d0, ds0, p0, q0, hargs, rfl, rfl, h0, r0⟩ := trodAll_cons hA
  obtain ⟨v1, vs1, d1, ds1, p1, q1, rfl, rfl, rfl, h1, r1⟩ := trodAll_cons r0
  obtain ⟨rfl, rfl, rfl⟩ := trodAll_nil r1
  obtain rfl : args = #[v0, v1] := by cases args; simp_all
  obtain ⟨rfl, rfl⟩ := trodVars_none hV
  obtain ⟨a0, rfl, rfl, rfl, w0⟩ := open_int Try.underlying3 (hval 0 3 v0 rfl rfl) h0
  obtain ⟨a1, rfl, rfl, rfl, w1⟩ := open_int Try.underlying3 (hval 1 3 v1 rfl rfl) h1
  clear hA0 hval0
  refine (walk a0 a1 W (bounds_i64 w0) (bounds_i64 w1)).mono fun e W' ⟨he, bel⟩ => ?_
  subst he
  exact ⟨_, rfl, _, _, _, [], _, [], hW', trodAll_mk1 (shut_bool Try.underlying4 _), (trodAll_cons_mk (shut_int Try.underlying3 w0) (trodAll_cons_mk (shut_int Try.underlying3 w1) trodAll_mk0)), rfl, bel.frame _, fun h => by cases h⟩

theorem over : Rows.gridNilRow.holds Try.pinned (OpenSpec.ofChange Rows.gridNilSpec) :=
  OpenClaim.holds_of_wide 9 Try.f9 rfl rfl rfl rfl rfl rfl rfl ⟨rfl, rfl, rfl, rfl, rfl⟩ rfl rfl rfl rfl rfl (by kernel_rfl) Try.func9 (by kernel_rfl)
    (of_decide_eq_true (by kernel_rfl)) (by unfold Func.isWrapper; first | (rw [if_pos (by decide +kernel)]; kernel_rfl) | (rw [if_neg (by decide +kernel)]; exact ⟨rfl, rfl⟩))
    (fun os started H enc _ => lifted os started H enc)
end GridNil

theorem gridNil_holds : Rows.GridNilSaid := GridNil.over
#print axioms gridNil_holds
end Go.Proofs.Ytfjnlbjlapbilaa
