/- Paste, the program's: the copy of an image's samples, where two runs of pixels overlap, a run copied into a row. -/
import Derived.Test.YtkfomjdmdgddlaaQi
import Derived.Test.YtkfomjdmdgddlaaQl
import Derived.Laws.CopyOwn
namespace Go.Proofs.Ytkfomjdmdgddlaa
open Go.ChangeShapes Go.WideShapes Go.ChangeAt Go.RowKit

set_option maxRecDepth 100000 in
set_option maxHeartbeats 1000000 in
theorem clone_any (r o n c : Nat) (l : List Int) (hn : l.length = n) (B : Nat) (w : World) (h : Us w B (some ⟨r, o, none⟩) l) (hB : B ≤ w.heap.size) (h0 : 0 < n) (h47 : n * 2 ≤ 140737488355328) :
    Calls Try.prog 45 #[.slice (some ⟨r, o, none⟩) n c] w fun e w' => ∃ r' c', e = .returned (.slice (some ⟨r', 0, none⟩) n c') ∧ w'.ownsRow w.heap.size 28 1 (.slice (some ⟨r', 0, none⟩) n c') n (usV l) ∧ Below w.heap.size w w' := by
  obtain ⟨i0, hi, hz0, hz1, hz2⟩ := info_parts info_u16
  have hlit := Lib.hid (World.ownsRow_made (base := w.heap.size) (e := 28) (size := 1) w #[] 0 (Nat.le_refl _) (by unfold maxLen; omega) rfl)
  have HLN := Lib.hid ((usV_length l).trans hn)
  have HV := Lib.hid h
  clear h
  have q22 : ∀ (w : World) (a : Option Addr) (n c n' c' : Nat), (binOp .eql 22 (.slice a n c) (.slice none n' c')).run Try.prog w = .ok (.bool a.isNone) w := fun w a n c n' c' => Lib.run_eql_slice_nil w _ _ a n c n' c' Try.underlying22
  go_enter Try.func45, Try.ntmps45
  go_wp2_with (at_builtin; refine wpList_append_vs _ rfl (.tmp 5) (.tmp 6) _ rfl w.heap.size 28 i0 (.int .u16 0) 2 Try.underlying22 hi hz0 hz1 hz2 rfl (.slice (some ⟨w.heap.size, 0, none⟩) 0 0) 0 [] rfl hlit.out B (some ⟨r, o, none⟩) n c (usV l) HLN.out rfl (Vs.alloc HV.out (by omega) _) (usV_one l) (by unfold maxLen; omega) (by omega) (by simp) ?_; intro A1 c1 w1 o1 hg1 _; simp only [Nat.zero_add, List.nil_append] at o1 ⊢; have HO1 := Lib.hid o1; have HG1 := Lib.hid (((Below.refl w.heap.size w).alloc (Nat.le_refl _) (.cells #[] 28)).grown hg1 (by simp) (by intro q hq; simp [Value.ownBlock] at hq; omega)); clear o1 hg1)
  go_ret
  obtain ⟨g, rfl, _⟩ := row_form HO1.out h0
  exact ⟨g, c1, rfl, HO1.out, HG1.out⟩
set_option maxRecDepth 100000 in
theorem overlap_any (x n most : Int) (w : World) :
    Calls Try.prog 46 #[.int .i64 x, .int .i64 n, .int .i64 most] w fun e w' => e = .returned (.tuple #[.int .i64 (max x 0), .int .i64 (min (wrap64 (x + n)) most)]) ∧ w' = w := by
  obtain ⟨m, hm⟩ : ∃ m, max x 0 = m := ⟨_, rfl⟩
  obtain ⟨v, hv⟩ : ∃ v, min (wrap64 (x + n)) most = v := ⟨_, rfl⟩
  rw [hm, hv]
  go_enter Try.func46, Try.ntmps46
  go_upto_region 1 with (fail)
  go_wp2_with fail
  all_goals
    exact bodyPost_ret (v := .tuple #[.int .i64 m, .int .i64 v]) (by simp [results, Try.results46, go_sem]) rfl ⟨rfl, rfl⟩
section
variable {P : Program} {w w' : World} {ops : Array Oper} {rest : List Oper} {o : Oper} {a : Act} {Q : Exit → Act → World → Prop}
/-- copy as a step of the walk, its outcome given as an equation. -/
theorem wpList_copy_eq (hgd : o.guard = none) (d s : Operand) (t : TypeId) (ho : o.op = .call { callee := .builtin .copy, args := #[d, s], argTypes := #[t, t] }) {v1 v2 v : Value} (hd : a.eval d = v1) (hs : a.eval s = v2)
    (hrun : (Builtin.copy_ #[t, t] o.type #[v1, v2]).run P w = .ok v w') (h : wpList P ops Q rest (a.put o.dst v) w') : wpList P ops Q (o :: rest) a w := by
  refine wpList_plain hgd fun K hK => ?_
  unfold Oper.wp execOp
  simp only [ho, resolve, invoke, builtin, Sem.run_bind, Sem.run_pure, Result.andThen_ok, List.map_toArray, List.map_cons, List.map_nil, hd, hs, hrun]
  exact hK _ _ h
end
theorem take_lay (cur cs : List Value) (F n : Nat) (h : F + cs.length ≤ n) (hn : n ≤ cur.length) : (cur.take F ++ cs ++ cur.drop (F + cs.length)).take n = (cur.take n).take F ++ (cs ++ (cur.take n).drop (F + cs.length)) := by
  have e1 : (cur.take n).take F = cur.take F := by rw [List.take_take, Nat.min_eq_left (by omega)]
  have e2 : (cur.take n).drop (F + cs.length) = (cur.drop (F + cs.length)).take (n - (F + cs.length)) := by rw [List.drop_take]
  rw [e1, e2, List.append_assoc, List.take_append, List.take_append, List.length_take, Nat.min_eq_left (by omega)]
  rw [List.take_of_length_le (l := cur.take F) (by rw [List.length_take]; omega), List.take_of_length_le (l := cs) (by omega), Nat.sub_sub]
theorem setRow_updU (w : World) (g : Nat) (cs : Array Value) : Upd (· = g) w (w.setRow g cs) :=
  ⟨rfl, rfl, rfl, by simp [World.setRow], fun k _ hS => setRow_other w g k cs hS⟩
/-- A list with others laid over it from a place on. -/
def spL (L : List Int) (F : Nat) (cs : List Int) : List Int := L.take F ++ (cs ++ L.drop (F + cs.length))
theorem spL_length (L : List Int) (F : Nat) (cs : List Int) (h : F + cs.length ≤ L.length) : (spL L F cs).length = L.length := by simp [spL]; omega
theorem usV_spL (L : List Int) (F : Nat) (cs : List Int) : usV (spL L F cs) = (usV L).take F ++ (usV cs ++ (usV L).drop (F + (usV cs).length)) := by
  simp [spL, usV, List.map_take, List.map_drop]
theorem spL_get (L : List Int) (F : Nat) (cs : List Int) (h : F + cs.length ≤ L.length) (t : Nat) : (spL L F cs).getD t 0 = if F ≤ t ∧ t < F + cs.length then cs.getD (t - F) 0 else L.getD t 0 := by
  have h1 : (L.take F).length = F := by rw [List.length_take]; omega
  unfold spL
  simp only [List.getD_eq_getElem?_getD]
  by_cases hc : F ≤ t ∧ t < F + cs.length
  · rw [if_pos hc, List.getElem?_append_right (by omega), h1, List.getElem?_append_left (by omega)]
  · rw [if_neg hc]
    by_cases ht : t < F
    · rw [List.getElem?_append_left (by omega), List.getElem?_take_of_lt ht]
    · rw [List.getElem?_append_right (by omega), h1, List.getElem?_append_right (by omega), List.getElem?_drop, show F + cs.length + (t - F - cs.length) = t by omega]
/-- Samples copied into a row of one's own. -/
theorem copy_us {w : World} {base r c n : Nat} {L : List Int} (h : w.ownsRow base 28 1 (.slice (some ⟨r, 0, none⟩) n c) n (usV L)) (F R dc sr so sc : Nat) (cs : List Int) (hn : cs.length = R) (hsrc : Smp w sr so cs) (hfit : F + R ≤ n) (ty : TypeId) :
    ∃ w', (Builtin.copy_ #[22, 22] ty #[.slice (some ⟨r, F, none⟩) R dc, .slice (some ⟨sr, so, none⟩) R sc]).run Try.prog w = .ok (.int .i64 (R : Int)) w' ∧ w'.ownsRow base 28 1 (.slice (some ⟨r, 0, none⟩) n c) n (usV (spL L F cs)) ∧ Upd (· = r) w w' := by
  subst hn
  rcases h.2 with ⟨h0, _⟩ | ⟨r', cap, cur, he, hb, hg, hnc, hm, hs, ht⟩
  · cases h0
  · injection he with he _ he2
    injection he with he
    injection he with he
    subst he he2
    have hcl : n ≤ cur.toList.length := by rw [Array.length_toList]; omega
    have hfit2 : F + (usV cs).length ≤ cur.size := by rw [usV_length]; rw [Array.length_toList] at hcl; omega
    have hrun := run_copy_row (P := Try.prog) w 22 22 ty 28 r F cs.length dc ⟨sr, so, none⟩ cs.length sc cur 28 (usV cs) Try.underlying22 info_u16_size hg (by rw [usV_length]; simp) (fun j v hv => by
      obtain ⟨hj, hv2⟩ := List.getElem?_eq_some_iff.1 hv
      rw [add_off, ← hv2, usV_get]
      exact hsrc j (by rwa [usV_length] at hj)) hfit2 (usV_one cs)
    rw [usV_length] at hrun
    have hu := setRow_updU w r (cur.toList.take F ++ usV cs ++ cur.toList.drop (F + cs.length)).toArray
    have hl := h.1
    refine ⟨_, hrun, ⟨?_, .inr ⟨r, c, _, rfl, hb, setRow_heap w r _ _ _ _ hg, hnc, hm, ?_, ?_⟩⟩, hu⟩
    · rw [usV_length] at hl ⊢
      rw [spL_length _ _ _ (by omega)]
      exact hl
    · rw [List.size_toArray, List.length_append, List.length_append, List.length_take, List.length_drop, Array.length_toList, usV_length]; omega
    · have e := take_lay cur.toList (usV cs) F n (by rw [usV_length]; omega) (by omega)
      rw [usV_length] at e
      simp only [Nat.mul_one] at ht ⊢
      rw [e, ht, usV_spL, usV_length]
end Go.Proofs.Ytkfomjdmdgddlaa
