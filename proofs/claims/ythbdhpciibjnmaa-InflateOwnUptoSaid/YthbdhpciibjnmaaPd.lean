/- Contract of the program's New: a decoder by the places of the lengths. -/
import Derived.Test.YthbdhpciibjnmaaPc
import Derived.Deep.RegionHeld3
import Derived.Deep.OwnRows
namespace Go.Proofs.Ythbdhpciibjnmaa
open Go.ChangeShapes Go.WideShapes Go.ChangeAt Go.RowKit

/-- How many symbols have a code. -/
def totN (l : List Int) : Nat := ahdN l 17
theorem ahdN_mono (l : List Int) (n m : Nat) (h : n ≤ m) : ahdN l n ≤ ahdN l m := by
  induction m with
  | zero => obtain rfl : n = 0 := by omega
            exact Nat.le_refl _
  | succ m ih =>
    by_cases e : n = m + 1
    · subst e; exact Nat.le_refl _
    · have := ih (by omega)
      rw [ahdN]; omega
theorem cntZ_take_le (l : List Int) (k n : Nat) : cntZ (l.take k) n ≤ cntZ l n := by
  unfold cntZ
  split
  · omega
  · exact (List.take_sublist k l).countP_le
/-- The symbols of the first k lengths at their places. -/
def Placed (l : List Int) (k : Nat) (S : List Int) : Prop := S.length = totN l ∧ ∀ n r, 1 ≤ n → n ≤ 16 → r < cntZ (l.take k) n → S[ahdN l n + r]? = (symsBelow l n k)[r]?.map fun s : Nat => (s : Int)
theorem place_lt (l : List Int) (k n r : Nat) (hn : n ≤ 16) (hr : r < cntZ (l.take k) n) : ahdN l n + r < totN l := by
  have h1 := cntZ_take_le l k n
  have h2 := ahdN_mono l (n + 1) 17 (by omega)
  rw [ahdN] at h2
  unfold totN
  omega
theorem placed_zero (l : List Int) : Placed l 0 (List.replicate (totN l) 0) := ⟨by simp, fun n r _ _ hr => by simp [cntZ, cntN] at hr⟩
theorem placed_skip (l : List Int) (k : Nat) (S : List Int) (hk : k < l.length) (hx : ¬ 0 < l[k]) (h : Placed l k S) : Placed l (k + 1) S := by
  refine ⟨h.1, fun n r h1 h2 hr => ?_⟩
  rw [cntZ_skip l k n hk hx] at hr
  rw [symsBelow_succ l n k hk, if_neg (by omega), List.append_nil]
  exact h.2 n r h1 h2 hr
theorem cntZ_symsBelow (l : List Int) (n k : Nat) (hn : 0 < n) (hk : k ≤ l.length) : cntZ (l.take k) n = (symsBelow l n k).length := by
  rw [symsBelow_length l n k hk]
  unfold cntZ rank
  rw [if_neg (by omega)]
theorem placed_step (l : List Int) (k m : Nat) (S : List Int) (hk : k < l.length) (hm : 0 < m) (hm16 : m ≤ 16) (hx : l[k] = (m : Int)) (h : Placed l k S) : Placed l (k + 1) (S.set (ahdN l m + cntZ (l.take k) m) (k : Int)) := by
  refine ⟨by simpa using h.1, fun n r h1 h2 hr => ?_⟩
  have hplt : ahdN l m + cntZ (l.take k) m < totN l := place_lt l (k + 1) m _ hm16 (by rw [cntZ_step l k m m hk hm hx, if_pos rfl]; omega)
  rw [cntZ_step l k m n hk hm hx] at hr
  rw [List.getElem?_set]
  by_cases e : n = m
  · subst e
    rw [if_pos rfl] at hr
    rw [symsBelow_succ l n k hk, if_pos hx]
    by_cases e2 : r = cntZ (l.take k) n
    · subst e2
      rw [if_pos rfl, if_pos (by have := h.1; omega), cntZ_symsBelow l n k hm (by omega), List.getElem?_append_right (Nat.le_refl _), Nat.sub_self]
      rfl
    · rw [if_neg (by omega), List.getElem?_append_left (by rw [← cntZ_symsBelow l n k hm (by omega)]; omega)]
      exact h.2 n r h1 h2 (by omega)
  · rw [if_neg e, Nat.add_zero] at hr
    have hne : ¬ l[k] = (n : Int) := by omega
    rw [symsBelow_succ l n k hk, if_neg hne, List.append_nil, if_neg ?_]
    · exact h.2 n r h1 h2 hr
    · have a1 := cntZ_take_le l k n
      have a2 := cntZ_take_le l k m
      intro e3
      have a3 : cntZ (l.take k) m + 1 ≤ cntZ l m := by
        have := cntZ_take_le l (k + 1) m
        rw [cntZ_step l k m m hk hm hx, if_pos rfl] at this
        exact this
      rcases Nat.lt_or_ge n m with c | c
      · have := ahdN_mono l (n + 1) m c
        rw [ahdN] at this
        omega
      · have := ahdN_mono l (m + 1) n (by omega)
        rw [ahdN] at this
        omega
theorem placed_all (l : List Int) (S : List Int) (h : Placed l l.length S) (n r : Nat) (h1 : 1 ≤ n) (h2 : n ≤ 16) (hr : r < cntN l n) : S[ahdN l n + r]? = some (((syms l n).getD r 0 : Nat) : Int) := by
  have h3 := h.2 n r h1 h2 (by rw [List.take_length]; unfold cntZ; rw [if_neg (by omega)]; exact hr)
  rw [h3]
  have hl : (syms l n).length = cntN l n := by unfold syms; rw [symsBelow_length l n l.length (Nat.le_refl _), rank_all]
  unfold syms at hl ⊢
  rw [List.getD, List.getElem?_eq_getElem (by omega)]
  rfl

/-- The cells of a decoder. -/
def decL (l : List Int) (A : Option Addr) (c : Nat) : List Value := intsV (layL l) ++ [.int .i64 ((endN l 16 : Nat) : Int), .slice A (totN l) c]
/-- A decoder of the lengths l stands in block g. -/
def DecAt (w : World) (base g : Nat) (l : List Int) : Prop :=
  ∃ A c S, Blk w g 129 (decL l A c).toArray ∧ w.ownsRow base 3 1 (.slice A (totN l) c) (totN l) (intsV S) ∧ Placed l l.length S ∧ base ≤ g
theorem layL_map (l : List Int) : intsV (layL l) = (List.range 51).map fun i => Value.int .i64 (layF l l.length 16 16 i) := by
  unfold layL layN intsV
  rw [List.map_map]
  rfl
theorem built_dec (f : Nat → Value) (n : Int) (A : Option Addr) (t c : Nat) : Try.prog.built 129 [(0, .agg ((List.range 51).map f).toArray), (1, .int .i64 n), (2, .slice A t c)] = some ((List.range 51).map f ++ [Value.int .i64 n, Value.slice A t c]).toArray := by kernel_rfl
theorem run_build_dec (l : List Int) (n : Int) (A : Option Addr) (t c : Nat) (w : World) : (Instr.build 129 #[(0, .agg (intsV (layL l)).toArray), (1, .int .i64 n), (2, .slice A t c)]).run Try.prog w = .ok (.agg (intsV (layL l) ++ [Value.int .i64 n, Value.slice A t c]).toArray) w := by
  refine run_build w 129 _ _ ?_
  rw [layL_map]
  exact built_dec _ n A t c
theorem yields_build {P : Program} {ρ : Operand → Value} {o : Oper} {t : TypeId} {i1 i2 i3 : Nat} {x1 x2 x3 : Operand} {cells : Array Value} {w : World} (ho : o.op = .build t #[(i1, x1), (i2, x2), (i3, x3)]) (h : (Instr.build t #[(i1, ρ x1), (i2, ρ x2), (i3, ρ x3)]).run P w = .ok (.agg cells) w) : (execOp ρ o).run P w = .ok (.value (.agg cells)) w := by
  unfold execOp
  simp [ho, h]
/-- What the making of a decoder reads: the whole layout in block g, and three of its numbers. -/
def LayS (l : List Int) (g F C D : Nat) (w : World) : Prop :=
  w.rangeAt g 0 (intsV (layL l)) ∧ w.cell? ⟨g, 33, none⟩ = some (.int .i64 (F : Int)) ∧ w.cell? ⟨g, 16, none⟩ = some (.int .i64 (C : Int)) ∧ w.cell? ⟨g, 50, none⟩ = some (.int .i64 (D : Int))
theorem LayS.alloc {l : List Int} {g F C D : Nat} {w : World} (h : LayS l g F C D w) (o : Obj) : LayS l g F C D (w.alloc o) := by
  obtain ⟨h1, h2, h3, h4⟩ := h
  exact ⟨World.rangeAt_alloc h1 o, (World.cell?_alloc_lt w o _ (World.block_lt_of_cell? w _ h2)).trans h2, (World.cell?_alloc_lt w o _ (World.block_lt_of_cell? w _ h3)).trans h3, (World.cell?_alloc_lt w o _ (World.block_lt_of_cell? w _ h4)).trans h4⟩
theorem field_ahead (cs : Array Value) (w : World) : (Instr.field 127 (.agg cs) 2).run Try.prog w = .ok (.agg (cs.extract 34 51)) w := by kernel_rfl
def NewRes (w : World) (l : List Int) (e : Ending) (w' : World) : Prop :=
  if codesErr l = 0 then ∃ g, e = .returned (.tuple #[.pointer (some ⟨g, 0, none⟩), .int .i64 0]) ∧ DecAt w' w.heap.size g l ∧ Below w.heap.size w w'
  else e = .returned (.tuple #[.pointer none, .int .i64 (codesErr l)]) ∧ Below w.heap.size w w'
theorem fst_cnt (l : List Int) : fstN l 16 + cntZ l 16 = endN l 16 := by
  unfold fstN cntZ
  rw [if_neg (by omega)]
  rfl
theorem ahd_cnt (l : List Int) : ahdN l 16 + cntZ l 16 = totN l := rfl

theorem blk_third' (w : World) (o o' : Obj) (t : TypeId) (cs : Array Value) : Blk (((w.alloc o).alloc o').alloc (.cells cs t)) (w.heap.size + 1 + 1) t cs := by
  have h := Blk.new ((w.alloc o).alloc o') t cs
  have e : ((w.alloc o).alloc o').heap.size = w.heap.size + 1 + 1 := by simp
  rwa [e] at h
/-- The decoder under way: its symbols' row, itself, the next places. -/
def DcAt (w : World) (l : List Int) (gs gd gn T k : Nat) (wr : World) : Prop :=
  (∃ S, wr.ownsRow w.heap.size 3 1 (.slice (some ⟨gs, 0, none⟩) T T) T (intsV S) ∧ Placed l k S) ∧ Blk wr gd 129 (intsV (layL l) ++ [Value.int .i64 ((endN l 16 : Nat) : Int), Value.slice (some ⟨gs, 0, none⟩) T T]).toArray ∧ NxtAt (ahdN l) l k wr gn ∧ Below w.heap.size w wr ∧ w.heap.size ≤ gs ∧ gs < gd ∧ gd < gn
theorem DcAt.drew {w : World} {l : List Int} {gs gd gn T k : Nat} {wr : World} (h : DcAt w l gs gd gn T k wr) : DcAt w l gs gd gn T k wr.drew := ⟨h.1, h.2.1, h.2.2.1, below_drewN h.2.2.2.1 1, h.2.2.2.2⟩
theorem wpList_store_rowK {P : Program} {ops : Array Oper} {rest : List Oper} {o : Oper} {a : Act} {w : World} {Q : Exit → Act → World → Prop} (hgd : o.guard = none) (ty : TypeId) (x y : Operand) (ho : o.op = .store ty x y)
    (g : Nat) (cells : Array Value) (hx : a.eval x = .pointer (some ⟨g, 0, none⟩)) (hy : a.eval y = .agg cells)
    (t : TypeId) (old : Array Value) (hg : w.heap[g]? = some (.cells old t (0, 0))) (hi : (P.info? ty).map (·.size) = some cells.size)
    (hold : old.size = cells.size) (h1 : cells.all (·.oneCell') = true)
    (h : ∀ w', w' = w.setRow g cells → wpList P ops Q rest (a.put o.dst undef) w') : wpList P ops Q (o :: rest) a w :=
  wpList_store_row hgd ty x y ho g cells hx hy t old hg hi hold h1 (h _ rfl)
set_option maxHeartbeats 4000000 in
set_option maxRecDepth 100000 in
theorem new_any (A : Option Addr) (c : Nat) (l : List Int) (w : World) (hbs : Is w w.heap.size A l) (hl : l.length ≤ 17592186044416) :
    Calls Try.prog 76 #[.slice A l.length c] w (NewRes w l) := by
  have hm : l.length ≤ maxLen := by unfold maxLen; omega
  have HF := Lib.hid (codesFault_any A c l _ w hbs hm)
  by_cases h0 : codesErr l = 0
  · obtain ⟨hre, hro⟩ := codesErr_zero h0
    obtain ⟨h4, hg⟩ := roomErr_zero hre
    rw [h0] at HF
    have HE := Lib.hid h0; clear h0 hre
    have HG := Lib.hid hg; clear hg
    have HRO := Lib.hid hro; clear hro
    have hsz : (Try.prog.info? 127).map (·.size) = some (intsV (layL l)).toArray.size := by rw [List.size_toArray, intsV_length]; unfold layL; rw [layN_length]; exact lay_info
    have h1c : (intsV (layL l)).toArray.all (·.oneCell') = true := by
      rw [Array.all_eq_true_iff_forall_mem]
      intro v hv
      exact intsV_one _ v (List.mem_toArray.mp hv)
    have hk0 : lay0.toArray.size = (intsV (layL l)).toArray.size := by rw [List.size_toArray, List.size_toArray, intsV_length]; unfold layL; rw [layN_length]; rfl
    go_enter Try.func76, Try.ntmps76
    go_wp2_with fail
    refine HF.out.mono ?_
    rintro e w1 ⟨rfl, rfl⟩
    go_wp2_with fail
    refine (layoutOf_any A c l w hbs h4 HG.out HRO.out).mono ?_
    rintro e w2 ⟨rfl, hb2⟩
    have hs2 := hb2.size
    have hRB := Blk.new w2 127 lay0.toArray
    have HL3 : Hid (LayAt l l.length 16 16 ((w2.alloc (.cells lay0.toArray 127)).setRow w2.heap.size (intsV (layL l)).toArray) w2.heap.size) := Lib.hid (setRow_heap _ _ _ _ _ _ hRB)
    have HB3 : Hid (Below w.heap.size w ((w2.alloc (.cells lay0.toArray 127)).setRow w2.heap.size (intsV (layL l)).toArray)) := Lib.hid (below_setRow (hb2.alloc (by omega) _) (by omega) _)
    go_wp2_with (refine wpList_store_rowK rfl 127 (.tmp 5) (.tmp 16) rfl w2.heap.size (intsV (layL l)).toArray rfl rfl 127 lay0.toArray hRB hsz hk0 h1c ?_; intro w3 hw3)
    have hw3' : w3 = (w2.alloc (.cells lay0.toArray 127)).setRow w2.heap.size (intsV (layL l)).toArray := hw3
    clear hw3 hRB
    rw [← hw3'] at HL3 HB3
    obtain ⟨g, hg⟩ : ∃ g, w2.heap.size = g := ⟨_, rfl⟩
    rw [hg] at HL3 ⊢
    have hgw : w.heap.size ≤ g := by omega
    clear hg hs2 hw3' hb2
    have hD := ahdN_le l 16
    have hC := cntZ_le l 16
    have hF := fstN_le l HRO.out 16 (by omega)
    have hQ1 := fst_cnt l
    have hQ2 := ahd_cnt l
    have hQ3 := endN_bd l HRO.out 16 (by omega)
    have c1 := HL3.out.first 16 (by omega) (Nat.le_refl _)
    have c2 := HL3.out.count 16 (by omega)
    have c3 := HL3.out.ahead 16 (by omega) (Nat.le_refl _)
    rw [List.take_length] at c2
    have hT : totN l ≤ 1048576 := by omega
    have hrg : w3.rangeAt g 0 (intsV (layL l)) := fun j v hv => by
      have hj : j < 51 := by
        have := (List.getElem?_eq_some_iff.mp hv).1
        rw [intsV_length] at this
        unfold layL at this
        rw [layN_length] at this
        exact this
      rw [Nat.zero_add, HL3.out.cell j hj, ← hv]
      simp [layL_map, hj]
    have hu := Try.underlying127
    have hi51 : (Try.prog.info? 127).map (·.size) = some (intsV (layL l)).length := by rw [intsV_length]; unfold layL; rw [layN_length]; exact lay_info
    obtain ⟨F, hF0⟩ : ∃ F, fstN l 16 = F := ⟨_, rfl⟩
    obtain ⟨C, hC0⟩ : ∃ C, cntZ l 16 = C := ⟨_, rfl⟩
    obtain ⟨D, hD0⟩ : ∃ D, ahdN l 16 = D := ⟨_, rfl⟩
    obtain ⟨E, hE⟩ : ∃ E, endN l 16 = E := ⟨_, rfl⟩
    obtain ⟨T, hT0⟩ : ∃ T, totN l = T := ⟨_, rfl⟩
    rw [hF0] at c1 hF hQ1
    rw [hC0] at c2 hC hQ1 hQ2
    rw [hD0] at c3 hD hQ2
    rw [hE] at hQ1 hQ3
    rw [hT0] at hQ2 hT
    have e2 : IntKind.i64.wrap ((F : Int) + C) = (E : Int) := by rw [IntWalk.i64_in _ (by omega)]; omega
    have e3 : IntKind.i64.wrap ((D : Int) + C) = (T : Int) := by rw [IntWalk.i64_in _ (by omega)]; omega
    have HEE := Lib.hid hE; clear hE
    have HTT := Lib.hid hT0; clear hT0
    clear hF0 hC0 hD0 hQ1 hQ2 hD hC hF hQ3
    have hmk : ∀ w, (Instr.makeSlice 36 (.int .i64 (T : Int)) (.int .i64 (T : Int))).run Try.prog w = .ok (.slice (some ⟨w.heap.size, 0, none⟩) T T) (w.alloc (.cells (madeCells #[.int .i64 0] T) 3)) := fun w => run_make_row' 36 3 (.int .i64 0) 8 Try.underlying36 info_int rfl .i64 .i64 T (by omega) (by omega) w
    have hbld := run_build_dec l (E : Int)
    have hLS : LayS l g F C D w3.drew := ⟨hrg, c1, c2, c3⟩
    clear c1 c2 c3 hrg
    simp only [Act.put]
    refine wp_region_held_drew (S := LayS l g F C D) (by kernel_rfl) hLS (fun hH => ?_)
    refine wpAnyH_take (i := 0) (v := .agg (intsV (layL l)).toArray) rfl (by kernel_rfl) (by kernel_rfl) (by kernel_rfl) (fun _ _ _ h => h) (yieldsIf_load_mid (by rfl) _ _ rfl g 0 rfl (intsV (layL l)) _ (fun wz hz => hz.1) hu rfl hi51) hH ?_
    simp only [Act.put, List.setIfInBounds_toArray]
    refine wpAnyH_take (i := 1) (v := .pointer (some ⟨g, 17, none⟩)) rfl (by kernel_rfl) (by kernel_rfl) (by kernel_rfl) (fun _ _ _ h => h) (Or.inl ⟨by rfl, ?_⟩) hH ?_
    · intro wz hz
      obtain ⟨z1, z2, z3, z4⟩ := hz
      go_simp
    simp only [Act.put]
    refine wpAnyH_take (i := 2) (v := .pointer (some ⟨g, 33, none⟩)) rfl (by kernel_rfl) (by kernel_rfl) (by kernel_rfl) (fun _ _ _ h => h) (Or.inl ⟨by rfl, ?_⟩) hH ?_
    · intro wz hz
      obtain ⟨z1, z2, z3, z4⟩ := hz
      go_simp
    simp only [Act.put]
    refine wpAnyH_take (i := 3) (v := .int .i64 (F : Int)) rfl (by kernel_rfl) (by kernel_rfl) (by kernel_rfl) (fun _ _ _ h => h) (Or.inl ⟨by rfl, ?_⟩) hH ?_
    · intro wz hz
      obtain ⟨z1, z2, z3, z4⟩ := hz
      go_simp
    simp only [Act.put]
    refine wpAnyH_take (i := 4) (v := .pointer (some ⟨g, 0, none⟩)) rfl (by kernel_rfl) (by kernel_rfl) (by kernel_rfl) (fun _ _ _ h => h) (Or.inl ⟨by rfl, ?_⟩) hH ?_
    · intro wz hz
      obtain ⟨z1, z2, z3, z4⟩ := hz
      go_simp
    simp only [Act.put]
    refine wpAnyH_take (i := 5) (v := .pointer (some ⟨g, 16, none⟩)) rfl (by kernel_rfl) (by kernel_rfl) (by kernel_rfl) (fun _ _ _ h => h) (Or.inl ⟨by rfl, ?_⟩) hH ?_
    · intro wz hz
      obtain ⟨z1, z2, z3, z4⟩ := hz
      go_simp
    simp only [Act.put]
    refine wpAnyH_take (i := 6) (v := .int .i64 (C : Int)) rfl (by kernel_rfl) (by kernel_rfl) (by kernel_rfl) (fun _ _ _ h => h) (Or.inl ⟨by rfl, ?_⟩) hH ?_
    · intro wz hz
      obtain ⟨z1, z2, z3, z4⟩ := hz
      go_simp
    simp only [Act.put]
    refine wpAnyH_take (i := 7) (v := .int .i64 (E : Int)) rfl (by kernel_rfl) (by kernel_rfl) (by kernel_rfl) (fun _ _ _ h => h) (Or.inl ⟨by rfl, ?_⟩) hH ?_
    · intro wz hz
      obtain ⟨z1, z2, z3, z4⟩ := hz
      go_simp
    simp only [Act.put]
    refine wpAnyH_take (i := 8) (v := .pointer (some ⟨g, 34, none⟩)) rfl (by kernel_rfl) (by kernel_rfl) (by kernel_rfl) (fun _ _ _ h => h) (Or.inl ⟨by rfl, ?_⟩) hH ?_
    · intro wz hz
      obtain ⟨z1, z2, z3, z4⟩ := hz
      go_simp
    simp only [Act.put]
    refine wpAnyH_take (i := 9) (v := .pointer (some ⟨g, 50, none⟩)) rfl (by kernel_rfl) (by kernel_rfl) (by kernel_rfl) (fun _ _ _ h => h) (Or.inl ⟨by rfl, ?_⟩) hH ?_
    · intro wz hz
      obtain ⟨z1, z2, z3, z4⟩ := hz
      go_simp
    simp only [Act.put]
    refine wpAnyH_take (i := 10) (v := .int .i64 (D : Int)) rfl (by kernel_rfl) (by kernel_rfl) (by kernel_rfl) (fun _ _ _ h => h) (Or.inl ⟨by rfl, ?_⟩) hH ?_
    · intro wz hz
      obtain ⟨z1, z2, z3, z4⟩ := hz
      go_simp
    simp only [Act.put]
    refine wpAnyH_take (i := 11) (v := .pointer (some ⟨g, 0, none⟩)) rfl (by kernel_rfl) (by kernel_rfl) (by kernel_rfl) (fun _ _ _ h => h) (Or.inl ⟨by rfl, ?_⟩) hH ?_
    · intro wz hz
      obtain ⟨z1, z2, z3, z4⟩ := hz
      go_simp
    simp only [Act.put]
    refine wpAnyH_take (i := 12) (v := .pointer (some ⟨g, 16, none⟩)) rfl (by kernel_rfl) (by kernel_rfl) (by kernel_rfl) (fun _ _ _ h => h) (Or.inl ⟨by rfl, ?_⟩) hH ?_
    · intro wz hz
      obtain ⟨z1, z2, z3, z4⟩ := hz
      go_simp
    simp only [Act.put]
    refine wpAnyH_take (i := 13) (v := .int .i64 (C : Int)) rfl (by kernel_rfl) (by kernel_rfl) (by kernel_rfl) (fun _ _ _ h => h) (Or.inl ⟨by rfl, ?_⟩) hH ?_
    · intro wz hz
      obtain ⟨z1, z2, z3, z4⟩ := hz
      go_simp
    simp only [Act.put]
    refine wpAnyH_take (i := 14) (v := .int .i64 (T : Int)) rfl (by kernel_rfl) (by kernel_rfl) (by kernel_rfl) (fun _ _ _ h => h) (Or.inl ⟨by rfl, ?_⟩) hH ?_
    · intro wz hz
      obtain ⟨z1, z2, z3, z4⟩ := hz
      go_simp
    simp only [Act.put]
    refine wpAnyH_ready (rs := [15]) (by kernel_rfl) (by simp) ?_
    refine AllReadyH.cons (i := 15) (o := _) rfl (fun K hK => ?_) AllReadyH.nil
    go_simp
    refine hK.out _ _ (LayS.alloc hH _) (fun hH => ?_)
    clear hK K
    refine wpAnyH_take (i := 16) (v := .agg (intsV (layL l) ++ [Value.int .i64 (E : Int), Value.slice (some ⟨w3.heap.size, 0, none⟩) T T]).toArray) rfl (by kernel_rfl) (by kernel_rfl) (by kernel_rfl) (fun _ _ _ h => h) (Or.inl ⟨by rfl, ?_⟩) hH ?_
    · intro wz _
      exact yields_build rfl (hbld _ _ _ wz)
    try simp only [Act.put]
    refine wpAnyH_ready (rs := [17]) (by kernel_rfl) (by simp) ?_
    refine AllReadyH.cons (i := 17) (o := _) rfl (fun K hK => ?_) AllReadyH.nil
    go_simp
    refine hK.out _ _ (LayS.alloc hH _) (fun hH => ?_)
    clear hK K
    try simp only [Act.put]
    refine wpAnyH_take (i := 18) (v := .pointer (some ⟨w3.heap.size + 1, 0, none⟩)) rfl (by kernel_rfl) (by kernel_rfl) (by kernel_rfl) (fun _ _ _ h => h) (Or.inl ⟨by rfl, ?_⟩) hH ?_
    · intro wz hz
      obtain ⟨z1, z2, z3, z4⟩ := hz
      go_simp
    try simp only [Act.put]
    refine wpAnyH_done (by kernel_rfl) ?_ _
    have hsz2 : (Try.prog.info? 125).map (·.size) = some (intsV (nxtN (ahdN l) l 0)).toArray.size := by rw [List.size_toArray, intsV_length, nxtN_length]; exact per_info
    have hi17 : (Try.prog.info? 125).map (·.size) = some (intsV (nxtN (ahdN l) l 0)).length := by rw [intsV_length, nxtN_length]; exact per_info
    have h1c2 : (intsV (nxtN (ahdN l) l 0)).toArray.all (·.oneCell') = true := by
      rw [Array.all_eq_true_iff_forall_mem]
      intro v hv
      exact intsV_one _ v (List.mem_toArray.mp hv)
    have hk02 : per0.toArray.size = (intsV (nxtN (ahdN l) l 0)).toArray.size := by rw [List.size_toArray, List.size_toArray, intsV_length, nxtN_length]; rfl
    have hs3 := HB3.out.size
    obtain ⟨O1, hO1⟩ : ∃ O1, O1 = Obj.cells (madeCells #[Value.int .i64 0] T) 3 := ⟨_, rfl⟩
    obtain ⟨O2, hO2⟩ : ∃ O2, O2 = Obj.cells (intsV (layL l) ++ [Value.int .i64 (E : Int), Value.slice (some ⟨w3.heap.size, 0, none⟩) T T]).toArray 129 := ⟨_, rfl⟩
    rw [← hO1, ← hO2]
    have hHL : LayAt l l.length 16 16 ((w3.alloc O1).alloc O2).drew g := Blk.alloc (Blk.alloc HL3.out O1) O2
    have hrg2 : ((w3.alloc O1).alloc O2).drew.rangeAt g 34 (intsV (nxtN (ahdN l) l 0)) := by
      have := World.rangeAt_of_block hHL 34 17
      have e : ((intsV (layN l l.length 16 16)).toArray.extract 34 (34 + 17)).toList = intsV (nxtN (ahdN l) l 0) := by
        have := aheads_eq l
        unfold layL at this
        rw [this]
      rwa [e] at this
    have hBo1 : Blk ((w3.alloc O1).alloc O2).drew w3.heap.size 3 (madeCells #[Value.int .i64 0] T) := by subst hO1; exact Blk.alloc (Blk.new w3 _ _) O2
    have hBo2 : Blk ((w3.alloc O1).alloc O2).drew (w3.heap.size + 1) 129 (intsV (layL l) ++ [Value.int .i64 (E : Int), Value.slice (some ⟨w3.heap.size, 0, none⟩) T T]).toArray := by subst hO2; exact blk_second w3 O1 _ _
    have hWB : Below w.heap.size w ((w3.alloc O1).alloc O2).drew := below_drewN ((HB3.out.alloc hs3 _).alloc (by simp; omega) _) 1
    have hWs : ((w3.alloc O1).alloc O2).drew.heap.size = w3.heap.size + 2 := by simp
    generalize ((w3.alloc O1).alloc O2).drew = W at *
    have HWs := Lib.hid hWs; clear hWs
    have hRB := Blk.new W 125 per0.toArray
    clear hO1 hO2 hmk hbld hu hi51 hLS
    go_wp2_with (first | (refine wpList_load_mid rfl 125 (.tmp 35) rfl g 34 rfl (intsV (nxtN (ahdN l) l 0)) _ hrg2 Try.underlying125 rfl hi17 ?_) | (refine wpList_store_rowK rfl 125 (.tmp 7) (.tmp 36) rfl W.heap.size (intsV (nxtN (ahdN l) l 0)).toArray rfl rfl 125 per0.toArray hRB hsz2 hk02 h1c2 ?_; intro w5 hw5; have HW5 := Lib.hid hw5; clear hw5))
    have HD : Hid (DcAt w l w3.heap.size (w3.heap.size + 1) W.heap.size T 0 w5) := Lib.hid (by
      have e5 : w5 = (W.alloc (.cells per0.toArray 125)).setRow W.heap.size (intsV (nxtN (ahdN l) l 0)).toArray := HW5.out
      have hws := HWs.out
      have u1 : Upd (fun k => k = W.heap.size) W w5 := by
        rw [e5]
        exact (Upd.mono ((Upd.refl No W).alloc _) (fun _ _ h => absurd h id)).then (upd_setRow _ _ _) (fun _ _ h => h)
      refine ⟨⟨List.replicate (totN l) 0, ?_, placed_zero l⟩, ?_, ?_, ?_, hs3, by omega, by omega⟩
      · have h1 : Blk w5 w3.heap.size 3 (madeCells #[Value.int .i64 0] T) := hBo1.upd u1 (by omega)
        refine ⟨by simp [intsV, HTT.out], .inr ⟨w3.heap.size, T, _, rfl, hs3, h1, Nat.le_refl _, by unfold maxLen; omega, by simp [madeCells], ?_⟩⟩
        rw [HTT.out, Nat.mul_one]
        have e := toList_madeCells_one (Value.int .i64 0) T
        rw [e]
        simp [intsV]
      · rw [HEE.out]
        exact hBo2.upd u1 (by omega)
      · rw [e5]
        exact setRow_heap _ _ _ _ _ _ hRB
      · exact hWB.trans ((u1.below (B := w.heap.size) (by omega) (fun k hk e => by omega))))
    clear HW5 hRB hBo1 hBo2 hHL hrg2 hWB hsz hsz2 hi17 h1c h1c2 hk0 hk02
    obtain ⟨gd, hgd⟩ : ∃ gd, w3.heap.size + 1 = gd := ⟨_, rfl⟩
    obtain ⟨gs, hgs⟩ : ∃ gs, w3.heap.size = gs := ⟨_, rfl⟩
    obtain ⟨gn, hgn⟩ : ∃ gn, W.heap.size = gn := ⟨_, rfl⟩
    rw [hgd, hgs, hgn] at HD
    rw [hgd, hgs, hgn]
    clear hgd hgn hgs HWs hs3
    go_loopw [39] (fun i wr => ∃ k : Nat, k ≤ l.length ∧ i = .int .i64 k ∧ DcAt w l gs gd gn T k wr) (fun i _ => l.length - (intOf i).toNat)
    case atStart => exact ⟨0, by omega, rfl, HD.out⟩
    case round =>
      obtain ⟨k, hk, rfl, hC⟩ := hrel
      have HC := Lib.hid hC; clear hC
      by_cases hlt : k < l.length
      · obtain ⟨ad, rfl, _, hcb⟩ := Is.at_ (Vs.below hbs HC.out.2.2.2.1) hlt
        obtain ⟨b0, b1⟩ := good_len l HG.out k hlt
        have HS1 := Lib.hid (fun n S => placed_step l k n S hlt)
        have HS2 := Lib.hid (fun S => placed_skip l k S hlt)
        have HN1 := Lib.hid (fun (wz : World) (h : NxtAt (ahdN l) l k wz gn) n => h.step n hlt)
        have HN2 := Lib.hid (nxtN_skip (ahdN l) l k hlt)
        have HPL := Lib.hid (fun (n : Nat) (hn : n ≤ 16) (h0 : 0 < n) (hx : l[k] = (n : Int)) => place_lt l (k + 1) n (cntZ (l.take k) n) hn (by rw [cntZ_step l k n n hlt h0 hx, if_pos rfl]; omega))
        generalize l[k] = x at *
        by_cases hx : 0 < x
        · obtain ⟨n, rfl⟩ : ∃ n : Nat, x = n := ⟨x.toNat, by omega⟩
          have d3 : decide (0 < (n : Int)) = true := by simp; omega
          have hcn := HC.out.2.2.1.cell n (by omega)
          have hfn := HC.out.2.2.1.free n
          have hqt := HPL.out n (by omega) (by omega) rfl
          have HQ1 := Lib.hid (fun S => HS1.out n S (by omega) (by omega) rfl)
          have HQ2 := Lib.hid (fun (wz : World) (h : NxtAt (ahdN l) l k wz gn) => HN1.out wz h n (by omega) (by omega) rfl)
          obtain ⟨q, hq⟩ : ∃ q, ahdN l n + cntZ (l.take k) n = q := ⟨_, rfl⟩
          rw [hq] at HQ1 HQ2 hcn hqt
          rw [HTT.out] at hqt
          clear hq
          obtain ⟨S, hO, hP⟩ := HC.out.1
          have hlo : wr.frozen? ⟨gs, q, none⟩ = false := hO.frozenAt q
          obtain ⟨v0, hce⟩ : ∃ v0, wr.cell? ⟨gs, q, none⟩ = some v0 := by
            have h1 := hO.cellAt q (by omega)
            have h2 := own_len hO
            rw [List.getElem?_eq_getElem (by omega)] at h1
            exact ⟨_, h1⟩
          have hcd : wr.cell? ⟨gd, 52, none⟩ = some (.slice (some ⟨gs, 0, none⟩) T T) := by
            rw [HC.out.2.1.cell]
            have e : (intsV (layL l)).length = 51 := by rw [intsV_length]; unfold layL; rw [layN_length]
            rw [List.getElem?_toArray, List.getElem?_append_right (by omega), e]
            rfl
          have hg1 : w.heap.size ≤ gs := HC.out.2.2.2.2.1
          have hg2 : gs < gd := HC.out.2.2.2.2.2.1
          have hg3 : gd < gn := HC.out.2.2.2.2.2.2
          have hne : gs ≠ gn := by omega
          have hne2 : gn ≠ gs := by omega
          have i1 : (q : Int) < T := by omega
          have HFIN : Hid (∀ wz : World, wz = ((wr.setCell ⟨gs, q, none⟩ (.int .i64 (k : Int))).setCell ⟨gn, n, none⟩ (.int .i64 ((q : Int) + 1))) → DcAt w l gs gd gn T (k + 1) wz) := Lib.hid (by
            rintro _ rfl
            have u1 : Upd (· = gs) wr (wr.setCell ⟨gs, q, none⟩ (.int .i64 (k : Int))) := (Upd.refl (· = gs) wr).setCell (p := ⟨gs, q, none⟩) (fun _ => rfl) _
            have u2 : ∀ wz : World, Upd (· = gn) wz (wz.setCell ⟨gn, n, none⟩ (.int .i64 ((q : Int) + 1))) := fun wz => (Upd.refl (· = gn) wz).setCell (p := ⟨gn, n, none⟩) (fun _ => rfl) _
            refine ⟨⟨S.set q (k : Int), ?_, HQ1.out S hP⟩, ?_, ?_, (HC.out.2.2.2.1.setCell hg1 _).setCell (p := ⟨gn, n, none⟩) (by simp; omega) _, hg1, hg2, hg3⟩
            · have h1 := row_set hO q (k : Int)
              exact own_upd h1 (u2 _) (fun b hb e => by
                have : b = gs := by simpa [Value.ownBlock] using hb.symm
                omega)
            · exact (HC.out.2.1.upd u1 (by omega)).upd (u2 _) (by omega)
            · exact HQ2.out _ (Blk.upd HC.out.2.2.1 u1 (by omega)))
          clear hO hP
          go_wp2_with fail
          go_region
          all_goals
            go_wp2_with fail
            go_roundw
            case rel => exact ⟨k + 1, by omega, by go_num, (HFIN.out _ rfl).drew⟩
            case measure => simp [intOf]; omega
        · have d3 : decide (0 < x) = false := by simp; omega
          go_wp2_with fail
          go_roundw
          case rel =>
            obtain ⟨⟨S, hO, hP⟩, h2, h3, h4⟩ := HC.out
            exact ⟨k + 1, by omega, by go_num, ⟨S, hO, HS2.out S hx hP⟩, h2, by unfold NxtAt; rw [HN2.out hx]; exact h3, h4⟩
          case measure => simp [intOf]; omega
      · obtain rfl : k = l.length := by omega
        have HFIN : Hid (NewRes w l (.returned (.tuple #[.pointer (some ⟨gd, 0, none⟩), .int .i64 0])) wr) := Lib.hid (by
          unfold NewRes
          rw [if_pos HE.out]
          obtain ⟨⟨S, hO, hP⟩, h2, h3, h4, h5, h6, h7⟩ := HC.out
          refine ⟨gd, rfl, ⟨some ⟨gs, 0, none⟩, T, S, ?_, ?_, hP, by omega⟩, h4⟩
          · unfold decL; rw [HTT.out]; exact h2
          · rw [HTT.out]; exact hO)
        go_wp2_with fail
        go_ret2
        exact HFIN.out
  · have d1 : (codesErr l != 0) = true := by simpa using h0
    have HX : Hid (NewRes w l (.returned (.tuple #[.pointer none, .int .i64 (codesErr l)])) w) := Lib.hid (by unfold NewRes; rw [if_neg h0]; exact ⟨rfl, Below.refl _ _⟩)
    generalize hx : codesErr l = x at *
    clear hx
    go_enter Try.func76, Try.ntmps76
    go_wp2_with fail
    refine HF.out.mono ?_
    rintro e w1 ⟨rfl, rfl⟩
    go_wp2_with fail
    go_ret2
    exact HX.out
end Go.Proofs.Ythbdhpciibjnmaa
