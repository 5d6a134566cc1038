/- Joined texts (a claim has at most 60 files): Nd Ne. -/
import Derived.Test.YtfbokhdimffabaaGreatDoorNc
import Derived.Test.YtfbokhdimffabaaGreatDoorCo
import Derived.ArgAppend
import Derived.Lib.ItoaMem
import Derived.Lib.AppendStr
import Derived.Lib.ConvBytes
import Derived.Lib.SmallJoins
import Derived.Deep.MidRow
import Derived.Test.YtfbokhdimffabaaGreatDoorSh
import Derived.Test.YtfbokhdimffabaaGreatDoorAr
import Derived.Lib.AppendIntMem
import Derived.Lib.Slices
/- A row of bytes that the call may write behind its end: its own, or that of a string that was converted (its block bears a mark behind its end). -/
set_option linter.unusedVariables false
set_option linter.unusedSimpArgs false
namespace Go.Proofs.YtfbokhdimffabaaGreatDoor
open Go.ChangeShapes Go.WideShapes Go.ChangeAt Go.RowKit

theorem updG_setCells (b : Nat) : ∀ (vs : List Value) (o : Nat) (w : World), Upd (· = b) w (w.setCells b o vs)
  | [], _, w => Upd.refl _ _
  | v :: r, o, w => ((Upd.refl (· = b) w).setCell (p := ⟨b, o, none⟩) (fun _ => rfl) v).trans (updG_setCells b r (o + 1) _)
def KindG (w : World) (g : Nat) : Prop := ∃ cur fz, w.heap[g]? = some (.cells cur 5 fz)
theorem KindG.setCell {w : World} {g : Nat} (h : KindG w g) (o : Nat) (v : Value) : KindG (w.setCell ⟨g, o, none⟩ v) g := by
  obtain ⟨cur, fz, h⟩ := h
  exact ⟨cur.setIfInBounds o v, fz, by simp [World.setCell, Array.getElem?_modify, h]⟩
theorem KindG.setCells {g : Nat} : ∀ (vs : List Value) (o : Nat) {w : World}, KindG w g → KindG (w.setCells g o vs) g
  | [], _, _, h => h
  | v :: r, o, _, h => KindG.setCells r (o + 1) (h.setCell o v)
/-- A row with a mark behind its end. -/
def RwM (w : World) (base : Nat) (v : Value) (n : Nat) (xs : List Value) : Prop :=
  xs.length = n ∧ ∃ g cap, v = .slice (some ⟨g, 0, none⟩) n cap ∧ base ≤ g ∧ g < w.heap.size ∧ n ≤ cap ∧ KindG w g ∧ (∀ j x, xs[j]? = some x → w.cell? ⟨g, j, none⟩ = some x) ∧ ∀ j, j < cap → (w.cell? ⟨g, j, none⟩).isSome = true ∧ w.frozen? ⟨g, j, none⟩ = false
def RwG (w : World) (base : Nat) (v : Value) (n : Nat) (xs : List Value) : Prop := w.ownsRow base 5 1 v n xs ∨ RwM w base v n xs
section
variable {w w' : World} {base n : Nat} {v : Value} {xs : List Value}
theorem RwG.low (h : RwG w base v n xs) {b : Nat} (hb : b ≤ base) : RwG w b v n xs := by
  rcases h with h | ⟨h1, g, cap, h2, h3, h4⟩
  · exact .inl (own_low h hb)
  · exact .inr ⟨h1, g, cap, h2, Nat.le_trans hb h3, h4⟩
theorem RwG.lt (h : RwG w base v n xs) : ∀ k, v.ownBlock = some k → base ≤ k ∧ k < w.heap.size := by
  rcases h with h | ⟨h1, g, cap, rfl, h3, h4, _⟩
  · exact h.lt
  · intro k hk
    simp [Value.ownBlock] at hk
    subst hk
    exact ⟨h3, h4⟩
theorem RwG.upd {S : Nat → Prop} (h : RwG w base v n xs) (hu : Upd S w w') (hS : ∀ k, v.ownBlock = some k → ¬ S k) : RwG w' base v n xs := by
  rcases h with h | ⟨h1, g, cap, rfl, h3, h4, h5, ⟨cur, fz, h6⟩, h7, h8⟩
  · exact .inl (own_upd h hu hS)
  · have hb : w'.heap[g]? = w.heap[g]? := hu.block g h4 (hS g (by simp [Value.ownBlock]))
    refine .inr ⟨h1, g, cap, rfl, h3, Nat.lt_of_lt_of_le h4 hu.size, h5, ⟨cur, fz, hb.trans h6⟩, ?_, ?_⟩
    · intro j x hx
      have := h7 j x hx
      rw [cell_of_row _ g j cur _ fz h6] at this
      rw [cell_of_row _ g j cur _ fz (hb.trans h6)]
      exact this
    · intro j hj
      have := h8 j hj
      simp only [World.cell?, World.frozen?, hb] at this ⊢
      exact this
theorem RwG.ne_ {g : Nat} {t : TypeId} {cs : Array Value} (h : RwG w base v n xs) (hg : Blk w g t cs) (hne : 5 ≠ t) : v.ownBlock ≠ some g := by
  rcases h with h | ⟨h1, g', cap, rfl, h3, h4, h5, ⟨cur, fz, h6⟩, _⟩
  · exact own_blk_ne h hg hne
  · intro he
    simp [Value.ownBlock] at he
    subst he
    unfold Blk at hg
    rw [hg] at h6
    injection h6 with h6
    injection h6 with _ h6
    exact hne h6.symm
theorem RwG.form (h : RwG w base v n xs) : ∃ A c, v = .slice A n c := by
  rcases h with h | ⟨h1, g, cap, rfl, _⟩
  · rcases Joins.ownsRow_forms h with ⟨rfl, rfl⟩ | ⟨g, cap, rfl⟩
    · exact ⟨none, 0, rfl⟩
    · exact ⟨_, cap, rfl⟩
  · exact ⟨_, cap, rfl⟩
theorem RwG.cells (h : RwG w base v n xs) {g : Nat} (hg : v.ownBlock = some g) : ∀ j x, xs[j]? = some x → w.cell? ⟨g, j, none⟩ = some x := by
  rcases h with h | ⟨h1, g', cap, rfl, h3, h4, h5, _, h7, _⟩
  · intro j x hx
    have := h.cells hg j x hx
    rwa [Lib.add_plain, Nat.zero_add] at this
  · simp [Value.ownBlock] at hg
    subst hg
    exact h7
end
/-- The room's arm of a marked row, what is written being news. -/
theorem RwM.put {w : World} {base g cap n : Nat} {xs : List Value} (h1 : xs.length = n) (h3 : base ≤ g) (h4 : g < w.heap.size) (h6 : KindG w g) (h7 : ∀ j x, xs[j]? = some x → w.cell? ⟨g, j, none⟩ = some x) (h8 : ∀ j, j < cap → (w.cell? ⟨g, j, none⟩).isSome = true ∧ w.frozen? ⟨g, j, none⟩ = false) (news : List Value) (hr : n + news.length ≤ cap) :
    RwM (w.setCells g n news) base (.slice (some ⟨g, 0, none⟩) (n + news.length) cap) (n + news.length) (xs ++ news) := by
  have hs := (updG_setCells g news n w).size
  refine ⟨by rw [List.length_append, h1], g, cap, rfl, h3, by omega, hr, h6.setCells _ _, ?_, ?_⟩
  · intro j x hx
    by_cases hj : j < n
    · rw [World.cell?_setCells_out g _ _ _ _ (fun _ _ => Or.inl hj)]
      rw [List.getElem?_append_left (by omega)] at hx
      exact h7 j x hx
    · rw [List.getElem?_append_right (by omega), h1] at hx
      obtain ⟨hl, he⟩ := List.getElem?_eq_some_iff.mp hx
      have h2 := World.cell?_setCells_in g news n w (fun i hi => (h8 (n + i) (by omega)).1) (j - n) hl
      rw [show n + (j - n) = j by omega] at h2
      rw [h2, he]
  · intro j hj
    exact ⟨World.isSome_setCells g news n w _ (h8 j hj).1, by rw [World.frozen?_setCells]; exact (h8 j hj).2⟩
/-- append(row, bytes..). -/
theorem RwG.app {w : World} {base n : Nat} {v : Value} {xs : List Value} (h : RwG w base v n xs) (hbase : base ≤ w.heap.size) (a : Addr) (m c : Nat) (news : List Value) (hl : news.length = m) (hnews : ∀ j u, news[j]? = some u → w.cell? (a.add j) = some u) (h1 : ∀ u ∈ news, u.oneCell' = true) (hlim : n + m ≤ 140737488355328) (ty : TypeId) :
    ∃ A' c' w', (Builtin.append_ #[22, 22] ty #[v, .slice (some a) m c]).run Tryz.prog w = .ok (.slice A' (n + m) c') w' ∧ RwG w' base (.slice A' (n + m) c') (n + m) (xs ++ news) ∧ Upd (fun k => some k = v.ownBlock) w w' := by
  obtain ⟨i0, hi, hz0, hz1, hz2⟩ := info_parts info_u8
  subst hl
  rcases h with h | ⟨h2, g, cap, rfl, h3, h4, h5, h6, h7, h8⟩
  · obtain ⟨v', w', hr, ho, hg, _⟩ := run_append_own (P := Tryz.prog) w base 22 ty 5 i0 (.int .u8 0) 1 1 Tryz.underlying22 hi hz0 hz1 hz2 rfl (by decide) v n xs h a news.length c news (Nat.mul_one _).symm hnews h1 (by unfold maxLen; omega) (by omega) hbase
    obtain ⟨A', c', rfl⟩ := RwG.form (.inl ho)
    exact ⟨A', c', w', hr, .inl ho, Upd.of_grown hg⟩
  · by_cases hr : n + news.length ≤ cap
    · have hrun := run_append_room_cells (P := Tryz.prog) w 22 ty 5 i0 Tryz.underlying22 hi g 0 n cap a news.length c news (by rw [hz1, Nat.mul_one]) hnews h1 hr (fun j hj => (h8 _ (by rw [hz1]; omega)).1) (fun j hj => (h8 _ (by rw [hz1]; omega)).2)
      rw [hz1, Nat.mul_one, Nat.zero_add] at hrun
      exact ⟨_, cap, _, hrun, .inr (RwM.put h2 h3 h4 h6 h7 h8 news hr), (updG_setCells g news n w).mono (fun k _ e => by rw [e]; simp [Value.ownBlock])⟩
    · obtain ⟨v', w', hrun, ho, hg⟩ := run_append_arg_grows (P := Tryz.prog) w 22 ty 5 i0 (.int .u8 0) 1 1 Tryz.underlying22 hi hz0 hz1 hz2 rfl (by decide) ⟨g, 0, none⟩ n cap xs (by omega) (fun j u hu => by rw [Lib.add_plain, Nat.zero_add]; exact h7 j u hu) a news.length c news (Nat.mul_one _).symm hnews (by omega) (by unfold maxLen; omega) (by omega)
      obtain ⟨A', c', rfl⟩ := RwG.form (.inl ho)
      exact ⟨A', c', w', hrun, .inl (own_low ho hbase), (Upd.of_grown hg).mono (fun k _ e => by cases e)⟩
/-- append(row, string..). -/
theorem RwG.appS {w : World} {base n : Nat} {v : Value} {xs : List Value} (h : RwG w base v n xs) (hbase : base ≤ w.heap.size) (s : ByteArray) (hlim : n + s.size ≤ 140737488355328) (ty : TypeId) :
    ∃ A' c' w', (Builtin.append_ #[22, 9] ty #[v, .string s]).run Tryz.prog w = .ok (.slice A' (n + s.size) c') w' ∧ RwG w' base (.slice A' (n + s.size) c') (n + s.size) (xs ++ Lib.strCells s) ∧ Upd (fun k => some k = v.ownBlock) w w' := by
  obtain ⟨i0, hi, hz0, hz1, hz2⟩ := info_parts info_u8
  rcases h with h | ⟨h2, g, cap, rfl, h3, h4, h5, h6, h7, h8⟩
  · obtain ⟨v', w', hr, ho, hg, _⟩ := Lib.run_append_own_string (P := Tryz.prog) w base 22 9 ty 5 i0 Tryz.underlying22 Tryz.underlying9 hi hz0 hz1 hz2 v n xs h s (by unfold maxLen; omega) (by omega) hbase
    obtain ⟨A', c', rfl⟩ := RwG.form (.inl ho)
    exact ⟨A', c', w', hr, .inl ho, Upd.of_grown hg⟩
  · have hsl := Lib.strCells_length s
    by_cases hr : n + s.size ≤ cap
    · have hf := Lib.run_firstCells_string (P := Tryz.prog) w 1 s
      have hst := run_storeCells_cells (P := Tryz.prog) g n (Lib.strCells s) 0 w (fun j hj => (h8 (n + 0 + j) (by omega)).1) (fun j hj => (h8 (n + 0 + j) (by omega)).2) (Lib.strCells_oneCell s)
      simp only [Nat.add_zero] at hst
      have hput := RwM.put h2 h3 h4 h6 h7 h8 (Lib.strCells s) (by omega)
      rw [hsl] at hput
      refine ⟨some ⟨g, 0, none⟩, cap, w.setCells g n (Lib.strCells s), ?_, .inr hput, (updG_setCells g _ n w).mono (fun k _ e => by rw [e]; simp [Value.ownBlock])⟩
      simp [Builtin.append_, run_underlying Tryz.underlying22, run_underlying Tryz.underlying9, sizeOf, typeInfo, hi, hz1, Builtin.lenOf, hr, hf, Lib.add_plain, hst]
    · have hlen : (xs ++ Lib.strCells s).length = (n + s.size) * 1 := by rw [List.length_append, h2, hsl, Nat.mul_one]
      have hge := grownCap_ge w (n + s.size) cap 5
      have hcm : grownCap w (n + s.size) cap 5 ≤ maxLen := grownCap_le_maxLen w (n + s.size) cap 5 (by unfold maxLen; omega)
      have hrun := Lib.run_append_grow_string (P := Tryz.prog) w 22 9 ty 5 i0 (.int .u8 0) Tryz.underlying22 Tryz.underlying9 hi hz0 ⟨g, 0, none⟩ n cap xs (by rw [hz1, h2, Nat.mul_one]) (fun j u hu => by rw [Lib.add_plain, Nat.zero_add]; exact h7 j u hu) s (by omega) (by omega) (growslice_fits (by omega) (by rw [hz2]; omega))
      refine ⟨_, _, _, hrun, .inl ⟨hlen, .inr ⟨w.heap.size, _, _, rfl, hbase, heap_alloc_new w.drew _, hge, hcm, ?_, ?_⟩⟩, ((Upd.refl _ w).drew).alloc _⟩
      · have hz : (Value.int IntKind.u8 0).cells.size = 1 := rfl
        simp only [Array.size_append, List.size_toArray, size_zeroCells, hz, h2, hsl]
        omega
      · simp only [Array.toList_append, List.append_assoc]
        rw [← List.append_assoc, ← hlen]
        exact List.take_left
/-- A string's converted row. -/
theorem rwG_conv (w : World) (s : ByteArray) (base : Nat) (hb : base ≤ w.heap.size) : RwG (Lib.bytesWorld w 5 s) base (.slice (some ⟨w.heap.size, 0, none⟩) s.size (grownCap w s.size 0 5)) s.size (Lib.strCells s) := by
  have hat := Lib.bytesWorld_at_new w 5 s
  have hcap := grownCap_ge w s.size 0 5
  have hsz : (Lib.bytesCells w 5 s).size = grownCap w s.size 0 5 := by
    have : s.data.size = s.size := rfl
    simp only [Lib.bytesCells, Array.size_append, Array.size_map, Array.size_replicate, this]
    omega
  refine .inr ⟨Lib.strCells_length s, w.heap.size, _, rfl, hb, by rw [Lib.bytesWorld_size]; omega, hcap, ⟨_, _, hat⟩, ?_, ?_⟩
  · intro j x hx
    have hj : j < s.size := by
      have := (List.getElem?_eq_some_iff.mp hx).1
      rwa [Lib.strCells_length] at this
    rw [cell_of_row _ w.heap.size j _ 5 _ hat]
    have hjd : j < s.data.size := hj
    simp only [Lib.strCells, List.getElem?_map] at hx
    simp only [Lib.bytesCells]
    rw [Array.getElem?_append_left (by simpa using hjd)]
    simpa using hx
  · intro j hj
    rw [cell_of_row _ w.heap.size j _ 5 _ hat]
    have hjs : j < (Lib.bytesCells w 5 s).size := by omega
    refine ⟨by simp [hjs], ?_⟩
    simp only [World.frozen?, hat, Bool.and_eq_false_iff, decide_eq_false_iff_not]
    left
    omega
end Go.Proofs.YtfbokhdimffabaaGreatDoor

/- strconv.AppendInt at base 10 of a number not below 0, onto a row that may bear a mark behind its end. -/
set_option linter.unusedVariables false
set_option linter.unusedSimpArgs false
namespace Go.Proofs.YtfbokhdimffabaaGreatDoor
open Go.ChangeShapes Go.WideShapes Go.ChangeAt Go.RowKit Go.Sort

section
variable {P : Program} {w w' : World} {ops : Array Oper} {rest : List Oper} {o : Oper} {a : Act} {Q : Exit → Act → World → Prop}
theorem wpList_append_two (hgd : o.guard = none) (s x : Operand) (t u : TypeId) (ho : o.op = .call { callee := .builtin .append, args := #[s, x], argTypes := #[t, u] }) {v1 v2 v : Value} (hs : a.eval s = v1) (hx : a.eval x = v2)
    (hrun : (Builtin.append_ #[t, u] o.type #[v1, v2]).run P w = .ok v w') (h : wpList P ops Q rest (a.put o.dst v) w') : wpList P ops Q (o :: rest) a w := by
  refine wpList_plain hgd fun K hK => ?_
  unfold Oper.wp execOp
  simp only [ho, resolve, invoke, builtin, Sem.run_bind, Sem.run_pure, Result.andThen_ok, List.map_toArray, List.map_cons, List.map_nil, hs, hx, hrun]
  exact hK _ _ h
end
def Pow10 (w : World) : Prop := Lib.TabIs Tryz.prog w "internal/strconv.uint64pow10" .u64 Lib.pow10Tab
set_option maxHeartbeats 6400000 in
set_option maxRecDepth 100000 in
theorem appU_small (base n u : Nat) (hu : u < 100) (v : Value) (xs : List Value) (w : World) (h : RwG w base v n xs) (hb : base ≤ w.heap.size) (hlim : n + 20 ≤ 140737488355328) :
    Calls Tryz.prog 98 #[v, .int .u64 u, .int .i64 10] w fun e w' => ∃ A' c', e = .returned (.slice A' (n + (Lib.decDigits u).length) c') ∧ RwG w' base (.slice A' (n + (Lib.decDigits u).length) c') (n + (Lib.decDigits u).length) (xs ++ Lib.byteCells (Lib.decDigits u)) ∧ Upd (fun k => some k = v.ownBlock) w w' := by
  have hlen : (Lib.decDigits u).length ≤ 20 := by
    rw [Lib.decDigits_length]
    by_cases h10 : u < 10
    · rw [Lib.nDigits_small h10]; omega
    · rw [Lib.nDigits_big h10, Lib.nDigits_small (show u / 10 < 10 by omega)]; omega
  have hsz : (⟨(Lib.decDigits u).toArray⟩ : ByteArray).size = (Lib.decDigits u).length := by simp [ByteArray.size]
  obtain ⟨A', c', w1, hrun, h1, h2⟩ := h.appS hb ⟨(Lib.decDigits u).toArray⟩ (by rw [hsz]; omega) 22
  have HS := Lib.hid (fun V => Tryz.internal_strconv_small u hu V)
  rw [hsz] at hrun h1
  have HR := Lib.hid hrun
  have HF := Lib.hid (And.intro h1 h2)
  clear hrun h1 h2 h hlen hsz
  go_enter Tryz.func98, Tryz.ntmps98
  go_wp2_with fail
  refine (HS.out _).mono ?_
  rintro e w' ⟨rfl, rfl⟩
  go_wp2_with (at_builtin; refine wpList_append_two rfl (.tmp 13) (.tmp 16) _ _ rfl rfl rfl HR.out ?_)
  go_ret
  exact ⟨A', c', rfl, HF.out⟩
set_option maxHeartbeats 6400000 in
set_option maxRecDepth 100000 in
theorem appU_big (base n u : Nat) (hu : 100 ≤ u) (hu64 : u < 18446744073709551616) (v : Value) (xs : List Value) (w : World) (h : RwG w base v n xs) (hb : base ≤ w.heap.size) (hlim : n + 20 ≤ 140737488355328) (htab : Pow10 w) :
    Calls Tryz.prog 98 #[v, .int .u64 u, .int .i64 10] w fun e w' => ∃ A' c', e = .returned (.slice A' (n + (Lib.decDigits u).length) c') ∧ RwG w' base (.slice A' (n + (Lib.decDigits u).length) c') (n + (Lib.decDigits u).length) (xs ++ Lib.byteCells (Lib.decDigits u)) ∧ Upd (fun k => some k = v.ownBlock) w w' := by
  have hu1 : 1 ≤ u := by omega
  have hnd : Lib.nDigits u ≤ 20 := by have := Lib.numDigits_eq u hu1 hu64; split at this <;> omega
  have hdl := Lib.decDigits_length u
  have hal : Tryz.prog.arrayLen 154 = 24 := by simp [Program.arrayLen, Tryz.underlying154]
  obtain ⟨nd, hnd'⟩ : ∃ nd, Lib.nDigits u = nd := ⟨_, rfl⟩
  have hND := Lib.hid (fun V ht => Tryz.internal_strconv_numDigits u hu1 hu64 V ht)
  -- the digits' row
  have hz := Lib.holds_zero0 w 154 (Lib.nDigits u) (by omega)
  have hfmt := Tryz.internal_strconv_formatBase10 w.heap.size 0 24 u (Array.replicate (Lib.nDigits u) 0) (w.alloc (.cells Lib.zeros24 154)) hz (by rw [Array.size_replicate]; exact Lib.lt_pow_nDigits u) hu64 (by rw [Array.size_replicate]; omega)
  rw [Array.size_replicate] at hfmt
  have hsl : ∀ W, (Instr.sliceAt 154 (.pointer (some ⟨w.heap.size, 0, none⟩)) none (some (.int .i64 (Lib.nDigits u : Int))) none).run Tryz.prog W = .ok (.slice (some ⟨w.heap.size, 0, none⟩) (Lib.nDigits u) 24) W := fun W => by
    rw [run_sliceAt_array_h W 154 ⟨w.heap.size, 0, none⟩ (by simp [Program.arrayLen, Program.elem, Tryz.underlying154]) .i64 (Lib.nDigits u : Int) (by omega) (by rw [hal]; omega)]
    go_simp
  have iu : (100 : Int) ≤ (u : Int) := by omega
  have hT := Lib.hid (Lib.tabIs_alloc htab (.cells Lib.zeros24 154))
  -- what stands once the digits are laid
  have hstep : Hid (∀ (k v' : Nat) (dk : Array UInt8), Lib.FmtInv (Lib.nDigits u) u 0 v' dk → ∃ W2, (putRow (fun (b : UInt8) => Value.int .u8 (b.toNat : Int)) (w.alloc (.cells Lib.zeros24 154)) w.heap.size 0 dk).drewN k = W2 ∧ ∃ A' c' w3, (Builtin.append_ #[22, 22] 22 #[v, .slice (some ⟨w.heap.size, 0, none⟩) (Lib.nDigits u) 24]).run Tryz.prog W2 = .ok (.slice A' (n + Lib.nDigits u) c') w3 ∧ RwG w3 base (.slice A' (n + Lib.nDigits u) c') (n + Lib.nDigits u) (xs ++ Lib.byteCells (Lib.decDigits u)) ∧ Upd (fun k => some k = v.ownBlock) w w3) := Lib.hid (by
    intro k v' dk hF
    have hcells : ∀ j x, (Lib.byteCells (Lib.decDigits u))[j]? = some x → ((putRow (fun (b : UInt8) => Value.int .u8 (b.toNat : Int)) (w.alloc (.cells Lib.zeros24 154)) w.heap.size 0 dk).drewN k).cell? ((⟨w.heap.size, 0, none⟩ : Addr).add j) = some x := by
      intro j x hx
      have hj : j < (Lib.decDigits u).length := by
        have := (List.getElem?_eq_some_iff.1 hx).1
        rwa [Lib.byteCells_length] at this
      have hx2 : (Lib.byteCells (Lib.decDigits u))[j]? = some (Value.int .u8 ((Lib.decDigits u)[j].toNat : Int)) := by simp [Lib.byteCells, hj]
      rw [hx2] at hx
      rw [← hx, Lib.row_is_numeral hF j hj, Lib.add_plain, World.cell?_drewN]
      exact cell?_putRow (fun (b : UInt8) => Value.int .u8 (b.toNat : Int)) _ w.heap.size 0 _ dk hz (by rw [hF.size, Array.size_replicate]) j (by rw [hF.size, ← hdl]; exact hj)
    obtain ⟨os, eo⟩ := Lib.fin_at w (.cells Lib.zeros24 154) dk k 0
    have hbel : Below w.heap.size w ((putRow (fun (b : UInt8) => Value.int .u8 (b.toNat : Int)) (w.alloc (.cells Lib.zeros24 154)) w.heap.size 0 dk).drewN k) := by rw [eo]; exact Lib.below_grow w.heap.size w (Nat.le_refl _) k os
    refine ⟨_, rfl, ?_⟩
    have hu2 := Upd.of_fresh hbel
    have h2 := h.upd hu2 (fun _ _ => id)
    obtain ⟨A', c', w3, hrun, h3, h4⟩ := h2.app (Nat.le_trans hb hbel.size) ⟨w.heap.size, 0, none⟩ (Lib.nDigits u) 24 (Lib.byteCells (Lib.decDigits u)) (by rw [Lib.byteCells_length, hdl]) hcells (by intro y hy; simp only [Lib.byteCells, List.mem_map] at hy; obtain ⟨b, _, rfl⟩ := hy; rfl) (by omega) 22
    exact ⟨A', c', w3, hrun, h3, (hu2.mono (fun _ _ h => absurd h id)).then h4 (fun _ _ h => h)⟩)
  have HF := Lib.hid hfmt
  have HSL := Lib.hid hsl
  rw [hdl]
  clear hz hfmt h htab hal hnd'
  go_enter Tryz.func98, Tryz.ntmps98
  go_wp2_with fail
  refine (hND.out _ hT.out).mono ?_
  rintro e w' ⟨rfl, rfl⟩
  go_wp2_with fail
  refine HF.out.mono ?_
  rintro e w' ⟨rfl, k, v', dk, rfl, hI⟩
  obtain ⟨W2, hW, A', c', w3, hrun, h3, h4⟩ := hstep.out k v' dk hI
  rw [hW]
  have HR := Lib.hid hrun
  have HO := Lib.hid (And.intro h3 h4)
  clear hrun h3 h4 hW hI hstep HF
  go_wp2_with (at_builtin; refine wpList_append_run rfl (.tmp 24) (.tmp 26) _ rfl rfl rfl HR.out ?_)
  go_ret
  exact ⟨A', c', rfl, HO.out⟩
theorem appU_any (base n u : Nat) (hu64 : u < 18446744073709551616) (v : Value) (xs : List Value) (w : World) (h : RwG w base v n xs) (hb : base ≤ w.heap.size) (hlim : n + 20 ≤ 140737488355328) (htab : Pow10 w) :
    Calls Tryz.prog 98 #[v, .int .u64 u, .int .i64 10] w fun e w' => ∃ A' c', e = .returned (.slice A' (n + (Lib.decDigits u).length) c') ∧ RwG w' base (.slice A' (n + (Lib.decDigits u).length) c') (n + (Lib.decDigits u).length) (xs ++ Lib.byteCells (Lib.decDigits u)) ∧ Upd (fun k => some k = v.ownBlock) w w' := by
  by_cases hu : u < 100
  · exact appU_small base n u hu v xs w h hb hlim
  · exact appU_big base n u (by omega) hu64 v xs w h hb hlim htab
set_option maxRecDepth 100000 in
/-- strconv.AppendInt(row, u, 10). -/
theorem appI_any (base n u : Nat) (hu63 : u < 9223372036854775808) (v : Value) (xs : List Value) (w : World) (h : RwG w base v n xs) (hb : base ≤ w.heap.size) (hlim : n + 20 ≤ 140737488355328) (htab : Pow10 w) :
    Calls Tryz.prog 58 #[v, .int .i64 u, .int .i64 10] w fun e w' => ∃ A' c', e = .returned (.slice A' (n + (Lib.decDigits u).length) c') ∧ RwG w' base (.slice A' (n + (Lib.decDigits u).length) c') (n + (Lib.decDigits u).length) (xs ++ Lib.byteCells (Lib.decDigits u)) ∧ Upd (fun k => some k = v.ownBlock) w w' := by
  have HA := Lib.hid (appU_any base n u (by omega) v xs w h hb hlim htab)
  have hin : Calls Tryz.prog 84 #[v, .int .i64 u, .int .i64 10] w fun e w' => ∃ A' c', e = .returned (.slice A' (n + (Lib.decDigits u).length) c') ∧ RwG w' base (.slice A' (n + (Lib.decDigits u).length) c') (n + (Lib.decDigits u).length) (xs ++ Lib.byteCells (Lib.decDigits u)) ∧ Upd (fun k => some k = v.ownBlock) w w' := by
    have hwr : IntKind.u64.wrap (u : Int) = (u : Int) := by rw [IntKind.wrap_u64]; omega
    clear h htab
    go_enter Tryz.func84, Tryz.ntmps84
    go_wp2_with fail
    refine HA.out.mono ?_
    rintro e w' ⟨A', c', rfl, h1, h2⟩
    have HO := Lib.hid (And.intro h1 h2)
    clear h1 h2
    go_wp2_with fail
    go_ret
    exact ⟨A', c', rfl, HO.out⟩
  have HI := Lib.hid hin
  clear hin h htab
  go_enter Tryz.func58, Tryz.ntmps58
  go_wp2_with fail
  refine HI.out.mono ?_
  rintro e w' ⟨A', c', rfl, h1, h2⟩
  have HO := Lib.hid (And.intro h1 h2)
  clear h1 h2
  go_wp2_with fail
  go_ret
  exact ⟨A', c', rfl, HO.out⟩
end Go.Proofs.YtfbokhdimffabaaGreatDoor
