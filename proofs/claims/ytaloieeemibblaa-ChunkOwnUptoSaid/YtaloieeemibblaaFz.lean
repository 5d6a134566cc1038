/- Joined texts (a claim has at most 60 files). -/
import Derived.Test.YtaloieeemibblaaFv
import Derived.Handy
import Derived.Deep.LoopGhost
import Derived.Test.YtaloieeemibblaaFc
/- What is handed in stays: rows of chunks that are kept, rows that are written over. -/
set_option linter.unusedVariables false
set_option linter.unusedSimpArgs false
namespace Go.Proofs.Ytaloieeemibblaa
open Go.ChangeShapes Go.WideShapes Go.ChangeAt Go.RowKit
theorem ownBlock_sl (A : Option Addr) (n c : Nat) : (Value.slice A n c).ownBlock = A.map (·.block) := by cases A <;> rfl
def SpZ (A : Option Addr) : Nat → Prop := fun k => A.map (·.block) = some k
def SpAt (w : World) (base : Nat) (A : Option Addr) (n c : Nat) (wr : World) : Prop :=
  ∃ xs : List UInt8, wr.ownsRow base 5 1 (.slice A n c) n (bytesV xs) ∧ Upd (SpZ A) w wr
def SpGr (w : World) (base : Nat) (A : Option Addr) (n m : Nat) (v : Value) (wr : World) : Prop :=
  ∃ (A' : Option Addr) (c' : Nat) (xs : List UInt8), v = .slice A' (n + m) c' ∧ wr.ownsRow base 5 1 (.slice A' (n + m) c') (n + m) (bytesV xs) ∧ Upd (SpZ A) w wr ∧ (∀ k, A'.map (·.block) = some k → A.map (·.block) = some k ∨ w.heap.size ≤ k)
theorem five : bytesV [5] = [.int .u8 5] := rfl
theorem bs_lit1 (w : World) (t : TypeId) (x : UInt8) : Bs (w.alloc (.cells #[.int .u8 (x.toNat : Int)] t)) (w.heap.size + 1) (some ⟨w.heap.size, 0, none⟩) [x] := fun _ => by
  refine ⟨_, rfl, Nat.lt_succ_self _, fun j hj => ?_⟩
  have hj0 : j = 0 := by simp at hj; omega
  subst hj0
  exact (Blk.new w t _).cell 0
theorem up_byte (x : Nat) : ∃ z : UInt8, ((x : Int) + 1) % 256 = (z.toNat : Int) := by
  refine ⟨UInt8.ofNat ((x + 1) % 256), ?_⟩
  rw [UInt8.toNat_ofNat']
  omega

set_option maxHeartbeats 1000000 in
set_option maxRecDepth 100000 in
theorem spoil_any (w : World) (base : Nat) (A : Option Addr) (n c : Nat) (l : List UInt8) (hown : w.ownsRow base 5 1 (.slice A n c) n (bytesV l)) (hn : n ≤ 140737488355000) (hbase : base ≤ w.heap.size) :
    Calls Try.prog 27 #[.slice A n c] w fun e w' => e = .returned (.tuple #[]) ∧ Upd (SpZ A) w w' := by
  obtain ⟨i0, hi, hz0, hz1, hz2⟩ := info_parts info_u8
  have HO := Lib.hid hown; clear hown
  go_enter Try.func27, Try.ntmps27
  go_wp2_with fail
  go_loopw [6] (fun i wr => ∃ k : Nat, k ≤ n ∧ i = .int .i64 k ∧ SpAt w base A n c wr) (fun i _ => n - (intOf i).toNat)
  case atStart => exact ⟨0, by omega, rfl, l, HO.out, Upd.refl _ _⟩
  case round =>
    obtain ⟨k, hk, rfl, xs, hO, hU⟩ := hrel
    have HU := Lib.hid hU; clear hU
    by_cases hlt : k < n
    · obtain ⟨g, cap, hv, _, hgl⟩ := hO.form (by omega)
      obtain ⟨rfl, rfl⟩ : A = some ⟨g, 0, none⟩ ∧ c = cap := by injection hv with h1 _ h2; exact ⟨h1, h2⟩
      clear hv
      have hxl : xs.length = n := by have := hO.1; rw [bytesV_length] at this; omega
      have hkx : k < xs.length := by omega
      have hcell := hO.cellAt k (by omega)
      rw [bytesV_get xs k hkx] at hcell
      have hfz := hO.frozenAt k
      obtain ⟨x, hx⟩ : ∃ x, x = xs[k].toNat := ⟨_, rfl⟩
      have hx2 : x < 256 := by have := byte_lt xs[k]; omega
      rw [← hx] at hcell
      obtain ⟨z, hz⟩ := up_byte x
      have hst := own_set hO k z
      have HST := Lib.hid hst; clear hst
      have HO2 := Lib.hid hO; clear hO
      clear hx hxl hkx
      go_wp2_with fail
      go_roundw
      case rel => exact ⟨k + 1, by omega, by go_num, _, HST.out, HU.out.setCell (p := ⟨g, k, none⟩) (fun _ => rfl) _⟩
      case measure => simp [intOf]; omega
    · have HO := Lib.hid hO; clear hO
      go_wp2_with fail
      go_loopw [0, 3] (fun v i wr => ∃ m : Nat, m ≤ 20 ∧ i = .int .i64 m ∧ SpGr w base A n m v wr) (fun _ i _ => 20 - (intOf i).toNat)
      case atStart => exact ⟨0, by omega, rfl, A, c, xs, rfl, HO.out, HU.out, fun k h => .inl h⟩
      case round =>
        obtain ⟨m, hm, rfl, A2, c2, ys, rfl, hO2, hU2, hat2⟩ := hrel
        have HO2 := Lib.hid hO2; clear hO2
        have HU2 := Lib.hid hU2; clear hU2
        have HA2 := Lib.hid hat2; clear hat2
        by_cases hmt : m < 20
        · have hs2 := HU2.out.size
          go_wp2_with (at_builtin; refine wpList_append_bs _ rfl (.tmp 22) (.tmp 23) _ rfl base 5 i0 Try.underlying22 hi hz0 hz1 hz2 (.slice A2 (n + m) c2) (n + m) (bytesV ys) rfl (HO2.out.alloc _) (wr.heap.size + 1) (some ⟨wr.heap.size, 0, none⟩) 1 [5] rfl (bs_lit1 wr 5 5) (by simp; omega) (by simp; omega) ?_; intro A3 c3 w3 hO3 hg3 hat3)
          have HA3 := Lib.hid hat3; clear hat3
          go_roundw
          case rel =>
            refine ⟨m + 1, by omega, by go_num, A3, c3, ys ++ [5], rfl, by rw [bytesV_append]; exact hO3, ?_, fun k hk => ?_⟩
            · have u1 : Upd (SpZ A) w (wr.alloc (.cells #[.int .u8 5] 5)) := HU2.out.alloc _
              refine u1.then (Upd.of_grown hg3) (fun i hi e => ?_)
              rcases HA2.out i (by rw [← ownBlock_sl]; exact e.symm) with h | h
              · exact h
              · omega
            · rcases HA3.out with h | h
              · rw [ownBlock_sl, ownBlock_sl] at h
                exact HA2.out k (by rw [← h]; exact hk)
              · rw [ownBlock_sl] at h
                rw [h] at hk
                simp at hk
                right
                omega
          case measure => simp [intOf]; omega
        · obtain rfl : m = 20 := by omega
          go_wp2_with fail
          go_end0
          exact ⟨rfl, HU2.out⟩
open Classical in
/-- How many chunks bytes are taken apart into. -/
noncomputable def nSp (b : List UInt8) : Nat := if h : ∃ k, splitYes b k then h.choose + 1 else 0
theorem nSp_yes {b : List UInt8} {k : Nat} (h : splitYes b k) : nSp b = k + 1 := by
  have hx : ∃ k, splitYes b k := ⟨k, h⟩
  unfold nSp
  rw [dif_pos hx, yes_one hx.choose_spec h]
theorem nSp_le (b : List UInt8) : 12 * nSp b ≤ b.length + 12 := by
  unfold nSp
  split
  · rename_i h
    have := yes_short h.choose_spec
    omega
  · omega
theorem SplitP.any {w w' : World} {b : List UInt8} {e : Ending} (h : SplitP w b e w') : ∃ A n c ev, e = .returned (.tuple #[.slice A n c, .int .i64 ev]) ∧ n = nSp b ∧ Row w (b.drop 8) A n c w' ∧ Below w.heap.size w w' := by
  by_cases hy : ∃ k, splitYes b k
  · obtain ⟨k, hk⟩ := hy
    obtain ⟨A, c, h1, h2, h3⟩ := h.yes hk
    exact ⟨A, k + 1, c, 0, h1, (nSp_yes hk).symm, h2, h3⟩
  · obtain ⟨h1, h2⟩ := h.no hy
    exact ⟨none, 0, 0, 9, h1, by unfold nSp; rw [dif_neg hy], nil_row _ _ _, h2⟩
theorem OutB.any {w w' : World} {R : Except Nat (List UInt8)} {e : Ending} (h : OutB w R e w') (M : Nat) (hM : ∀ l, R = .ok l → l.length ≤ M) : ∃ A n c ev xs, e = .returned (.tuple #[.slice A n c, .int .i64 ev]) ∧ n ≤ M ∧ w'.ownsRow w.heap.size 5 1 (.slice A n c) n (bytesV xs) ∧ Below w.heap.size w w' := by
  obtain ⟨hb, h2⟩ := h
  cases R with
  | error k => exact ⟨none, 0, 0, (k : Nat), [], h2, Nat.zero_le _, World.ownsRow_nil _ _ _ _, hb⟩
  | ok l =>
    obtain ⟨A, c, h3, h4⟩ := h2
    exact ⟨A, l.length, c, 0, l, h3, hM l rfl, h4, hb⟩
/-- A row of chunks whose blocks lie between two. -/
def RowB (lo hi : Nat) (lb : List UInt8) (A : Option Addr) (n c : Nat) (V : World) : Prop := ∃ L : List It, V.ownsRow lo 57 2 (.slice A n c) n (ckVs L) ∧ (∀ j, (Value.slice A n c).ownBlock = some j → j < hi) ∧ L.length = n ∧
  ∀ (j : Nat) (hj : j < L.length), L[j].t = typC lb j ∧ L[j].n = be4 (restC lb j) 0 ∧ V.ownsRow lo 5 1 L[j].v L[j].n (bytesV (datC lb j)) ∧ ∀ q, L[j].v.ownBlock = some q → q < hi
theorem RowB.of {w w' : World} {lb : List UInt8} {A : Option Addr} {n c : Nat} (h : Row w lb A n c w') : RowB w.heap.size w'.heap.size lb A n c w' := by
  obtain ⟨L, h1, h2, h3⟩ := h
  exact ⟨L, h1, fun j hj => (h1.lt j hj).2, h2, fun j hj => ⟨(h3 j hj).1, (h3 j hj).2.1, (h3 j hj).2.2, fun q hq => ((h3 j hj).2.2.lt q hq).2⟩⟩
theorem RowB.upd {lo hi : Nat} {lb : List UInt8} {A : Option Addr} {n c : Nat} {V V' : World} (h : RowB lo hi lb A n c V) {S : Nat → Prop} (u : Upd S V V') (hS : ∀ j, lo ≤ j → j < hi → ¬ S j) : RowB lo hi lb A n c V' := by
  obtain ⟨L, h1, h2, h3, h4⟩ := h
  exact ⟨L, own_upd h1 u (fun j hj => hS j (h1.lt j hj).1 (h2 j hj)), h2, h3, fun j hj => ⟨(h4 j hj).1, (h4 j hj).2.1, own_upd (h4 j hj).2.2.1 u (fun q hq => hS q ((h4 j hj).2.2.1.lt q hq).1 ((h4 j hj).2.2.2 q hq)), (h4 j hj).2.2.2⟩⟩
theorem RowB.row {w V : World} {hi : Nat} {lb : List UInt8} {A : Option Addr} {n c : Nat} (h : RowB w.heap.size hi lb A n c V) : Row w lb A n c V := by
  obtain ⟨L, h1, h2, h3, h4⟩ := h
  exact ⟨L, h1, h3, fun j hj => ⟨(h4 j hj).1, (h4 j hj).2.1, (h4 j hj).2.2.1⟩⟩
/-- A row of chunks that is written over: its blocks lie between two, what they hold is free. -/
def RowX (lo hi : Nat) (A : Option Addr) (n c : Nat) (L : List It) (V : World) : Prop := V.ownsRow lo 57 2 (.slice A n c) n (ckVs L) ∧ (∀ j, (Value.slice A n c).ownBlock = some j → j < hi) ∧ L.length = n ∧
  ∀ (j : Nat) (hj : j < L.length), (∃ xs, V.ownsRow lo 5 1 L[j].v L[j].n (bytesV xs)) ∧ ∀ q, L[j].v.ownBlock = some q → q < hi
theorem RowX.of {lo hi : Nat} {lb : List UInt8} {A : Option Addr} {n c : Nat} {V : World} (h : RowB lo hi lb A n c V) : ∃ L, RowX lo hi A n c L V := by
  obtain ⟨L, h1, h2, h3, h4⟩ := h
  exact ⟨L, h1, h2, h3, fun j hj => ⟨⟨_, (h4 j hj).2.2.1⟩, (h4 j hj).2.2.2⟩⟩
theorem own_ty {w : World} {base s n : Nat} {e : TypeId} {v : Value} {xs : List Value} (h : w.ownsRow base e s v n xs) {g : Nat} (hg : v.ownBlock = some g) : ∃ cur, w.heap[g]? = some (.cells cur e (0, 0)) := by
  rcases h.2 with ⟨e', _⟩ | ⟨g', c, cur, e', _, a, _⟩
  · rw [e'] at hg; cases hg
  · have e1 : g' = g := by rw [e'] at hg; simpa [Value.ownBlock] using hg
    subst e1
    exact ⟨cur, a⟩
theorem ty_ne {w : World} {base s n base2 s2 m : Nat} {v v2 : Value} {xs ys : List Value} (h : w.ownsRow base 57 s v n xs) (h2 : w.ownsRow base2 5 s2 v2 m ys) {g : Nat} (hg : v.ownBlock = some g) : ¬ v2.ownBlock = some g := fun hg2 => by
  obtain ⟨c1, e1⟩ := own_ty h hg
  obtain ⟨c2, e2⟩ := own_ty h2 hg2
  rw [e1] at e2
  injection e2 with e2
  injection e2 with _ e2
  exact absurd e2 (by decide)
theorem ckVs_set : ∀ (L : List It) (i : Nat) (hi : i < L.length) (t : ByteArray), (ckVs L).set (i * 2) (.string t) = ckVs (L.set i { L[i] with t := t })
  | x :: L, 0, _, t => rfl
  | x :: L, i + 1, h, t => by
    have h1 := ckVs_set L i (by simpa using h) t
    have e : ∀ (y : It) (M : List It), ckVs (y :: M) = .string y.t :: y.v :: ckVs M := fun _ _ => rfl
    rw [e, show (i + 1) * 2 = i * 2 + 1 + 1 by omega, List.set_cons_succ, List.set_cons_succ, h1, List.set_cons_succ, e]
    rfl
section
variable {lo hi : Nat} {A : Option Addr} {n c : Nat} {L : List It} {V : World}
theorem RowX.drew (h : RowX lo hi A n c L V) : RowX lo hi A n c L V.drew := h
theorem RowX.upd (h : RowX lo hi A n c L V) {V' : World} {S : Nat → Prop} (u : Upd S V V') (hS : ∀ j, lo ≤ j → j < hi → ¬ S j) : RowX lo hi A n c L V' := by
  obtain ⟨h1, h2, h3, h4⟩ := h
  refine ⟨own_upd h1 u (fun j hj => hS j (h1.lt j hj).1 (h2 j hj)), h2, h3, fun j hj => ⟨?_, (h4 j hj).2⟩⟩
  obtain ⟨xs, hx⟩ := (h4 j hj).1
  exact ⟨xs, own_upd hx u (fun q hq => hS q (hx.lt q hq).1 ((h4 j hj).2 q hq))⟩
/-- The cells of a chunk in it. -/
theorem RowX.at_ (h : RowX lo hi A n c L V) (i : Nat) (hin : i < n) : ∃ g, A = some ⟨g, 0, none⟩ ∧ lo ≤ g ∧ g < hi ∧ ∃ t D dn dc, V.cell? ⟨g, i * 2, none⟩ = some (.string t) ∧ V.frozen? ⟨g, i * 2, none⟩ = false ∧ V.cell? ⟨g, i * 2 + 1, none⟩ = some (.slice D dn dc) ∧ (∀ hl : i < L.length, L[i].v = .slice D dn dc ∧ L[i].n = dn) := by
  obtain ⟨h1, h2, h3, h4⟩ := h
  obtain ⟨g, cap, hv, hg, hlt⟩ := h1.form (by omega)
  have hA : A = some ⟨g, 0, none⟩ := by injection hv
  subst hA
  have hil : i < L.length := by omega
  obtain ⟨a1, a2⟩ := ckVs_at L i hil
  refine ⟨g, rfl, hg, h2 g rfl, L[i].t, L[i].A, L[i].n, L[i].c, ?_, h1.frozenAt _, ?_, fun _ => ⟨rfl, rfl⟩⟩
  · rw [h1.cellAt (i * 2) (by omega), a1]
  · rw [h1.cellAt (i * 2 + 1) (by omega), a2]
/-- A byte of a chunk's data. -/
theorem RowX.byte (h : RowX lo hi A n c L V) (i : Nat) (hil : i < L.length) {D : Option Addr} {dn dc : Nat} (e : L[i].v = .slice D dn dc) (en : L[i].n = dn) (q : Nat) (hq : q < dn) : ∃ g x, D = some ⟨g, 0, none⟩ ∧ lo ≤ g ∧ g < hi ∧ x < 256 ∧ V.cell? ⟨g, q, none⟩ = some (.int .u8 (x : Nat)) ∧ V.frozen? ⟨g, q, none⟩ = false ∧ (dn ≤ dc ∧ dc ≤ maxLen) ∧
    ∀ z : UInt8, RowX lo hi A n c L (V.setCell ⟨g, q, none⟩ (.int .u8 (z.toNat : Int))) := by
  obtain ⟨h1, h2, h3, h4⟩ := h
  obtain ⟨⟨xs, hx⟩, hb⟩ := h4 i hil
  rw [e, en] at hx
  rw [e] at hb
  obtain ⟨g, cap, hv, hg, hlt⟩ := hx.form (by omega)
  obtain ⟨rfl, rfl⟩ : D = some ⟨g, 0, none⟩ ∧ dc = cap := by injection hv with h1 _ h2; exact ⟨h1, h2⟩
  have hxl : xs.length = dn := by have := hx.1; rw [bytesV_length] at this; omega
  have hqx : q < xs.length := by omega
  refine ⟨g, xs[q].toNat, rfl, hg, hb g rfl, xs[q].toNat_lt, ?_, hx.frozenAt _, ?_, fun z => ?_⟩
  · rw [hx.cellAt q (by omega), bytesV_get xs q hqx]
  · exact own_room hx
  · have us := (Upd.refl (· = g) V).setCell (p := ⟨g, q, none⟩) (fun _ => rfl) (.int .u8 (z.toNat : Int))
    refine ⟨own_upd h1 us (fun j hj e => ?_), h2, h3, fun j hj => ⟨?_, (h4 j hj).2⟩⟩
    · subst e
      exact ty_ne h1 hx hj rfl
    · obtain ⟨⟨ys, hy⟩, _⟩ := h4 j hj
      by_cases hjg : L[j].v.ownBlock = some g
      · have hn0 : 0 < L[j].n ∨ L[j].n = 0 := by omega
        rcases hy.2 with ⟨e', _⟩ | ⟨g', cp, cur, e', _, _⟩
        · rw [e'] at hjg; cases hjg
        · have e1 : g' = g := by rw [e'] at hjg; simpa [Value.ownBlock] using hjg
          subst e1
          rw [e'] at hy ⊢
          exact ⟨_, own_set hy q z⟩
      · exact ⟨ys, own_upd hy us (fun k hk e => hjg (by rw [hk, e]))⟩
/-- A chunk's type, written. -/
theorem RowX.type {g : Nat} (h : RowX lo hi (some ⟨g, 0, none⟩) n c L V) (i : Nat) (hil : i < L.length) (t : ByteArray) : RowX lo hi (some ⟨g, 0, none⟩) n c (L.set i { L[i] with t := t }) (V.setCell ⟨g, i * 2, none⟩ (.string t)) := by
  obtain ⟨h1, h2, h3, h4⟩ := h
  have us := (Upd.refl (· = g) V).setCell (p := ⟨g, i * 2, none⟩) (fun _ => rfl) (.string t)
  have hst := (h1.stored (i * 2) (.string t)).1
  rw [ckVs_set L i hil t] at hst
  refine ⟨hst, h2, by rw [List.length_set]; exact h3, fun j hj => ?_⟩
  rw [List.length_set] at hj
  have e : ((L.set i { L[i] with t := t })[j]'(by rw [List.length_set]; exact hj)).v = L[j].v ∧ ((L.set i { L[i] with t := t })[j]'(by rw [List.length_set]; exact hj)).n = L[j].n := by
    rw [List.getElem_set]
    split
    · rename_i h; subst h; exact ⟨rfl, rfl⟩
    · exact ⟨rfl, rfl⟩
  rw [e.1, e.2]
  obtain ⟨⟨ys, hy⟩, hb⟩ := h4 j hj
  exact ⟨⟨ys, own_upd hy us (fun k hk e => by subst e; exact ty_ne h1 hy rfl hk)⟩, hb⟩
end
end Go.Proofs.Ytaloieeemibblaa

/- Proved: chunks and bytes that are handed in stay; what is answered is new memory. Condition: the form's own (bulk at most 1048576). -/
set_option linter.unusedVariables false
set_option linter.unusedSimpArgs false
namespace Go.Proofs.Ytaloieeemibblaa
open Go.ChangeShapes Go.WideShapes Go.ChangeAt Go.RowKit
section
variable {H : Type} {enc : TypeId × Value → H} {W : World} {base : Nat} {v : Value} {d : DataW H} {p : List MemPlace}
theorem bytes_cap (hj : DataW.Trod enc Try.prog W 0 (fun _ => true) true 22 v d p) {A : Option Addr} {n c : Nat} (e : v = .slice A n c) : c ≤ maxLen := by
  subst e
  obtain ⟨fuel, hf⟩ := hj
  rcases open_ints Try.underlying22 Try.underlying5 cells_u8 hf with ⟨hcs, hx⟩ | ⟨x, l, c, zs, hcs, _, hl, hm, hz, hx, hcell, hwz⟩
  · simp [Value.cells] at hcs
    obtain ⟨rfl, rfl, rfl⟩ := hcs
    exact Nat.zero_le _
  · simp [Value.cells] at hcs
    obtain ⟨rfl, rfl, rfl⟩ := hcs
    exact hm
end
namespace ChunkOwn
theorem filt_le {lb b : List UInt8} (h : filtM 1 1 2 lb = .ok b) : b.length ≤ 2 * lb.length := by
  unfold filtM at h
  split at h
  · cases h
  · injection h with h
    rw [← h, outF_length, show (1 : Int).toNat = 1 from rfl, Nat.div_one]
    omega
theorem unf_le {lb b : List UInt8} (h : ufM 1 1 lb = .ok b) : b.length ≤ lb.length := by
  unfold ufM at h
  split at h
  · cases h
  · split at h
    · cases h
    · split at h
      · cases h
      · injection h with h
        rw [← h, outU_length, show (1 : Int).toNat = 1 from rfl, Nat.one_mul]
        exact Nat.div_le_self _ _
theorem join_le {l : List Ck} {b : List UInt8} (h : joinM l = .ok b) : b.length ≤ 8 + 3 * bulkC l := by
  rcases joinM_cases l with h1 | ⟨_, h1⟩
  · rw [h1] at h; cases h
  · rw [h1] at h
    injection h with h
    rw [← h]
    exact joinF_bulk l
theorem lit77 (w : World) : Bs (w.alloc (.cells #[.int .u8 77] 5)) (w.heap.size + 1) (some ⟨w.heap.size, 0, none⟩) [77] := bs_lit1 w 5 77

set_option maxHeartbeats 4000000 in
set_option maxRecDepth 100000 in
theorem walk (A : Option Addr) (c : Nat) (l : List Ck) (A1 : Option Addr) (c1 : Nat) (l1 : List UInt8) (w : World) (hck : Cks w w.heap.size A l) (hbk : bulkC l ≤ 1048576) (hbs : Bs w w.heap.size A1 l1) (hlc : l1.length ≤ c1) (hc1 : c1 ≤ maxLen) (hl1 : l1.length ≤ 1048576) :
    Calls Try.prog 9 #[.slice A l.length c, .slice A1 l1.length c1] w fun e w' => e = .returned (.bool true) ∧ Below w.heap.size w w' := by
  have hlen := bulkC_len l
  have hjb := joinF_bulk l
  have hts : ∀ k ∈ l, k.t.size ≤ 140737488355328 := fun k hk => by have := bulkC_mem hk; omega
  have hds : ∀ k ∈ l, k.d.length < 4294967296 := fun k hk => by have := bulkC_mem hk; omega
  have hdm : Hid (∀ k ∈ l, k.d.length ≤ maxLen) := Lib.hid (fun k hk => by have := bulkC_mem hk; unfold maxLen; omega)
  obtain ⟨n, hn⟩ : ∃ n, l.length = n := ⟨_, rfl⟩
  obtain ⟨m, hm⟩ : ∃ m, l1.length = m := ⟨_, rfl⟩
  rw [hn] at hlen hjb ⊢
  rw [hm] at hl1 hlc ⊢
  have htot : (joinF l n).length ≤ 140737488355328 := by omega
  have HN := Lib.hid hn
  have HM := Lib.hid hm
  have HCK := Lib.hid hck
  have HBS := Lib.hid hbs
  go_enter Try.func9, Try.ntmps9
  go_upto_region 3 with (go_at_call 10; refine (wakes_any w).mono ?_; rintro e w1 ⟨rfl, hb1⟩)
  have hs1 := hb1.size
  have HB1 := Lib.hid hb1
  have HC := Lib.hid (own_any A1 c1 m l1 hm w.heap.size w1 (hbs.below hb1) hs1 (by omega))
  have HLC := Lib.hid (fun (V : World) (hb : Below w.heap.size w V) => lawChunks_any A n c l hn (by omega) (fun k hk => by have := bulkC_mem hk; omega) w.heap.size V (hck.below hb) hb.size)
  have HJN := Lib.hid (fun (A2 : Option Addr) (c2 : Nat) (B : Nat) (V : World) (h : Cks V B A2 l) (hB : B ≤ V.heap.size) => join_any A2 n c2 l hn (by omega) hts hds htot B V h hB)
  have HBK := Lib.hid (And.intro hbk hlen)
  clear hb1 hck hbs hts hds htot hjb hbk hlen hn hm
  go_upto_region 4 with (first
    | (go_at_call 12; refine HC.out.mono ?_; rintro e w2 ⟨A2, c2, rfl, o2, hb2⟩; obtain ⟨A3, c3, w3, hrun, o3, g3, _⟩ := append8 w1.heap.size (w2.alloc (.cells #[.int .u8 77] 5)) (.slice A2 m c2) m l1 (own_upd o2 ((Upd.refl No w2).alloc _) (fun _ _ => id)) (Nat.le_trans hb2.size ((Upd.refl No w2).alloc _).size) (w2.heap.size + 1) (some ⟨w2.heap.size, 0, none⟩) 1 1 [77] rfl (lit77 w2) (by omega) 22; have HRN := Lib.hid hrun; have HO3 := Lib.hid o3; have HB3 : Hid (Below w1.heap.size w1 w3) := Lib.hid ((hb2.trans (((Upd.refl No w2).alloc _).fresh.mono hb2.size)).trans ((Upd.of_grown g3).below (Nat.le_trans hb2.size ((Upd.refl No w2).alloc _).size) (fun j hj e => by have := (o2.lt j e.symm).1; omega))); clear hrun o3 g3 o2 hb2 HC)
    | (at_builtin; refine wpList_append_run rfl (.tmp 24) (.tmp 25) _ rfl rfl rfl HRN.out ?_)
    | (go_at_call 16; refine (HLC.out w3 (HB1.out.trans (HB3.out.mono hs1))).mono ?_; rintro e w4 ⟨A4, c4, rfl, r4, hb4⟩))
  have hs3 := HB3.out.size
  have hs4 := hb4.size
  have HB4 := Lib.hid ((HB1.out.trans (HB3.out.mono hs1)).trans (hb4.mono (Nat.le_trans hs1 hs3)))
  have HFR := Lib.hid r4.cks
  have o4 := own_upd HO3.out (Upd.of_fresh hb4) (fun _ _ => id)
  obtain ⟨ai, rfl, hi1, hi2, _, _⟩ := row_form o4 (by omega)
  have HIN := Lib.hid (bs_own o4).1
  have hroom := own_room o4
  clear o4 hb4 r4 HO3 HB3 HB1 HRN HLC
  have HTK : Hid (Bs w4 w4.heap.size (some ⟨ai, 0, none⟩) l1) := Lib.hid (by
    have := HIN.out.take m
    rw [List.take_append_of_le_length (by rw [HM.out]; exact Nat.le_refl _), List.take_of_length_le (by rw [HM.out]; exact Nat.le_refl _)] at this
    exact this)
  have HSP := Lib.hid (fun (V : World) (hb : Below w4.heap.size w4 V) => split_any (some ⟨ai, 0, none⟩) m c3 l1 HM.out (by omega) hi2 (by omega) w4.heap.size V (HTK.out.below hb) hb.size)
  have HFI := Lib.hid (fun (V : World) (hb : Below w4.heap.size w4 V) => filt_any 1 1 2 (some ⟨ai, 0, none⟩) m c3 l1 HM.out (by omega) hi2 (by omega) w4.heap.size V (HTK.out.below hb) hb.size)
  have HUN := Lib.hid (fun (V : World) (hb : Below w4.heap.size w4 V) => unf_any 1 1 (some ⟨ai, 0, none⟩) m c3 l1 HM.out (by omega) hi2 (by omega) w4.heap.size V (HTK.out.below hb) hb.size)
  have HJ4 := Lib.hid (fun (V : World) (hb : Below w4.heap.size w4 V) => HJN.out A4 c4 w4.heap.size V (HFR.out.below hb) hb.size)
  have hm3 : m ≤ c3 := by omega
  clear hroom HJN HTK
  go_upto_region 5 with (go_at_call 11; refine (HSP.out w4 (Below.refl _ _)).mono ?_; rintro e w5 hsp; obtain ⟨Ax, _, cx, ex, rfl, rfl, rx, hb5⟩ := hsp.any; clear hsp)
  have hs5 := hb5.size
  have RX := Lib.hid (RowB.of rx)
  have HB5 := Lib.hid hb5
  clear hb5 rx
  go_upto_region 6 with (go_at_call 11; refine (HSP.out w5 HB5.out).mono ?_; rintro e w6 hsp; obtain ⟨Ay, _, cy, ey, rfl, rfl, ry, hb6⟩ := hsp.any; clear hsp)
  have hs6 := hb6.size
  have RY := Lib.hid (RowB.of ry)
  have HB6 := Lib.hid (HB5.out.trans (hb6.mono hs5))
  have RX6 := Lib.hid (RX.out.upd (Upd.of_fresh hb6) (fun _ _ _ => id))
  clear hb6 ry RX HSP
  have hNb := nSp_le l1
  rw [HM.out] at hNb
  obtain ⟨N, hNe⟩ : ∃ N, nSp l1 = N := ⟨_, rfl⟩
  rw [hNe] at hNb RY RX6
  rw [hNe]
  have HNE := Lib.hid hNe
  clear hNe
  go_upto_region 7 with (go_at_call 15; refine (HJ4.out w6 HB6.out).mono ?_; rintro e w7 hsp; obtain ⟨Ap, np, cp, ep, xp, rfl, hnp, op, hb7⟩ := hsp.any (8 + 3 * bulkC l) (fun b h => join_le h); clear hsp)
  have hs7 := hb7.size
  have HB7 := Lib.hid (HB6.out.trans (hb7.mono (Nat.le_trans hs5 hs6)))
  have HU7 := Lib.hid hb7
  have OP := Lib.hid op
  have HPL := Lib.hid (fun j (hj : Ap.map (·.block) = some j) => row_lt op j hj)
  clear hb7 op HJ4
  go_upto_region 8 with (go_at_call 19; refine (HFI.out w7 HB7.out).mono ?_; rintro e w8 hsp; obtain ⟨Af, nf, cf, ef, xf, rfl, hnf, of_, hb8⟩ := hsp.any (2 * m) (fun b h => by have := filt_le h; rw [HM.out] at this; exact this); clear hsp)
  have hs8 := hb8.size
  have HB8 := Lib.hid (HB7.out.trans (hb8.mono HB7.out.size))
  have HU8 := Lib.hid (HU7.out.trans (hb8.mono hs7))
  have OP8 := Lib.hid (own_upd OP.out (Upd.of_fresh hb8) (fun _ _ => id))
  have OF := Lib.hid of_
  have HFL := Lib.hid (fun j (hj : Af.map (·.block) = some j) => row_lt of_ j hj)
  clear hb8 of_ HFI OP
  go_upto_region 9 with (go_at_call 21; refine (HUN.out w8 HB8.out).mono ?_; rintro e w9 hsp; obtain ⟨Au, nu, cu, eu, xu, rfl, hnu, ou, hb9⟩ := hsp.any m (fun b h => by have := unf_le h; rw [HM.out] at this; exact this); clear hsp)
  have hs9 := hb9.size
  have HU9 := Lib.hid (HU8.out.trans (hb9.mono (Nat.le_trans hs7 hs8)))
  have OP9 := Lib.hid (own_upd OP8.out (Upd.of_fresh hb9) (fun _ _ => id))
  have OF9 := Lib.hid (own_upd OF.out (Upd.of_fresh hb9) (fun _ _ => id))
  have RX9 := Lib.hid (RX6.out.upd (Upd.of_fresh HU9.out) (fun _ _ _ => id))
  have OU := Lib.hid ou
  have HUL := Lib.hid (fun j (hj : Au.map (·.block) = some j) => row_lt ou j hj)
  have hnp2 : np ≤ 4194304 := by have := HBK.out.1; omega
  clear hb9 ou HUN OP8 OF HB7 HB8 HU7 HU8 RX6 hnp
  obtain ⟨L0, RX0⟩ := RowX.of RX9.out
  have HX0 : Hid (RowX w4.heap.size w5.heap.size Ax N cx L0 w9 ∧ Upd (fun j => w4.heap.size ≤ j ∧ j < w5.heap.size) w9 w9) := Lib.hid ⟨RX0, Upd.refl _ _⟩
  have hmix : Try.prog.follows .mixedOrders = true := by kernel_rfl
  clear RX9 RX0
  go_wp2_with fail
  go_loopw [68] (fun v wr => ∃ i : Nat, i ≤ N ∧ v = .int .i64 (i : Int) ∧ ∃ L, Hid (RowX w4.heap.size w5.heap.size Ax N cx L wr ∧ Upd (fun j => w4.heap.size ≤ j ∧ j < w5.heap.size) w9 wr)) (fun v _ => N - (intOf v).toNat)
  case atStart => exact ⟨0, Nat.zero_le _, rfl, L0, HX0⟩
  case round =>
    obtain ⟨i, hi, rfl, L, HX⟩ := hrel
    clear HX0
    by_cases hiN : i < N
    · obtain ⟨g, rfl, hg1, hg2, t, D, dn, dc, k0, f0, k1, hLe⟩ := HX.out.1.at_ i hiN
      have hil : i < L.length := by have := HX.out.1.2.2.1; omega
      have HLE := Lib.hid (hLe hil)
      have HIL := Lib.hid hil
      clear hLe
      go_wp2_with fail
      go_loopw [77] (fun v wr => ∃ q : Nat, q ≤ dn ∧ v = .int .i64 (q : Int) ∧ Hid (RowX w4.heap.size w5.heap.size (some ⟨g, 0, none⟩) N cx L wr ∧ Upd (fun j => w4.heap.size ≤ j ∧ j < w5.heap.size) w9 wr)) (fun v _ => dn - (intOf v).toNat)
      case atStart => exact ⟨0, Nat.zero_le _, rfl, HX⟩
      case round =>
        obtain ⟨q, hq, rfl, HY⟩ := hrel
        clear HX k0 f0 k1
        obtain ⟨g', e, _, _, t', D', dn', dc', k0, f0, k1, hLe⟩ := HY.out.1.at_ i hiN
        injection e with e
        injection e with e
        subst e
        obtain ⟨e1, e2⟩ := hLe HIL.out
        rw [HLE.out.1] at e1
        injection e1 with e1 e3 e4
        subst e1 e3 e4
        clear hLe e2
        by_cases hqd : q < dn
        · obtain ⟨h, x, rfl, hh1, hh2, hx, kb, fb, hdc, hset⟩ := HY.out.1.byte i HIL.out HLE.out.1 HLE.out.2 q hqd
          obtain ⟨z, hz⟩ := up_byte x
          have HZ := Lib.hid hz
          have hq9 : (q : Int) + 1 ≤ 9223372036854775807 := by have := hdc.1; have := hdc.2; unfold maxLen at this; omega
          have us := (Upd.refl (· = h) wr).setCell (p := ⟨h, q, none⟩) (fun _ => rfl) (.int .u8 (z.toNat : Int))
          have HY2 : Hid (RowX w4.heap.size w5.heap.size (some ⟨g, 0, none⟩) N cx L (wr.setCell ⟨h, q, none⟩ (.int .u8 (z.toNat : Int))).drew ∧ Upd (fun j => w4.heap.size ≤ j ∧ j < w5.heap.size) w9 (wr.setCell ⟨h, q, none⟩ (.int .u8 (z.toNat : Int))).drew) := Lib.hid ⟨(hset z).drew, (HY.out.2.then us (fun j hj e => by omega)).drew⟩
          clear hset us hz
          go_upto_region 15 with (fail)
          refine wp_region_tail 16 hmix (by kernel_rfl) ?_
          simp only [List.take_succ_cons, List.take_zero, List.drop_succ_cons, List.drop_zero]
          repeat (go_big_quiet_step (fail))
          refine wpQuiet_nil ?_
          go_wp2_with fail
          rw [HZ.out]
          exact ⟨⟨q + 1, by omega, by go_num, HY2⟩, by simp [intOf]; omega⟩
        · obtain rfl : q = dn := by omega
          have hst := HY.out.1.type i HIL.out ⟨#[103, 111, 110, 101]⟩
          have us := (Upd.refl (· = g) wr).setCell (p := ⟨g, i * 2, none⟩) (fun _ => rfl) (.string ⟨#[103, 111, 110, 101]⟩)
          have HY2 := Lib.hid (And.intro hst (HY.out.2.then us (fun j hj e => by omega)))
          clear hst us
          go_wp2_with fail
          go_roundw
          case rel => exact ⟨i + 1, by omega, by go_num, _, HY2⟩
          case measure => simp [intOf]; omega
    · obtain rfl : i = N := by omega
      obtain ⟨_, hU⟩ := HX.out
      have hsr := hU.size
      have HV := Lib.hid ((Upd.of_fresh HU9.out).mono (T := fun j => (w4.heap.size ≤ j ∧ j < w5.heap.size) ∨ w6.heap.size ≤ j) (fun k _ h => absurd h id) |>.then hU (fun k _ h => .inl h))
      have HPr := Lib.hid (own_upd OP9.out hU (fun j hj e => by have := (HPL.out j (by rw [← ownBlock_sl Ap np cp]; exact hj)).1; omega))
      have HFr := Lib.hid (own_upd OF9.out hU (fun j hj e => by have := (HFL.out j (by rw [← ownBlock_sl Af nf cf]; exact hj)).1; omega))
      have HUr := Lib.hid (own_upd OU.out hU (fun j hj e => by have := (HUL.out j (by rw [← ownBlock_sl Au nu cu]; exact hj)).1; omega))
      have hb6 : w6.heap.size ≤ wr.heap.size := by omega
      clear hU HX OP9 OF9 OU HU9
      have HS1 := Lib.hid (spoil_any wr w6.heap.size Ap np cp xp HPr.out (by omega) hb6)
      clear HPr
      go_upto_region 20 with (go_at_call 27; refine HS1.out.mono ?_; rintro e wa ⟨rfl, ha⟩)
      have hsa := ha.size
      have HVa := Lib.hid (HV.out.then ha (fun j _ e => .inr (HPL.out j e).1))
      have HFa := Lib.hid (own_upd HFr.out ha (fun j hj e => by have h1 := (HPL.out j e).2; have h2 := (HFL.out j (by rw [← ownBlock_sl Af nf cf]; exact hj)).1; omega))
      have HUa := Lib.hid (own_upd HUr.out ha (fun j hj e => by have h1 := (HPL.out j e).2; have h2 := (HUL.out j (by rw [← ownBlock_sl Au nu cu]; exact hj)).1; omega))
      clear ha HS1 HV HFr HUr
      have HS2 := Lib.hid (spoil_any wa w7.heap.size Af nf cf xf HFa.out (by omega) (by omega))
      clear HFa
      go_upto_region 21 with (go_at_call 27; refine HS2.out.mono ?_; rintro e wb ⟨rfl, hb⟩)
      have hsb := hb.size
      have HVb := Lib.hid (HVa.out.then hb (fun j _ e => .inr (by have := (HFL.out j e).1; omega)))
      have HUb := Lib.hid (own_upd HUa.out hb (fun j hj e => by have h1 := (HFL.out j e).2; have h2 := (HUL.out j (by rw [← ownBlock_sl Au nu cu]; exact hj)).1; omega))
      clear hb HS2 HVa HUa
      have HS3 := Lib.hid (spoil_any wb w8.heap.size Au nu cu xu HUb.out (by omega) (by omega))
      clear HUb
      go_upto_region 22 with (go_at_call 27; refine HS3.out.mono ?_; rintro e wc ⟨rfl, hc⟩)
      have hsc := hc.size
      have HVc := Lib.hid (HVb.out.then hc (fun j _ e => .inr (by have := (HUL.out j e).1; omega)))
      clear hc HS3 HVb HPL HFL HUL
      have HBc : Hid (Below w4.heap.size w6 wc) := Lib.hid (HVc.out.below (by omega) (fun j hj e => by omega))
      have HBc4 := Lib.hid (HB6.out.trans HBc.out)
      have HBcw := Lib.hid (HB4.out.trans (HBc4.out.mono HB4.out.size))
      have RYc := Lib.hid (RY.out.upd HVc.out (fun j h1 h2 e => by omega))
      clear HVc RY HBc
      have HRS := Lib.hid (refSplit_any A1 m c1 l1 HM.out hlc hc1 (by omega) w.heap.size wc (HBS.out.below HBcw.out) HBcw.out.size)
      go_upto_region 23 with (go_at_call 13; refine HRS.out.mono ?_; rintro e wd hsp; obtain ⟨Aw, _, cw, ew, rfl, rfl, rw_, hbd⟩ := hsp.any; clear hsp)
      rw [HNE.out] at rw_
      try rw [HNE.out]
      have HBd4 := Lib.hid (HBc4.out.trans (hbd.mono HBc4.out.size))
      have HBdw := Lib.hid (HB4.out.trans (HBd4.out.mono HB4.out.size))
      have RYd := Lib.hid (row_cks (RYc.out.upd (Upd.of_fresh hbd) (fun _ _ _ => id)).row)
      have RWd := Lib.hid (row_cks rw_)
      have hin := HIN.out.below HBd4.out
      have h77 : wd.cell? ⟨ai, m, none⟩ = some (.int .u8 77) := by
        obtain ⟨ad, e, _, hc⟩ := hin (by simp)
        injection e with e
        subst e
        have h1 := hc m (by rw [List.length_append, HM.out]; simp)
        have e0 : (⟨ai, 0, none⟩ : Addr).add m = ⟨ai, m, none⟩ := by unfold Addr.add; split <;> simp_all
        rw [e0, List.getElem_append_right (by rw [HM.out]; exact Nat.le_refl _)] at h1
        simpa using h1
      have htk : Bs wd w4.heap.size (some ⟨ai, 0, none⟩) l1 := by
        have := hin.take m
        rw [List.take_append_of_le_length (by rw [HM.out]; exact Nat.le_refl _), List.take_of_length_le (by rw [HM.out]; exact Nat.le_refl _)] at this
        exact this
      have hsd := HBd4.out.size
      have HS4 := Lib.hid (same_n (some ⟨ai, 0, none⟩) A1 m m c3 c1 l1 l1 HM.out HM.out wd.heap.size wd (htk.more hsd) ((HBS.out.below HBdw.out).more HBdw.out.size) (by unfold maxLen; omega))
      have HS5 : Hid (∀ V, (∃ q, V = wd.drewN q) → Calls Try.prog 14 #[.slice A4 n c4, .slice A n c] V fun e w' => e = .returned (.bool true) ∧ ∃ q, w' = wd.drewN q) := Lib.hid (fun V hV => by
        obtain ⟨q, rfl⟩ := hV
        refine (sameChunks_any A4 A n n c4 c l l HN.out HN.out (by have := HBK.out; omega) (by have := HBK.out; omega) hdm.out wd.heap.size (wd.drewN q) ((HFR.out.below HBd4.out).more hsd) ((HCK.out.below HBdw.out).more HBdw.out.size)).mono ?_
        rintro e w' ⟨rfl, q2, rfl⟩
        rw [sameC_self]
        exact ⟨rfl, q + q2, World.drewN_drewN _ _ _⟩)
      have HS6 : Hid (∀ V, (∃ q, V = wd.drewN q) → Calls Try.prog 14 #[.slice Ay i cy, .slice Aw i cw] V fun e w' => e = .returned (.bool true) ∧ ∃ q, w' = wd.drewN q) := Lib.hid (fun V hV => by
        obtain ⟨q, rfl⟩ := hV
        refine (sameChunks_any Ay Aw i i cy cw _ _ (cksOf_len _ _) (cksOf_len _ _) (by omega) (by omega) (dat_le (l1.drop 8) i) wd.heap.size (wd.drewN q) RYd.out RWd.out).mono ?_
        rintro e w' ⟨rfl, q2, rfl⟩
        rw [sameC_self]
        exact ⟨rfl, q + q2, World.drewN_drewN _ _ _⟩)
      rw [beq_self_eq_true] at HS4
      have HFIN : Hid (∀ V, (∃ q, V = wd.drewN q) → Below w.heap.size w V) := Lib.hid (fun V hV => by
        obtain ⟨q, rfl⟩ := hV
        exact HBdw.out.trans ((Upd.drewN (Upd.refl (fun _ => False) wd) q).below HBdw.out.size (fun _ _ h => h)))
      clear hin htk hbd rw_ RYc RYd RWd HRS HNE
      go_wp2_with (first
        | (go_at_call 18; refine HS4.out.mono ?_; rintro e we ⟨rfl, hqe⟩; have HQe := Lib.hid hqe; clear hqe)
        | (go_at_call 14; refine (HS5.out we HQe.out).mono ?_; rintro e wf ⟨rfl, hqf⟩; have HQf := Lib.hid hqf; clear hqf HS5)
        | (go_at_call 14; refine (HS6.out wf HQf.out).mono ?_; rintro e wg ⟨rfl, hqg⟩; have HQg := Lib.hid hqg; clear hqg))
      go_ret
      exact ⟨rfl, HFIN.out wg HQg.out⟩
set_option maxRecDepth 100000 in
theorem contract (H : Type) (enc : TypeId × Value → H) (W : World) (base : Nat) (args : Array Value) (ds gs : List (DataW H)) (before : List MemPlace)
    (hval : ∀ (j : Nat) t v, Try.f9.params[j]? = some t → args[j]? = some v → Value.okWide Try.prog W .any base t v)
    (hW : DataW.Whole enc Try.prog Try.f9.params.toList Rows.chunkOwnSpec.vars false W args.toList ds gs before) (hk : Rows.uptoSmall H (ds ++ gs) = true) :
    Calls Try.prog 9 args W fun e W' => ∃ v, e = .returned v ∧ Rows.chunkOwnSpec.post enc Try.prog Try.f9 false true false false W args v W' := by
  have hW' := hW
  obtain ⟨p, q, hA0, hV, rfl, hfz, hnd⟩ := hW
  have hA : DataW.TrodAll enc Try.prog W 0 (fun _ => true) true Try.f9.params.toList args.toList ds p := hA0
  rw [Try.params9] at hA hval
  obtain ⟨v0, vs0, d0, ds0, p0, q0, hargs, rfl, rfl, h0, r0⟩ := trodAll_cons hA
  obtain ⟨v1, vs1, d1, ds1, p1, q1, rfl, rfl, rfl, h1, r1⟩ := trodAll_cons r0
  obtain ⟨rfl, rfl, rfl⟩ := trodAll_nil r1
  obtain rfl : args = #[v0, v1] := by cases args; simp_all
  obtain ⟨rfl, rfl⟩ := trodVars_none hV
  obtain ⟨A0, l0, c0, rfl, hb0, hd0⟩ := open_chunks (hval 0 24 v0 rfl rfl) h0
  obtain ⟨A1, l1, c1, rfl, hb1, hcp1, hd1⟩ := open_bytes (hval 1 22 v1 rfl rfl) h1
  have hl0 : bulkC l0 ≤ 1048576 := by
    rcases hd0 with ⟨_, rfl⟩ | ⟨e, s, rfl, hle⟩
    · exact Nat.zero_le _
    · have h1 := bulk_le hk
      simp only [List.cons_append, List.nil_append] at h1
      have h2 := Nat.le_trans (bulk_elems e s _) h1
      omega
  have hl1 : l1.length ≤ 1048576 := by
    rcases hd1 with ⟨_, rfl⟩ | ⟨e, s, rfl, hle⟩
    · simp
    · have h1 := bulk_le hk
      simp only [List.cons_append, List.nil_append] at h1
      replace h1 := Nat.le_trans (bulk_tail _ _) h1
      have h2 := Nat.le_trans (bulk_slice e s _) h1
      omega
  have lt0 : ∀ x ∈ p0, x.block < W.heap.size := by obtain ⟨m, hm⟩ := h0; exact DataW.trod_lt m _ _ _ hm
  have lt1 : ∀ x ∈ p1, x.block < W.heap.size := by obtain ⟨m, hm⟩ := h1; exact DataW.trod_lt m _ _ _ hm
  clear hA0
  refine (walk A0 c0 l0 A1 c1 l1 W hb0 hl0 hb1 hcp1 (bytes_cap h1 rfl) hl1).mono fun e W' ⟨he, bel⟩ => ?_
  subst he
  exact ⟨_, rfl, _, _, _, [], _, [], hW', trodAll_mk1 (shut_bool Try.underlying4 _), (trodAll_cons_mk (Below.trod prog_laid (by kernel_rfl) (of_decide_eq_true (by kernel_rfl)) h0 bel lt0) (trodAll_cons_mk (Below.trod prog_laid (by kernel_rfl) (of_decide_eq_true (by kernel_rfl)) h1 bel lt1) trodAll_mk0)), rfl, bel.frame _, fun h => by cases h⟩

set_option maxRecDepth 100000 in
theorem lifted (os : Os) (started : os.Started) (H : Type) (enc : TypeId × Value → H) (F : Stop.Interp) :
    ReturnsInHanded {} Try.checked os 9 .any ((Rows.OpenSpec.upto Rows.chunkOwnSpec).pre6 enc Try.prog Try.f9 Rows.chunkOwnUptoRow.domain false) (((Rows.OpenSpec.upto Rows.chunkOwnSpec).at F).post enc Try.prog Try.f9 false true false false) := by
  refine returnsInHanded_of_cond (C := Try.checked) (s := Rows.OpenSpec.upto Rows.chunkOwnSpec) (k := Rows.uptoSmall) rfl prog_own started (by kernel_rfl) Try.func9
    (OpenSpec.witness (enc := enc) (C := Try.checked) (s := Rows.OpenSpec.upto Rows.chunkOwnSpec) (k := Rows.uptoSmall) rfl false ⟨#[], #[.slice none 0 0, .slice none 0 0], []⟩ 8 (by kernel_rfl) (by kernel_rfl) (by kernel_rfl)
      (x := ([.nil, .nil], [], [])) (by kernel_rfl) rfl (by kernel_rfl)) ?_
  intro W base args ds gs before hval hW _ hk _
  exact contract H enc W base args ds gs before hval hW hk

theorem over : Rows.chunkOwnUptoRow.holds Try.pinned (Rows.OpenSpec.upto Rows.chunkOwnSpec) :=
  OpenClaim.holds_of_cond 9 Try.f9 rfl rfl rfl rfl rfl rfl rfl ⟨rfl, rfl, rfl, rfl, rfl⟩ rfl rfl rfl rfl rfl (by kernel_rfl) Try.func9 (by kernel_rfl)
    (of_decide_eq_true (by kernel_rfl)) (by unfold Func.isWrapper; first | (rw [if_pos (by decide +kernel)]; kernel_rfl) | (rw [if_neg (by decide +kernel)]; exact ⟨rfl, rfl⟩))
    (fun os started H enc _ F => lifted os started H enc F)
end ChunkOwn

theorem chunkOwn_holds : Rows.ChunkOwnUptoSaid := ChunkOwn.over
#print axioms chunkOwn_holds
end Go.Proofs.Ytaloieeemibblaa
