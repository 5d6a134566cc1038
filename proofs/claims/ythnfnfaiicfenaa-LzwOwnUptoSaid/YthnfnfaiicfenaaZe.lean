/- The reader's write, by the plain mathematics; fuel. -/
import Derived.Test.YthnfnfaiicfenaaZd
namespace Go.Proofs.Ythnfnfaiicfenaa
open Go.ChangeShapes Go.WideShapes Go.ChangeAt Go.RowKit

theorem bitLen_one (x : Nat) (h : x ≠ 0) : 1 ≤ Lib.bitLen x := by
  unfold Lib.bitLen
  rw [show (64 : Nat) = 63 + 1 from rfl, Lib.bitLenAux, if_neg h]
  omega
theorem wM_one (early n : Nat) (h : 1 ≤ n) : 1 ≤ wM early n ∧ wM early n ≤ 12 := by
  unfold wM
  have := bitLen_one (n + early) (by omega)
  omega
theorem runM_fuel (b : List UInt8) (high : Bool) (clear early most : Nat) : ∀ (f g p : Nat) (T : List (List UInt8)) (a out : List UInt8), 8 * b.length + 1 ≤ f + p → 8 * b.length + 1 ≤ g + p →
    runM b high clear early most f p T a out = runM b high clear early most g p T a out := by
  intro f
  induction f with
  | zero =>
    intro g p T a out h1 h2
    have hw := wM_one early (clear + 2 + T.length) (by omega)
    cases g with
    | zero => rfl
    | succ g =>
      have e : takeO b high p (wM early (clear + 2 + T.length)) = .error 5 := by unfold takeO; rw [if_neg (by omega)]
      rw [runM, runM, e]
  | succ f ih =>
    intro g p T a out h1 h2
    have hw := wM_one early (clear + 2 + T.length) (by omega)
    cases g with
    | zero =>
      have e : takeO b high p (wM early (clear + 2 + T.length)) = .error 5 := by unfold takeO; rw [if_neg (by omega)]
      rw [runM, runM, e]
    | succ g =>
      rw [runM, runM]
      cases ht : takeO b high p (wM early (clear + 2 + T.length)) with
      | error e => rfl
      | ok x =>
        obtain ⟨code, q⟩ := x
        have hq := takeO_ok ht
        have hr : ∀ T' a' out', runM b high clear early most f q T' a' out' = runM b high clear early most g q T' a' out' := fun T' a' out' => ih g q T' a' out' (by omega) (by omega)
        simp only [hr]
/-- What write answers and leaves, by x: the table, the string of the code, what was written. -/
def WroteM (w : World) (N gu size : Nat) (high : Bool) (early : Nat) (most : Int) (x : Except Nat (List (List UInt8) × List UInt8 × List UInt8)) (e : Ending) (w' : World) : Prop :=
  match x with
  | .error k => e = .returned (.int .i64 (k : Int)) ∧ k ≠ 0 ∧ Upd (US gu N) w w'
  | .ok (T, a, out) => e = .returned (.int .i64 0) ∧ (∃ tx af an, UpkO w' N gu size high early most out tx af an ∧ Cuts out tx T ∧ Ahead out af an a ∧ 1 ≤ an ∧ clr size + 2 + tx.length ≤ 4096) ∧ Upd (US gu N) w w'
theorem growTx_no {size : Nat} {tx : List (Nat × Nat)} {af an : Nat} (h : ¬ (1 ≤ an ∧ clr size + 2 + tx.length < 4096)) : growTx size tx af an = tx := by unfold growTx; rw [if_neg h]
theorem growTx_yes {size : Nat} {tx : List (Nat × Nat)} {af an : Nat} (h : 1 ≤ an ∧ clr size + 2 + tx.length < 4096) : growTx size tx af an = tx ++ [(af, an + 1)] := by unfold growTx; rw [if_pos h]
/-- The table that write leaves. -/
theorem grow_cuts {size : Nat} {out s a : List UInt8} {tx : List (Nat × Nat)} {T : List (List UInt8)} {af an : Nat} (hc : Cuts out tx T) (ha : Ahead out af an a) (hs : 1 ≤ s.length) (hl : clr size + 2 + tx.length ≤ 4096) :
    Cuts (out ++ s) (growTx size tx af an) (growM (clr size) T a s) ∧ clr size + 2 + (growTx size tx af an).length ≤ 4096 := by
  have hT := hc.len
  unfold growM
  by_cases h1 : 1 ≤ an
  · rw [if_neg (fun e => by have := ha.nil.1 e; omega)]
    by_cases h2 : clr size + 2 + tx.length < 4096
    · rw [growTx_yes ⟨h1, h2⟩, if_pos (by omega)]
      exact ⟨hc.grow ha h1 hs, by rw [List.length_append]; simp; omega⟩
    · rw [growTx_no (fun h => h2 h.2), if_neg (by omega)]
      exact ⟨hc.more, hl⟩
  · rw [growTx_no (fun h => h1 h.1), if_pos (ha.nil.2 (by omega))]
    exact ⟨hc.more, hl⟩
theorem str_get {l : List UInt8} {x : Nat × Nat} (h : x.1 + x.2 ≤ l.length) (h1 : 1 ≤ x.2) : 1 ≤ (cut l x).length := by rw [cut_length h]; exact h1
theorem write_any (w : World) (N gu size : Nat) (high : Bool) (early : Nat) (most : Int) (out : List UInt8) (tx : List (Nat × Nat)) (af an : Nat) (h : UpkO w N gu size high early most out tx af an)
    (h1 : 2 ≤ size) (h2 : size ≤ 8) (T : List (List UInt8)) (a : List UInt8) (hc : Cuts out tx T) (ha : Ahead out af an a) (h0 : an = 0 → tx = []) (hl : clr size + 2 + tx.length ≤ 4096) (hol : out.length ≤ 35184372088832)
    (code : Nat) (hn : code ≠ clr size) (hn1 : code ≠ clr size + 1) :
    Calls Try.prog 41 #[.pointer (some ⟨gu, 0, none⟩), .int .i64 (code : Int)] w (WroteM w N gu size high early most (writeM (clr size) most.toNat T a out code)) := by
  obtain ⟨Ao, co, At, ct, h⟩ := h
  have hcl := clr_le h1 h2
  have hT := hc.len
  have hal := ha.len
  have han : an ≤ out.length := by have := ha.2.1; omega
  -- a string that is written, at any place
  have met : ∀ (k f n : Nat) (s : List UInt8), (growTx size tx af an)[k]? = some (f, n) → f < out.length → n ≤ out.length + 1 → againL out f n = out ++ s → s.length = n → 1 ≤ n → strM (clr size) T a (clr size + 2 + k) = some s →
      Calls Try.prog 41 #[.pointer (some ⟨gu, 0, none⟩), .int .i64 ((clr size : Nat) + 2 + (k : Int))] w (WroteM w N gu size high early most (writeM (clr size) most.toNat T a out (clr size + 2 + k))) := by
    intro k f n s hk hf hn he hs hn1 hstr
    refine (write_met w N gu size high early most Ao co out At ct tx af an h h1 h2 (by omega) (by omega) k f n hk hf (by omega)).mono ?_
    intro e w' hw
    unfold writeM
    rw [hstr]
    show WroteM w N gu size high early most (if most.toNat < out.length + s.length then .error 3 else .ok (growM (clr size) T a s, s, out ++ s)) e w'
    unfold WroteIf at hw
    by_cases hm : most < (out.length : Int) + n
    · rw [if_pos hm] at hw
      rw [if_pos (by omega)]
      exact ⟨hw.1, by decide, hw.2.2⟩
    · rw [if_neg hm] at hw
      rw [if_neg (by omega)]
      obtain ⟨g1, g2⟩ := grow_cuts (size := size) (s := s) hc ha (by omega) hl
      refine ⟨hw.1, ⟨_, _, _, by rw [← he]; exact hw.2.1 rfl, g1, ?_, hn1, g2⟩, hw.2.2⟩
      have := Ahead.mk_ (out := out) (s := s)
      rw [hs] at this
      exact this
  by_cases c1 : code < clr size
  · refine (write_one w N gu size high early most Ao co out At ct tx af an h h1 h2 (by omega) (by omega) (by omega) code c1).mono ?_
    intro e w' hw
    have hstr : strM (clr size) T a code = some [UInt8.ofNat code] := by unfold strM; rw [if_pos c1]
    unfold writeM
    rw [hstr]
    show WroteM w N gu size high early most (if most.toNat < out.length + 1 then .error 3 else .ok (growM (clr size) T a [UInt8.ofNat code], [UInt8.ofNat code], out ++ [UInt8.ofNat code])) e w'
    unfold WroteIf at hw
    by_cases hm : most < (out.length : Int) + (1 : Nat)
    · rw [if_pos hm] at hw
      rw [if_pos (by omega)]
      exact ⟨hw.1, by decide, hw.2.2⟩
    · rw [if_neg hm] at hw
      rw [if_neg (by omega)]
      obtain ⟨g1, g2⟩ := grow_cuts (size := size) (s := [UInt8.ofNat code]) hc ha (by simp) hl
      exact ⟨hw.1, ⟨_, _, _, hw.2.1 rfl, g1, Ahead.mk_ (out := out) (s := [UInt8.ofNat code]), by omega, g2⟩, hw.2.2⟩
  have no : strM (clr size) T a code = none → clr size + 2 + (growTx size tx af an).length ≤ code → Calls Try.prog 41 #[.pointer (some ⟨gu, 0, none⟩), .int .i64 (code : Int)] w (WroteM w N gu size high early most (writeM (clr size) most.toNat T a out code)) := by
    intro hstr hno
    refine (write_no w N gu size high early most Ao co out At ct tx af an h h1 h2 (by omega) (by omega) code hno).mono ?_
    intro e w' hw
    unfold writeM
    rw [hstr]
    exact ⟨hw.1, by decide, hw.2.2⟩
  obtain ⟨k, rfl⟩ : ∃ k, code = clr size + 2 + k := ⟨code - clr size - 2, by omega⟩
  have ek : clr size + 2 + k - clr size - 2 = k := by omega
  have ecast : ((clr size + 2 + k : Nat) : Int) = (clr size : Nat) + 2 + (k : Int) := by omega
  by_cases c2 : an = 0
  · have ht := h0 c2
    subst ht
    refine no ?_ ?_
    · unfold strM; rw [if_neg c1, if_pos (ha.nil.2 c2)]
    · rw [growTx_no (fun h => by omega)]; simp
  have hane : a ≠ [] := fun e => c2 (ha.nil.1 e)
  by_cases c3 : k < tx.length
  · have hx := hc.2 tx[k] (List.getElem_mem c3)
    have hk : (growTx size tx af an)[k]? = some (tx[k].1, tx[k].2) := by
      by_cases hg : 1 ≤ an ∧ clr size + 2 + tx.length < 4096
      · rw [growTx_yes hg, List.getElem?_append_left c3, List.getElem?_eq_getElem c3]
      · rw [growTx_no hg, List.getElem?_eq_getElem c3]
    rw [ecast]
    refine met k tx[k].1 tx[k].2 (cut out tx[k]) hk hx.2.2 (by omega) (againL_in out _ _ hx.1) (cut_length hx.1) hx.2.1 ?_
    unfold strM
    rw [if_neg c1, if_neg hane, if_pos (by omega), ek, hc.1, List.getElem?_map, List.getElem?_eq_getElem c3]
    rfl
  by_cases c4 : k = tx.length ∧ clr size + 2 + k < 4096
  · obtain ⟨c4, c5⟩ := c4
    have he := ha.2.2 (by omega)
    rw [ecast]
    refine met k af (an + 1) (a ++ a.take 1) ?_ (by omega) (by omega) ?_ (by rw [List.length_append, List.length_take]; omega) (by omega) ?_
    · rw [growTx_yes ⟨by omega, by omega⟩, List.getElem?_append_right (by omega), c4, Nat.sub_self]; rfl
    · rw [ha.1]; exact againL_own out af an he (by omega)
    · unfold strM
      rw [if_neg c1, if_neg hane, if_neg (by omega), if_pos ⟨by omega, c5⟩]
  refine no ?_ ?_
  · unfold strM
    rw [if_neg c1, if_neg hane, if_neg (by omega), if_neg (by omega)]
  · by_cases hg : 1 ≤ an ∧ clr size + 2 + tx.length < 4096
    · rw [growTx_yes hg, List.length_append]; simp; omega
    · rw [growTx_no hg]; omega
end Go.Proofs.Ythnfnfaiicfenaa
