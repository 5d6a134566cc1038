/- Contract of the program's packed: all rows of coins. -/
import Derived.Test.YtpolbnobnilfcaaKc
import Derived.Test.YtpolbnobnilfcaaU
namespace Go.Proofs.Ytpolbnobnilfcaa
open Go.ChangeShapes Go.WideShapes Go.ChangeAt Go.RowKit

theorem info_crow : (Try.prog.info? 89).map (fun i => (i.zero, i.size, i.bytes)) = some (some (.slice none 0 0), 1, 24) := by kernel_rfl
/-- What the row k is packed with: the pairs of the row ahead. -/
def pairsAt (own : List Nat) : Nat → List Nat
  | 0 => []
  | k + 1 => pairs (wts (rowsOf own k))
theorem rowsOf_pairsAt (own : List Nat) : ∀ k, rowsOf own k = mg own (pairsAt own k)
  | 0 => rfl
  | _ + 1 => rfl
theorem own_sum_le {own : List Nat} (h : ∀ x ∈ own, x ≤ 1073741824) (hl : own.length ≤ 4096) : own.sum ≤ 4398046511104 := by
  have h1 := sum_le_of h
  have h2 : own.length * 1073741824 ≤ 4096 * 1073741824 := Nat.mul_le_mul_right _ hl
  omega
theorem rows_weight {own : List Nat} (h : ∀ x ∈ own, x ≤ 1073741824) (hl : own.length ≤ 4096) (k : Nat) (hk : k < 16) : ∀ x ∈ wts (rowsOf own k), x ≤ 1152921504606846976 := fun x hx => by
  have h1 := mem_le_sum hx
  have h2 := rowsOf_total own k
  have h3 := own_sum_le h hl
  have h4 : (k + 1) * own.sum ≤ 16 * 4398046511104 := Nat.mul_le_mul (by omega) h3
  omega
theorem pairsAt_weight {own : List Nat} (h : ∀ x ∈ own, x ≤ 1073741824) (hl : own.length ≤ 4096) (k : Nat) (hk : k ≤ 16) : ∀ x ∈ pairsAt own k, x ≤ 1152921504606846976 := fun x hx => by
  cases k with
  | zero => simp [pairsAt] at hx
  | succ k =>
    have h1 : x ≤ (pairs (wts (rowsOf own k))).sum := mem_le_sum hx
    have h2 := pairs_total (wts (rowsOf own k))
    have h3 := rowsOf_total own k
    have h4 := own_sum_le h hl
    have h5 : (k + 1) * own.sum ≤ 16 * 4398046511104 := Nat.mul_le_mul (by omega) h4
    omega
theorem pairsAt_length (own : List Nat) (k : Nat) : (pairsAt own k).length ≤ own.length := by
  cases k with
  | zero => simp [pairsAt]
  | succ k =>
    unfold pairsAt
    rw [pairs_length, wts_length]
    have := (rowsOf_Rows own).short k
    omega
theorem rowsOf_len (own : List Nat) (k : Nat) : (rowsOf own k).length = own.length + (pairsAt own k).length := by rw [rowsOf_pairsAt, mg_length]
theorem own_from {w : World} {b b' : Nat} {e : TypeId} {size : Nat} {v : Value} {n : Nat} {xs : List Value} (h : w.ownsRow b e size v n xs) (hb : b' ≤ b) : w.ownsRow b' e size v n xs := by
  refine ⟨h.1, ?_⟩
  rcases h.2 with h | ⟨g, cap, cur, h1, h2, h3⟩
  · exact .inl h
  · exact .inr ⟨g, cap, cur, h1, by omega, h3⟩
/-- The first k rows of coins; their slices lie in block G. -/
def RowsAt (w : World) (base G most : Nat) (own : List Nat) (k : Nat) : Prop :=
  ∃ vs, w.ownsRow base 89 1 (.slice (some ⟨G, 0, none⟩) most most) most vs ∧ ∀ j, j < k → ∃ g n c, vs[j]? = some (.slice (some ⟨g, 0, none⟩) n c) ∧ CRow w base g n c (rowsOf own j) ∧ G < g
section
variable {w w' : World} {base G most k : Nat} {own : List Nat}
theorem RowsAt.below (h : RowsAt w base G most own k) (hb : Below w.heap.size w w') : RowsAt w' base G most own k := by
  obtain ⟨vs, h1, h2⟩ := h
  refine ⟨vs, own_upd h1 (Upd.of_fresh hb) (fun _ _ => id), fun j hj => ?_⟩
  obtain ⟨g, n, c, e1, e2, e3⟩ := h2 j hj
  exact ⟨g, n, c, e1, e2.upd (Upd.of_fresh hb) id, e3⟩
theorem RowsAt.drewN (h : RowsAt w base G most own k) (m : Nat) : RowsAt (w.drewN m) base G most own k := h
theorem RowsAt.row (h : RowsAt w base G most own k) (j : Nat) (hj : j < k) (hk : k ≤ most) : ∃ g n c, w.cell? ⟨G, j, none⟩ = some (.slice (some ⟨g, 0, none⟩) n c) ∧ CRow w base g n c (rowsOf own j) ∧ n ≤ c ∧ c ≤ maxLen := by
  obtain ⟨vs, h1, h2⟩ := h
  obtain ⟨g, n, c, e1, e2, _⟩ := h2 j hj
  have := own_cap e2
  exact ⟨g, n, c, by rw [h1.cellAt j (by omega)]; exact e1, e2, this.1, this.2⟩
theorem RowsAt.store {g n c : Nat} (h : RowsAt w base G most own k) (hk : k < most) (hr : CRow w base g n c (rowsOf own k)) (hg : G < g) : RowsAt (w.setCell ⟨G, k, none⟩ (.slice (some ⟨g, 0, none⟩) n c)) base G most own (k + 1) := by
  obtain ⟨vs, h1, h2⟩ := h
  have u : Upd (· = G) w (w.setCell ⟨G, k, none⟩ (.slice (some ⟨g, 0, none⟩) n c)) := (Upd.refl (· = G) w).setCell (p := ⟨G, k, none⟩) (fun _ => rfl) _
  have hl := own_len h1
  refine ⟨_, (h1.stored k _).1, fun j hj => ?_⟩
  by_cases e : j = k
  · subst e
    exact ⟨g, n, c, by rw [List.getElem?_set, if_pos rfl, if_pos (by omega)], hr.upd u (by omega), hg⟩
  · obtain ⟨g', n', c', e1, e2, e3⟩ := h2 j (by omega)
    exact ⟨g', n', c', by rw [List.getElem?_set, if_neg (fun k => e k.symm)]; exact e1, e2.upd u (by omega), e3⟩
theorem RowsAt.free (h : RowsAt w base G most own k) (j : Nat) : w.frozen? ⟨G, j, none⟩ = false := by
  obtain ⟨vs, h1, h2⟩ := h
  exact h1.frozenAt j
theorem RowsAt.there (h : RowsAt w base G most own k) (j : Nat) (hj : j < most) : ∃ v, w.cell? ⟨G, j, none⟩ = some v := by
  obtain ⟨vs, h1, h2⟩ := h
  have hl := own_len h1
  exact ⟨vs[j], by rw [h1.cellAt j (by omega), List.getElem?_eq_getElem (by omega)]⟩
theorem RowsAt.lt (h : RowsAt w base G most own k) : base ≤ G ∧ G < w.heap.size := by
  obtain ⟨vs, h1, h2⟩ := h
  exact h1.lt G rfl
end
theorem make_crow (n : Nat) : (madeCells (Value.slice none 0 0).cells (n * 1)).toList = List.replicate n (.slice none 0 0) := by
  rw [show (Value.slice none 0 0).cells = #[.slice none 0 0] from rfl, Nat.mul_one, toList_madeCells_one]

set_option maxHeartbeats 4000000 in
set_option maxRecDepth 100000 in
theorem packed_any (w : World) (A : Option Addr) (ca : Nat) (own : List Nat) (most : Nat) (hA : Cs w w.heap.size A (tagL true own)) (hca : own.length ≤ ca) (hma : ca ≤ maxLen) (hl : own.length ≤ 4096) (h0 : 0 < own.length) (hm : most ≤ 16) (hb : ∀ x ∈ own, x ≤ 1073741824) :
    Calls Try.prog 41 #[.slice A own.length ca, .int .i64 (most : Int)] w fun e w' => e = .returned (.slice (some ⟨w.heap.size, 0, none⟩) most most) ∧ RowsAt w' w.heap.size w.heap.size most own most ∧ Below w.heap.size w w' := by
  obtain ⟨i0, hi, hz0, hz1, hz2⟩ := info_parts info_crow
  have HA := Lib.hid hA; clear hA
  have HB := Lib.hid hb; clear hb
  go_enter Try.func41, Try.ntmps41
  go_wp2_with (at_make; refine wpList_make_full _ rfl (.tmp 8) (.tmp 8) 87 rfl w.heap.size 89 i0 (.slice none 0 0) 1 Try.underlying87 hi hz0 hz1 .i64 .i64 most most most rfl rfl rfl rfl (by rw [hz2]; omega) (by unfold maxLen; omega) (Nat.le_refl _) ?_; intro w1 hown1 hg1; rw [make_crow] at hown1; have hb1 := (Below.refl w.heap.size w).grown hg1 (Nat.le_refl _) (by simp))
  have HR1 : Hid (RowsAt w1 w.heap.size w.heap.size most own 0) := Lib.hid ⟨_, hown1, fun j hj => by omega⟩
  have HB1 := Lib.hid hb1; clear hb1 hown1 hg1
  go_loopw [6, 11] (fun pv i wr => ∃ k : Nat, k ≤ most ∧ i = .int .i64 k ∧ (∃ A c, pv = .slice A (pairsAt own k).length c ∧ (pairsAt own k).length ≤ c ∧ c ≤ maxLen ∧ Hid (Cs wr wr.heap.size A (tagL false (pairsAt own k)))) ∧ Hid (RowsAt wr w.heap.size w.heap.size most own k) ∧ Hid (Below w.heap.size w wr)) (fun _ i _ => most - (intOf i).toNat)
  case atStart => exact ⟨0, by omega, rfl, ⟨none, 0, rfl, Nat.le_refl _, by unfold maxLen; omega, Lib.hid Cs.nil_⟩, HR1, HB1⟩
  case round =>
    obtain ⟨k, hk, rfl, ⟨B, cb, rfl, hcb, hmb, HPB⟩, HR, HBe⟩ := hrel
    by_cases hlt : k < most
    · have HMP := Lib.hid (rowsOf_pairsAt own k)
      have HPW := Lib.hid (pairsAt_weight HB.out hl k (by omega))
      have HRW := Lib.hid (rows_weight HB.out hl k (by omega))
      have HPS : Hid (pairsAt own (k + 1) = pairs (wts (rowsOf own k))) := Lib.hid rfl
      have hpl := pairsAt_length own k
      generalize pairsAt own k = PL at *
      go_wp2_with fail
      refine (merged_any wr A B ca cb own PL ((HA.out.below HBe.out).more HBe.out.size) HPB.out hca hcb hma hmb (by omega) (fun x hx => Nat.le_trans (HB.out x hx) (by omega)) HPW.out).mono ?_
      rintro e w2 ⟨A2, n2, c2, rfl, hn2, hO2, hB2⟩
      have hn20 : 0 < n2 := by omega
      have hn28 : n2 ≤ 8192 := by omega
      clear hn2
      obtain ⟨g, cg, hv, hgb, hgl⟩ := hO2.form (by omega)
      injection hv with hv1 hv2 hv3
      subst hv1
      rw [← HMP.out] at hO2
      have HO2 : Hid (CRow w2 w.heap.size g n2 c2 (rowsOf own k)) := Lib.hid (own_from hO2 HBe.out.size)
      have HR2 := Lib.hid (HR.out.below hB2)
      have HBe2 := Lib.hid (HBe.out.trans (hB2.mono HBe.out.size))
      have hlt2 := HR.out.lt
      have HR3 := Lib.hid (HR2.out.store hlt HO2.out (by omega))
      have f1 := HR2.out.free k
      obtain ⟨v0, c0⟩ := HR2.out.there k hlt
      have hgG : g ≠ w.heap.size := by omega
      clear hO2 hB2 hv2 hv3 hgb hlt2
      have HO3 : Hid (CRow (w2.setCell ⟨w.heap.size, k, none⟩ (.slice (some ⟨g, 0, none⟩) n2 c2)) w.heap.size g n2 c2 (rowsOf own k)) := Lib.hid (HO2.out.upd ((Upd.refl (· = w.heap.size) w2).setCell (p := ⟨w.heap.size, k, none⟩) (fun _ => rfl) _) hgG)
      have HBe3 : Hid (Below w.heap.size w (w2.setCell ⟨w.heap.size, k, none⟩ (.slice (some ⟨g, 0, none⟩) n2 c2))) := Lib.hid (HBe2.out.setCell (by simp) _)
      go_wp2_with fail
      refine (pairsOf_any _ w.heap.size g n2 c2 (rowsOf own k) HO3.out hn28 HRW.out).mono ?_
      rintro e w4 ⟨m, c4, hm4, rfl, hO4, hc4, hB4⟩
      clear hm4
      have HR4 := Lib.hid (HR3.out.below hB4)
      have hs3 := HBe3.out.size
      have HBe4 := Lib.hid (HBe3.out.trans (hB4.mono hs3))
      have hpl4 : (pairsAt own (k + 1)).length = m := by
        have h1 := hO4.len
        rw [pairC_length] at h1
        rw [HPS.out, pairs_length, wts_length]
        exact h1
      have hc4m := (own_cap hO4).2
      have es : (w2.setCell ⟨w.heap.size, k, none⟩ (.slice (some ⟨g, 0, none⟩) n2 c2)).heap.size = w2.heap.size := by simp
      rw [es] at hO4
      have HO4 : Hid (Cs w4 w4.heap.size (some ⟨w2.heap.size, 0, none⟩) (tagL false (pairsAt own (k + 1)))) := Lib.hid (by rw [HPS.out]; exact Cs.of_row hO4)
      have HPL4 := Lib.hid hpl4
      clear hO4 hB4 hpl4 hs3 es
      go_wp2_with fail
      go_roundw
      case rel => exact ⟨k + 1, by omega, by go_num, ⟨some ⟨w2.heap.size, 0, none⟩, c4, by rw [HPL4.out], by rw [HPL4.out]; exact hc4, hc4m, HO4⟩, HR4, HBe4⟩
      case measure => simp [intOf]; omega
    · obtain rfl : k = most := by omega
      go_wp2_with fail
      go_ret
      exact ⟨rfl, HR.out, HBe.out⟩
end Go.Proofs.Ytpolbnobnilfcaa
