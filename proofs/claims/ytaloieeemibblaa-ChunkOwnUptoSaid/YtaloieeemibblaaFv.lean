/- Joined texts (a claim has at most 60 files). -/
import Derived.Test.YtaloieeemibblaaEs
import Derived.Test.YtaloieeemibblaaOp
import Derived.Deep.Strs
import Derived.Test.YtaloieeemibblaaFa
import Derived.Test.YtaloieeemibblaaFo
import Derived.Test.YtaloieeemibblaaFt
/- How a list of chunks that comes in is opened. -/
set_option linter.unusedVariables false
set_option linter.unusedSimpArgs false
namespace Go.Proofs.Ytaloieeemibblaa
open Go.ChangeShapes Go.WideShapes Go.ChangeAt Go.RowKit Go.Deep

/-- How much a list of chunks is. -/
def bulkC : List Ck → Nat
  | [] => 0
  | k :: r => k.t.size + k.d.length + 3 + bulkC r
theorem bulkC_len : ∀ l : List Ck, 3 * l.length ≤ bulkC l
  | [] => Nat.le_refl _
  | k :: r => by have := bulkC_len r; simp only [bulkC, List.length_cons]; omega
theorem bulkC_mem : ∀ {l : List Ck} {k : Ck}, k ∈ l → k.t.size + k.d.length ≤ bulkC l
  | x :: r, k, h => by
    rcases List.mem_cons.1 h with rfl | h
    · simp only [bulkC]; omega
    · have := bulkC_mem h
      simp only [bulkC]; omega
theorem flat_bulk : ∀ l : List Ck, (l.flatMap ckL).length ≤ 3 * bulkC l
  | [] => Nat.le_refl _
  | k :: r => by
    have h1 := flat_bulk r
    rw [List.flatMap_cons, List.length_append]
    have h2 : (ckL k).length = k.t.size + k.d.length + 8 := by
      unfold ckL bodyL
      simp only [List.length_append, beB_length, sb_len]
      omega
    simp only [bulkC]
    omega
theorem joinF_bulk (l : List Ck) : (joinF l l.length).length ≤ 8 + 3 * bulkC l := by
  have h : ∀ i, i ≤ l.length → joinF l i = mkL ++ (l.take i).flatMap ckL := fun i => by
    induction i with
    | zero => intro _; simp [joinF]
    | succ i ih =>
      intro h
      rw [joinF_next l i (by omega), ih (by omega), List.take_succ_eq_append_getElem (by omega)]
      simp only [List.flatMap_append, List.flatMap_cons, List.flatMap_nil, List.append_nil, List.append_assoc]
  rw [h _ (Nat.le_refl _), List.take_length, List.length_append]
  have := flat_bulk l
  have h8 : (mkL : List UInt8).length = 8 := rfl
  omega
theorem cells_ck : Try.prog.cellsOf 57 = 2 := by kernel_rfl
theorem cells_str : Try.prog.cellsOf 9 = 1 := by kernel_rfl
theorem cells_sl8 : Try.prog.cellsOf 22 = 1 := by kernel_rfl
section
variable {H : Type} {enc : TypeId × Value → H} {W : World} {base : Nat} {v : Value} {d : DataW H} {p : List MemPlace}
theorem bytes_cell {n : Nat} {cs : List Value} {y : DataW H × List MemPlace} (h : DataW.trod enc Try.prog W 0 (fun _ => true) true n 22 cs = some y) :
    ∃ D d c, cs = [.slice D (d : List UInt8).length c] ∧ Bs W W.heap.size D d ∧ d.length + 1 ≤ Rows.uptoBulk y.1 := by
  rcases open_ints Try.underlying22 Try.underlying5 cells_u8 h with ⟨hcs, hx⟩ | ⟨x, len0, cap0, zs, hcs, _, hl, hm, hz, hx, hcell, hwz⟩
  · subst hx
    exact ⟨none, [], 0, hcs, Bs.nil_, by simp [Rows.uptoBulk]⟩
  · subst hx
    have hzl : zs.length = cap0 := by simpa using hz
    have hlen : ((zs.take len0).map fun n => UInt8.ofNat n.toNat).length = len0 := by simp; omega
    refine ⟨some x, (zs.take len0).map fun n => UInt8.ofNat n.toNat, cap0, by rw [hlen]; exact hcs, ?_, ?_⟩
    · intro hpos
      rw [hlen] at hpos
      refine ⟨x, rfl, ?_, fun j hj => ?_⟩
      · have h0 := hcell 0 (by omega)
        have := block_lt_of_cell h0
        rwa [block_of_add] at this
      · have hj' : j < len0 := by rw [hlen] at hj; exact hj
        rw [hcell j (by omega)]
        have hjz : j < zs.length := by omega
        have hb := bounds_u8 (hwz zs[j] (List.getElem_mem hjz))
        have e : zs.getD j 0 = zs[j] := by simp [List.getD, hjz]
        rw [e]
        congr 2
        simp only [List.getElem_map, List.getElem_take]
        rw [UInt8.toNat_ofNat']
        omega
    · rw [hlen]
      simp only [Rows.uptoBulk]
      have h1 := bulk_len (H := H) (lits .u8 (zs.take len0))
      have h2 : (lits (H := H) .u8 (zs.take len0)).length = len0 := by simp [lits]; omega
      omega
theorem chunk_cells {n : Nat} {a : Addr} {y : DataW H × List MemPlace} (h : (W.cells? 0 a 2).bind (DataW.trod enc Try.prog W 0 (fun _ => true) true n 57) = some y) :
    ∃ k : Ck, W.cell? (a.add 0) = some (.string k.t) ∧ (∃ D c, W.cell? (a.add 1) = some (.slice D k.d.length c) ∧ Bs W W.heap.size D k.d) ∧ k.t.size + k.d.length + 3 ≤ Rows.uptoBulk y.1 := by
  obtain ⟨cs, hcs, ht⟩ := Option.bind_eq_some_iff.mp h
  obtain ⟨y0, y1, m, hy, hl, h0, h1⟩ := trod_struct2 Try.underlying57 ht
  rw [cells_ck] at hl
  obtain ⟨_, _, hc⟩ := World.cells?_some hcs
  match cs, hl with
  | [v0, v1], _ =>
    obtain ⟨s, e0, hx0, _⟩ := DataW.trod_string Try.underlying9 h0
    obtain ⟨D, d, c, e1, hb, hbk⟩ := bytes_cell h1
    simp [cells_str, cells_sl8] at e0 e1
    subst e0 e1
    refine ⟨⟨s, d⟩, by simpa using hc 0 (by omega), ⟨D, c, by simpa using hc 1 (by omega), hb⟩, ?_⟩
    rw [hy]
    simp only [Rows.uptoBulk, Rows.uptoBulkAll, hx0]
    have : s.data.toList.length = s.size := by simp
    omega
theorem bulk_all : ∀ (l : List Ck) (e : List (DataW H)), l.length = e.length → (∀ i (h1 : i < l.length) (h2 : i < e.length), l[i].t.size + l[i].d.length + 3 ≤ Rows.uptoBulk e[i]) → bulkC l ≤ Rows.uptoBulkAll e
  | [], [], _, _ => Nat.le_refl _
  | k :: l, x :: e, hl, h => by
    have h0 := h 0 (by simp) (by simp)
    have h1 := bulk_all l e (by simpa using hl) (fun i a b => h (i + 1) (by simpa using a) (by simpa using b))
    simp only [List.getElem_cons_zero] at h0
    simp only [bulkC, Rows.uptoBulkAll]
    omega
theorem bulk_elems (e s : List (DataW H)) (rest : List (DataW H)) : Rows.uptoBulkAll e ≤ Rows.uptoBulkAll (.slice e s :: rest) := by
  simp only [Rows.uptoBulkAll, Rows.uptoBulk]
  omega
theorem open_chunks (hv : Value.okWide Try.prog W .any base 24 v) (hj : DataW.Trod enc Try.prog W 0 (fun _ => true) true 24 v d p) :
    ∃ A l c, v = .slice A (l : List Ck).length c ∧ Cks W W.heap.size A l ∧ ((d = .nil ∧ l = []) ∨ ∃ e s, d = .slice e s ∧ bulkC l ≤ Rows.uptoBulkAll e) := by
  obtain ⟨a0, len0, cap0, rfl⟩ := okWide_slice Try.underlying24 hv
  obtain ⟨fuel, hf⟩ := hj
  rcases DataW.trod_slice Try.underlying24 hf with ⟨hcs, hx⟩ | ⟨x, l, c, elems, rest, n, _, hcs, hx, _, hl, hm, hlen, hel, _, _⟩
  · simp [Value.cells] at hcs
    obtain ⟨rfl, rfl, rfl⟩ := hcs
    simp only [Prod.mk.injEq] at hx
    exact ⟨none, [], 0, rfl, fun h => absurd h (by simp), .inl ⟨hx.1, rfl⟩⟩
  · simp [Value.cells] at hcs
    obtain ⟨rfl, rfl, rfl⟩ := hcs
    simp only [Prod.mk.injEq] at hx
    obtain ⟨b, off, spot⟩ := x
    have each : ∀ i, i < len0 → ∃ k : Ck, W.cell? (((⟨b, off, spot⟩ : Addr).add (i * 2)).add 0) = some (.string k.t) ∧ (∃ D c, W.cell? (((⟨b, off, spot⟩ : Addr).add (i * 2)).add 1) = some (.slice D k.d.length c) ∧ Bs W W.heap.size D k.d) ∧ (∀ h : i < elems.length, k.t.size + k.d.length + 3 ≤ Rows.uptoBulk elems[i].1) := by
      intro i hi
      have h1 := hel i hi
      rw [cells_ck, List.getElem?_eq_getElem (by omega)] at h1
      obtain ⟨k, k0, k1, k2⟩ := chunk_cells h1
      exact ⟨k, k0, k1, fun _ => k2⟩
    have ⟨F, hF⟩ : ∃ F : Nat → Ck, ∀ i, i < len0 → W.cell? (((⟨b, off, spot⟩ : Addr).add (i * 2)).add 0) = some (.string (F i).t) ∧ (∃ D c, W.cell? (((⟨b, off, spot⟩ : Addr).add (i * 2)).add 1) = some (.slice D (F i).d.length c) ∧ Bs W W.heap.size D (F i).d) ∧ (∀ h : i < elems.length, (F i).t.size + (F i).d.length + 3 ≤ Rows.uptoBulk elems[i].1) :=
      ⟨fun i => if h : i < len0 then (each i h).choose else ⟨⟨#[]⟩, []⟩, fun i hi => by simp only [dif_pos hi]; exact (each i hi).choose_spec⟩
    by_cases h0 : len0 = 0
    · subst h0
      exact ⟨some ⟨b, off, spot⟩, [], cap0, rfl, fun h => absurd h (by simp), .inr ⟨_, _, hx.1, Nat.zero_le _⟩⟩
    · obtain ⟨hz, _⟩ := hF 0 (by omega)
      have hspot : spot = none := by
        have := World.cell?_spot hz
        simpa [Addr.add] using this
      have hblk : b < W.heap.size := by
        have := block_lt_of_cell hz
        simpa [Addr.add] using this
      subst hspot
      have e0 : ∀ i, ((⟨b, off, none⟩ : Addr).add (i * 2)).add 0 = ⟨b, off + i * 2, none⟩ := fun i => by
        rw [add_of_add]; unfold Addr.add; split <;> simp_all
      have e1 : ∀ i, ((⟨b, off, none⟩ : Addr).add (i * 2)).add 1 = ⟨b, off + i * 2 + 1, none⟩ := fun i => by
        rw [add_of_add]; unfold Addr.add; split <;> simp_all [Nat.add_assoc]
      refine ⟨some ⟨b, off, none⟩, (List.range len0).map F, cap0, by simp, ?_, .inr ⟨_, _, hx.1, ?_⟩⟩
      · intro _
        refine ⟨b, off, rfl, hblk, fun j hj => ?_⟩
        have hj' : j < len0 := by simpa using hj
        obtain ⟨k0, ⟨D, c, k1, k2⟩, _⟩ := hF j hj'
        rw [e0] at k0; rw [e1] at k1
        simp only [List.getElem_map, List.getElem_range]
        exact ⟨k0, D, c, k1, k2⟩
      · refine bulk_all _ _ (by simp [hlen]) (fun i a b => ?_)
        have hi : i < len0 := by simpa using a
        simp only [List.getElem_map, List.getElem_range]
        exact (hF i hi).2.2 (by omega)
end
end Go.Proofs.Ytaloieeemibblaa

/- Rows of chunks, read; what Split says, by what there is. -/
set_option linter.unusedVariables false
set_option linter.unusedSimpArgs false
namespace Go.Proofs.Ytaloieeemibblaa
open Go.ChangeShapes Go.WideShapes Go.ChangeAt Go.RowKit
/-- A row of chunks, read. -/
theorem row_cks {w w' : World} {lb : List UInt8} {A : Option Addr} {n c : Nat} (h : Row w lb A n c w') : Cks w' w'.heap.size A (cksOf lb n) := by
  obtain ⟨L, h1, h2, h3⟩ := h
  subst h2
  intro hpos
  rw [cksOf_len] at hpos
  have hl := h1.1
  obtain ⟨g, cap, hv, _, hlt⟩ := h1.form hpos
  have hA : A = some ⟨g, 0, none⟩ := by injection hv
  subst hA
  refine ⟨g, 0, rfl, hlt, fun j hj => ?_⟩
  rw [cksOf_len] at hj
  obtain ⟨a1, a2⟩ := ckVs_at L j hj
  obtain ⟨i1, i2, i3⟩ := h3 j hj
  have e : (cksOf lb L.length)[j]'(by rw [cksOf_len]; exact hj) = ckAt lb j := by simp only [cksOf, List.getElem_map, List.getElem_range]
  rw [e]
  have hln : (datC lb j).length = L[j].n := by
    have := i3.1
    rw [bytesV_length] at this
    omega
  simp only [Nat.zero_add]
  have e0 : ∀ i, (⟨g, 0, none⟩ : Addr).add i = ⟨g, i, none⟩ := fun i => by unfold Addr.add; split <;> simp_all
  refine ⟨?_, L[j].A, L[j].c, ?_, (bs_own i3).1⟩
  · have q := h1.cells (g := g) rfl (j * 2) _ a1
    rw [e0] at q
    rw [q]
    show some (Value.string L[j].t) = some (.string (typC lb j))
    rw [i1]
  · have q := h1.cells (g := g) rfl (j * 2 + 1) _ a2
    rw [e0] at q
    rw [q]
    show some L[j].v = some (.slice L[j].A (datC lb j).length L[j].c)
    rw [hln]
theorem dat_le (lb : List UInt8) (n : Nat) : ∀ k ∈ cksOf lb n, k.d.length ≤ maxLen := by
  intro k hk
  obtain ⟨j, _, rfl⟩ := List.mem_map.1 hk
  show (datC lb j).length ≤ maxLen
  unfold datC sumOf maxLen
  rw [List.length_drop, List.length_take]
  have := be4_lt (restC lb j) 0
  omega
theorem yes_short {b : List UInt8} {k : Nat} (h : splitYes b k) : 12 * k ≤ b.length := by
  have := (rest_short (b.drop 8) k (fun j hj => (h.2.1 j hj).1)).1
  rw [List.length_drop] at this
  omega
theorem SplitP.yes {w w' : World} {b : List UInt8} {e : Ending} {k : Nat} (hy : splitYes b k) (h : SplitP w b e w') : ∃ A c, e = .returned (.tuple #[.slice A (k + 1) c, .int .i64 0]) ∧ Row w (b.drop 8) A (k + 1) c w' ∧ Below w.heap.size w w' := by
  obtain ⟨hb, ⟨_, hn⟩ | ⟨k2, A, c, he, hy2, hr⟩⟩ := h
  · exact (yes_no hy hn).elim
  · obtain rfl := yes_one hy hy2
    exact ⟨A, c, he, hr, hb⟩
theorem SplitP.no {w w' : World} {b : List UInt8} {e : Ending} (hy : ¬ ∃ k, splitYes b k) (h : SplitP w b e w') : e = .returned (.tuple #[.slice none 0 0, .int .i64 9]) ∧ Below w.heap.size w w' := by
  obtain ⟨hb, ⟨he, _⟩ | ⟨k2, A, c, he, hy2, hr⟩⟩ := h
  · exact ⟨he, hb⟩
  · exact absurd ⟨k2, hy2⟩ hy
theorem cks_nil (w : World) (B : Nat) : Cks w B none [] := fun h => absurd h (by simp)
theorem Cks.more {w : World} {B B' : Nat} {A : Option Addr} {l : List Ck} (h : Cks w B A l) (hB : B ≤ B') : Cks w B' A l := fun hn => by
  obtain ⟨b, off, e, hlt, hc⟩ := h hn
  refine ⟨b, off, e, by omega, fun j hj => ?_⟩
  obtain ⟨x1, D, cd, x2, x3⟩ := hc j hj
  exact ⟨x1, D, cd, x2, x3.more hB⟩
theorem joinM_cases (l : List Ck) : (joinM l = .error 190) ∨ (jokB l = true ∧ joinM l = .ok (joinF l l.length)) := by
  unfold joinM
  cases jokB l with
  | false => exact .inl rfl
  | true => exact .inr ⟨rfl, rfl⟩
end Go.Proofs.Ytaloieeemibblaa
