/- Rows of coins in memory; contracts of coinsOf and pairsOf. -/
import Derived.Test.YtpolbnobnilfcaaStf
import Derived.Test.YtpolbnobnilfcaaLm
import Derived.Handy
import Derived.OwnWalk
import Derived.Laws.OwnMore
namespace Go.Proofs.Ytpolbnobnilfcaa
open Go.ChangeShapes Go.WideShapes Go.ChangeAt Go.RowKit

/-- A coin is one of a symbol (true) or a pair (false), and has its weight. -/
def coinV (c : Bool × Nat) : List Value := [.int .i64 (c.2 : Int), .bool (!c.1)]
def coinsV (o : List (Bool × Nat)) : List Value := o.flatMap coinV
theorem coinsV_nil : coinsV [] = [] := rfl
theorem coinsV_cons (c : Bool × Nat) (o : List (Bool × Nat)) : coinsV (c :: o) = .int .i64 (c.2 : Int) :: .bool (!c.1) :: coinsV o := rfl
theorem coinsV_append (a b : List (Bool × Nat)) : coinsV (a ++ b) = coinsV a ++ coinsV b := by simp [coinsV]
theorem coinsV_length (o : List (Bool × Nat)) : (coinsV o).length = o.length * 2 := by
  induction o with
  | nil => rfl
  | cons c o ih => rw [coinsV_cons, List.length_cons, List.length_cons, List.length_cons, ih]; omega
theorem coinsV_weight : ∀ (o : List (Bool × Nat)) (k : Nat) (h : k < o.length), (coinsV o)[k * 2]? = some (.int .i64 (o[k].2 : Int))
  | c :: o, 0, _ => by rw [coinsV_cons]; rfl
  | c :: o, k + 1, h => by
    have ih := coinsV_weight o k (by simpa using h)
    rw [coinsV_cons, show (k + 1) * 2 = k * 2 + 1 + 1 from by omega, List.getElem?_cons_succ, List.getElem?_cons_succ, ih]
    rfl
theorem coinsV_kind : ∀ (o : List (Bool × Nat)) (k : Nat) (h : k < o.length), (coinsV o)[k * 2 + 1]? = some (.bool (!o[k].1))
  | c :: o, 0, _ => by rw [coinsV_cons]; rfl
  | c :: o, k + 1, h => by
    have ih := coinsV_kind o k (by simpa using h)
    rw [coinsV_cons, show (k + 1) * 2 + 1 = (k * 2 + 1) + 1 + 1 from by omega, List.getElem?_cons_succ, List.getElem?_cons_succ, ih]
    rfl
theorem coinsV_one (o : List (Bool × Nat)) : ∀ u ∈ coinsV o, u.oneCell' = true := by
  intro u hu
  obtain ⟨c, _, hc⟩ := List.mem_flatMap.mp hu
  simp [coinV] at hc
  rcases hc with rfl | rfl <;> rfl
theorem coinsV_set : ∀ (o : List (Bool × Nat)) (k : Nat) (c : Bool × Nat), k < o.length → ((coinsV o).set (k * 2) (.int .i64 (c.2 : Int))).set (k * 2 + 1) (.bool (!c.1)) = coinsV (o.set k c)
  | d :: o, 0, c, _ => by simp [coinsV_cons]
  | d :: o, k + 1, c, h => by
    have ih := coinsV_set o k c (by simpa using h)
    have e1 : (k + 1) * 2 = (k * 2 + 1) + 1 := by omega
    have e2 : (k + 1) * 2 + 1 = ((k * 2 + 1) + 1) + 1 := by omega
    rw [coinsV_cons, e2, e1, List.set_cons_succ, List.set_cons_succ, List.set_cons_succ, List.set_cons_succ, ih, List.set_cons_succ, coinsV_cons]
theorem coinsV_setw (o : List (Bool × Nat)) (k x : Nat) (h : k < o.length) : (coinsV o).set (k * 2) (.int .i64 (x : Int)) = coinsV (o.set k (o[k].1, x)) := by
  rw [← coinsV_set o k (o[k].1, x) h]
  have h1 := coinsV_kind o k h
  obtain ⟨h2, h3⟩ := List.getElem?_eq_some_iff.mp h1
  have h4 : k * 2 + 1 < ((coinsV o).set (k * 2) (.int .i64 (x : Int))).length := by simpa using h2
  have h5 : ((coinsV o).set (k * 2) (.int .i64 (x : Int)))[k * 2 + 1]'h4 = .bool (!o[k].1) := by rw [List.getElem_set]; rw [if_neg (by omega)]; exact h3
  rw [← h5, List.set_getElem_self]

/-- A row of coins of the call's own. -/
def CRow (w : World) (base g n c : Nat) (o : List (Bool × Nat)) : Prop := w.ownsRow base 102 2 (.slice (some ⟨g, 0, none⟩) n c) n (coinsV o)
section
variable {w w' : World} {base g n c : Nat} {o : List (Bool × Nat)}
theorem CRow.len (h : CRow w base g n c o) : o.length = n := by
  have h1 := h.1
  rw [coinsV_length] at h1
  omega
theorem CRow.weight (h : CRow w base g n c o) (k : Nat) (hk : k < o.length) : w.cell? ⟨g, k * 2, none⟩ = some (.int .i64 (o[k].2 : Int)) := by
  have hl := h.len
  rw [h.cellAt (k * 2) (by omega), coinsV_weight o k hk]
theorem CRow.kind (h : CRow w base g n c o) (k : Nat) (hk : k < o.length) : w.cell? ⟨g, k * 2 + 1, none⟩ = some (.bool (!o[k].1)) := by
  have hl := h.len
  rw [h.cellAt (k * 2 + 1) (by omega), coinsV_kind o k hk]
theorem CRow.free (h : CRow w base g n c o) (k : Nat) : w.frozen? ⟨g, k, none⟩ = false := h.frozenAt k
theorem CRow.setw (h : CRow w base g n c o) (k x : Nat) (hk : k < o.length) : CRow (w.setCell ⟨g, k * 2, none⟩ (.int .i64 (x : Int))) base g n c (o.set k (o[k].1, x)) := by
  have h1 := (h.stored (k * 2) (.int .i64 (x : Int))).1
  rw [coinsV_setw o k x hk] at h1
  exact h1
theorem CRow.set2 (h : CRow w base g n c o) (k : Nat) (d : Bool × Nat) (hk : k < o.length) : CRow ((w.setCell ⟨g, k * 2, none⟩ (.int .i64 (d.2 : Int))).setCell ⟨g, k * 2 + 1, none⟩ (.bool (!d.1))) base g n c (o.set k d) := by
  have h1 := ((h.stored (k * 2) (.int .i64 (d.2 : Int))).1.stored (k * 2 + 1) (.bool (!d.1))).1
  rw [coinsV_set o k d hk] at h1
  exact h1
theorem CRow.lt (h : CRow w base g n c o) : base ≤ g ∧ g < w.heap.size := World.ownsRow.lt h g rfl
theorem CRow.upd {S : Nat → Prop} (h : CRow w base g n c o) (u : Upd S w w') (hS : ¬ S g) : CRow w' base g n c o := own_upd h u (fun k hk e => by
  have : k = g := by simpa [Value.ownBlock] using hk.symm
  exact hS (by rw [this] at e; exact e))
end
theorem info_coin : (Try.prog.info? 102).map (fun i => (i.zero, i.size, i.bytes)) = some (some (.agg #[.int .i64 0, .bool false]), 2, 16) := by kernel_rfl
theorem madeCoins (n : Nat) : (madeCells (Value.agg #[.int .i64 0, .bool false]).cells (n * 2)).toList = coinsV (List.replicate n (true, 0)) := by
  apply List.ext_getElem?
  intro j
  by_cases hj : j < n * 2
  · have hk : j / 2 < (List.replicate n ((true, 0) : Bool × Nat)).length := by simp; omega
    have e : (madeCells (Value.agg #[.int .i64 0, .bool false]).cells (n * 2)).toList[j]? = some (if j % 2 = 0 then .int .i64 0 else .bool false) := by
      have h2 : j % 2 = 0 ∨ j % 2 = 1 := by omega
      simp [madeCells, Value.cells, hj]
      rcases h2 with h2 | h2 <;> simp [h2]
    rw [e]
    by_cases h2 : j % 2 = 0
    · rw [if_pos h2]
      have := coinsV_weight _ (j / 2) hk
      rw [show j / 2 * 2 = j from by omega] at this
      rw [this]
      simp
    · rw [if_neg h2]
      have := coinsV_kind _ (j / 2) hk
      rw [show j / 2 * 2 + 1 = j from by omega] at this
      rw [this]
      simp
  · rw [List.getElem?_eq_none (by simp [madeCells]; omega), List.getElem?_eq_none (by rw [coinsV_length]; simp; omega)]
/-- The coins of the symbols sy, by the counts cs. -/
def ownN (cs sy : List Int) : List Nat := sy.map fun s => (cnt cs s).toNat
def ownC (cs sy : List Int) : List (Bool × Nat) := (ownN cs sy).map fun x => (true, x)
def partC (L : List (Bool × Nat)) (k : Nat) : List (Bool × Nat) := L.take k ++ List.replicate (L.length - k) (true, 0)
theorem partC_length (L : List (Bool × Nat)) (k : Nat) (hk : k ≤ L.length) : (partC L k).length = L.length := by
  unfold partC
  rw [List.length_append, List.length_take, List.length_replicate]
  omega
theorem partC_zero (L : List (Bool × Nat)) : partC L 0 = List.replicate L.length (true, 0) := by simp [partC]
theorem partC_all (L : List (Bool × Nat)) : partC L L.length = L := by simp [partC]
theorem partC_at (L : List (Bool × Nat)) (k : Nat) (hk : k < L.length) (h : k < (partC L k).length) : (partC L k)[k] = (true, 0) := by
  have e : (partC L k)[k]? = some (true, 0) := by
    unfold partC
    rw [List.getElem?_append_right (by rw [List.length_take]; omega), List.length_take, List.getElem?_replicate, if_pos (by omega)]
  exact (List.getElem?_eq_some_iff.mp e).2
theorem partC_set (L : List (Bool × Nat)) (k : Nat) (hk : k < L.length) : (partC L k).set k L[k] = partC L (k + 1) := by
  unfold partC
  obtain ⟨m, hm⟩ : ∃ m, L.length - k = m + 1 := ⟨L.length - k - 1, by omega⟩
  rw [hm, show L.length - (k + 1) = m from by omega, List.replicate_succ, List.set_append_right _ _ (by rw [List.length_take]; omega), List.length_take, show k - min k L.length = 0 from by omega, List.set_cons_zero, List.take_succ_eq_append_getElem hk, List.append_assoc]
  rfl

set_option maxHeartbeats 1000000 in
set_option maxRecDepth 100000 in
theorem coinsOf_any (A A2 : Option Addr) (c c2 : Nat) (sy cs : List Int) (w : World) (hs : Is w w.heap.size A sy) (hc : Is w w.heap.size A2 cs) (hS : Syms sy cs.length) (hl : sy.length ≤ 4096) (hb : ∀ x ∈ cs, 0 ≤ x ∧ x ≤ 1073741824) :
    Calls Try.prog 42 #[.slice A sy.length c, .slice A2 cs.length c2] w fun e w' => ∃ c', e = .returned (.slice (some ⟨w.heap.size, 0, none⟩) sy.length c') ∧ CRow w' w.heap.size w.heap.size sy.length c' (ownC cs sy) ∧ Below w.heap.size w w' := by
  obtain ⟨i0, hi, hz0, hz1, hz2⟩ := info_parts info_coin
  have hLL : (ownC cs sy).length = sy.length := by simp [ownC, ownN]
  have HLL := Lib.hid hLL; clear hLL
  have HB := Lib.hid hb; clear hb
  go_enter Try.func42, Try.ntmps42
  go_wp2_with (at_make; refine wpList_make_full _ rfl (.tmp 9) (.tmp 9) 89 rfl w.heap.size 102 i0 (.agg #[.int .i64 0, .bool false]) 2 Try.underlying89 hi hz0 hz1 .i64 .i64 sy.length sy.length sy.length rfl rfl rfl rfl (by rw [hz2]; omega) (by unfold maxLen; omega) (Nat.le_refl _) ?_; intro w1 hown1 hg1; rw [madeCoins] at hown1; have hb1 := (Below.refl w.heap.size w).grown hg1 (Nat.le_refl _) (by simp))
  have HO1 : Hid (CRow w1 w.heap.size w.heap.size sy.length sy.length (partC (ownC cs sy) 0)) := Lib.hid (by rw [partC_zero, HLL.out]; exact hown1)
  have HB1 := Lib.hid hb1; clear hb1 hown1 hg1
  go_loopw [13] (fun i wr => ∃ k : Nat, k ≤ sy.length ∧ i = .int .i64 k ∧ CRow wr w.heap.size w.heap.size sy.length sy.length (partC (ownC cs sy) k) ∧ Below w.heap.size w wr) (fun i _ => sy.length - (intOf i).toNat)
  case atStart => exact ⟨0, by omega, rfl, HO1.out, HB1.out⟩
  case round =>
    obtain ⟨k, hk, rfl, hO, hBe⟩ := hrel
    have HO := Lib.hid hO; clear hO
    have HBe := Lib.hid hBe; clear hBe
    by_cases hlt : k < sy.length
    · obtain ⟨ad, rfl, _, hcx⟩ := Is.at_ (Vs.below hs HBe.out) hlt
      obtain ⟨s0, s1⟩ := hS.at_ k hlt
      rw [itm_get sy k hlt] at s0 s1
      obtain ⟨ad2, rfl, _, hcy⟩ := Is.at_ (k := (sy[k]).toNat) (Vs.below hc HBe.out) (by omega)
      have hkk : k < (ownC cs sy).length := by rw [HLL.out]; exact hlt
      have hx0 := HB.out (cs[(sy[k]).toNat]'(by omega)) (List.getElem_mem _)
      have hkp : k < (partC (ownC cs sy) k).length := by rw [partC_length _ _ (by omega)]; exact hkk
      have hset := partC_set (ownC cs sy) k hkk
      have hval : (ownC cs sy)[k] = (true, (itm cs (sy[k]).toNat).toNat) := by
        simp only [ownC, ownN, List.getElem_map, cnt]
      rw [← itm_get cs _ (by omega)] at hcy hx0
      rw [hval] at hset
      have hN := HO.out.setw k (itm cs (sy[k]).toNat).toNat hkp
      rw [partC_at _ k hkk hkp, hset] at hN
      have HN := Lib.hid hN; clear hN hset hval
      have hce := HO.out.weight k hkp
      rw [partC_at _ k hkk hkp] at hce
      have hfr := HO.out.free (k * 2)
      generalize sy[k] = sx at *
      generalize itm cs sx.toNat = z at *
      obtain ⟨z0, z1⟩ := hx0
      have ez : ((z.toNat : Nat) : Int) = z := by omega
      rw [ez] at HN
      clear ez
      go_wp2_with fail
      go_roundw
      case rel => exact ⟨k + 1, by omega, by go_num, HN.out, HBe.out.setCell (by simp) _⟩
      case measure => simp [intOf]; omega
    · obtain rfl : k = sy.length := by omega
      have HF : Hid (CRow wr w.heap.size w.heap.size sy.length sy.length (ownC cs sy)) := Lib.hid (by
        have h1 := HO.out
        have h2 := partC_all (ownC cs sy)
        rw [HLL.out] at h2
        rw [h2] at h1
        exact h1)
      go_wp2_with fail
      go_ret
      exact ⟨_, rfl, HF.out, HBe.out⟩
end Go.Proofs.Ytpolbnobnilfcaa
