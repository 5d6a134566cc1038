/- Contract of pairsOf; append of coins to a row of the call's own. -/
import Derived.Test.YtpolbnobnilfcaaKa
import Derived.BigRegion
namespace Go.Proofs.Ytpolbnobnilfcaa
open Go.ChangeShapes Go.WideShapes Go.ChangeAt Go.RowKit

def pairC (o : List (Bool × Nat)) : List (Bool × Nat) := (pairs (wts o)).map fun x => (false, x)
theorem pairC_length (o : List (Bool × Nat)) : (pairC o).length = o.length / 2 := by simp [pairC, pairs_length, wts]
theorem pairC_get (o : List (Bool × Nat)) (k : Nat) (h : 2 * k + 1 < o.length) (hk : k < (pairC o).length) : (pairC o)[k] = (false, o[2 * k].2 + o[2 * k + 1].2) := by
  have h1 := pairs_get (wts o) k (by rw [wts_length]; exact h)
  have e : (pairC o)[k]? = some (false, o[2 * k].2 + o[2 * k + 1].2) := by
    unfold pairC
    rw [List.getElem?_map, h1]
    simp [wts]
  exact (List.getElem?_eq_some_iff.mp e).2
theorem CRow.below {w w' : World} {base g n c B : Nat} {o : List (Bool × Nat)} (h : CRow w base g n c o) (hb : Below B w w') (hB : g < B) : CRow w' base g n c o :=
  h.upd (Upd.of_below hb) (by omega)

set_option maxHeartbeats 1000000 in
set_option maxRecDepth 100000 in
theorem pairsOf_any (w : World) (base g n c : Nat) (o : List (Bool × Nat)) (h : CRow w base g n c o) (hn : n ≤ 8192) (hb : ∀ x ∈ wts o, x ≤ 1152921504606846976) :
    Calls Try.prog 55 #[.slice (some ⟨g, 0, none⟩) n c] w fun e w' => ∃ m c', m = n / 2 ∧ e = .returned (.slice (some ⟨w.heap.size, 0, none⟩) m c') ∧ CRow w' w.heap.size w.heap.size m c' (pairC o) ∧ m ≤ c' ∧ Below w.heap.size w w' := by
  obtain ⟨i0, hi, hz0, hz1, hz2⟩ := info_parts info_coin
  obtain ⟨m, hm⟩ : ∃ m, m = n / 2 := ⟨_, rfl⟩
  have hm1 : 2 * m ≤ n := by omega
  have hm2 : n ≤ 2 * m + 1 := by omega
  have HM := Lib.hid hm
  have HLL : Hid ((pairC o).length = m) := Lib.hid (by rw [pairC_length, h.len, hm])
  have hq : (n : Int) / 2 = (m : Int) := by omega
  clear hm
  have HB := Lib.hid hb; clear hb
  have hg := h.lt.2
  have HR := Lib.hid h; clear h
  go_enter Try.func55, Try.ntmps55
  go_wp2_with (at_make; refine wpList_make_full _ rfl (.tmp 7) (.tmp 7) 89 rfl w.heap.size 102 i0 (.agg #[.int .i64 0, .bool false]) 2 Try.underlying89 hi hz0 hz1 .i64 .i64 (m : Int) (m : Int) m rfl rfl rfl rfl (by rw [hz2]; omega) (by unfold maxLen; omega) (Nat.le_refl _) ?_; intro w1 hown1 hg1; rw [madeCoins] at hown1; have hb1 := (Below.refl w.heap.size w).grown hg1 (Nat.le_refl _) (by simp))
  have HO1 : Hid (CRow w1 w.heap.size w.heap.size m m (partC (pairC o) 0)) := Lib.hid (by rw [partC_zero, HLL.out]; exact hown1)
  have HB1 := Lib.hid hb1; clear hb1 hown1 hg1 hq
  go_loopw [11] (fun i wr => ∃ k : Nat, k ≤ m ∧ i = .int .i64 k ∧ CRow wr w.heap.size w.heap.size m m (partC (pairC o) k) ∧ Below w.heap.size w wr) (fun i _ => m - (intOf i).toNat)
  case atStart => exact ⟨0, by omega, rfl, HO1.out, HB1.out⟩
  case round =>
    obtain ⟨k, hk, rfl, hO, hBe⟩ := hrel
    have HO := Lib.hid hO; clear hO
    have HBe := Lib.hid hBe; clear hBe
    by_cases hlt : k < m
    · have HR2 := Lib.hid (HR.out.below HBe.out hg)
      have hln := HR.out.len
      have c1 := HR2.out.weight (2 * k) (by omega)
      have c2 := HR2.out.weight (2 * k + 1) (by omega)
      have b1 := HB.out o[2 * k].2 (by unfold wts; exact List.mem_map.mpr ⟨_, List.getElem_mem _, rfl⟩)
      have b2 := HB.out o[2 * k + 1].2 (by unfold wts; exact List.mem_map.mpr ⟨_, List.getElem_mem _, rfl⟩)
      have hkk : k < (pairC o).length := by rw [HLL.out]; exact hlt
      have hkp : k < (partC (pairC o) k).length := by rw [partC_length _ _ (by omega)]; exact hkk
      have hset := partC_set (pairC o) k hkk
      rw [pairC_get o k (by omega) hkk] at hset
      have d1 := HO.out.weight k hkp
      have d2 := HO.out.kind k hkp
      rw [partC_at _ k hkk hkp] at d1 d2
      have f1 := HO.out.free (k * 2)
      have f2 := HO.out.free (k * 2 + 1)
      have hN := HO.out.set2 k (false, o[2 * k].2 + o[2 * k + 1].2) hkp
      rw [hset] at hN
      have HN := Lib.hid hN; clear hN hset
      obtain ⟨a, ha⟩ : ∃ a, o[2 * k].2 = a := ⟨_, rfl⟩
      obtain ⟨b, hb⟩ : ∃ b, o[2 * k + 1].2 = b := ⟨_, rfl⟩
      rw [ha] at c1 b1 HN
      rw [hb] at c2 b2 HN
      have ea : ((((false, a + b) : Bool × Nat).2 : Nat) : Int) = (a : Int) + (b : Int) := by simp
      rw [ea] at HN
      clear ha hb ea
      have e1 : IntKind.i64.wrap (2 * (k : Int)) = 2 * (k : Int) := IntWalk.i64_in _ (by omega)
      have e2 : IntKind.i64.wrap (2 * (k : Int) + 1) = 2 * (k : Int) + 1 := IntWalk.i64_in _ (by omega)
      have e3 : IntKind.i64.wrap ((a : Int) + (b : Int)) = (a : Int) + (b : Int) := IntWalk.i64_in _ (by omega)
      have n1 : (2 * (k : Int)).toNat = 2 * k := by omega
      have n2 : (2 * (k : Int) + 1).toNat = 2 * k + 1 := by omega
      have i1 : (0 : Int) ≤ 2 * (k : Int) := by omega
      have i2 : 2 * (k : Int) < n := by omega
      have i3 : (0 : Int) ≤ 2 * (k : Int) + 1 := by omega
      have i4 : 2 * (k : Int) + 1 < n := by omega
      have i5 : (k : Int) < m := by omega
      go_wp2_with fail
      go_region
      all_goals
        go_wp2_with fail
        go_roundw
        case rel => exact ⟨k + 1, by omega, by go_num, HN.out, (below_drewN ((HBe.out.setCell (p := ⟨w.heap.size, k * 2, none⟩) (by simp) _).setCell (p := ⟨w.heap.size, k * 2 + 1, none⟩) (by simp) _) 1)⟩
        case measure => simp [intOf]; omega
    · obtain rfl : k = m := by omega
      have HF : Hid (CRow wr w.heap.size w.heap.size k k (pairC o)) := Lib.hid (by
        have h1 := HO.out
        have h2 := partC_all (pairC o)
        rw [HLL.out] at h2
        rw [h2] at h1
        exact h1)
      go_wp2_with fail
      go_ret
      exact ⟨k, k, HM.out, rfl, HF.out, Nat.le_refl _, HBe.out⟩

/-- A slice that reads as coins. -/
def Cs (w : World) (B : Nat) (A : Option Addr) (o : List (Bool × Nat)) : Prop := 0 < o.length → ∃ g off, A = some ⟨g, off, none⟩ ∧ g < B ∧ ∀ j v, (coinsV o)[j]? = some v → w.cell? ⟨g, off + j, none⟩ = some v
section
variable {w w' : World} {B B' : Nat} {A : Option Addr} {o : List (Bool × Nat)}
theorem Cs.nil_ : Cs w B A [] := fun h => absurd h (by simp)
theorem Cs.below (h : Cs w B A o) (hb : Below B w w') : Cs w' B A o := fun hn => by
  obtain ⟨g, off, e, hg, hc⟩ := h hn
  exact ⟨g, off, e, hg, fun j v hv => (hb.cell (p := ⟨g, off + j, none⟩) hg).trans (hc j v hv)⟩
theorem Cs.more (h : Cs w B A o) (hB : B ≤ B') : Cs w B' A o := fun hn => by
  obtain ⟨g, off, e, hg, hc⟩ := h hn
  exact ⟨g, off, e, by omega, hc⟩
theorem Cs.of_row {base g n c : Nat} (h : CRow w base g n c o) : Cs w w.heap.size (some ⟨g, 0, none⟩) o := fun _ => by
  refine ⟨g, 0, rfl, h.lt.2, fun j v hv => ?_⟩
  have hj := (List.getElem?_eq_some_iff.mp hv).1
  have h1 := h.1
  rw [Nat.zero_add, h.cellAt j (by omega), hv]
theorem Cs.tail {c : Bool × Nat} {g off : Nat} (h : Cs w B (some ⟨g, off, none⟩) (c :: o)) : Cs w B (some ⟨g, off + 2, none⟩) o := fun hn => by
  obtain ⟨g', off', e, hg, hc⟩ := h (by simp)
  injection e with e
  injection e with e1 e2
  subst e1 e2
  refine ⟨g, off + 2, rfl, hg, fun j v hv => ?_⟩
  have := hc (j + 2) v (by rw [coinsV_cons, List.getElem?_cons_succ, List.getElem?_cons_succ]; exact hv)
  rw [← this, show off + 2 + j = off + (j + 2) from by omega]
end
section
variable {P : Program} (w : World)
/-- append of coins, from whatever slice, to a row of the call's own. -/
theorem run_append_cs (base : Nat) (t ty e : TypeId) (i : TypeInfo) (z : Value) (ht : P.underlying t = some (.slice e)) (hi : P.info? e = some i) (hz : i.zero = some z)
    (hsize : i.size = 2) (hby : i.bytes = 16) (hzs : z.cells.size = 2) (v : Value) (n : Nat) (xs : List Value) (hown : w.ownsRow base e 2 v n xs)
    (B : Nat) (A : Option Addr) (m c : Nat) (ys : List (Bool × Nat)) (hm : ys.length = m) (hr : Cs w B A ys) (h63 : n + m ≤ 1048576) (hbase : base ≤ w.heap.size) :
    ∃ A' c' w', (Builtin.append_ #[t, t] ty #[v, .slice A m c]).run P w = .ok (.slice A' (n + m) c') w' ∧
      w'.ownsRow base e 2 (.slice A' (n + m) c') (n + m) (xs ++ coinsV ys) ∧ w.grownBy w' v.ownBlock := by
  subst hm
  have hform : ∀ (v' : Value) (m : Nat) (w' : World) (ys : List Value), w'.ownsRow base e 2 v' m ys → ∃ A' c', v' = .slice A' m c' := by
    intro v' m w' ys hh
    rcases hh.2 with ⟨rfl, h0⟩ | ⟨g, cap, cur, rfl, _⟩
    · exact ⟨none, 0, by rw [h0]⟩
    · exact ⟨_, _, rfl⟩
  rcases A with _ | ad
  · have h0 : ys = [] := by
      rcases Nat.eq_zero_or_pos ys.length with h0 | h0
      · exact List.eq_nil_of_length_eq_zero h0
      · obtain ⟨g, off, h, _⟩ := hr h0
        cases h
    subst h0
    have hrun : (Builtin.append_ #[t, t] ty #[v, .slice none 0 c]).run P w = .ok v w := by
      rcases hown.2 with ⟨rfl, rfl⟩ | ⟨g, cap, cur, rfl, _, _, hnc, _⟩
      · simp [Builtin.append_, run_underlying ht, sizeOf, typeInfo, hi, Builtin.lenOf, Builtin.firstCells]
      · simp [Builtin.append_, run_underlying ht, sizeOf, typeInfo, hi, Builtin.lenOf, Builtin.firstCells, hnc, storeCells]
    obtain ⟨A', c', rfl⟩ := hform v n w xs hown
    exact ⟨A', c', w, hrun, by simpa [coinsV] using hown, World.grownBy.refl w _⟩
  · have hcells : ∀ j u, (coinsV ys)[j]? = some u → w.cell? (ad.add j) = some u := by
      intro j u hu
      have hj := (List.getElem?_eq_some_iff.mp hu).1
      rw [coinsV_length] at hj
      obtain ⟨g, off, he, _, hc⟩ := hr (by omega)
      injection he with he
      subst he
      have e : (⟨g, off, none⟩ : Addr).add j = ⟨g, off + j, none⟩ := by unfold Addr.add; split <;> simp_all
      rw [e, hc j u hu]
    obtain ⟨v', w', hrun, h2, h3, _, _⟩ := run_append_own_at (P := P) w base t ty e i z 2 16 ht hi hz hsize hby hzs (by omega) v n xs hown ad ys.length c (coinsV ys)
      (coinsV_length ys) hcells (coinsV_one ys) (by unfold maxLen; omega) (by omega) hbase
    obtain ⟨A', c', rfl⟩ := hform v' _ w' _ h2
    exact ⟨_, _, w', hrun, h2, h3⟩
theorem wpList_append_cs {ops : Array Oper} {rest : List Oper} {o : Oper} {a : Act} {Q : Exit → Act → World → Prop} (hgd : o.guard = none) (s x : Operand) (t : TypeId)
    (ho : o.op = .call { callee := .builtin .append, args := #[s, x], argTypes := #[t, t] })
    (base : Nat) (e : TypeId) (i : TypeInfo) (z : Value) (ht : P.underlying t = some (.slice e)) (hi : P.info? e = some i) (hz : i.zero = some z)
    (hsize : i.size = 2) (hby : i.bytes = 16) (hzs : z.cells.size = 2) (v : Value) (n : Nat) (xs : List Value) (hs : a.eval s = v) (hown : w.ownsRow base e 2 v n xs)
    (B : Nat) (A : Option Addr) (m c : Nat) (ys : List (Bool × Nat)) (hm : ys.length = m) (hx : a.eval x = .slice A m c) (hr : Cs w B A ys) (h63 : n + m ≤ 1048576) (hbase : base ≤ w.heap.size)
    (h : ∀ A' c' w', w'.ownsRow base e 2 (.slice A' (n + m) c') (n + m) (xs ++ coinsV ys) → w.grownBy w' v.ownBlock → wpList P ops Q rest (a.put o.dst (.slice A' (n + m) c')) w') :
    wpList P ops Q (o :: rest) a w :=
  wpList_plain hgd fun _ hK => by
    obtain ⟨A', c', w', hrun, h2, h3⟩ := run_append_cs (P := P) w base t o.type e i z ht hi hz hsize hby hzs v n xs hown B A m c ys hm hr h63 hbase
    unfold Oper.wp execOp
    simp only [ho, resolve, invoke, builtin, Sem.run_bind, Sem.run_pure, Result.andThen_ok, List.map_toArray, List.map_cons, List.map_nil, hs, hx, hrun]
    exact hK _ _ (h A' c' w' h2 h3)
end
end Go.Proofs.Ytpolbnobnilfcaa
