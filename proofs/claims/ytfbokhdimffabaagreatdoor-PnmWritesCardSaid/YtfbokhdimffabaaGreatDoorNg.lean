/- A grid's samples as digits: the text; what stands while the program writes it. -/
import Derived.Test.YtfbokhdimffabaaGreatDoorNf
import Derived.Test.YtfbokhdimffabaaGreatDoorYe
import Derived.Test.YtfbokhdimffabaaGreatDoorQgd
set_option linter.unusedVariables false
set_option linter.unusedSimpArgs false
namespace Go.Proofs.YtfbokhdimffabaaGreatDoor
open Go.ChangeShapes Go.WideShapes Go.ChangeAt Go.RowKit Go.Sort

/-- A sample's digits. -/
def decB (v : Int) : List UInt8 := Lib.decDigits v.toNat
def btw (j : Nat) : List UInt8 := if j = 0 then [] else [32]
/-- A row's samples, a space between two. -/
def digD (j : Nat) : List Int → List UInt8
  | [] => []
  | v :: r => btw j ++ decB v ++ digD (j + 1) r
theorem digD_snoc (v : Int) : ∀ (l : List Int) (j : Nat), digD j (l ++ [v]) = digD j l ++ (btw (j + l.length) ++ decB v)
  | [], j => by simp [digD]
  | x :: r, j => by
    rw [List.cons_append, digD, digD_snoc v r (j + 1), digD, List.length_cons]
    have e : j + 1 + r.length = j + (r.length + 1) := by omega
    rw [e]
    simp only [List.append_assoc]
/-- The first rows' lines. -/
def txtD (k top W : Nat) (L : List Col) : Nat → List UInt8
  | 0 => []
  | i + 1 => txtD k top W L i ++ (digD 0 (rowM k top (rowL W L i)) ++ [10])
theorem decB_len {v : Int} (h : v ≤ 65535) : (decB v).length ≤ 20 := by
  have := Lib.itoa_length_le (v.toNat : Int) (by omega) (by omega)
  rw [Lib.itoa_nonneg] at this
  unfold decB
  rw [Lib.decDigits_length] at this ⊢
  have h2 : v.toNat < 10 ^ 6 := by omega
  by_cases h0 : 1 ≤ v.toNat
  · have := Lib.numDigits_eq v.toNat h0 (by omega)
    split at this <;> omega
  · rw [Lib.nDigits_small (by omega)]; omega
theorem digD_len : ∀ (l : List Int) (j : Nat), (∀ v ∈ l, v ≤ 65535) → (digD j l).length ≤ 21 * l.length
  | [], _, _ => by simp [digD]
  | x :: r, j, h => by
    have h1 := digD_len r (j + 1) (fun v hv => h v (by simp [hv]))
    have h2 := decB_len (h x (by simp))
    have h3 : (btw j).length ≤ 1 := by unfold btw; split <;> simp
    simp only [digD, List.length_append, List.length_cons]
    omega
section
variable {w w' : World} {base n : Nat} {v : Value} {xs : List Value}
theorem RwG.len (h : RwG w base v n xs) : xs.length = n := by
  rcases h with h | ⟨h1, _⟩
  · simpa using h.1
  · exact h1
theorem RwG.kind (h : RwG w base v n xs) {k : Nat} (hk : v.ownBlock = some k) : KindG w k := by
  rcases h with h | ⟨h1, g', cap, rfl, h3, h4, h5, h6, _⟩
  · rcases h.2 with ⟨rfl, _⟩ | ⟨g, cap, cur, rfl, _, hg, _⟩
    · simp [Value.ownBlock] at hk
    · simp [Value.ownBlock] at hk
      subst hk
      exact ⟨cur, _, hg⟩
  · simp [Value.ownBlock] at hk
    subst hk
    exact h6
theorem RwG.ne_own {b' m sz : Nat} {e : TypeId} {u : Value} {ys : List Value} (h : RwG w base v n xs) (ho : w.ownsRow b' e sz u m ys) (hne : 5 ≠ e) {k : Nat} (hk : v.ownBlock = some k) : u.ownBlock ≠ some k := by
  intro hu
  obtain ⟨cur, fz, hc⟩ := h.kind hk
  rcases ho.2 with ⟨rfl, _⟩ | ⟨g, cap, cur2, rfl, _, hg, _⟩
  · simp [Value.ownBlock] at hu
  · simp [Value.ownBlock] at hu
    subst hu
    rw [hc] at hg
    injection hg with hg
    injection hg with _ hg
    exact hne hg
theorem RwG.put_ (h : RwG w base v n xs) {ll : Nat} {o : Obj} (ho : w.heap[ll]? = some o) (hoc : o.isCells = false) (o' : Obj) : RwG (w.putObj ll o') base v n xs := by
  refine h.upd (upd_putObj (S := (· = ll)) w ll o' rfl) (fun k hk e => ?_)
  subst e
  obtain ⟨cur, fz, hc⟩ := h.kind hk
  rw [ho] at hc
  injection hc with hc
  subst hc
  cases hoc
theorem RwG.keeps (h : RwG w base v n xs) (u : Upd (fun k => some k = v.ownBlock) w w') : KeepsOthers w w' := by
  refine ⟨u.size, fun k o hk hoc => (u.block k (Array.getElem?_eq_some_iff.1 hk).1 (fun e => ?_)).trans hk⟩
  obtain ⟨cur, fz, hc⟩ := h.kind e.symm
  rw [hk] at hc
  injection hc with hc
  subst hc
  cases hoc
end
/-- What stands while the lines are written: T is written so far. -/
structure DgI (w : World) (base hb ob bi b0 g r c W H : Nat) (hd : Array Value) (L : List Col) (xs : List Value) (T : List UInt8) (V : World) : Prop where
  hb : Blk V hb 50 hd
  ob : ∃ A n c, Blk V ob 22 #[.slice A n c] ∧ RwG V base (.slice A n c) n (xs ++ Lib.byteCells T)
  ib : Blk V bi 71 #[.pointer (some ⟨g, 0, none⟩)]
  cg : CG V b0 g r c W H L
  bel : Below base w V
section
variable {w V V' : World} {base hb ob bi b0 g r c W H : Nat} {hd : Array Value} {L : List Col} {xs : List Value} {T : List UInt8}
theorem DgI.keep (h : DgI w base hb ob bi b0 g r c W H hd L xs T V) (hw : base ≤ w.heap.size) (u : Upd No V V') : DgI w base hb ob bi b0 g r c W H hd L xs T V' := by
  obtain ⟨A, n, cc, h1, h2⟩ := h.ob
  exact ⟨h.hb.upd u id, ⟨A, n, cc, h1.upd u id, h2.upd u (fun _ _ => id)⟩, h.ib.upd u id, h.cg.upd u id id, h.bel.trans (u.fresh.mono (Nat.le_trans hw h.bel.size))⟩
theorem DgI.put (h : DgI w base hb ob bi b0 g r c W H hd L xs T V) (hw : base ≤ w.heap.size) {ll : Nat} {o : Obj} (hll : w.heap.size ≤ ll) (ho : V.heap[ll]? = some o) (hoc : o.isCells = false) (o' : Obj) : DgI w base hb ob bi b0 g r c W H hd L xs T (V.putObj ll o') := by
  have u := upd_putObj (S := (· = ll)) V ll o' rfl
  obtain ⟨A, n, cc, h1, h2⟩ := h.ob
  have hrow := own_put h.cg.row ho hoc o'
  exact ⟨h.hb.upd u (blk_ne_obj h.hb ho hoc), ⟨A, n, cc, h1.upd u (blk_ne_obj h1 ho hoc), h2.put_ ho hoc o'⟩, h.ib.upd u (blk_ne_obj h.ib ho hoc), ⟨h.cg.blk.upd u (blk_ne_obj h.cg.blk ho hoc), hrow, h.cg.fresh, h.cg.w1, h.cg.w2, h.cg.h1, h.cg.h2, h.cg.few⟩, h.bel.trans (u.below (Nat.le_trans hw h.bel.size) (fun i hi e => by omega))⟩
/-- More is appended and stored. -/
theorem DgI.more (h : DgI w base hb ob bi b0 g r c W H hd L xs T V) (hw : base ≤ w.heap.size) (hob : base ≤ ob) {A A9 : Option Addr} {n n9 cc c9 : Nat} {S : List UInt8} {w9 : World} (h1 : Blk V ob 22 #[.slice A n cc]) (h2 : RwG V base (.slice A n cc) n (xs ++ Lib.byteCells T))
    (u : Upd (fun k => some k = (Value.slice A n cc).ownBlock) V w9) (h9 : RwG w9 base (.slice A9 n9 c9) n9 (xs ++ Lib.byteCells (T ++ S))) :
    Blk w9 ob 22 #[.slice A n cc] ∧ Blk w9 hb 50 hd ∧ KeepsOthers V (w9.setCell ⟨ob, 0, none⟩ (.slice A9 n9 c9)) ∧ Blk (w9.setCell ⟨ob, 0, none⟩ (.slice A9 n9 c9)) ob 22 #[.slice A9 n9 c9] ∧ RwG (w9.setCell ⟨ob, 0, none⟩ (.slice A9 n9 c9)) base (.slice A9 n9 c9) n9 (xs ++ Lib.byteCells (T ++ S)) ∧ DgI w base hb ob bi b0 g r c W H hd L xs (T ++ S) (w9.setCell ⟨ob, 0, none⟩ (.slice A9 n9 c9)) := by
  have hV := Nat.le_trans hw h.bel.size
  have b9 := h1.upd u (fun e => h2.ne_ h1 (by decide) e.symm)
  have hb9 := h.hb.upd u (fun e => h2.ne_ h.hb (by decide) e.symm)
  have ib9 := h.ib.upd u (fun e => h2.ne_ h.ib (by decide) e.symm)
  have cg9 := h.cg.upd u (fun e => h2.ne_ h.cg.blk (by decide) e.symm) (fun e => h2.ne_own h.cg.row (by decide) e.symm rfl)
  have us := (Upd.refl (· = ob) w9).setCell (p := ⟨ob, 0, none⟩) (fun _ => rfl) (.slice A9 n9 c9)
  have bs : Blk (w9.setCell ⟨ob, 0, none⟩ (.slice A9 n9 c9)) ob 22 #[.slice A9 n9 c9] := by simpa using b9.set_ 0 (.slice A9 n9 c9)
  have rs : RwG (w9.setCell ⟨ob, 0, none⟩ (.slice A9 n9 c9)) base (.slice A9 n9 c9) n9 (xs ++ Lib.byteCells (T ++ S)) := h9.upd us (fun k hk e => h9.ne_ b9 (by decide) (by rw [hk, e]))
  refine ⟨b9, hb9, (h2.keeps u).trans (KeepsOthers.setCell _ _ _), bs, rs, ⟨hb9.upd us (fun e => (hb9.ne_ b9 (by decide)) e), ⟨_, _, _, bs, rs⟩, ib9.upd us (fun e => (ib9.ne_ b9 (by decide)) e), cg9.upd us (fun e => (cg9.blk.ne_ b9 (by decide)) e) (fun e => own_blk_ne cg9.row b9 (by decide) (by rw [e]; rfl)), ?_⟩⟩
  exact (h.bel.trans (u.below hV (fun k hk e => by have := (h2.lt k e.symm).1; omega))).trans (us.below (Nat.le_trans hV u.size) (fun k hk e => by omega))
/-- A row of numbers stays as it is. -/
theorem more_row {w9 : World} {A : Option Addr} {n cc b' m : Nat} {u0 x : Value} {ys : List Value} (h1 : Blk V ob 22 #[.slice A n cc]) (h2 : RwG V base (.slice A n cc) n xs) (u : Upd (fun k => some k = (Value.slice A n cc).ownBlock) V w9) (o : V.ownsRow b' 3 1 u0 m ys) : (w9.setCell ⟨ob, 0, none⟩ x).ownsRow b' 3 1 u0 m ys := by
  have b9 := h1.upd u (fun e => h2.ne_ h1 (by decide) e.symm)
  have o9 := own_upd o u (fun k hk e => h2.ne_own o (by decide) e.symm hk)
  exact own_upd o9 ((Upd.refl (· = ob) w9).setCell (p := ⟨ob, 0, none⟩) (fun _ => rfl) x) (fun k hk e => own_blk_ne o9 b9 (by decide) (by rw [hk, e]))
end
theorem downN_bd2 {s m : Int} (hs : 0 ≤ s ∧ s ≤ 65535) (h1 : 1 ≤ m) (h2 : m ≤ 65535) : 0 ≤ downN s m ∧ downN s m ≤ 65535 := by
  have e1 : 0 ≤ s * m := Int.mul_nonneg hs.1 (by omega)
  have e2 : s * m ≤ 65535 * 65535 := Int.le_trans (Int.mul_le_mul_of_nonneg_right hs.2 (by omega)) (Int.mul_le_mul_of_nonneg_left h2 (by omega))
  unfold downN
  omega
theorem rowM_bd (k top : Nat) (ht1 : 1 ≤ topN k top) (ht2 : topN k top ≤ 65535) : ∀ (l : List Col), (∀ x ∈ l, ColK x) → ∀ v ∈ rowM k top l, 0 ≤ v ∧ v ≤ 65535
  | [], _, v, hv => by cases hv
  | x :: r, h, v, hv => by
    rw [rowM, List.mem_append] at hv
    rcases hv with hv | hv
    · obtain ⟨s, hs, rfl⟩ := List.mem_map.mp hv
      exact downN_bd2 (turN_bd k (partM_bd (h x (by simp)) s hs)) (by omega) (by omega)
    · exact rowM_bd k top ht1 ht2 r (fun y hy => h y (by simp [hy])) v hv
theorem plN_le (k : Nat) : 1 ≤ plN k ∧ plN k ≤ 3 := by unfold plN; split <;> omega
theorem txtD_len (k top W : Nat) (ht1 : 1 ≤ topN k top) (ht2 : topN k top ≤ 65535) (L : List Col) (hok : ∀ x ∈ L, ColK x) : ∀ i, (txtD k top W L i).length ≤ i * (63 * W + 1)
  | 0 => by simp [txtD]
  | i + 1 => by
    have h1 := txtD_len k top W ht1 ht2 L hok i
    have h2 := digD_len (rowM k top (rowL W L i)) 0 (fun v hv => (rowM_bd k top ht1 ht2 _ (fun x hx => hok x (List.mem_of_mem_drop (List.mem_of_mem_take hx))) v hv).2)
    have h3 : (rowL W L i).length ≤ W := by rw [rowL, List.length_take]; omega
    have h4 := Nat.mul_le_mul (plN_le k).2 h3
    rw [rowM_length] at h2
    rw [txtD, List.length_append, List.length_append, Nat.succ_mul]
    simp only [List.length_cons, List.length_nil]
    omega
end Go.Proofs.YtfbokhdimffabaaGreatDoor
