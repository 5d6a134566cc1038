/- Joined texts (a claim has at most 60 files). -/
import Derived.Test.YthbdhpciibjnmaaL
import Derived.StillTail
import Derived.RegionTactic
import Derived.WalkKit
import Derived.Test.YthbdhpciibjnmaaDd
import Derived.Deep.RegionWith
/- A region that draws its order, walked by what holds at each of its stages: one step for each operation, whatever came before it. No program is named here. -/
namespace Go.Proofs.Ythbdhpciibjnmaa
open Go.RowKit

/-- An operation is done. -/
abbrev Did (listed : Array Bool) (j : Nat) : Prop := listed.getD j false = true
def orderlyB (ops : Array Oper) : Bool := (List.range ops.size).all fun i => ((ops[i]?).map fun o => o.after.all fun e => !Region.binds .any e || decide (e.on < i)).getD true
section
variable {P : Program} {ops : Array Oper} {Q : Exit → Act → World → Prop}
theorem orderly_spec (ho : orderlyB ops = true) {i : Nat} {o : Oper} (hi : ops[i]? = some o) : ∀ e ∈ o.after, Region.binds .any e = true → e.on < i := by
  intro e he hb
  unfold orderlyB at ho
  rw [List.all_eq_true] at ho
  have h := ho i (List.mem_range.2 (Array.getElem?_eq_some_iff.1 hi).1)
  rw [hi] at h
  simp only [Option.map_some, Option.getD_some, Array.all_eq_true_iff_forall_mem, Bool.or_eq_true, Bool.not_eq_true', decide_eq_true_eq] at h
  rcases h e he with h1 | h1
  · rw [hb] at h1; cases h1
  · exact h1
theorem all_listed {listed : Array Bool} (ho : orderlyB ops = true) (hs : listed.size = ops.size) (hr : Region.ready .any ops listed = []) : ∀ n i, i < n → i < ops.size → Did listed i
  | 0, i, h, _ => by omega
  | n + 1, i, h, hi => by
    have ih := all_listed ho hs hr n
    rcases Nat.lt_or_ge i n with h1 | h1
    · exact ih i h1 hi
    · obtain rfl : i = n := by omega
      cases hd : listed.getD i false with
      | true => exact hd
      | false =>
        have hm : i ∈ Region.ready .any ops listed := mem_ready.2 ⟨getD_in (by omega) hd, _, Array.getElem?_eq_getElem hi, fun e he hb => ih e.on (orderly_spec ho (Array.getElem?_eq_getElem hi) e he hb) (by have := orderly_spec ho (Array.getElem?_eq_getElem hi) e he hb; omega)⟩
        rw [hr] at hm
        cases hm
theorem wpAny_inv (J : Array Bool → Act → World → Prop) (ho : orderlyB ops = true)
    (hdone : ∀ listed a w, (∀ i, i < ops.size → Did listed i) → J listed a w → Q .normal a w)
    (hstep : ∀ i o, ops[i]? = some o → ∀ listed a w, listed.size = ops.size → ¬ Did listed i → (∀ e ∈ o.after, Region.binds .any e = true → Did listed e.on) → J listed a w → wpOp P ops Q i (J (listed.setIfInBounds i true)) a w) :
    ∀ fuel listed a w, listed.size = ops.size → listed.toList.count false ≤ fuel → J listed a w → wpAny P .any ops Q fuel listed a w
  | 0, listed, a, w, hs, hc, hJ => by
    have hall : ∀ i, i < ops.size → Did listed i := fun i hi => by
      have h0 : false ∉ listed.toList := List.count_eq_zero.1 (by omega)
      cases hd : listed.getD i false with
      | true => exact hd
      | false =>
        exfalso
        apply h0
        have hi' : i < listed.size := by omega
        simp [hi'] at hd
        rw [← hd]
        simp
    refine ⟨?_, hdone _ _ _ hall hJ⟩
    cases hr : Region.ready .any ops listed with
    | nil => rfl
    | cons j r =>
      have hj : j ∈ Region.ready .any ops listed := by rw [hr]; simp
      obtain ⟨h1, oj, hoj, _⟩ := mem_ready.1 hj
      have := hall j (Array.getElem?_eq_some_iff.1 hoj).1
      have h2 := getD_both h1
      rw [this] at h2
      cases h2
  | fuel + 1, listed, a, w, hs, hc, hJ => by
    refine ⟨fun hr => hdone _ _ _ (fun i hi => all_listed ho hs hr (i + 1) i (by omega) hi) hJ, fun i hi => ?_⟩
    obtain ⟨h1, oi, hoi, hall⟩ := mem_ready.1 hi
    have hlt : i < listed.size := by rw [hs]; exact (Array.getElem?_eq_some_iff.1 hoi).1
    refine wpOp_mono (fun a' w' hJ' => ?_) (hstep i oi hoi listed a w hs (by unfold Did; rw [getD_both h1]; simp) hall hJ)
    refine wpAny_inv J ho hdone hstep fuel _ a' w' (by simpa using hs) ?_ hJ'
    have hf : listed.toList[i]'(by simpa using hlt) = false := by
      have := getD_both h1
      simpa [hlt] using this
    have hcs := List.count_set (l := listed.toList) (i := i) (by simpa using hlt) (a := true) (b := false)
    simp only [hf] at hcs
    have hpos : 0 < listed.toList.count false := List.count_pos_iff.2 (by rw [← hf]; exact List.getElem_mem _)
    rw [show (listed.setIfInBounds i true).toList = listed.toList.set i true by simp, hcs]
    simp
    have e2 : Array.count false listed = listed.toList.count false := by simp
    omega
/-- What is asked behind one operation: K if it goes on, Q if it leaves. -/
def onward (Q : Exit → Act → World → Prop) (K : Act → World → Prop) (e : Exit) : Act → World → Prop := match e with
  | .normal => K
  | e => Q e
theorem wpOp_list {i : Nat} {o : Oper} {K : Act → World → Prop} {a : Act} {w : World} (hi : ops[i]? = some o) (h : wpList P ops (onward Q K) [o] a w) : wpOp P ops Q i K a w := by
  unfold wpOp
  rw [hi]
  unfold wpList at h
  exact h
/-- The region, by what holds at each stage. -/
theorem wp_region_inv {id : Nat} {a : Act} {w : World} {l : List Oper} (J : Array Bool → Act → World → Prop) (hm : P.follows .mixedOrders = true) (ho : orderlyB l.toArray = true) (h0 : J (Array.replicate l.toArray.size false) a w.drew)
    (hdone : ∀ listed a w, (∀ i, i < l.toArray.size → Did listed i) → J listed a w → Q .normal a w)
    (hstep : ∀ i o, l.toArray[i]? = some o → ∀ listed a w, listed.size = l.toArray.size → ¬ Did listed i → (∀ e ∈ o.after, Region.binds .any e = true → Did listed e.on) → J listed a w → ∀ K : Act → World → Prop, (∀ a w, J (listed.setIfInBounds i true) a w → K a w) → wpList P l.toArray (onward Q K) [o] a w) :
    (Code.region id l.toArray true).wp P Q a w :=
  wp_region_any hm (wpAny_inv J ho hdone (fun i o hi listed a w hs hn hall hJ => wpOp_list hi (hstep i o hi listed a w hs hn hall hJ _ (fun _ _ h => h))) _ _ _ _ (by simp) (by simp) h0)
/-- What is done has what it waits for behind it. -/
def Closed (ops : Array Oper) (listed : Array Bool) : Prop := ∀ j o, ops[j]? = some o → Did listed j → ∀ e ∈ o.after, Region.binds .any e = true → Did listed e.on
/-- The region, by what holds at each stage; the stage is told of the act that it began with, and what is done has what it waits for behind it. -/
theorem wp_region_stages {id : Nat} {a : Act} {w : World} {l : List Oper} (J : Act → Array Bool → Act → World → Prop) (hm : P.follows .mixedOrders = true) (ho : orderlyB l.toArray = true) (h0 : J a (Array.replicate l.toArray.size false) a w.drew)
    (hdone : ∀ listed a' w, (∀ i, i < l.toArray.size → Did listed i) → J a listed a' w → Q .normal a' w)
    (hstep : ∀ i o, l.toArray[i]? = some o → ∀ listed a' w, listed.size = l.toArray.size → ¬ Did listed i → (∀ e ∈ o.after, Region.binds .any e = true → Did listed e.on) → Closed l.toArray listed → J a listed a' w → ∀ K : Act → World → Prop, (∀ a' w, J a (listed.setIfInBounds i true) a' w → K a' w) → wpList P l.toArray (onward Q K) [o] a' w) :
    (Code.region id l.toArray true).wp P Q a w := by
  refine wp_region_inv (fun D a' w' => Closed l.toArray D ∧ J a D a' w') hm ho ⟨fun j o _ hj => ?_, h0⟩ (fun D a' w' h1 h2 => hdone D a' w' h1 h2.2) ?_
  · unfold Did at hj
    rw [getD_replicate_false] at hj
    cases hj
  · intro i o hi D a' w' hs hn hall hJ K hK
    refine hstep i o hi D a' w' hs hn hall hJ.1 hJ.2 K (fun a2 w2 h2 => hK a2 w2 ⟨fun j oj hj hd e he hb => ?_, h2⟩)
    by_cases hji : j = i
    · subst hji
      rw [hi] at hj
      injection hj with hj
      subst hj
      exact getD_set_true (hall e he hb)
    · have hd' : Did D j := by
        unfold Did at hd ⊢
        rwa [getD_set_ne false (Ne.symm hji)] at hd
      exact getD_set_true (hJ.1 j oj hj hd' e he hb)
theorem did_set {listed : Array Bool} {i j : Nat} (hj : j ≠ i) : Did (listed.setIfInBounds i true) j ↔ Did listed j := by
  unfold Did
  rw [getD_set_ne false (Ne.symm hj)]
theorem did_new {listed : Array Bool} {i : Nat} (h : i < listed.size) : Did (listed.setIfInBounds i true) i := by
  unfold Did
  simp [h]
end
end Go.Proofs.Ythbdhpciibjnmaa

/- The document's reader of deflated bytes, fifth part: the head of a block with codes of its own. -/
namespace Go.Proofs.Ythbdhpciibjnmaa
open Go.ChangeShapes Go.WideShapes Go.ChangeAt Go.RowKit

def DTab (w : World) (A : Option Addr) (n c : Nat) (Ao : Option Addr) (m co most : Nat) (x : Except Nat (Nat × List Int × List Int)) (e : Ending) (w' : World) : Prop :=
  match x with
  | .error k => (∃ p v1 v2, e = .returned (.tuple #[.agg (stA A n c p Ao m co most k), v1, v2])) ∧ Below w.heap.size w w'
  | .ok (q, ll, ld) => ∃ A1 n1 c1 A2 n2 c2, e = .returned (.tuple #[.agg (stA A n c q Ao m co most 0), .slice A1 n1 c1, .slice A2 n2 c2]) ∧ ll.length = n1 ∧ ld.length = n2 ∧ Is w' w'.heap.size A1 ll ∧ Is w' w'.heap.size A2 ld ∧ (∀ ad, A1 = some ad → w.heap.size ≤ ad.block) ∧ (∀ ad, A2 = some ad → w.heap.size ≤ ad.block) ∧ Below w.heap.size w w'
theorem tblV_of {w w' : World} {l : List Int} {e : Ending} (h : TblRes w l e w') : ∃ cs : List Value, e = .returned (.agg cs.toArray) ∧ TblV w' w'.heap.size l cs ∧ Below w.heap.size w w' := by
  obtain ⟨cs, h1, h2, h3, h4, h5, h6⟩ := h
  refine ⟨cs, h1, ⟨h2, h3, fun k hk => ?_, h5⟩, h6⟩
  obtain ⟨A, c, a1, a2⟩ := h4 k hk
  exact ⟨A, c, a1, Vs.of_own a2⟩
/-- A list of the lengths' order, as a row of numbers. -/
def OrdI (g : Nat) (w : World) : Prop := Blk w g 3 ordV
theorem OrdI.cell_ {g : Nat} {w : World} (h : OrdI g w) (k : Nat) (hk : k < 19) : w.cell? ⟨g, k, none⟩ = some (.int .i64 ((orderL.getD k 0 : Nat) : Int)) := (Blk.cell h k).trans (ordV_get k hk)
/-- The lengths' row and the order, within a frame. -/
structure LnF (w : World) (gO gL : Nat) (lens : List Int) (S : Array Value) (w' : World) : Prop where
  fr : FrS w w.heap.size (w.heap.size + 1) S st0 w'
  ord : OrdI gO w'
  ln : LnAt gL lens w.heap.size w'
  n1 : gL ≠ w.heap.size
  n2 : gL ≠ w.heap.size + 1
  n3 : gO ≠ w.heap.size
  n4 : gO ≠ gL
  n5 : w.heap.size ≤ gL
theorem LnF.call {w w1 w2 : World} {gO gL : Nat} {lens : List Int} {S : Array Value} (h : LnF w gO gL lens S w1) (hb : Below w1.heap.size w1 w2) : LnF w gO gL lens S w2 :=
  ⟨h.fr.call hb, Blk.upd h.ord (Upd.of_fresh hb) id, ⟨own_upd h.ln.1 (Upd.of_fresh hb) (fun _ _ => id), h.ln.2⟩, h.n1, h.n2, h.n3, h.n4, h.n5⟩
theorem LnF.put {w w1 w2 : World} {gO gL : Nat} {lens : List Int} {S S' : Array Value} (h : LnF w gO gL lens S w1) (hF : FrS w w.heap.size (w.heap.size + 1) S' st0 w2) (hu : Upd (· = w.heap.size) w1 w2) : LnF w gO gL lens S' w2 :=
  ⟨hF, Blk.upd h.ord hu h.n3, ⟨own_upd h.ln.1 hu (fun k hk e => h.n1 ((show gL = k by simpa [Value.ownBlock] using hk).trans e)), h.ln.2⟩, h.n1, h.n2, h.n3, h.n4, h.n5⟩
theorem LnF.lay {w w1 : World} {gO gL : Nat} {lens : List Int} {S : Array Value} (h : LnF w gO gL lens S w1) (o x : Nat) (hx : x < 8) : LnF w gO gL (lens.set o (x : Int)) S (w1.setCell ⟨gL, o, none⟩ (.int .i64 (x : Int))) :=
  ⟨h.fr.upd_ ((Upd.refl (· = gL) w1).setCell (p := ⟨gL, o, none⟩) (fun _ => rfl) _) h.n1 h.n2 h.n5, Blk.upd h.ord ((Upd.refl (· = gL) w1).setCell (p := ⟨gL, o, none⟩) (fun _ => rfl) _) h.n4, h.ln.set_ o x hx, h.n1, h.n2, h.n3, h.n4, h.n5⟩
theorem lnF_start {w w6 w7 : World} {S : Array Value} (h : FrS w w.heap.size (w.heap.size + 1) S st0 w6) {o : Array Value} (ho : o = ordV)
    (hown : w7.ownsRow w.heap.size 3 1 (.slice (some ⟨w6.heap.size + 1, 0, none⟩) 19 19) 19 (intsV (List.replicate 19 0))) (hg : (w6.alloc (.cells o 3)).grownBy w7 none) : LnF w w6.heap.size (w6.heap.size + 1) (List.replicate 19 0) S w7 := by
  subst ho
  have hb : Below (w6.alloc (.cells ordV 3)).heap.size (w6.alloc (.cells ordV 3)) w7 := (Below.refl _ _).grown hg (Nat.le_refl _) (by simp)
  have h1 := h.box.lt
  have h2 := h.res.lt
  have h3 := h.lo
  exact ⟨(h.alloc _).call hb, Blk.upd (Blk.new w6 3 ordV) (Upd.of_fresh hb) id, ⟨hown, by simp, by decide⟩, by omega, by omega, by omega, by omega, by omega⟩
def RowCut (w : World) (A : Option Addr) (n c : Nat) (Ao : Option Addr) (m co most : Nat) (x : Except Nat (Nat × List Int)) (v : Value) (wx : World) : Prop :=
  match x with
  | .error k => (∃ p, FrS w w.heap.size (w.heap.size + 1) (stA A n c p Ao m co most k) st0 wx) ∧ v = .slice none 0 0
  | .ok (q, l) => ∃ Ar nr cr, v = .slice Ar nr cr ∧ FrS w w.heap.size (w.heap.size + 1) (stA A n c q Ao m co most 0) st0 wx ∧ wx.ownsRow w.heap.size 3 1 (.slice Ar nr cr) nr (intsV l)
theorem tabled_n (Ai : Option Addr) (n ci : Nat) (l : List Int) (w : World) (hn : l.length = n) (hbs : Is w w.heap.size Ai l) (hl : n ≤ 4096) (hg : l.any badLen = false) (hro : 0 ≤ roomOf l) :
    Calls Try.prog 25 #[.slice Ai n ci] w (TblRes w l) := by
  subst hn
  exact refTabled_any Ai ci l w hbs hl hg hro
section
variable {w w1 : World} {g z : Nat} {A : Option Addr} {n c p : Nat} {Ao : Option Addr} {m co most E : Nat} {Z : Array Value}
theorem FrS.six0 (h : FrS w g z (stA A n c p Ao m co most 0) Z w1) : w1.cell? ⟨g, 0, none⟩ = some (.slice A n c) ∧ w1.cell? ⟨g, 1, none⟩ = some (.bool false) ∧ w1.cell? ⟨g, 2, none⟩ = some (.int .i64 (p : Int)) ∧ w1.cell? ⟨g, 3, none⟩ = some (.slice Ao m co) ∧ w1.cell? ⟨g, 4, none⟩ = some (.int .i64 (most : Int)) ∧ w1.cell? ⟨g, 5, none⟩ = some (.int .i64 0) :=
  ⟨h.box.cell 0, h.box.cell 1, h.box.cell 2, h.box.cell 3, h.box.cell 4, h.box.cell 5⟩
theorem FrS.twelve (h : FrS w g z (stA A n c p Ao m co most 0) Z w1) : w1.cell? ⟨g, 0, none⟩ = some (.slice A n c) ∧ w1.cell? ⟨g, 1, none⟩ = some (.bool false) ∧ w1.cell? ⟨g, 2, none⟩ = some (.int .i64 (p : Int)) ∧ w1.cell? ⟨g, 3, none⟩ = some (.slice Ao m co) ∧ w1.cell? ⟨g, 4, none⟩ = some (.int .i64 (most : Int)) ∧ w1.cell? ⟨g, 5, none⟩ = some (.int .i64 0) ∧
    w1.frozen? ⟨g, 0, none⟩ = false ∧ w1.frozen? ⟨g, 1, none⟩ = false ∧ w1.frozen? ⟨g, 2, none⟩ = false ∧ w1.frozen? ⟨g, 3, none⟩ = false ∧ w1.frozen? ⟨g, 4, none⟩ = false ∧ w1.frozen? ⟨g, 5, none⟩ = false :=
  ⟨h.box.cell 0, h.box.cell 1, h.box.cell 2, h.box.cell 3, h.box.cell 4, h.box.cell 5, h.box.frozen 0, h.box.frozen 1, h.box.frozen 2, h.box.frozen 3, h.box.frozen 4, h.box.frozen 5⟩
theorem FrS.setRow_ {S S' : Array Value} (h : FrS w g z S Z w1) (_ : S.size = 6) (S'' : Array Value) (_ : S' = S'') : FrS w g z S'' Z (w1.setRow g S'') :=
  ⟨setRow_heap _ _ _ _ _ _ h.box, h.res.upd (upd_setRow _ _ _) (fun e => h.ne e.symm), h.ne, h.lo, h.lo2, h.bel.trans ((upd_setRow w1 g S'').below h.bel.size (fun j hj e => by have := h.lo; omega))⟩
theorem FrS.put6 (h : FrS w g z (stA A n c p Ao m co most E) Z w1) (p' E' : Nat) : FrS w g z (stA A n c p' Ao m co most E') Z ((((((w1.setCell ⟨g, 0, none⟩ (.slice A n c)).setCell ⟨g, 1, none⟩ (.bool false)).setCell ⟨g, 2, none⟩ (.int .i64 (p' : Int))).setCell ⟨g, 3, none⟩ (.slice Ao m co)).setCell ⟨g, 4, none⟩ (.int .i64 (most : Int))).setCell ⟨g, 5, none⟩ (.int .i64 (E' : Int))) :=
  (((((h.set_ 0 _).set_ 1 _).set_ 2 _).set_ 3 _).set_ 4 _).set_ 5 _
end
theorem own_low {w : World} {base b : Nat} {e : TypeId} {size n : Nat} {v : Value} {xs : List Value} (h : w.ownsRow base e size v n xs) (hb : b ≤ base) : w.ownsRow b e size v n xs := by
  obtain ⟨q1, q2⟩ := h
  refine ⟨q1, ?_⟩
  rcases q2 with q | ⟨g', cap, cur, q1, q2, q3⟩
  · exact .inl q
  · exact .inr ⟨g', cap, cur, q1, by omega, q3⟩
/-- What the row of lengths is answered as: the state, the row. -/
def RowV (w : World) (A : Option Addr) (n c : Nat) (Ao : Option Addr) (m co most : Nat) (R : Except Nat (Nat × List Int)) (S' : Array Value) (va : Value) (w' : World) : Prop :=
  match R with
  | .error ke => (∃ pe, S' = stA A n c pe Ao m co most ke) ∧ va = .slice none 0 0
  | .ok (q5, row) => S' = stA A n c q5 Ao m co most 0 ∧ ∃ Ar nr cr, va = .slice Ar nr cr ∧ w'.ownsRow w.heap.size 3 1 (.slice Ar nr cr) nr (intsV row)
theorem RowV.of {w w9 w' : World} {A : Option Addr} {n c : Nat} {Ao : Option Addr} {m co most : Nat} {R : Except Nat (Nat × List Int)} {e : Ending} (h : DRow w9 A n c Ao m co most R e w') (hw : w.heap.size ≤ w9.heap.size) :
    ∃ S' va, e = .returned (.tuple #[.agg S', va]) ∧ S'.size = 6 ∧ RowV w A n c Ao m co most R S' va w' ∧ Below w9.heap.size w9 w' := by
  rcases R with ke | ⟨q5, row⟩
  · obtain ⟨⟨p, rfl⟩, hb⟩ := h
    exact ⟨_, _, rfl, rfl, ⟨⟨p, rfl⟩, rfl⟩, hb⟩
  · obtain ⟨Ar, nr, cr, rfl, ho, hb⟩ := h
    exact ⟨_, _, rfl, rfl, ⟨rfl, Ar, nr, cr, rfl, own_low ho hw⟩, hb⟩
theorem RowV.one {w w' : World} {A : Option Addr} {n c : Nat} {Ao : Option Addr} {m co most : Nat} {R : Except Nat (Nat × List Int)} {S' : Array Value} {va : Value} (h : RowV w A n c Ao m co most R S' va w') : S'.size = 6 ∧ S'.all (·.oneCell') = true := by
  rcases R with ke | ⟨q5, row⟩
  · obtain ⟨⟨p, rfl⟩, _⟩ := h
    exact ⟨rfl, st_oneA _ _ _ _ _ _ _ _ _⟩
  · obtain ⟨rfl, _⟩ := h
    exact ⟨rfl, st_oneA _ _ _ _ _ _ _ _ _⟩
theorem RowV.put {w w' w2 : World} {A : Option Addr} {n c : Nat} {Ao : Option Addr} {m co most : Nat} {R : Except Nat (Nat × List Int)} {S' S : Array Value} {va : Value} {g : Nat} (h : RowV w A n c Ao m co most R S' va w') (hb : Blk w' g 53 S) (hu : Upd (· = g) w' w2) : RowV w A n c Ao m co most R S' va w2 := by
  rcases R with ke | ⟨q5, row⟩
  · exact h
  · obtain ⟨h1, Ar, nr, cr, h2, h3⟩ := h
    exact ⟨h1, Ar, nr, cr, h2, own_upd h3 hu (fun k hk e => by subst e; exact own_blk_ne h3 hb (by decide) hk)⟩
theorem RowV.cut {w w' : World} {A : Option Addr} {n c : Nat} {Ao : Option Addr} {m co most : Nat} {R : Except Nat (Nat × List Int)} {S' : Array Value} {va : Value} (h : RowV w A n c Ao m co most R S' va w') (hF : FrS w w.heap.size (w.heap.size + 1) S' st0 w') : RowCut w A n c Ao m co most R va w' := by
  rcases R with ke | ⟨q5, row⟩
  · obtain ⟨⟨p, rfl⟩, h2⟩ := h
    exact ⟨⟨p, hF⟩, h2⟩
  · obtain ⟨rfl, Ar, nr, cr, h2, h3⟩ := h
    exact ⟨Ar, nr, cr, h2, hF, h3⟩
/-- The slots of the region that reads the row. -/
def putT (a : Act) (v : Nat → Value) : Act := ((((((((((((a.put (some 78) (v 0)).put (some 79) (v 1)).put (some 80) (v 2)).put (some 81) (v 3)).put (some 82) (v 4)).put (some 83) (v 5)).put (some 84) (v 6)).put (some 85) (v 7)).put (some 86) (v 8)).put (some 77) (v 9)).put (some 87) (v 10)).put (some 88) (v 11)).put (some 12) (v 13)
def expT (S : Array Value) (lv : Value) (y1 y2 : Int) (cs : List Value) (S' : Array Value) (va : Value) : Nat → Value
  | 0 => .agg S | 1 => lv | 2 => .agg cs.toArray | 3 => .int .i64 y1 | 4 => .int .i64 (y1 + 257) | 5 => .int .i64 y2 | 6 => .int .i64 (y1 + 257 + y2) | 7 => .int .i64 (y1 + 257 + y2 + 1)
  | 8 => .tuple #[.agg S', va] | 9 => .tuple #[.agg S', va] | 10 => .agg S' | 11 => va | 13 => va | _ => undef
/-- The world at each stage. -/
structure TabW (w wr : World) (A : Option Addr) (n c q : Nat) (Ao : Option Addr) (m co most : Nat) (lens : List Int) (R : Except Nat (Nat × List Int)) (D : Nat → Prop) (cs : List Value) (S' : Array Value) (va : Value) (w' : World) : Prop where
  at_ : ¬ D 2 → w' = wr.drew
  fr0 : ¬ D 12 → FrS w w.heap.size (w.heap.size + 1) (stA A n c q Ao m co most 0) st0 w'
  tb : D 2 → ¬ D 8 → TblV w' w'.heap.size lens cs
  ro : D 8 → RowV w A n c Ao m co most R S' va w'
  fr1 : D 12 → FrS w w.heap.size (w.heap.size + 1) S' st0 w'
theorem TabW.same {w wr : World} {A : Option Addr} {n c q : Nat} {Ao : Option Addr} {m co most : Nat} {lens : List Int} {R : Except Nat (Nat × List Int)} {D D' : Nat → Prop} {cs : List Value} {S' : Array Value} {va : Value} {w' : World} (h : TabW w wr A n c q Ao m co most lens R D cs S' va w') (h2 : D' 2 ↔ D 2) (h8 : D' 8 ↔ D 8) (h12 : D' 12 ↔ D 12) : TabW w wr A n c q Ao m co most lens R D' cs S' va w' :=
  ⟨fun k => h.at_ (fun d => k (h2.2 d)), fun k => h.fr0 (fun d => k (h12.2 d)), fun k k' => h.tb (h2.1 k) (fun d => k' (h8.2 d)), fun k => h.ro (h8.1 k), fun k => h.fr1 (h12.1 k)⟩
theorem expT_cs {S : Array Value} {lv : Value} {y1 y2 : Int} {cs cs' : List Value} {S' : Array Value} {va : Value} : ∀ j, j ≠ 2 → expT S lv y1 y2 cs S' va j = expT S lv y1 y2 cs' S' va j
  | 0, _ => rfl | 1, _ => rfl | 2, h => absurd rfl h | 3, _ => rfl | 4, _ => rfl | 5, _ => rfl | 6, _ => rfl | 7, _ => rfl | 8, _ => rfl | 9, _ => rfl | 10, _ => rfl | 11, _ => rfl | 12, _ => rfl | 13, _ => rfl | _ + 14, _ => rfl
theorem expT_sv {S : Array Value} {lv : Value} {y1 y2 : Int} {cs : List Value} {S' S'' : Array Value} {va va' : Value} : ∀ j, j ≠ 8 → j ≠ 9 → j ≠ 10 → j ≠ 11 → j ≠ 13 → expT S lv y1 y2 cs S' va j = expT S lv y1 y2 cs S'' va' j
  | 0, _, _, _, _, _ => rfl | 1, _, _, _, _, _ => rfl | 2, _, _, _, _, _ => rfl | 3, _, _, _, _, _ => rfl | 4, _, _, _, _, _ => rfl | 5, _, _, _, _, _ => rfl | 6, _, _, _, _, _ => rfl | 7, _, _, _, _, _ => rfl
  | 8, h, _, _, _, _ => absurd rfl h | 9, _, h, _, _, _ => absurd rfl h | 10, _, _, h, _, _ => absurd rfl h | 11, _, _, _, h, _ => absurd rfl h | 12, _, _, _, _, _ => rfl | 13, _, _, _, _, h => absurd rfl h | _ + 14, _, _, _, _, _ => rfl
/-- One value more. -/
theorem vals_next {D D' : Nat → Prop} {vals E : Nat → Value} (i : Nat) (hd : ∀ j, j ≠ i → (D' j ↔ D j)) (h : ∀ j, D j → vals j = E j) : ∀ j, D' j → (if j = i then E i else vals j) = E j := fun j hj => by
  by_cases e : j = i
  · subst e; rw [if_pos rfl]
  · rw [if_neg e]; exact h j ((hd j e).1 hj)
theorem FrS.stZu {w w1 : World} {g z : Nat} {S Z : Array Value} {ops : Array Oper} {rest : List Oper} {o : Oper} {a : Act} {Q : Exit → Act → World → Prop}
    (h : FrS w g z S Z w1) (hs : Z.size = 6) (hgd : o.guard = none) (x y : Operand) (ho : o.op = .store 53 x y) (hx : a.eval x = .pointer (some ⟨z, 0, none⟩)) {S' : Array Value} (hy : a.eval y = .agg S')
    (hs' : S'.size = 6) (h1 : S'.all (·.oneCell') = true) (k : ∀ w2, FrS w g z S S' w2 → Upd (· = z) w1 w2 → wpList Try.prog ops Q rest (a.put o.dst undef) w2) : wpList Try.prog ops Q (o :: rest) a w1 :=
  wpB_store hgd 53 x y ho z S' hx hy 53 Z h.res (by rw [hs']; exact st_info) (by rw [hs, hs']) h1 fun w2 hb hu =>
    k w2 ⟨h.box.upd hu (fun e => h.ne e), hb, h.ne, h.lo, h.lo2, h.bel.trans (hu.below h.bel.size (fun j hj e => by have := h.lo2; omega))⟩ hu
theorem Is.apart {w1 w2 : World} {B z gr k : Nat} {l : List Int} (h : Is w1 B (some ⟨gr, k, none⟩) l) (hu : Upd (· = z) w1 w2) (hB : B ≤ w1.heap.size) (hne : gr ≠ z) : Is w2 w2.heap.size (some ⟨gr, k, none⟩) l :=
  (Vs.upd h hu hB (fun ad e _ e2 => hne (by cases e; exact e2))).more (Nat.le_trans hB hu.size)
theorem goodRow {l : List Int} (h : ∀ x ∈ l, 0 ≤ x ∧ x ≤ 15) : l.any badLen = false := by
  rw [List.any_eq_false]
  intro x hx
  have := h x hx
  simp [badLen]
  omega
set_option maxHeartbeats 8000000 in
set_option maxRecDepth 100000 in
theorem dTables (w : World) (A : Option Addr) (c : Nat) (b : List UInt8) (p : Nat) (Ao : Option Addr) (m co most : Nat) (hbs : Bs w w.heap.size A b) (hbl : b.length ≤ 140737488355328) (hp1 : p ≤ 8 * b.length) :
    Calls Try.prog 26 #[.agg (stA A b.length c p Ao m co most 0)] w (DTab w A b.length c Ao m co most (toldM b p)) := by
  obtain ⟨i0, hi, hz0, hz1, hz2⟩ := info_parts info_int
  obtain ⟨X, HX⟩ : ∃ X, Hid (toldM b p = X) := ⟨_, Lib.hid rfl⟩
  rw [HX.out]
  have hx := HX.out
  unfold toldM at hx
  have HF0 := Lib.hid (FrS.start w (stA A b.length c p Ao m co most 0))
  have HBS := Lib.hid hbs
  clear hbs HX
  go_enter Try.func26, Try.ntmps26
  go_wp2_with (first
    | ((with_reducible refine at_ld 53 1 ?_); refine HF0.out.ld rfl rfl (.tmp 1) rfl rfl ?_))
  have HBS1 := Lib.hid ((HBS.out.below HF0.out.bel).more HF0.out.bel.size)
  have HT1 := Lib.hid (dTake ((w.alloc (.cells (stA A b.length c p Ao m co most 0) 53)).alloc (.cells st0 53)) A c b p Ao m co most HBS1.out hbl hp1 5 (by omega))
  rcases hx1 : takeM b p 5 with ke | ⟨y1, q1⟩
  · rw [hx1] at HT1 hx
    have hke := takeM_err hx1
    have HXE : Hid (X = .error ke) := Lib.hid hx.symm
    have d1 : ((ke : Int) == 0) = false := by rw [beq_eq_false_iff_ne]; omega
    have d2 : ((ke : Int) != 0) = true := by rw [bne_iff_ne]; omega
    clear hx1 hx hke
    refine HT1.out.mono ?_
    rintro e wc ⟨⟨pe, rfl⟩, hb⟩
    have HF1 := Lib.hid (HF0.out.call hb)
    clear hb HT1
    go_wp2_with (first
      | ((with_reducible refine at_st 53 1 18 ?_); refine HF1.out.st rfl rfl (.tmp 1) (.tmp 18) rfl rfl rfl rfl (st_oneA _ _ _ _ _ _ _ _ _) ?_; intro w2 hF2 _; have HF2 := Lib.hid hF2; have c5 := hF2.err; have c5f := hF2.box.frozen 5; clear hF2)
      | ((with_reducible refine at_ld 53 1 ?_); refine HF2.out.ld rfl rfl (.tmp 1) rfl rfl ?_)
      | ((with_reducible refine at_st 53 2 39 ?_); refine HF2.out.stZ rfl rfl (.tmp 2) (.tmp 39) rfl rfl rfl rfl (st_oneA _ _ _ _ _ _ _ _ _) ?_; intro w9 hF9; have HF9 := Lib.hid hF9; clear hF9))
    rw [HXE.out]
    exact bodyPost_ret (v := .tuple #[.agg _, .slice none 0 0, .slice none 0 0]) (results_cell2 rfl _ _ (w.heap.size + 1) 53 _ _ _ _ rfl rfl rfl HF9.out.res Try.underlying53 rfl st_info) rfl ⟨⟨_, _, _, rfl⟩, HF9.out.bel⟩
  · rw [hx1] at HT1 hx
    dsimp only at hx
    obtain ⟨hy1, hqe1, hq1⟩ := takeM_ok hx1
    clear hx1 hqe1
    refine HT1.out.mono ?_
    rintro e wc ⟨rfl, hb⟩
    have HF1 := Lib.hid (HF0.out.call hb)
    clear hb HT1 HBS1
    have hp2 := hq1
    go_wp2_with (first
      | ((with_reducible refine at_st 53 1 18 ?_); refine HF1.out.st rfl rfl (.tmp 1) (.tmp 18) rfl rfl rfl rfl (st_oneA _ _ _ _ _ _ _ _ _) ?_; intro w2 hF2 _; have HF2 := Lib.hid hF2; have c5 := hF2.err; have c5f := hF2.box.frozen 5; clear hF2)
      | ((with_reducible refine at_ld 53 1 ?_); refine HF2.out.ld rfl rfl (.tmp 1) rfl rfl ?_))
    have HBS2 := Lib.hid ((HBS.out.below HF2.out.bel).more HF2.out.bel.size)
    have HT2 := Lib.hid (dTake w2 A c b q1 Ao m co most HBS2.out hbl hp2 5 (by omega))
    rcases hx2 : takeM b q1 5 with ke | ⟨y2, q2⟩
    · rw [hx2] at HT2 hx
      have hke := takeM_err hx2
      have HXE : Hid (X = .error ke) := Lib.hid hx.symm
      have d1 : ((ke : Int) == 0) = false := by rw [beq_eq_false_iff_ne]; omega
      have d2 : ((ke : Int) != 0) = true := by rw [bne_iff_ne]; omega
      clear hx2 hx hke
      refine HT2.out.mono ?_
      rintro e wc ⟨⟨pe, rfl⟩, hb⟩
      have HF3 := Lib.hid (HF2.out.call hb)
      clear hb HT2
      go_wp2_with (first
        | ((with_reducible refine at_st 53 1 26 ?_); refine HF3.out.st rfl rfl (.tmp 1) (.tmp 26) rfl rfl rfl rfl (st_oneA _ _ _ _ _ _ _ _ _) ?_; intro w4 hF4 _; have HF4 := Lib.hid hF4; have c5 := hF4.err; have c5f := hF4.box.frozen 5; clear hF4)
        | ((with_reducible refine at_ld 53 1 ?_); refine HF4.out.ld rfl rfl (.tmp 1) rfl rfl ?_)
        | ((with_reducible refine at_st 53 2 39 ?_); refine HF4.out.stZ rfl rfl (.tmp 2) (.tmp 39) rfl rfl rfl rfl (st_oneA _ _ _ _ _ _ _ _ _) ?_; intro w9 hF9; have HF9 := Lib.hid hF9; clear hF9))
      rw [HXE.out]
      exact bodyPost_ret (v := .tuple #[.agg _, .slice none 0 0, .slice none 0 0]) (results_cell2 rfl _ _ (w.heap.size + 1) 53 _ _ _ _ rfl rfl rfl HF9.out.res Try.underlying53 rfl st_info) rfl ⟨⟨_, _, _, rfl⟩, HF9.out.bel⟩
    · rw [hx2] at HT2 hx
      dsimp only at hx
      obtain ⟨hy2, hqe2, hq2⟩ := takeM_ok hx2
      clear hx2 hqe2
      refine HT2.out.mono ?_
      rintro e wc ⟨rfl, hb⟩
      have HF3 := Lib.hid (HF2.out.call hb)
      clear hb HT2 HBS2
      have hp3 := hq2
      go_wp2_with (first
        | ((with_reducible refine at_st 53 1 26 ?_); refine HF3.out.st rfl rfl (.tmp 1) (.tmp 26) rfl rfl rfl rfl (st_oneA _ _ _ _ _ _ _ _ _) ?_; intro w4 hF4 _; have HF4 := Lib.hid hF4; have c5 := hF4.err; have c5f := hF4.box.frozen 5; clear hF4)
        | ((with_reducible refine at_ld 53 1 ?_); refine HF4.out.ld rfl rfl (.tmp 1) rfl rfl ?_))
      have HBS3 := Lib.hid ((HBS.out.below HF4.out.bel).more HF4.out.bel.size)
      have HT3 := Lib.hid (dTake w4 A c b q2 Ao m co most HBS3.out hbl hp3 4 (by omega))
      rcases hx3 : takeM b q2 4 with ke | ⟨y3, q3⟩
      · rw [hx3] at HT3 hx
        have hke := takeM_err hx3
        have HXE : Hid (X = .error ke) := Lib.hid hx.symm
        have d1 : ((ke : Int) == 0) = false := by rw [beq_eq_false_iff_ne]; omega
        have d2 : ((ke : Int) != 0) = true := by rw [bne_iff_ne]; omega
        clear hx3 hx hke
        refine HT3.out.mono ?_
        rintro e wc ⟨⟨pe, rfl⟩, hb⟩
        have HF5 := Lib.hid (HF4.out.call hb)
        clear hb HT3
        go_wp2_with (first
          | ((with_reducible refine at_st 53 1 34 ?_); refine HF5.out.st rfl rfl (.tmp 1) (.tmp 34) rfl rfl rfl rfl (st_oneA _ _ _ _ _ _ _ _ _) ?_; intro w6 hF6 _; have HF6 := Lib.hid hF6; have c5 := hF6.err; have c5f := hF6.box.frozen 5; clear hF6)
          | ((with_reducible refine at_ld 53 1 ?_); refine HF6.out.ld rfl rfl (.tmp 1) rfl rfl ?_)
          | ((with_reducible refine at_st 53 2 39 ?_); refine HF6.out.stZ rfl rfl (.tmp 2) (.tmp 39) rfl rfl rfl rfl (st_oneA _ _ _ _ _ _ _ _ _) ?_; intro w9 hF9; have HF9 := Lib.hid hF9; clear hF9))
        rw [HXE.out]
        exact bodyPost_ret (v := .tuple #[.agg _, .slice none 0 0, .slice none 0 0]) (results_cell2 rfl _ _ (w.heap.size + 1) 53 _ _ _ _ rfl rfl rfl HF9.out.res Try.underlying53 rfl st_info) rfl ⟨⟨_, _, _, rfl⟩, HF9.out.bel⟩
      · rw [hx3] at HT3 hx
        dsimp only at hx
        obtain ⟨hy3, hqe3, hq3⟩ := takeM_ok hx3
        clear hx3 hqe3
        refine HT3.out.mono ?_
        rintro e wc ⟨rfl, hb⟩
        have HF5 := Lib.hid (HF4.out.call hb)
        clear hb HT3 HBS3
        have hy1' : y1 < 32 := hy1
        have hy2' : y2 < 32 := hy2
        have hy3' : y3 < 16 := hy3
        clear hy1 hy2 hy3
        by_cases hbad : 29 < y1 ∨ 29 < y2
        · rw [if_pos hbad] at hx
          have HXE : Hid (X = .error 41) := Lib.hid hx.symm
          clear hx
          by_cases h1 : 29 < y1
          · have d1 : decide ((29 : Int) < (y1 : Int)) = true := by simp; omega
            clear hbad h1
            go_wp2_with (first
              | ((with_reducible refine at_st 53 1 34 ?_); refine HF5.out.st rfl rfl (.tmp 1) (.tmp 34) rfl rfl rfl rfl (st_oneA _ _ _ _ _ _ _ _ _) ?_; intro w6 hF6 _; have HF6 := Lib.hid hF6; have HF7 := Lib.hid (hF6.setE 41); have c5 := hF6.err; have c5f := hF6.box.frozen 5; clear hF6)
              | ((with_reducible refine at_ld 53 1 ?_); refine HF7.out.ld rfl rfl (.tmp 1) rfl rfl ?_)
              | ((with_reducible refine at_st 53 2 47 ?_); refine HF7.out.stZ rfl rfl (.tmp 2) (.tmp 47) rfl rfl rfl rfl (st_oneA _ _ _ _ _ _ _ _ _) ?_; intro w9 hF9; have HF9 := Lib.hid hF9; clear hF9))
            rw [HXE.out]
            exact bodyPost_ret (v := .tuple #[.agg _, .slice none 0 0, .slice none 0 0]) (results_cell2 rfl _ _ (w.heap.size + 1) 53 _ _ _ _ rfl rfl rfl HF9.out.res Try.underlying53 rfl st_info) rfl ⟨⟨_, _, _, rfl⟩, HF9.out.bel⟩
          · have d1 : decide ((29 : Int) < (y1 : Int)) = false := by simp; omega
            have d2 : decide ((29 : Int) < (y2 : Int)) = true := by simp; omega
            clear hbad h1
            go_wp2_with (first
              | ((with_reducible refine at_st 53 1 34 ?_); refine HF5.out.st rfl rfl (.tmp 1) (.tmp 34) rfl rfl rfl rfl (st_oneA _ _ _ _ _ _ _ _ _) ?_; intro w6 hF6 _; have HF6 := Lib.hid hF6; have HF7 := Lib.hid (hF6.setE 41); have c5 := hF6.err; have c5f := hF6.box.frozen 5; clear hF6)
              | ((with_reducible refine at_ld 53 1 ?_); refine HF7.out.ld rfl rfl (.tmp 1) rfl rfl ?_)
              | ((with_reducible refine at_st 53 2 47 ?_); refine HF7.out.stZ rfl rfl (.tmp 2) (.tmp 47) rfl rfl rfl rfl (st_oneA _ _ _ _ _ _ _ _ _) ?_; intro w9 hF9; have HF9 := Lib.hid hF9; clear hF9))
            rw [HXE.out]
            exact bodyPost_ret (v := .tuple #[.agg _, .slice none 0 0, .slice none 0 0]) (results_cell2 rfl _ _ (w.heap.size + 1) 53 _ _ _ _ rfl rfl rfl HF9.out.res Try.underlying53 rfl st_info) rfl ⟨⟨_, _, _, rfl⟩, HF9.out.bel⟩
        rw [if_neg hbad] at hx
        have d1 : decide ((29 : Int) < (y1 : Int)) = false := by simp; omega
        have d2 : decide ((29 : Int) < (y2 : Int)) = false := by simp; omega
        have HBad := Lib.hid hbad
        unfold lensM at hx
        obtain ⟨Y, HY⟩ : ∃ Y, Hid (lensF b (y3 + 4) 0 q3 (List.replicate 19 0) = Y) := ⟨_, Lib.hid rfl⟩
        rw [HY.out] at hx
        have HX := Lib.hid hx
        clear hx hbad
        go_wp2_with (first
          | ((with_reducible refine at_st 53 1 34 ?_); refine HF5.out.st rfl rfl (.tmp 1) (.tmp 34) rfl rfl rfl rfl (st_oneA _ _ _ _ _ _ _ _ _) ?_; intro w6 hF6 _; have HF6 := Lib.hid hF6; have c5 := hF6.err; clear hF6)
          | (at_make; refine wpList_make_full _ rfl (.const (.int .i64 19)) (.const (.int .i64 19)) 36 rfl w.heap.size 3 i0 (.int .i64 0) 1 Try.underlying36 hi hz0 hz1 .i64 .i64 19 19 19 rfl rfl rfl rfl (by rw [hz2]; decide) (by decide) (by have := HF6.out.bel.size; simp; omega) ?_; intro w7 hown7 hg7; rw [make_ints 19, World.size_alloc] at hown7; have HL7 := Lib.hid (lnF_start HF6.out rfl hown7 hg7); clear hown7 hg7))
        go_loopw [10] (fun i wr => ∃ (k q : Nat) (lens : List Int), k ≤ y3 + 4 ∧ q ≤ 8 * b.length ∧ i = .int .i64 (k : Int) ∧ Hid (LnF w w6.heap.size (w6.heap.size + 1) lens (stA A b.length c q Ao m co most 0) wr) ∧ Hid (lensF b (y3 + 4 - k) k q lens = Y)) (fun i _ => y3 + 4 - (intOf i).toNat)
        case atStart => exact ⟨0, q3, _, by omega, hq3, rfl, HL7, HY⟩
        case round =>
          obtain ⟨k, q, lens, hk, hq, rfl, HL, HYk⟩ := hrel
          have HFr := Lib.hid HL.out.fr
          have c5 := HFr.out.err
          have c5f := HFr.out.box.frozen 5
          by_cases hlt : k < y3 + 4
          · have d3 : decide ((k : Int) < (y3 : Int) + 4) = true := by simp; omega
            obtain ⟨r, hr⟩ : ∃ r, y3 + 4 - k = r + 1 := ⟨y3 + 4 - k - 1, by omega⟩
            have hyk := HYk.out
            rw [hr, lensF] at hyk
            have HRr := Lib.hid hr
            clear hr
            have HBSr := Lib.hid ((HBS.out.below HFr.out.bel).more HFr.out.bel.size)
            have HT := Lib.hid (dTake wr A c b q Ao m co most HBSr.out hbl hq 3 (by omega))
            have hol := order_lt k (by omega)
            obtain ⟨o, ho⟩ : ∃ o, orderL.getD k 0 = o := ⟨_, rfl⟩
            rw [ho] at hol hyk
            have HOo := Lib.hid ho
            clear ho
            have holI : (o : Int) < 19 := by omega
            have hkI : (k : Int) < 19 := by omega
            rcases hx3 : takeM b q 3 with ke | ⟨x, q4⟩
            · rw [hx3] at HT hyk
              have hke := takeM_err hx3
              have HXE : Hid (X = .error ke) := Lib.hid (by rw [← HX.out, ← hyk])
              have d4 : ((ke : Int) != 0) = true := by rw [bne_iff_ne]; omega
              clear hx3 hyk hke
              go_wp2_with (first
                | ((with_reducible refine at_ld 53 1 ?_); refine HFr.out.ld rfl rfl (.tmp 1) rfl rfl ?_))
              refine HT.out.mono ?_
              rintro e w5 ⟨⟨pe, rfl⟩, hb⟩
              have HL5 := Lib.hid (HL.out.call hb)
              have HFa := Lib.hid HL5.out.fr
              clear hb HT c5 c5f
              go_wp2_with (first
                | ((with_reducible refine at_st 53 1 59 ?_); refine HFa.out.st rfl rfl (.tmp 1) (.tmp 59) rfl rfl rfl rfl (st_oneA _ _ _ _ _ _ _ _ _) ?_; intro w8 hF8 hu8; have HL8 := Lib.hid (HL5.out.put hF8 hu8); have HF8 := Lib.hid hF8; have c5 := hF8.err; have c5f := hF8.box.frozen 5; clear hF8 hu8)
                | ((with_reducible refine at_ld 53 1 ?_); refine HF8.out.ld rfl rfl (.tmp 1) rfl rfl ?_)
                | ((with_reducible refine at_st 53 2 64 ?_); refine HF8.out.stZ rfl rfl (.tmp 2) (.tmp 64) rfl rfl rfl rfl (st_oneA _ _ _ _ _ _ _ _ _) ?_; intro w9 hF9; have HF9 := Lib.hid hF9; clear hF9))
              rw [HXE.out]
              exact bodyPost_ret (v := .tuple #[.agg _, .slice none 0 0, .slice none 0 0]) (results_cell2 rfl _ _ (w.heap.size + 1) 53 _ _ _ _ rfl rfl rfl HF9.out.res Try.underlying53 rfl st_info) rfl ⟨⟨_, _, _, rfl⟩, HF9.out.bel⟩
            · rw [hx3] at HT hyk
              obtain ⟨hx8, hqe, hq4⟩ := takeM_ok hx3
              have hx8' : x < 8 := hx8
              have HYN : Hid (lensF b (y3 + 4 - (k + 1)) (k + 1) q4 (lens.set o (x : Int)) = Y) := Lib.hid (by rw [show y3 + 4 - (k + 1) = r by have := HRr.out; omega]; exact hyk)
              clear hx3 hyk hx8 hqe
              go_wp2_with (first
                | ((with_reducible refine at_ld 53 1 ?_); refine HFr.out.ld rfl rfl (.tmp 1) rfl rfl ?_))
              refine HT.out.mono ?_
              rintro e w5 ⟨rfl, hb⟩
              have HL5 := Lib.hid (HL.out.call hb)
              have HFa := Lib.hid HL5.out.fr
              clear hb HT c5 c5f
              go_wp2_with (first
                | ((with_reducible refine at_st 53 1 59 ?_); refine HFa.out.st rfl rfl (.tmp 1) (.tmp 59) rfl rfl rfl rfl (st_oneA _ _ _ _ _ _ _ _ _) ?_; intro w8 hF8 hu8; have HL8 := Lib.hid (HL5.out.put hF8 hu8); have c5 := hF8.err; have c5f := hF8.box.frozen 5; have ho8 := HL8.out.ord.cell_ k (by omega); rw [HOo.out] at ho8; obtain ⟨v8, hc8⟩ := HL8.out.ln.cell o hol; have hz8 := HL8.out.ln.1.frozenAt o; have hlt8 := HL8.out.fr.bel.size; clear hF8 hu8))
              have HL9 := Lib.hid (HL8.out.lay o x hx8')
              go_roundw
              case rel => exact ⟨k + 1, q4, _, by omega, hq4, by go_num, HL9, HYN⟩
              case measure => simp [intOf]; omega
          · have d3 : decide ((k : Int) < (y3 : Int) + 4) = false := by simp; omega
            obtain rfl : k = y3 + 4 := by omega
            have hy := HYk.out
            rw [Nat.sub_self, lensF] at hy
            have hX := HX.out
            rw [← hy] at hX
            dsimp only at hX
            have hlen : lens.length = 19 := HL.out.ln.2.1
            have hgood : lens.any badLen = false := HL.out.ln.2.2
            have HM := Lib.hid (dMay (some ⟨w6.heap.size + 1, 0, none⟩) 19 19 lens false wr wr.heap.size hlen (Vs.of_own HL.out.ln.1) (by omega) hgood)
            have HLE := Lib.hid hlen
            have HGD := Lib.hid hgood
            clear hy HYk hlen hgood
            rcases hm : mayM lens false with _ | _
            · rw [hm] at hX HM
              have HXE : Hid (X = .error 41) := Lib.hid hX.symm
              have HF7 := Lib.hid (HFr.out.setE 41)
              clear hX hm
              go_wp2_with fail
              refine HM.out.mono ?_
              rintro e w8 ⟨rfl, rfl⟩
              go_wp2_with (first
                | ((with_reducible refine at_ld 53 1 ?_); refine HF7.out.ld rfl rfl (.tmp 1) rfl rfl ?_)
                | ((with_reducible refine at_st 53 2 76 ?_); refine HF7.out.stZ rfl rfl (.tmp 2) (.tmp 76) rfl rfl rfl rfl (st_oneA _ _ _ _ _ _ _ _ _) ?_; intro w9 hF9; have HF9 := Lib.hid hF9; clear hF9))
              rw [HXE.out]
              exact bodyPost_ret (v := .tuple #[.agg _, .slice none 0 0, .slice none 0 0]) (results_cell2 rfl _ _ (w.heap.size + 1) 53 _ _ _ _ rfl rfl rfl HF9.out.res Try.underlying53 rfl st_info) rfl ⟨⟨_, _, _, rfl⟩, HF9.out.bel⟩
            · rw [hm] at hX HM
              rw [if_pos rfl] at hX
              dsimp only at hX
              have HX2 := Lib.hid hX
              have hro := mayM_room HGD.out hm
              have HFd := Lib.hid (show FrS w w.heap.size (w.heap.size + 1) (stA A b.length c q Ao m co most 0) st0 wr.drew from ⟨HFr.out.box, HFr.out.res, HFr.out.ne, HFr.out.lo, HFr.out.lo2, below_drewN HFr.out.bel 1⟩)
              have HTb := Lib.hid (tabled_n (some ⟨w6.heap.size + 1, 0, none⟩) 19 19 lens wr.drew HLE.out (show Is wr.drew wr.drew.heap.size (some ⟨w6.heap.size + 1, 0, none⟩) lens from Vs.of_own HL.out.ln.1) (by omega) HGD.out hro)
              have HRO := Lib.hid hro
              have hlen19 : lens.length = 19 := HLE.out
              have HRW : Hid (∀ (cs : List Value) (w9 : World), TblV w9 w9.heap.size lens cs → FrS w w.heap.size (w.heap.size + 1) (stA A b.length c q Ao m co most 0) st0 w9 → Calls Try.prog 45 #[.agg (stA A b.length c q Ao m co most 0), .agg cs.toArray, .int .i64 ((y1 : Int) + 257 + (y2 : Int) + 1)] w9 (DRow w9 A b.length c Ao m co most (rowM b lens (y1 + 257 + (y2 + 1)) q []))) := Lib.hid (fun cs w9 hT9 hF9 => by
                have h := dRow w9 A c b q Ao m co most lens cs hT9 HLE.out HRO.out ((HBS.out.below hF9.bel).more hF9.bel.size) hbl hq (y1 + 257 + (y2 + 1)) (by omega)
                rw [show (((y1 + 257 + (y2 + 1) : Nat)) : Int) = (y1 : Int) + 257 + (y2 : Int) + 1 by omega] at h
                exact h)
              obtain ⟨R, HR⟩ : ∃ R, Hid (rowM b lens (y1 + 257 + (y2 + 1)) q [] = R) := ⟨_, Lib.hid rfl⟩
              rw [HR.out] at HRW HX2
              clear hX hm hro c5 c5f d1 d2 d3
              go_wp2_with fail
              refine HM.out.mono ?_
              rintro e w8 ⟨rfl, rfl⟩
              go_upto_region 26 with (fail)
              go_cut [12] (fun v wx => RowCut w A b.length c Ao m co most R v wx)
              case first =>
                clear hlen19
                refine wp_region_stages (fun a0 D a w' => ∃ vals cs S' va, a = putT a0 vals ∧ (∀ j, Did D j → vals j = expT (stA A b.length c q Ao m co most 0) (.slice (some ⟨w6.heap.size + 1, 0, none⟩) 19 19) (y1 : Int) (y2 : Int) cs S' va j) ∧ TabW w wr A b.length c q Ao m co most lens R (Did D) cs S' va w') (by kernel_rfl) (by kernel_rfl) ?start ?done ?step
                case start =>
                  have h0 : ∀ j, ¬ Did (Array.replicate 14 false) j := fun j h => by unfold Did at h; rw [getD_replicate_false] at h; cases h
                  exact ⟨fun j => if j = 13 then .slice none 0 0 else undef, [], #[], undef, by unfold putT; simp only [Act.put, List.setIfInBounds_toArray, List.set_cons_succ, List.set_cons_zero]; rfl, fun j h => absurd h (h0 j), ⟨fun _ => rfl, fun _ => HFd.out, fun h => absurd h (h0 _), fun h => absurd h (h0 _), fun h => absurd h (h0 _)⟩⟩
                case done =>
                  rintro D a' w' hD ⟨vals, cs, S', va, rfl, hv, hw⟩
                  have hDi : ∀ i, i < 14 → Did D i := fun i hi => hD i (by simpa using hi)
                  have e13 := hv 13 (hDi 13 (by omega))
                  dsimp only [expT] at e13
                  have HC := Lib.hid ((hw.ro (hDi 8 (by omega))).cut (hw.fr1 (hDi 12 (by omega))))
                  clear hw hv hD hDi
                  unfold putT
                  simp only [Act.put, List.setIfInBounds_toArray, List.set_cons_succ, List.set_cons_zero]
                  simp only [e13]
                  go_wp2_with fail
                  go_meet
                  exact HC.out
                case step =>
                  intro i o hi D a' w' hs hni hall hcl hJ K hK
                  have hi14 : i < 14 := by simpa using (Array.getElem?_eq_some_iff.1 hi).1
                  have hs14 : i < D.size := by have e : D.size = 14 := (by simpa using hs); omega
                  obtain ⟨vals, cs, S', va, rfl, hv, hw⟩ := hJ
                  have HD := Lib.hid (fun j (hj : j ≠ i) => (did_set hj : Did (D.setIfInBounds i true) j ↔ Did D j))
                  have HN : Hid (Did (D.setIfInBounds i true) i) := Lib.hid (did_new hs14)
                  have HK := Lib.hid hK
                  have HNI := Lib.hid hni
                  have HV := Lib.hid hv
                  have HW := Lib.hid hw
                  have D128 : Hid (Did D 12 → Did D 8) := Lib.hid (fun h => hcl 9 _ rfl (hcl 10 _ rfl (hcl 12 _ rfl h ⟨10, .data⟩ (by simp) rfl) ⟨9, .data⟩ (by simp) rfl) ⟨8, .data⟩ (by simp) rfl)
                  clear hK hs hni hv hw hs14
                  rcases i with _ | _ | _ | _ | _ | _ | _ | _ | _ | _ | _ | _ | _ | _ | i
                  · injection hi with hi
                    subst hi
                    clear hall
                    have HF0 := Lib.hid (HW.out.fr0 (fun h => HNI.out (hcl 8 _ rfl (D128.out h) ⟨0, .data⟩ (by simp) rfl)))
                    clear hcl
                    unfold putT
                    simp only [Act.put, List.setIfInBounds_toArray, List.set_cons_succ, List.set_cons_zero]
                    refine HF0.out.ld rfl rfl (.tmp 1) rfl rfl ?_
                    refine HK.out _ _ ?_
                    exact ⟨fun j => if j = 0 then expT (stA A b.length c q Ao m co most 0) (.slice (some ⟨w6.heap.size + 1, 0, none⟩) 19 19) (y1 : Int) (y2 : Int) cs S' va 0 else vals j, cs, S', va, by unfold putT; simp only [Act.put, List.setIfInBounds_toArray, List.set_cons_succ, List.set_cons_zero]; rfl, vals_next 0 HD.out HV.out, HW.out.same (HD.out 2 (by omega)) (HD.out 8 (by omega)) (HD.out 12 (by omega))⟩
                  · injection hi with hi
                    subst hi
                    clear hall
                    clear hcl
                    unfold putT
                    simp only [Act.put, List.setIfInBounds_toArray, List.set_cons_succ, List.set_cons_zero]
                    go_wp2_with fail
                    refine HK.out _ _ ?_
                    exact ⟨fun j => if j = 1 then expT (stA A b.length c q Ao m co most 0) (.slice (some ⟨w6.heap.size + 1, 0, none⟩) 19 19) (y1 : Int) (y2 : Int) cs S' va 1 else vals j, cs, S', va, by unfold putT; simp only [Act.put, List.setIfInBounds_toArray, List.set_cons_succ, List.set_cons_zero]; rfl, vals_next 1 HD.out HV.out, HW.out.same (HD.out 2 (by omega)) (HD.out 8 (by omega)) (HD.out 12 (by omega))⟩
                  · injection hi with hi
                    subst hi
                    have g1 : Did D 1 := hall ⟨1, .data⟩ (by simp) rfl
                    have e1 := HV.out 1 g1
                    clear hall
                    have HF0 := Lib.hid (HW.out.fr0 (fun h => HNI.out (hcl 8 _ rfl (D128.out h) ⟨2, .data⟩ (by simp) rfl)))
                    have H82 : Hid (¬ Did D 8) := Lib.hid (fun h => HNI.out (hcl 8 _ rfl h ⟨2, .data⟩ (by simp) rfl))
                    obtain rfl := HW.out.at_ HNI.out
                    clear hcl
                    clear g1
                    dsimp only [expT] at e1
                    unfold putT
                    simp only [Act.put, List.setIfInBounds_toArray, List.set_cons_succ, List.set_cons_zero]
                    simp only [e1]
                    go_wp2_with fail
                    refine HTb.out.mono ?_
                    intro e w9 h9
                    obtain ⟨cs9, rfl, hT9, hb9⟩ := tblV_of h9
                    have HT9 := Lib.hid hT9
                    have HF9 := Lib.hid (HF0.out.call hb9)
                    clear h9 hT9 hb9
                    go_wp2_with fail
                    refine HK.out _ _ ?_
                    exact ⟨fun j => if j = 2 then expT (stA A b.length c q Ao m co most 0) (.slice (some ⟨w6.heap.size + 1, 0, none⟩) 19 19) (y1 : Int) (y2 : Int) cs9 S' va 2 else vals j, cs9, S', va, by unfold putT; simp only [Act.put, List.setIfInBounds_toArray, List.set_cons_succ, List.set_cons_zero]; simp only [e1]; rfl, vals_next 2 HD.out (fun j hj => (HV.out j hj).trans (expT_cs j (fun e => by subst e; exact HNI.out hj))), ⟨fun k => absurd HN.out k, fun _ => HF9.out, fun _ _ => HT9.out, fun k => absurd ((HD.out 8 (by omega)).1 k) H82.out, fun k => absurd (D128.out ((HD.out 12 (by omega)).1 k)) H82.out⟩⟩
                  · injection hi with hi
                    subst hi
                    clear hall
                    clear hcl
                    unfold putT
                    simp only [Act.put, List.setIfInBounds_toArray, List.set_cons_succ, List.set_cons_zero]
                    go_wp2_with fail
                    refine HK.out _ _ ?_
                    exact ⟨fun j => if j = 3 then expT (stA A b.length c q Ao m co most 0) (.slice (some ⟨w6.heap.size + 1, 0, none⟩) 19 19) (y1 : Int) (y2 : Int) cs S' va 3 else vals j, cs, S', va, by unfold putT; simp only [Act.put, List.setIfInBounds_toArray, List.set_cons_succ, List.set_cons_zero]; rfl, vals_next 3 HD.out HV.out, HW.out.same (HD.out 2 (by omega)) (HD.out 8 (by omega)) (HD.out 12 (by omega))⟩
                  · injection hi with hi
                    subst hi
                    have g3 : Did D 3 := hall ⟨3, .data⟩ (by simp) rfl
                    have e3 := HV.out 3 g3
                    clear hall
                    clear hcl
                    clear g3
                    dsimp only [expT] at e3
                    unfold putT
                    simp only [Act.put, List.setIfInBounds_toArray, List.set_cons_succ, List.set_cons_zero]
                    simp only [e3]
                    go_wp2_with fail
                    refine HK.out _ _ ?_
                    exact ⟨fun j => if j = 4 then expT (stA A b.length c q Ao m co most 0) (.slice (some ⟨w6.heap.size + 1, 0, none⟩) 19 19) (y1 : Int) (y2 : Int) cs S' va 4 else vals j, cs, S', va, by unfold putT; simp only [Act.put, List.setIfInBounds_toArray, List.set_cons_succ, List.set_cons_zero]; simp only [e3]; rfl, vals_next 4 HD.out HV.out, HW.out.same (HD.out 2 (by omega)) (HD.out 8 (by omega)) (HD.out 12 (by omega))⟩
                  · injection hi with hi
                    subst hi
                    clear hall
                    clear hcl
                    unfold putT
                    simp only [Act.put, List.setIfInBounds_toArray, List.set_cons_succ, List.set_cons_zero]
                    go_wp2_with fail
                    refine HK.out _ _ ?_
                    exact ⟨fun j => if j = 5 then expT (stA A b.length c q Ao m co most 0) (.slice (some ⟨w6.heap.size + 1, 0, none⟩) 19 19) (y1 : Int) (y2 : Int) cs S' va 5 else vals j, cs, S', va, by unfold putT; simp only [Act.put, List.setIfInBounds_toArray, List.set_cons_succ, List.set_cons_zero]; rfl, vals_next 5 HD.out HV.out, HW.out.same (HD.out 2 (by omega)) (HD.out 8 (by omega)) (HD.out 12 (by omega))⟩
                  · injection hi with hi
                    subst hi
                    have g4 : Did D 4 := hall ⟨4, .data⟩ (by simp) rfl
                    have g5 : Did D 5 := hall ⟨5, .data⟩ (by simp) rfl
                    have e4 := HV.out 4 g4
                    have e5 := HV.out 5 g5
                    clear hall
                    clear hcl
                    clear g4 g5
                    dsimp only [expT] at e4 e5
                    unfold putT
                    simp only [Act.put, List.setIfInBounds_toArray, List.set_cons_succ, List.set_cons_zero]
                    simp only [e4, e5]
                    go_wp2_with fail
                    refine HK.out _ _ ?_
                    exact ⟨fun j => if j = 6 then expT (stA A b.length c q Ao m co most 0) (.slice (some ⟨w6.heap.size + 1, 0, none⟩) 19 19) (y1 : Int) (y2 : Int) cs S' va 6 else vals j, cs, S', va, by unfold putT; simp only [Act.put, List.setIfInBounds_toArray, List.set_cons_succ, List.set_cons_zero]; simp only [e4, e5]; rfl, vals_next 6 HD.out HV.out, HW.out.same (HD.out 2 (by omega)) (HD.out 8 (by omega)) (HD.out 12 (by omega))⟩
                  · injection hi with hi
                    subst hi
                    have g6 : Did D 6 := hall ⟨6, .data⟩ (by simp) rfl
                    have e6 := HV.out 6 g6
                    clear hall
                    clear hcl
                    clear g6
                    dsimp only [expT] at e6
                    unfold putT
                    simp only [Act.put, List.setIfInBounds_toArray, List.set_cons_succ, List.set_cons_zero]
                    simp only [e6]
                    go_wp2_with fail
                    refine HK.out _ _ ?_
                    exact ⟨fun j => if j = 7 then expT (stA A b.length c q Ao m co most 0) (.slice (some ⟨w6.heap.size + 1, 0, none⟩) 19 19) (y1 : Int) (y2 : Int) cs S' va 7 else vals j, cs, S', va, by unfold putT; simp only [Act.put, List.setIfInBounds_toArray, List.set_cons_succ, List.set_cons_zero]; simp only [e6]; rfl, vals_next 7 HD.out HV.out, HW.out.same (HD.out 2 (by omega)) (HD.out 8 (by omega)) (HD.out 12 (by omega))⟩
                  · injection hi with hi
                    subst hi
                    have g0 : Did D 0 := hall ⟨0, .data⟩ (by simp) rfl
                    have g2 : Did D 2 := hall ⟨2, .data⟩ (by simp) rfl
                    have g7 : Did D 7 := hall ⟨7, .data⟩ (by simp) rfl
                    have e0 := HV.out 0 g0
                    have e2 := HV.out 2 g2
                    have e7 := HV.out 7 g7
                    clear hall
                    have HF0 := Lib.hid (HW.out.fr0 (fun h => HNI.out (D128.out h)))
                    have HT0 := Lib.hid (HW.out.tb g2 HNI.out)
                    have G2 := Lib.hid g2
                    have H9 : Hid (¬ Did D 9) := Lib.hid (fun h => HNI.out (hcl 9 _ rfl h ⟨8, .data⟩ (by simp) rfl))
                    have H10 : Hid (¬ Did D 10) := Lib.hid (fun h => H9.out (hcl 10 _ rfl h ⟨9, .data⟩ (by simp) rfl))
                    have H11 : Hid (¬ Did D 11) := Lib.hid (fun h => H9.out (hcl 11 _ rfl h ⟨9, .data⟩ (by simp) rfl))
                    have H13 : Hid (¬ Did D 13) := Lib.hid (fun h => H11.out (hcl 13 _ rfl h ⟨11, .data⟩ (by simp) rfl))
                    clear hcl
                    clear g0 g2 g7
                    dsimp only [expT] at e0 e2 e7
                    unfold putT
                    simp only [Act.put, List.setIfInBounds_toArray, List.set_cons_succ, List.set_cons_zero]
                    simp only [e0, e2, e7]
                    go_wp2_with fail
                    refine (HRW.out cs w' HT0.out HF0.out).mono ?_
                    intro e w10 h10
                    obtain ⟨S9, va9, rfl, _, hv9, hb10⟩ := RowV.of h10 HF0.out.bel.size
                    have HV9 := Lib.hid hv9
                    have HF10 := Lib.hid (HF0.out.call hb10)
                    clear h10 hv9 hb10
                    go_wp2_with fail
                    refine HK.out _ _ ?_
                    exact ⟨fun j => if j = 8 then expT (stA A b.length c q Ao m co most 0) (.slice (some ⟨w6.heap.size + 1, 0, none⟩) 19 19) (y1 : Int) (y2 : Int) cs S9 va9 8 else vals j, cs, S9, va9, by unfold putT; simp only [Act.put, List.setIfInBounds_toArray, List.set_cons_succ, List.set_cons_zero]; simp only [e0, e2, e7]; rfl, vals_next 8 HD.out (fun j hj => (HV.out j hj).trans (expT_sv j (fun e => by subst e; exact HNI.out hj) (fun e => by subst e; exact H9.out hj) (fun e => by subst e; exact H10.out hj) (fun e => by subst e; exact H11.out hj) (fun e => by subst e; exact H13.out hj))), ⟨fun k => absurd ((HD.out 2 (by omega)).2 G2.out) k, fun _ => HF10.out, fun _ k => absurd HN.out k, fun _ => HV9.out, fun k => absurd (D128.out ((HD.out 12 (by omega)).1 k)) HNI.out⟩⟩
                  · injection hi with hi
                    subst hi
                    have g8 : Did D 8 := hall ⟨8, .data⟩ (by simp) rfl
                    have e8 := HV.out 8 g8
                    clear hall
                    clear hcl
                    clear g8
                    dsimp only [expT] at e8
                    unfold putT
                    simp only [Act.put, List.setIfInBounds_toArray, List.set_cons_succ, List.set_cons_zero]
                    simp only [e8]
                    go_wp2_with fail
                    refine HK.out _ _ ?_
                    exact ⟨fun j => if j = 9 then expT (stA A b.length c q Ao m co most 0) (.slice (some ⟨w6.heap.size + 1, 0, none⟩) 19 19) (y1 : Int) (y2 : Int) cs S' va 9 else vals j, cs, S', va, by unfold putT; simp only [Act.put, List.setIfInBounds_toArray, List.set_cons_succ, List.set_cons_zero]; simp only [e8]; rfl, vals_next 9 HD.out HV.out, HW.out.same (HD.out 2 (by omega)) (HD.out 8 (by omega)) (HD.out 12 (by omega))⟩
                  · injection hi with hi
                    subst hi
                    have g9 : Did D 9 := hall ⟨9, .data⟩ (by simp) rfl
                    have e9 := HV.out 9 g9
                    clear hall
                    clear hcl
                    clear g9
                    dsimp only [expT] at e9
                    unfold putT
                    simp only [Act.put, List.setIfInBounds_toArray, List.set_cons_succ, List.set_cons_zero]
                    simp only [e9]
                    go_wp2_with fail
                    refine HK.out _ _ ?_
                    exact ⟨fun j => if j = 10 then expT (stA A b.length c q Ao m co most 0) (.slice (some ⟨w6.heap.size + 1, 0, none⟩) 19 19) (y1 : Int) (y2 : Int) cs S' va 10 else vals j, cs, S', va, by unfold putT; simp only [Act.put, List.setIfInBounds_toArray, List.set_cons_succ, List.set_cons_zero]; simp only [e9]; rfl, vals_next 10 HD.out HV.out, HW.out.same (HD.out 2 (by omega)) (HD.out 8 (by omega)) (HD.out 12 (by omega))⟩
                  · injection hi with hi
                    subst hi
                    have g9 : Did D 9 := hall ⟨9, .data⟩ (by simp) rfl
                    have e9 := HV.out 9 g9
                    clear hall
                    clear hcl
                    clear g9
                    dsimp only [expT] at e9
                    unfold putT
                    simp only [Act.put, List.setIfInBounds_toArray, List.set_cons_succ, List.set_cons_zero]
                    simp only [e9]
                    go_wp2_with fail
                    refine HK.out _ _ ?_
                    exact ⟨fun j => if j = 11 then expT (stA A b.length c q Ao m co most 0) (.slice (some ⟨w6.heap.size + 1, 0, none⟩) 19 19) (y1 : Int) (y2 : Int) cs S' va 11 else vals j, cs, S', va, by unfold putT; simp only [Act.put, List.setIfInBounds_toArray, List.set_cons_succ, List.set_cons_zero]; simp only [e9]; rfl, vals_next 11 HD.out HV.out, HW.out.same (HD.out 2 (by omega)) (HD.out 8 (by omega)) (HD.out 12 (by omega))⟩
                  · injection hi with hi
                    subst hi
                    have g10 : Did D 10 := hall ⟨10, .data⟩ (by simp) rfl
                    have e10 := HV.out 10 g10
                    clear hall
                    have HF0 := Lib.hid (HW.out.fr0 HNI.out)
                    have g8 := hcl 9 _ rfl (hcl 10 _ rfl g10 ⟨9, .data⟩ (by simp) rfl) ⟨8, .data⟩ (by simp) rfl
                    have HRV := Lib.hid (HW.out.ro g8)
                    have G8 := Lib.hid g8
                    have G2 := Lib.hid (hcl 8 _ rfl g8 ⟨2, .data⟩ (by simp) rfl)
                    clear hcl
                    clear g10 g8
                    dsimp only [expT] at e10
                    unfold putT
                    simp only [Act.put, List.setIfInBounds_toArray, List.set_cons_succ, List.set_cons_zero]
                    simp only [e10]
                    refine HF0.out.st rfl rfl (.tmp 1) (.tmp 87) rfl rfl rfl HRV.out.one.1 HRV.out.one.2 ?_
                    intro w2 hF2 hu2
                    have HF2 := Lib.hid hF2
                    have HV2 := Lib.hid (HRV.out.put HF0.out.box hu2)
                    clear hF2 hu2
                    refine HK.out _ _ ?_
                    exact ⟨fun j => if j = 12 then expT (stA A b.length c q Ao m co most 0) (.slice (some ⟨w6.heap.size + 1, 0, none⟩) 19 19) (y1 : Int) (y2 : Int) cs S' va 12 else vals j, cs, S', va, by unfold putT; simp only [Act.put, List.setIfInBounds_toArray, List.set_cons_succ, List.set_cons_zero]; simp only [e10]; rfl, vals_next 12 HD.out HV.out, ⟨fun k => absurd ((HD.out 2 (by omega)).2 G2.out) k, fun k => absurd HN.out k, fun _ k => absurd ((HD.out 8 (by omega)).2 G8.out) k, fun _ => HV2.out, fun _ => HF2.out⟩⟩
                  · injection hi with hi
                    subst hi
                    have g11 : Did D 11 := hall ⟨11, .data⟩ (by simp) rfl
                    have e11 := HV.out 11 g11
                    clear hall
                    clear hcl
                    clear g11
                    dsimp only [expT] at e11
                    unfold putT
                    simp only [Act.put, List.setIfInBounds_toArray, List.set_cons_succ, List.set_cons_zero]
                    simp only [e11]
                    go_wp2_with fail
                    refine HK.out _ _ ?_
                    exact ⟨fun j => if j = 13 then expT (stA A b.length c q Ao m co most 0) (.slice (some ⟨w6.heap.size + 1, 0, none⟩) 19 19) (y1 : Int) (y2 : Int) cs S' va 13 else vals j, cs, S', va, by unfold putT; simp only [Act.put, List.setIfInBounds_toArray, List.set_cons_succ, List.set_cons_zero]; simp only [e11]; rfl, vals_next 13 HD.out HV.out, HW.out.same (HD.out 2 (by omega)) (HD.out 8 (by omega)) (HD.out 12 (by omega))⟩
                  · omega
              case rest =>
                clear HTb HRW HFd HRO HM HLE HGD HL HFr
                rcases R with ke | ⟨q5, row⟩
                · obtain ⟨⟨pe, hF⟩, rfl⟩ := hcut
                  have hx := HX2.out
                  dsimp only at hx
                  have HXE : Hid (X = .error ke) := Lib.hid hx.symm
                  have hke : ke ≠ 0 := rowF_err _ _ _ (Nat.le_refl _) hq HR.out
                  have HF10 := Lib.hid hF
                  have c5 := hF.err
                  have d2 : ((ke : Int) != 0) = true := by rw [bne_iff_ne]; omega
                  clear hF hx HX2 hke
                  go_wp2_with (first
                    | ((with_reducible refine at_ld 53 1 ?_); refine HF10.out.ld rfl rfl (.tmp 1) rfl rfl ?_)
                    | ((with_reducible refine at_st 53 2 92 ?_); refine HF10.out.stZ rfl rfl (.tmp 2) (.tmp 92) rfl rfl rfl rfl (st_oneA _ _ _ _ _ _ _ _ _) ?_; intro w9 hF9; have HF9 := Lib.hid hF9; clear hF9))
                  rw [HXE.out]
                  exact bodyPost_ret (v := .tuple #[.agg _, .slice none 0 0, .slice none 0 0]) (results_cell2 rfl _ _ (w.heap.size + 1) 53 _ _ _ _ rfl rfl rfl HF9.out.res Try.underlying53 rfl st_info) rfl ⟨⟨_, _, _, rfl⟩, HF9.out.bel⟩
                · obtain ⟨Ar, nr, cr, rfl, hF, ho⟩ := hcut
                  have hx := HX2.out
                  dsimp only at hx
                  obtain ⟨g1, g2, _, _⟩ := rowF_ok hlen19 _ _ _ _ _ HR.out (by simp) (by simp) hq
                  have hnr : nr = y1 + 257 + (y2 + 1) := by have := own_len ho; rw [intsV_length] at this; omega
                  obtain ⟨gr, rfl, hcn, _, _⟩ := row_form ho (by omega)
                  have h256 := row_at ho 256 (by omega)
                  have hL1 : (row.take (y1 + 257)).length = y1 + 257 := by rw [List.length_take]; omega
                  have hL2 : (row.drop (y1 + 257)).length = y2 + 1 := by rw [List.length_drop]; omega
                  have hV := Vs.of_own ho
                  have hB1 : (row.take (y1 + 257)).any badLen = false := goodRow (fun x hx => g2 x (List.mem_of_mem_take hx))
                  have hB2 : (row.drop (y1 + 257)).any badLen = false := goodRow (fun x hx => g2 x (List.mem_of_mem_drop hx))
                  have hI1 : Is wc wc.heap.size (some ⟨gr, 0, none⟩) (row.take (y1 + 257)) := by
                    have := Vs.take hV (y1 + 257)
                    unfold Is intsV at *
                    rwa [← List.map_take] at this
                  have hI2 : Is wc wc.heap.size (some ⟨gr, y1 + 257, none⟩) (row.drop (y1 + 257)) := by
                    have := Vs.drop (k := y1 + 257) (cap := cr) hV (by rw [intsV_length]; omega) (by rw [intsV_length]; omega)
                    rw [if_neg (by omega)] at this
                    unfold Is intsV at *
                    rw [← List.map_drop] at this
                    simpa [Addr.add] using this
                  have HGL : Hid (w.heap.size ≤ gr) := Lib.hid (ho.lt gr rfl).1
                  have HGZ : Hid (gr ≠ w.heap.size + 1) := Lib.hid (fun e => own_blk_ne ho hF.res (by decide) (by rw [e]; rfl))
                  have HF10 := Lib.hid hF
                  have HI1 := Lib.hid hI1; have HI2 := Lib.hid hI2
                  have HL1 := Lib.hid hL1; have HL2 := Lib.hid hL2
                  have HB1 := Lib.hid hB1; have HB2 := Lib.hid hB2
                  have HXX := Lib.hid hx
                  have HN := Lib.hid hnr
                  have hgd : row.getD 256 0 = row[256]'(by omega) := by rw [List.getD_eq_getElem?_getD, List.getElem?_eq_getElem (by omega)]; rfl
                  have c5 := hF.err
                  have hM1 := Lib.hid (fun (wz : World) (hb : Below wc.heap.size wc wz) => dMay (some ⟨gr, 0, none⟩) cr (y1 + 257) _ false wz wc.heap.size hL1 (Vs.below hI1 hb) (by omega) hB1)
                  have hM2 := Lib.hid (fun (wz : World) (hb : Below wc.heap.size wc wz) => dMay (some ⟨gr, y1 + 257, none⟩) (cr - (y1 + 257)) (y2 + 1) _ true wz wc.heap.size hL2 (Vs.below hI2 hb) (by omega) hB2)
                  rw [hgd] at HXX
                  generalize row[256]'(by omega) = r256 at h256 HXX
                  have t1 : IntKind.i64.wrap ((y1 : Int) + 257) = ((y1 + 257 : Nat) : Int) := by rw [IntWalk.i64_in _ (by omega)]; omega
                  have t2 : ((y1 + 257 : Nat) : Int) ≤ (cr : Int) := by omega
                  have t3 : ((y1 + 257 : Nat) : Int) ≤ (nr : Int) := by omega
                  have t4 : (256 : Int) < ((y1 + 257 : Nat) : Int) := by omega
                  have t5 : ¬ cr = y1 + 257 := by omega
                  have t6 : nr - (y1 + 257) = y2 + 1 := by omega
                  have t7 : (nr : Int) ≤ (cr : Int) := by omega
                  clear hF hx HX2 ho g1 g2 hV hI1 hI2 hL1 hL2 hB1 hB2 hgd hnr
                  go_wp2_with (first
                    | ((with_reducible refine at_ld 53 1 ?_); refine HF10.out.ld rfl rfl (.tmp 1) rfl rfl ?_))
                  go_quiet (fail)
                  obtain ⟨w11, hw11⟩ : ∃ w11, wc.drewN nq = w11 := ⟨_, rfl⟩
                  have hb11 := below_drewN (Below.refl wc.heap.size wc) nq
                  have h256' : w11.cell? ⟨gr, 256, none⟩ = some (.int .i64 r256) := by rw [← hw11]; exact h256
                  rw [hw11] at hb11 ⊢
                  have HF11 := Lib.hid (HF10.out.call hb11)
                  have HA1 := Lib.hid (hM1.out w11 hb11); have HA2 := Lib.hid (hM2.out w11 hb11)
                  have HI1 := Lib.hid (Vs.below HI1.out hb11); have HI2 := Lib.hid (Vs.below HI2.out hb11)
                  have c5 := HF11.out.err
                  have c5f := HF11.out.box.frozen 5
                  have hs11 := hb11.size
                  clear hw11 hb11 h256 hM1 hM2 HF10 t1 t2 t3 t7
                  have hxx := HXX.out
                  rw [t6]
                  by_cases h0 : r256 = 0
                  · rw [if_pos h0] at hxx
                    have HXE : Hid (X = .error 41) := Lib.hid hxx.symm
                    have HF12 := Lib.hid (HF11.out.setE 41)
                    have d1 : (r256 == 0) = true := by simpa using h0
                    clear hxx HXX h0 HA1 HA2
                    go_wp2_with (first
                      | ((with_reducible refine at_ld 53 1 ?_); refine HF12.out.ld rfl rfl (.tmp 1) rfl rfl ?_)
                      | ((with_reducible refine at_st 53 2 116 ?_); refine HF12.out.stZ rfl rfl (.tmp 2) (.tmp 116) rfl rfl rfl rfl (st_oneA _ _ _ _ _ _ _ _ _) ?_; intro w13 hF13; have HF13 := Lib.hid hF13; clear hF13))
                    rw [HXE.out]
                    exact bodyPost_ret (v := .tuple #[.agg _, .slice (some ⟨gr, 0, none⟩) (y1 + 257) cr, .slice (some ⟨gr, y1 + 257, none⟩) (y2 + 1) (cr - (y1 + 257))]) (results_cell2 rfl _ _ (w.heap.size + 1) 53 _ _ _ _ rfl rfl rfl HF13.out.res Try.underlying53 rfl st_info) rfl ⟨⟨_, _, _, rfl⟩, HF13.out.bel⟩
                  · rw [if_neg h0] at hxx
                    have d1 : (r256 == 0) = false := by simpa using h0
                    clear h0 HXX
                    cases hm1 : mayM (row.take (y1 + 257)) false with
                    | false =>
                      rw [hm1] at hxx HA1
                      have HXE : Hid (X = .error 41) := Lib.hid hxx.symm
                      have HF12 := Lib.hid (HF11.out.setE 41)
                      clear hxx hm1 HA2
                      go_wp2_with fail
                      refine HA1.out.mono ?_
                      rintro e w12 ⟨rfl, rfl⟩
                      go_wp2_with (first
                        | ((with_reducible refine at_ld 53 1 ?_); refine HF12.out.ld rfl rfl (.tmp 1) rfl rfl ?_)
                        | ((with_reducible refine at_st 53 2 116 ?_); refine HF12.out.stZ rfl rfl (.tmp 2) (.tmp 116) rfl rfl rfl rfl (st_oneA _ _ _ _ _ _ _ _ _) ?_; intro w13 hF13; have HF13 := Lib.hid hF13; clear hF13))
                      rw [HXE.out]
                      exact bodyPost_ret (v := .tuple #[.agg _, .slice (some ⟨gr, 0, none⟩) (y1 + 257) cr, .slice (some ⟨gr, y1 + 257, none⟩) (y2 + 1) (cr - (y1 + 257))]) (results_cell2 rfl _ _ (w.heap.size + 1) 53 _ _ _ _ rfl rfl rfl HF13.out.res Try.underlying53 rfl st_info) rfl ⟨⟨_, _, _, rfl⟩, HF13.out.bel⟩
                    | true =>
                      rw [hm1] at hxx HA1
                      rw [if_pos rfl] at hxx
                      clear hm1
                      cases hm2 : mayM (row.drop (y1 + 257)) true with
                      | false =>
                        rw [hm2] at hxx HA2
                        have HXE : Hid (X = .error 41) := Lib.hid hxx.symm
                        have HF12 := Lib.hid (HF11.out.setE 41)
                        clear hxx hm2
                        go_wp2_with fail
                        refine HA1.out.mono ?_
                        rintro e w12 ⟨rfl, rfl⟩
                        go_wp2_with fail
                        refine HA2.out.mono ?_
                        rintro e w12 ⟨rfl, rfl⟩
                        go_wp2_with (first
                          | ((with_reducible refine at_ld 53 1 ?_); refine HF12.out.ld rfl rfl (.tmp 1) rfl rfl ?_)
                          | ((with_reducible refine at_st 53 2 116 ?_); refine HF12.out.stZ rfl rfl (.tmp 2) (.tmp 116) rfl rfl rfl rfl (st_oneA _ _ _ _ _ _ _ _ _) ?_; intro w13 hF13; have HF13 := Lib.hid hF13; clear hF13))
                        rw [HXE.out]
                        exact bodyPost_ret (v := .tuple #[.agg _, .slice (some ⟨gr, 0, none⟩) (y1 + 257) cr, .slice (some ⟨gr, y1 + 257, none⟩) (y2 + 1) (cr - (y1 + 257))]) (results_cell2 rfl _ _ (w.heap.size + 1) 53 _ _ _ _ rfl rfl rfl HF13.out.res Try.underlying53 rfl st_info) rfl ⟨⟨_, _, _, rfl⟩, HF13.out.bel⟩
                      | true =>
                        rw [hm2] at hxx HA2
                        rw [if_pos rfl] at hxx
                        have HXE := Lib.hid hxx.symm
                        have HF12 := HF11
                        clear hxx hm2
                        go_wp2_with fail
                        refine HA1.out.mono ?_
                        rintro e w12 ⟨rfl, rfl⟩
                        go_wp2_with fail
                        refine HA2.out.mono ?_
                        rintro e w12 ⟨rfl, rfl⟩
                        go_wp2_with (first
                          | ((with_reducible refine at_ld 53 1 ?_); refine HF12.out.ld rfl rfl (.tmp 1) rfl rfl ?_)
                          | ((with_reducible refine at_st 53 2 116 ?_); refine HF12.out.stZu rfl rfl (.tmp 2) (.tmp 116) rfl rfl rfl rfl (st_oneA _ _ _ _ _ _ _ _ _) ?_; intro w13 hF13 hu13; have HF13 := Lib.hid hF13; have HU13 := Lib.hid hu13; clear hF13 hu13))
                        rw [HXE.out]
                        exact bodyPost_ret (v := .tuple #[.agg _, .slice (some ⟨gr, 0, none⟩) (y1 + 257) cr, .slice (some ⟨gr, y1 + 257, none⟩) (y2 + 1) (cr - (y1 + 257))]) (results_cell2 rfl _ _ (w.heap.size + 1) 53 _ _ _ _ rfl rfl rfl HF13.out.res Try.underlying53 rfl st_info) rfl ⟨_, _, _, _, _, _, rfl, HL1.out, HL2.out, Is.apart HI1.out HU13.out hs11 HGZ.out, Is.apart HI2.out HU13.out hs11 HGZ.out, fun ad e => by cases e; exact HGL.out, fun ad e => by cases e; exact HGL.out, HF13.out.bel⟩
end Go.Proofs.Ythbdhpciibjnmaa
