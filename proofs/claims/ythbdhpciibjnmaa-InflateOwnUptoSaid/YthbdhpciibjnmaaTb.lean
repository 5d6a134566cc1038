/- Contract of the document's Tabled. -/
import Derived.Test.YthbdhpciibjnmaaTm
import Derived.Test.YthbdhpciibjnmaaMe
import Derived.Test.YthbdhpciibjnmaaAs
import Derived.Deep.CutBlock
import Derived.Laws.CopyOwn
namespace Go.Proofs.Ythbdhpciibjnmaa
open Go.ChangeShapes Go.WideShapes Go.ChangeAt Go.RowKit

def apartIn (cs : List Value) : Prop := ∀ k k' v v' b, k < 18 → k' < 18 → k ≠ k' → cs[18 + k]? = some v → cs[18 + k']? = some v' → v.ownBlock = some b → v'.ownBlock ≠ some b
/-- The table in block g: the first numbers of the lengths up to nf, the symbols of length below n and of length n below i. -/
def TblAt (base : Nat) (l : List Int) (nf n i : Nat) (any : Bool) (wr : World) (g : Nat) : Prop :=
  ∃ cs : List Value, Blk wr g 63 cs.toArray ∧ cs.length = 37 ∧ (∀ k, k < 18 → cs[k]? = some (.int .i64 (firstOf l nf k))) ∧
    (∀ k, k < 18 → ∃ A c, cs[18 + k]? = some (.slice A (symsAt l n i k).length c) ∧ wr.ownsRow base 3 1 (.slice A (symsAt l n i k).length c) (symsAt l n i k).length (intsV (natsI (symsAt l n i k)))) ∧
    cs[36]? = some (.bool any) ∧ apartIn cs ∧ base ≤ wr.heap.size
theorem firstOf_set (l : List Int) (n k : Nat) (h : k ≠ n + 1) : firstOf l (n + 1) k = firstOf l n k := by
  unfold firstOf
  by_cases h1 : 1 ≤ k ∧ k ≤ n
  · rw [if_pos h1, if_pos (by omega)]
  · rw [if_neg h1, if_neg (by omega)]
theorem firstOf_at (l : List Int) (n : Nat) : firstOf l (n + 1) (n + 1) = ((2 * endN l n : Nat) : Int) := by
  unfold firstOf
  rw [if_pos (by omega), Nat.add_sub_cancel]
section
variable {base : Nat} {l : List Int} {nf n m i : Nat} {any : Bool} {wr : World} {g : Nat}
theorem TblAt.first (h : TblAt base l n m i any wr g) (hn : n < 16) : TblAt base l (n + 1) m i any (wr.setCell ⟨g, n + 1, none⟩ (.int .i64 ((2 * endN l n : Nat) : Int))) g := by
  obtain ⟨cs, hB, hl, hF, hO, hA, hap, hb⟩ := h
  have hset : ∀ j, j ≠ n + 1 → (cs.set (n + 1) (.int .i64 ((2 * endN l n : Nat) : Int)))[j]? = cs[j]? := fun j hj => by rw [List.getElem?_set, if_neg (fun e => hj e.symm)]
  refine ⟨cs.set (n + 1) (.int .i64 ((2 * endN l n : Nat) : Int)), ?_, by simpa using hl, fun k hk => ?_, fun k hk => ?_, ?_, ?_, by simpa using hb⟩
  · have := hB.set_ (n + 1) (.int .i64 ((2 * endN l n : Nat) : Int))
    simpa using this
  · by_cases e : k = n + 1
    · subst e
      rw [List.getElem?_set, if_pos rfl, if_pos (by omega), firstOf_at]
    · rw [hset k e, hF k hk, firstOf_set l n k e]
  · obtain ⟨A, c, h1, h2⟩ := hO k hk
    exact ⟨A, c, by rw [hset _ (by omega)]; exact h1, own_upd h2 ((Upd.refl (· = g) wr).setCell (p := ⟨g, n + 1, none⟩) (fun _ => rfl) _) (fun b hb e => own_blk_ne h2 hB (by decide) (by subst e; exact hb))⟩
  · rw [hset _ (by omega)]; exact hA
  · intro k k' v v' b hk hk' hne h1 h2
    rw [hset _ (by omega)] at h1 h2
    exact hap k k' v v' b hk hk' hne h1 h2
theorem TblAt.next (h : TblAt base l nf n l.length any wr g) : TblAt base l nf (n + 1) 0 any wr g := by
  obtain ⟨cs, hB, hl, hF, hO, hA, hap, hb⟩ := h
  exact ⟨cs, hB, hl, hF, fun k hk => by rw [← symsAt_end l n k]; exact hO k hk, hA, hap, hb⟩
theorem TblAt.skip (h : TblAt base l nf n i any wr g) (hi : i < l.length) (hx : ¬ l[i] = (n : Int)) : TblAt base l nf n (i + 1) any wr g := by
  obtain ⟨cs, hB, hl, hF, hO, hA, hap, hb⟩ := h
  exact ⟨cs, hB, hl, hF, fun k hk => by rw [symsAt_skip l n i k hi hx]; exact hO k hk, hA, hap, hb⟩
theorem TblAt.row (h : TblAt base l nf n i any wr g) (k : Nat) (hk : k < 18) : ∃ A c, wr.cell? ⟨g, 18 + k, none⟩ = some (.slice A (symsAt l n i k).length c) ∧ wr.ownsRow base 3 1 (.slice A (symsAt l n i k).length c) (symsAt l n i k).length (intsV (natsI (symsAt l n i k))) := by
  obtain ⟨cs, hB, hl, hF, hO, hA, hap, hb⟩ := h
  obtain ⟨A, c, h1, h2⟩ := hO k hk
  exact ⟨A, c, by rw [hB.cell]; simpa using h1, h2⟩
theorem TblAt.frozen (h : TblAt base l nf n i any wr g) (k : Nat) : wr.frozen? ⟨g, k, none⟩ = false := by
  obtain ⟨cs, hB, _⟩ := h
  exact hB.frozen k
theorem TblAt.cell_first (h : TblAt base l nf n i any wr g) (k : Nat) (hk : k < 18) : wr.cell? ⟨g, k, none⟩ = some (.int .i64 (firstOf l nf k)) := by
  obtain ⟨cs, hB, hl, hF, _⟩ := h
  rw [hB.cell]; simpa using hF k hk
theorem TblAt.cell_any (h : TblAt base l nf n i any wr g) : wr.cell? ⟨g, 36, none⟩ = some (.bool any) := by
  obtain ⟨cs, hB, hl, hF, hO, hA, _⟩ := h
  rw [hB.cell]; simpa using hA
theorem TblAt.lt (h : TblAt base l nf n i any wr g) : g < wr.heap.size := by
  obtain ⟨cs, hB, _⟩ := h
  exact hB.lt
/-- One more symbol: its length's row has grown, is stored, and there is a code. -/
theorem TblAt.add {A A2 : Option Addr} {c c2 : Nat} {w2 : World} (h : TblAt base l nf n i any wr g) (hn0 : 0 < n) (hn : n < 17) (hi : i < l.length) (hx : l[i] = (n : Int))
    (hc : wr.cell? ⟨g, 18 + n, none⟩ = some (.slice A (symsAt l n i n).length c)) (o : Obj)
    (o2 : w2.ownsRow base 3 1 (.slice A2 ((symsAt l n i n).length + 1) c2) ((symsAt l n i n).length + 1) (intsV (natsI (symsAt l n i n)) ++ [.int .i64 (i : Int)]))
    (hg2 : (wr.alloc o).grownBy w2 (Value.slice A (symsAt l n i n).length c).ownBlock) (hat : (Value.slice A2 ((symsAt l n i n).length + 1) c2).ownBlock = (Value.slice A (symsAt l n i n).length c).ownBlock ∨ (Value.slice A2 ((symsAt l n i n).length + 1) c2).ownBlock = some (wr.alloc o).heap.size) :
    (w2.cell? ⟨g, 36, none⟩ = some (.bool any) ∧ w2.cell? ⟨g, 18 + n, none⟩ = some (.slice A (symsAt l n i n).length c) ∧ w2.frozen? ⟨g, 36, none⟩ = false ∧ w2.frozen? ⟨g, 18 + n, none⟩ = false) ∧
    TblAt base l nf n (i + 1) true ((w2.setCell ⟨g, 18 + n, none⟩ (.slice A2 ((symsAt l n i n).length + 1) c2)).setCell ⟨g, 36, none⟩ (.bool true)) g := by
  obtain ⟨cs, hB, hl, hF, hO, hA, hap, hb⟩ := h
  obtain ⟨A', c', hcs, hOn⟩ := hO n (by omega)
  have hcA : (Value.slice A (symsAt l n i n).length c) = (Value.slice A' (symsAt l n i n).length c') := by
    rw [hB.cell] at hc
    have h1 : cs[18 + n]? = some (.slice A (symsAt l n i n).length c) := by simpa using hc
    rw [hcs] at h1
    exact (Option.some.inj h1).symm
  rw [hcA] at hg2 hat
  have hgne : (Value.slice A' (symsAt l n i n).length c').ownBlock ≠ some g := own_blk_ne hOn hB (by decide)
  have ua : Upd (fun k => some k = (Value.slice A' (symsAt l n i n).length c').ownBlock) wr w2 := ((Upd.refl _ wr).alloc o).then (Upd.of_grown hg2) (fun _ _ e => e)
  have hB2 : Blk w2 g 63 cs.toArray := hB.upd ua (fun e => hgne e.symm)
  have ec : cs[36]? = some (.bool any) := hA
  refine ⟨⟨by rw [hB2.cell]; simpa using ec, by rw [hB2.cell, hcA]; simpa using hcs, hB2.frozen 36, hB2.frozen (18 + n)⟩, ?_⟩
  have hlen : (symsAt l n (i + 1) n).length = (symsAt l n i n).length + 1 := by rw [symsAt_add l n i hi hx hn0]; simp
  have us : Upd (· = g) w2 ((w2.setCell ⟨g, 18 + n, none⟩ (.slice A2 ((symsAt l n i n).length + 1) c2)).setCell ⟨g, 36, none⟩ (.bool true)) := ((Upd.refl (· = g) w2).setCell (p := ⟨g, 18 + n, none⟩) (fun _ => rfl) _).setCell (p := ⟨g, 36, none⟩) (fun _ => rfl) _
  have hset : ∀ j, j ≠ 18 + n → j ≠ 36 → ((cs.set (18 + n) (.slice A2 ((symsAt l n i n).length + 1) c2)).set 36 (.bool true))[j]? = cs[j]? := fun j h1 h2 => by
    rw [List.getElem?_set, if_neg (fun e => h2 e.symm), List.getElem?_set, if_neg (fun e => h1 e.symm)]
  have hsetn : ((cs.set (18 + n) (.slice A2 ((symsAt l n i n).length + 1) c2)).set 36 (.bool true))[18 + n]? = some (.slice A2 ((symsAt l n i n).length + 1) c2) := by
    rw [List.getElem?_set, if_neg (by omega), List.getElem?_set, if_pos rfl, if_pos (by omega)]
  refine ⟨(cs.set (18 + n) (.slice A2 ((symsAt l n i n).length + 1) c2)).set 36 (.bool true), ?_, by simpa using hl, fun k hk => by rw [hset k (by omega) (by omega)]; exact hF k hk, fun k hk => ?_, ?_, ?_, ?_⟩
  · have := (hB2.set_ (18 + n) (.slice A2 ((symsAt l n i n).length + 1) c2)).set_ 36 (.bool true)
    simpa using this
  · by_cases e : k = n
    · subst e
      rw [hlen]
      refine ⟨A2, c2, hsetn, ?_⟩
      rw [symsAt_add l k i hi hx hn0, natsI_append, intsV_append]
      exact own_upd o2 us (fun b hb2 e2 => own_blk_ne o2 hB2 (by decide) (by subst e2; exact hb2))
    · obtain ⟨Ak, ck, h1, h2⟩ := hO k hk
      rw [symsAt_other l n i k e]
      refine ⟨Ak, ck, by rw [hset _ (by omega) (by omega)]; exact h1, ?_⟩
      have h3 := own_upd h2 ua (fun b hb2 e2 => hap k n _ _ b hk (by omega) e h1 hcs hb2 e2.symm)
      exact own_upd h3 us (fun b hb2 e2 => own_blk_ne h3 hB2 (by decide) (by subst e2; exact hb2))
  · rw [List.getElem?_set, if_pos rfl, if_pos (by simp; omega)]
  · intro k k' v v' b hk hk' hne h1 h2 hv hv'
    by_cases e : k = n
    · subst e
      rw [hsetn] at h1
      rw [hset _ (by omega) (by omega)] at h2
      injection h1 with h1
      subst h1
      rcases hat with hat | hat
      · rw [hat] at hv
        exact hap k k' _ _ b hk hk' hne hcs h2 hv hv'
      · obtain ⟨Ak, ck, h3, h4⟩ := hO k' hk'
        rw [h2] at h3
        injection h3 with h3
        subst h3
        have h5 := (h4.lt b hv').2
        rw [hat] at hv
        injection hv with hv
        simp at hv
        omega
    · by_cases e' : k' = n
      · subst e'
        rw [hsetn] at h2
        rw [hset _ (by omega) (by omega)] at h1
        injection h2 with h2
        subst h2
        rcases hat with hat | hat
        · rw [hat] at hv'
          exact hap k k' _ _ b hk hk' hne h1 hcs hv hv'
        · obtain ⟨Ak, ck, h3, h4⟩ := hO k hk
          rw [h1] at h3
          injection h3 with h3
          subst h3
          have h5 := (h4.lt b hv).2
          rw [hat] at hv'
          injection hv' with hv'
          simp at hv'
          omega
      · rw [hset _ (by omega) (by omega)] at h1 h2
        exact hap k k' _ _ b hk hk' hne h1 h2 hv hv'
  · have h1 := ua.size
    simp
    omega
end

def TblRes (w : World) (l : List Int) (e : Ending) (w' : World) : Prop :=
  ∃ cs : List Value, e = .returned (.agg cs.toArray) ∧ cs.length = 37 ∧ (∀ k, k < 18 → cs[k]? = some (.int .i64 (firstOf l 16 k))) ∧
    (∀ k, k < 18 → ∃ A c, cs[18 + k]? = some (.slice A (symsOf l k).length c) ∧ w'.ownsRow w.heap.size 3 1 (.slice A (symsOf l k).length c) (symsOf l k).length (intsV (natsI (symsOf l k)))) ∧
    cs[36]? = some (.bool (anyOf l)) ∧ Below w.heap.size w w'
def tbl0 : List Value := List.replicate 18 (.int .i64 0) ++ List.replicate 18 (.slice none 0 0) ++ [.bool false]
theorem tbl_info : (Try.prog.info? 63).map (·.size) = some 37 := by kernel_rfl

/-- What the call began with, the block of what it answers, the table's block and its rows behind them. -/
def TblK (w wr : World) : Prop := Upd (fun k => w.heap.size + 1 ≤ k) (w.alloc (.cells tbl0.toArray 63)) wr
theorem TblK.set {w wr : World} (h : TblK w wr) (k : Nat) (v : Value) : TblK w (wr.setCell ⟨w.heap.size + 1, k, none⟩ v) := Upd.setCell h (p := ⟨w.heap.size + 1, k, none⟩) (fun _ => Nat.le_refl _) v
theorem TblK.below {w wr : World} (h : TblK w wr) : Below w.heap.size w wr := by
  have h1 : Upd (fun k => w.heap.size + 1 ≤ k) w wr := Upd.then ((Upd.refl _ w).alloc _) h (fun _ _ e => e)
  exact h1.below (Nat.le_refl _) (fun k hk e => by omega)
theorem TblK.grow {w wr w2 : World} {A : Option Addr} {n c : Nat} {xs : List Value} {e : TypeId} (h : TblK w wr) (o : Obj) (hO : wr.ownsRow (w.heap.size + 1) e 1 (.slice A n c) n xs) (hg : (wr.alloc o).grownBy w2 (Value.slice A n c).ownBlock) : TblK w w2 :=
  Upd.then (Upd.alloc h o) (Upd.of_grown hg) (fun k _ e => (hO.lt k e.symm).1)
theorem own_base {w : World} {b b' : Nat} {e : TypeId} {v : Value} {n : Nat} {xs : List Value} (h : w.ownsRow b e 1 v n xs) (hb : b' ≤ b) : w.ownsRow b' e 1 v n xs := by
  refine ⟨h.1, ?_⟩
  rcases h.2 with h | ⟨g, cap, cur, h1, h2, h3⟩
  · exact .inl h
  · exact .inr ⟨g, cap, cur, h1, by omega, h3⟩
theorem upd_setRow (w : World) (g : Nat) (cs : Array Value) : Upd (· = g) w (w.setRow g cs) := ⟨rfl, rfl, rfl, by simp, fun k _ hk => setRow_other w g k cs hk⟩
theorem tbl_one {l : List Int} {nf n i : Nat} {any : Bool} {wr : World} {base : Nat} {cs : List Value} (hl : cs.length = 37) (hF : ∀ k, k < 18 → cs[k]? = some (.int .i64 (firstOf l nf k)))
    (hO : ∀ k, k < 18 → ∃ A c, cs[18 + k]? = some (.slice A (symsAt l n i k).length c) ∧ wr.ownsRow base 3 1 (.slice A (symsAt l n i k).length c) (symsAt l n i k).length (intsV (natsI (symsAt l n i k)))) (hA : cs[36]? = some (.bool any)) : cs.toArray.all (·.oneCell') = true := by
  rw [Array.all_eq_true_iff_forall_mem]
  intro v hv
  obtain ⟨j, hj, hjv⟩ := List.getElem_of_mem (List.mem_toArray.mp hv)
  have hjv2 : cs[j]? = some v := by rw [List.getElem?_eq_getElem hj, hjv]
  rcases Nat.lt_or_ge j 18 with h1 | h1
  · rw [hF j h1] at hjv2
    injection hjv2 with e
    subst e
    rfl
  · rcases Nat.lt_or_ge j 36 with h2 | h2
    · obtain ⟨A, c, h3, _⟩ := hO (j - 18) (by omega)
      rw [show 18 + (j - 18) = j from by omega] at h3
      rw [h3] at hjv2
      injection hjv2 with e
      subst e
      rfl
    · obtain rfl : j = 36 := by omega
      rw [hA] at hjv2
      injection hjv2 with e
      subst e
      rfl
theorem TblK.res {w wr : World} (h : TblK w wr) : Blk wr w.heap.size 63 tbl0.toArray := (Blk.new w 63 tbl0.toArray).upd h (by omega)
theorem tblK_start (w : World) : TblK w ((w.alloc (.cells tbl0.toArray 63)).alloc (.cells tbl0.toArray 63)) := (Upd.refl _ _).alloc _
theorem blk_second (w : World) (o : Obj) (t : TypeId) (cs : Array Value) : Blk ((w.alloc o).alloc (.cells cs t)) (w.heap.size + 1) t cs := by
  have h := Blk.new (w.alloc o) t cs
  have e : (w.alloc o).heap.size = w.heap.size + 1 := by simp
  rwa [e] at h
theorem tbl0_first (k : Nat) (h : k < 18) : tbl0[k]? = some (.int .i64 0) := by
  unfold tbl0
  rw [List.append_assoc, List.getElem?_append_left (by simp; omega), List.getElem?_replicate, if_pos h]
theorem tbl0_row (k : Nat) (h : k < 18) : tbl0[18 + k]? = some (.slice none 0 0) := by
  unfold tbl0
  rw [List.append_assoc, List.getElem?_append_right (by simp), List.length_replicate, Nat.add_sub_cancel_left, List.getElem?_append_left (by simp; omega), List.getElem?_replicate, if_pos h]
theorem tbl_start (w : World) (l : List Int) : TblAt (w.heap.size + 1) l 0 1 0 (anyBelow l 1 0) ((w.alloc (.cells tbl0.toArray 63)).alloc (.cells tbl0.toArray 63)) (w.heap.size + 1) := by
  refine ⟨tbl0, blk_second w _ _ _, rfl, fun k hk => ?_, fun k hk => ?_, ?_, ?_, by simp⟩
  · rw [tbl0_first k hk]
    unfold firstOf
    rw [if_neg (by omega)]
  · refine ⟨none, 0, ?_, ?_⟩
    · rw [symsAt_start, tbl0_row k hk]; rfl
    · rw [symsAt_start]
      exact World.ownsRow_nil _ _ 3 1
  · rw [anyBelow_start]; rfl
  · intro k k' v v' b hk hk' _ h1 h2 hb
    rw [tbl0_row k hk] at h1
    injection h1 with h1
    subst h1
    simp [Value.ownBlock] at hb
set_option maxHeartbeats 4000000 in
set_option maxRecDepth 100000 in
theorem refTabled_any (A : Option Addr) (c : Nat) (l : List Int) (w : World) (hbs : Is w w.heap.size A l) (hl : l.length ≤ 4096) (hg : l.any badLen = false) (hro : 0 ≤ roomOf l) :
    Calls Try.prog 25 #[.slice A l.length c] w (TblRes w l) := by
  obtain ⟨i0, hi, hz0, hz1, hz2⟩ := info_parts info_int
  have HG := Lib.hid hg; clear hg
  have hbd := endN_bd l hro
  have HBD := Lib.hid hbd; clear hbd
  go_enter Try.func25, Try.ntmps25
  go_wp2_with fail
  go_loopw [4, 5] (fun x n wr => ∃ m : Nat, m ≤ 16 ∧ n = .int .i64 ((m : Int) + 1) ∧ x = .int .i64 ((endN l m : Nat) : Int) ∧ TblAt (w.heap.size + 1) l m (m + 1) 0 (anyBelow l (m + 1) 0) wr (w.heap.size + 1) ∧ TblK w wr) (fun _ n _ => 17 - (intOf n).toNat)
  case atStart => exact ⟨0, by omega, by simp, rfl, tbl_start w l, tblK_start w⟩
  case round =>
    obtain ⟨m, hm16, rfl, rfl, hT, hK⟩ := hrel
    have b1 : endN l m ≤ 65536 := HBD.out m (by omega)
    have HT := Lib.hid hT; clear hT
    have HK := Lib.hid hK; clear hK
    by_cases hmt : m < 16
    · have d2 : decide ((m : Int) + 1 ≤ 16) = true := by simp; omega
      have HBN : Hid (2 * endN l m + cntN l (m + 1) ≤ 65536) := Lib.hid (HBD.out (m + 1) (by omega))
      have hcf := HT.out.cell_first (m + 1) (by omega)
      have hff := HT.out.frozen (m + 1)
      have HT1 := Lib.hid (HT.out.first hmt)
      have HK1 := Lib.hid (HK.out.set (m + 1) (.int .i64 ((2 * endN l m : Nat) : Int)))
      have hz : ((2 * endN l m : Nat) : Int) = 2 * ((endN l m : Nat) : Int) := by omega
      rw [hz] at HT1 HK1
      clear hz
      go_wp2_with fail
      have HT2 := Lib.hid HT1.out
      have HK2 := Lib.hid HK1.out
      clear hcf hff HT1 HK1 HT HK
      generalize wr.setCell ⟨w.heap.size + 1, m + 1, none⟩ (.int .i64 (2 * ((endN l m : Nat) : Int))) = wo at *
      go_loopw [6] (fun i wr => ∃ k : Nat, k ≤ l.length ∧ i = .int .i64 k ∧ TblAt (w.heap.size + 1) l (m + 1) (m + 1) k (anyBelow l (m + 1) k) wr (w.heap.size + 1) ∧ TblK w wr) (fun i _ => l.length - (intOf i).toNat)
      case atStart => exact ⟨0, by omega, rfl, HT2.out, HK2.out⟩
      case round =>
        obtain ⟨k, hk, rfl, hT3, hK3⟩ := hrel
        have HT3 := Lib.hid hT3; clear hT3
        have HK3 := Lib.hid hK3; clear hK3
        by_cases hlt : k < l.length
        · obtain ⟨ad, rfl, _, hcb⟩ := Is.at_ (Vs.below hbs HK3.out.below) hlt
          have HSK := Lib.hid (HT3.out.skip hlt)
          have HAS := Lib.hid (anyBelow_skip l (m + 1) k hlt)
          have HAH := Lib.hid (fun h => anyBelow_hit l (m + 1) k hlt h (by omega))
          obtain ⟨Ar, cr, hcr, hor⟩ := HT3.out.row (m + 1) (by omega)
          have HADD := Lib.hid (fun (A2 : Option Addr) (c2 : Nat) (w2 : World) (o : Obj) hx => HT3.out.add (A2 := A2) (c2 := c2) (w2 := w2) (by omega) (by omega) hlt hx hcr o)
          have hsl := symsAt_le l (m + 1) k (m + 1) (by omega)
          have hwl := HT3.out.lt
          have HOR := Lib.hid hor; clear hor
          generalize symsAt l (m + 1) k (m + 1) = L at *
          generalize hx0 : l[k] = x at *
          have HX0 := Lib.hid hx0; clear hx0
          by_cases hx : x = ((m + 1 : Nat) : Int)
          · have d3 : (x == (m : Int) + 1) = true := by rw [beq_iff_eq]; omega
            have HX := Lib.hid hx; clear hx
            go_wp2_with (at_builtin; refine wpList_append_vs _ rfl (.tmp 33) (.tmp 35) _ rfl (w.heap.size + 1) 3 i0 (.int .i64 0) 8 Try.underlying36 hi hz0 hz1 hz2 rfl (.slice Ar L.length cr) L.length (intsV (natsI L)) rfl (HOR.out.alloc _) (wr.heap.size + 1) (some ⟨wr.heap.size, 0, none⟩) 1 1 [.int .i64 (k : Int)] rfl rfl (vs_lit1 wr 3 _) (by simp [Value.oneCell']) (by unfold maxLen; omega) (by omega) (by simp; omega) ?_; intro A2 c2 w2 o2 hg2 hat2; obtain ⟨⟨q1, q2, q3, q4⟩, hTN⟩ := HADD.out A2 c2 w2 _ HX.out o2 hg2 hat2; have HTN := Lib.hid hTN; clear hTN; have HKN := Lib.hid (HK3.out.grow _ HOR.out hg2); clear o2 hg2 hat2)
            go_roundw
            case rel => exact ⟨k + 1, by omega, by go_num, by rw [HAH.out HX.out]; exact HTN.out, (HKN.out.set _ _).set _ _⟩
            case measure => simp [intOf]; omega
          · have d3 : (x == (m : Int) + 1) = false := by rw [beq_eq_false_iff_ne]; omega
            have HX := Lib.hid hx; clear hx
            go_wp2_with fail
            go_roundw
            case rel => exact ⟨k + 1, by omega, by go_num, by rw [HAS.out HX.out]; exact HSK.out HX.out, HK3.out⟩
            case measure => simp [intOf]; omega
        · have hkn : k = l.length := by omega
          subst hkn
          obtain ⟨Ar, cr, hcr, hor⟩ := HT3.out.row (m + 1) (by omega)
          have hll : (symsAt l (m + 1) l.length (m + 1)).length = cntN l (m + 1) := symsAt_len l (m + 1) (by omega)
          have HEN : Hid (2 * endN l m + cntN l (m + 1) = endN l (m + 1)) := Lib.hid rfl
          have hcn : 2 * endN l m + cntN l (m + 1) ≤ 65536 := HBN.out
          rw [hll] at hcr
          clear hor hll
          have HTE := Lib.hid (HT3.out.next)
          rw [anyBelow_end] at HTE
          go_wp2_with fail
          go_roundw
          case rel => exact ⟨m + 1, by omega, by go_num, by rw [← HEN.out]; go_num, HTE.out, HK3.out⟩
          case measure => simp [intOf]; omega
    · obtain rfl : m = 16 := by omega
      obtain ⟨cs, hB, hcl, hF, hO, hA, hap, hb⟩ := HT.out
      have hsz : (Try.prog.info? 63).map (·.size) = some cs.toArray.size := by rw [List.size_toArray, hcl]; exact tbl_info
      have h1c : cs.toArray.all (·.oneCell') = true := tbl_one hcl hF hO hA
      have hRB := HK.out.res
      have hk0 : tbl0.toArray.size = cs.toArray.size := by rw [List.size_toArray, List.size_toArray, hcl]; rfl
      have HFIN : Hid (TblRes w l (.returned (.agg cs.toArray)) (wr.setRow w.heap.size cs.toArray)) := Lib.hid (by
        refine ⟨cs, rfl, hcl, hF, fun k hk => ?_, by rw [← anyBelow_all l HG.out]; exact hA, below_setRow HK.out.below (Nat.le_refl _) _⟩
        obtain ⟨A', c', h1, h2⟩ := hO k hk
        refine ⟨A', c', h1, ?_⟩
        have h3 : wr.ownsRow w.heap.size 3 1 (.slice A' (symsOf l k).length c') (symsOf l k).length (intsV (natsI (symsOf l k))) := own_base h2 (by omega)
        have hne : (Value.slice A' (symsOf l k).length c').ownBlock ≠ some w.heap.size := fun e => by
          have := (h2.lt w.heap.size e).1
          omega
        exact own_upd h3 (upd_setRow wr w.heap.size cs.toArray) (fun b hb2 e2 => hne (by subst e2; exact hb2)))
      clear hF hO hA hap
      go_wp2_with (first | (refine wpList_load_row rfl 63 (.tmp 3) rfl (w.heap.size + 1) rfl 63 cs.toArray (0, 0) _ hB Try.underlying63 rfl hsz ?_) | (refine wpList_store_row rfl 63 (.tmp 2) (.tmp 47) rfl w.heap.size cs.toArray rfl rfl 63 tbl0.toArray hRB hsz hk0 h1c ?_))
      exact bodyPost_ret (v := .agg cs.toArray) (results_cell_row rfl _ _ w.heap.size 63 cs.toArray (0, 0) _ rfl (setRow_heap wr w.heap.size _ _ _ _ hRB) Try.underlying63 rfl hsz) rfl HFIN.out
end Go.Proofs.Ythbdhpciibjnmaa
