/- Joined texts (a claim has at most 60 files): Qk Ct. -/
import Derived.Test.YtfbokhdimffabaaGreatDoorQj
import Derived.Test.YtfbokhdimffabaaGreatDoorCo
import Derived.StillTail
import Derived.Deep.Quiet
import Derived.WalkKit
/- A pixel more at an image's end; Fill, the document's. -/
namespace Go.Proofs.YtfbokhdimffabaaGreatDoor
open Go.ChangeShapes Go.WideShapes Go.ChangeAt Go.RowKit

theorem boxes3 (w : World) (a b c : Array Value) (t u v : TypeId) : Below w.heap.size w (((w.alloc (.cells a t)).alloc (.cells b u)).alloc (.cells c v)) ∧ (((w.alloc (.cells a t)).alloc (.cells b u)).alloc (.cells c v)).heap.size = w.heap.size + 1 + 1 + 1 ∧
    Blk (((w.alloc (.cells a t)).alloc (.cells b u)).alloc (.cells c v)) w.heap.size t a ∧ Blk (((w.alloc (.cells a t)).alloc (.cells b u)).alloc (.cells c v)) (w.heap.size + 1) u b ∧ Blk (((w.alloc (.cells a t)).alloc (.cells b u)).alloc (.cells c v)) (w.heap.size + 1 + 1) v c := by
  have h1 := Blk.new w t a
  have h2 := Blk.new (w.alloc (.cells a t)) u b
  have h3 := Blk.new ((w.alloc (.cells a t)).alloc (.cells b u)) v c
  simp only [World.size_alloc] at h2 h3
  exact ⟨(((Below.refl _ w).alloc (Nat.le_refl _) _).alloc (by simp) _).alloc (by simp; omega) _, by simp, (h1.alloc _).alloc _, h2.alloc _, h3⟩
/-- The block of a slice. -/
def InRow (A : Option Addr) (k : Nat) : Prop := A.map (·.block) = some k
set_option maxRecDepth 100000 in
set_option maxHeartbeats 1000000 in
theorem add_any (W H : Int) (A : Option Addr) (n c : Nat) (l : List Int) (x : Col) (base : Nat) (w : World) (h : w.ownsRow base 42 1 (.slice A n c) n (usV l)) (hbase : base ≤ w.heap.size) (hn : n ≤ 1048576) :
    Calls Tryz.prog 25 #[imgV W H A n c, colV x] w fun e w' => ∃ A' c', e = .returned (imgV W H A' (n + 4) c') ∧ w'.ownsRow base 42 1 (.slice A' (n + 4) c') (n + 4) (usV (l ++ colQ x)) ∧ Upd (InRow A) w w' := by
  obtain ⟨i0, hi, hz0, hz1, hz2⟩ := info_parts info_u16
  obtain ⟨h1, hsz, h2, h3, h4⟩ := boxes3 w #[.int .i64 W, .int .i64 H, .slice A n c] #[.int .u16 x.r, .int .u16 x.g, .int .u16 x.b, .int .u16 x.a] #[.int .i64 0, .int .i64 0, .slice none 0 0] 26 70 26
  obtain ⟨W1, hW1⟩ : ∃ W1, ((w.alloc (.cells #[.int .i64 W, .int .i64 H, .slice A n c] 26)).alloc (.cells #[.int .u16 x.r, .int .u16 x.g, .int .u16 x.b, .int .u16 x.a] 70)).alloc (.cells #[.int .i64 0, .int .i64 0, .slice none 0 0] 26) = W1 := ⟨_, rfl⟩
  rw [hW1] at h1 hsz h2 h3 h4
  have HW1 := Lib.hid hW1
  have HU := Lib.hid (Upd.of_fresh h1)
  have HO := Lib.hid (own_upd h (Upd.of_fresh h1) (fun _ _ => id))
  have HM := Lib.hid (IB.of h2)
  have HC := Lib.hid (CB.of (x := x) h3)
  have HZ := Lib.hid (IB.of h4)
  have HSZ := Lib.hid hsz
  have HL := Lib.hid (row_lt h)
  clear hW1 h1 h2 h3 h4 hsz h
  go_enter Tryz.func25, Tryz.ntmps25
  go_upto_region 1 with (fail)
  rw [HW1.out]
  clear HW1
  have q2 := HM.out.c2
  have p0 := HC.out.c0; have p1 := HC.out.c1; have p2 := HC.out.c2; have p3 := HC.out.c3
  have HLit := Lib.hid (vs_lit W1 42 (usV (colQ x)) (W1.heap.size + 1) (by omega))
  have HO1 := Lib.hid (HO.out.alloc (.cells #[.int .u16 x.r, .int .u16 x.g, .int .u16 x.b, .int .u16 x.a] 42))
  have hbs1 : base ≤ W1.heap.size := by have := HSZ.out; omega
  go_wp2_with (
     at_builtin
     refine wpList_append_vs _ rfl (.tmp 6) (.tmp 15) _ rfl base 42 i0 (.int .u16 0) 2 Tryz.underlying24 hi hz0 hz1 hz2 rfl (.slice A n c) n (usV l) rfl HO1.out (W1.heap.size + 1) (some ⟨W1.heap.size, 0, none⟩) 4 4 (usV (colQ x)) rfl rfl HLit.out (usV_one _) (by unfold maxLen; omega) (by omega) (by rw [World.size_alloc]; omega) ?_
     intro A9 c9 w9 o9 hg9 ho9
     rw [← usV_append] at o9
     have hu9 := (Upd.refl (InRow A) W1).alloc (.cells #[.int .u16 x.r, .int .u16 x.g, .int .u16 x.b, .int .u16 x.a] 42)
     have hu10 := hu9.trans ((Upd.of_grown hg9).mono (fun k _ e => by rw [own_block_sl] at e; exact e.symm))
     have HM9 := Lib.hid (IB.of (HM.out.blk.upd hu10 (fun e => by have := (HL.out _ e).2; omega)))
     have HZ9 := Lib.hid (IB.of (HZ.out.blk.upd hu10 (fun e => by have := (HL.out _ e).2; omega)))
     have HU10 := Lib.hid hu10
     have HO9 := Lib.hid o9
     have HN9 : Hid (∀ k, A9.map (·.block) = some k → k ≠ w.heap.size ∧ k ≠ w.heap.size + 1 + 1) := Lib.hid (fun k hk => by
       have hs := HSZ.out
       rw [own_block_sl, own_block_sl] at ho9
       rcases ho9 with e | e
       · rw [e] at hk
         have := (HL.out k hk).2
         omega
       · rw [hk, World.size_alloc] at e
         injection e with e
         omega)
     have m0 := HM9.out.c0; have m1 := HM9.out.c1; have m2 := HM9.out.c2; have g2 := HM9.out.f2
     have z0 := HZ9.out.c0; have z1 := HZ9.out.c1; have z2 := HZ9.out.c2; have e0 := HZ9.out.f0; have e1 := HZ9.out.f1; have e2 := HZ9.out.f2
     clear o9 hg9 hu9 hu10 ho9 p0 p1 p2 p3 q2)
  have hu2 := (Upd.refl (· = w.heap.size) w9).setCell (p := ⟨w.heap.size, 2, none⟩) (fun _ => rfl) (.slice A9 (n + 4) c9)
  have hz9 := IB.put (IB.of (HZ9.out.blk.upd hu2 (by omega))) (.int .i64 W) (.int .i64 H) (.slice A9 (n + 4) c9) w.heap.size (by omega)
  have n0 := hz9.1.c0; have n1 := hz9.1.c1; have n2 := hz9.1.c2
  refine bodyPost_ret (v := imgV W H A9 (n + 4) c9) (by simp [results, Tryz.results25, go_sem, n0, n1, n2]) rfl ?_
  refine ⟨A9, c9, rfl, row_keep (row_keep HO9.out hu2 (fun k hk e => (HN9.out k hk).1 e)) hz9.2.2 (fun k hk e => (HN9.out k hk).2 e), ?_⟩
  have hs := HSZ.out
  have hs9 := HU10.out.size
  exact (((HU.out.mono (fun _ _ h => h.elim)).then HU10.out (fun k _ e => e)).then hu2 (fun k hk e => by omega)).then hz9.2.2 (fun k hk e => by omega)
/-- An image that is being made: its box, its row, both above what was there. -/
def GI (w0 : World) (m : Nat) (W H : Int) (l : List Int) (wr : World) : Prop := ∃ A c, w0.heap.size ≤ m ∧ Blk wr m 26 #[.int .i64 W, .int .i64 H, .slice A l.length c] ∧ wr.ownsRow w0.heap.size 42 1 (.slice A l.length c) l.length (usV l) ∧ Below w0.heap.size w0 wr
theorem GI.step {w0 wr w' : World} {m c n' c' : Nat} {W H W' H' : Int} {l l' : List Int} {A A' : Option Addr} (hb : Blk wr m 26 #[.int .i64 W, .int .i64 H, .slice A l.length c]) (ho : wr.ownsRow w0.heap.size 42 1 (.slice A l.length c) l.length (usV l)) (hB : Below w0.heap.size w0 wr)
    (ho' : w'.ownsRow w0.heap.size 42 1 (.slice A' n' c') n' (usV l')) (hu : Upd (InRow A) wr w') (hm : w0.heap.size ≤ m := by omega) :
    IB w' m (.int .i64 W) (.int .i64 H) (.slice A l.length c) ∧ GI w0 m W' H' l' (((w'.setCell ⟨m, 0, none⟩ (.int .i64 W')).setCell ⟨m, 1, none⟩ (.int .i64 H')).setCell ⟨m, 2, none⟩ (.slice A' n' c')) := by
  have hne := own_blk_ne ho hb (by decide)
  have hi := IB.of (hb.upd hu (fun e => hne (by rw [own_block_sl]; exact e)))
  have hl := own_len ho'
  rw [usV_length] at hl
  obtain ⟨p1, p2, p3⟩ := IB.put hi (.int .i64 W') (.int .i64 H') (.slice A' n' c') w0.heap.size hm
  subst hl
  refine ⟨hi, A', c', hm, p1.blk, own_other ho' hi.blk (by decide) p3, ?_⟩
  exact (hB.trans (hu.below hB.size (fun k hk e => by have := (row_lt ho k e).1; omega))).trans p2
end Go.Proofs.YtfbokhdimffabaaGreatDoor

/- A region that draws its order: its first n operations read, or call, and give the same value in every world of a class, which their calls keep; what comes behind them comes in one order, from any world of the class. No program is named here. -/
namespace Go.Proofs.YtfbokhdimffabaaGreatDoor
open Go.RowKit

section
variable {P : Program} {md : Region.Mode} {ops : Array Oper} {C : World → Prop} {n : Nat} {L : Array Bool → Act → Prop}
/-- For so many steps one of the first n comes up, whatever is picked; then L. -/
def HeadsQ (P : Program) (md : Region.Mode) (ops : Array Oper) (C : World → Prop) (n : Nat) (L : Array Bool → Act → Prop) : Nat → Array Bool → Act → Prop
  | 0 => L
  | f + 1 => fun listed a => Region.ready md ops listed ≠ [] ∧ ∀ i ∈ Region.ready md ops listed, i < n ∧ qOp P ops C i (HeadsQ P md ops C n L f (listed.setIfInBounds i true)) a
theorem HeadsQ.any {g : Nat} {Q : Exit → Act → World → Prop} (hL : ∀ listed a w, C w → L listed a → wpAny P md ops Q g listed a w) (f : Nat) : ∀ listed a w, C w → HeadsQ P md ops C n L f listed a → wpAny P md ops Q (f + g) listed a w := by
  induction f with
  | zero => intro listed a w hw h; rw [Nat.zero_add]; exact hL _ _ _ hw h
  | succ f ih =>
    intro listed a w hw h
    have e : f + 1 + g = (f + g) + 1 := by omega
    rw [e]
    exact ⟨fun h0 => (h.1 h0).elim, fun i hi => wpOp_of_qOp hw (fun a' w' hw' => ih _ a' w' hw') (h.2 i hi).2⟩
/-- One of the first n that may come up now may be taken first. -/
theorem HeadsQ.first {i : Nat} {oi : Oper} {v : Value} (hi : ops[i]? = some oi) (hsel : ∀ (j : Nat) (o : Oper) cs b, ops[j]? = some o → o.op ≠ .select cs b) (hs : Region.sinkB md ops n = true) (hc : Region.chainB md ops n = true) (hn : n < ops.size) (hin : i < n)
    (hdone : ∀ listed a, L listed a → ∀ j ∈ Region.ready md ops listed, n ≤ j) (f : Nat) : ∀ (listed : Array Bool) (a : Act), HeadInv md ops n listed →
      (∀ j oj, ops[j]? = some oj → j ≠ i → listed.getD j true = false → (∀ e ∈ oj.after, Region.binds md e = true → e.on ≠ i) → oi.apart ops oj = true) →
      i ∈ Region.ready md ops listed → YieldsIn P ops C oi v a → HeadsQ P md ops C n L f (listed.setIfInBounds i true) (a.put oi.dst v) → HeadsQ P md ops C n L (f + 1) listed a := by
  induction f with
  | zero =>
    intro listed a inv _ hr hy H
    refine ⟨fun h0 => (by rw [h0] at hr; cases hr), fun j hj => ?_⟩
    have hjn : j < n := Nat.lt_of_not_le fun h => tail_waits hs hc hn inv _ i rfl hin (mem_ready.1 hr).1 j h hj
    rcases Nat.decEq j i with hji | hji
    · have := hdone _ _ H j (ready_mono hj hji); omega
    · subst hji; exact ⟨hjn, hy.qOp hi H⟩
  | succ f ih =>
    intro listed a inv hfree hr hy H
    have hun := (mem_ready.1 hr).1
    refine ⟨fun h0 => (by rw [h0] at hr; cases hr), fun j hj => ?_⟩
    have hjn : j < n := Nat.lt_of_not_le fun h => tail_waits hs hc hn inv _ i rfl hin hun j h hj
    rcases Nat.decEq j i with hji | hji
    · obtain ⟨hjun, oj, hoj, hall⟩ := mem_ready.1 hj
      have hap := hfree j oj hoj hji hjun fun e he hb heq => by
        have := hall e he hb
        rw [heq, getD_both hun] at this
        cases this
      refine ⟨hjn, qOp_mono (fun a' h3 => ?_) (qOp_put hoj hap (fun cs b => hsel i oi cs b hi) (fun cs b => hsel j oj cs b hoj) hy (H.2 j (ready_mono hj hji)).2)⟩
      refine ih _ a' (inv.set hj hjn) (fun k ok hk hki hk0 hno => hfree k ok hk hki ?_ hno) (ready_mono hr (Ne.symm hji)) h3.1 ?_
      · rcases Nat.decEq j k with h | h
        · rwa [getD_set_ne true h] at hk0
        · subst h; exact hjun
      · rw [Array.setIfInBounds_comm _ _ hji]; exact h3.2
    · subst hji; exact ⟨hjn, hy.qOp hi H⟩
theorem HeadsQ.lex {g : Nat} {Lq : Act → Prop} (hsel : Region.noSelect ops = true) (hs : Region.sinkB md ops n = true) (hc : Region.chainB md ops n = true) (hn : n < ops.size) (l : List Oper) : ∀ (k : Nat) (listed : Array Bool) (a : Act), (∀ j, j < l.length → l[j]? = ops[k + j]?) → k + l.length = n → HeadInv md ops n listed →
    Region.lexHead md ops g l.length k listed = true → wpQuiet P ops C Lq l a → HeadsQ P md ops C n (fun listed' a' => Region.seqB md ops g n listed' = true ∧ Lq a') l.length listed a := by
  induction l with
  | nil =>
    intro k listed a _ hk _ hB h
    obtain rfl : k = n := by simpa using hk
    exact ⟨by simpa [Region.lexHead] using hB, h⟩
  | cons o l ih =>
    intro k listed a hl hk inv hB h
    have h0 : ops[k]? = some o := by simpa using (hl 0 (by simp)).symm
    simp only [List.length_cons, Region.lexHead, Bool.and_eq_true] at hB
    have hkn : k < n := by simp only [List.length_cons] at hk; omega
    have hr : k ∈ Region.ready md ops listed := by simpa using hB.1.1
    have hq : qOp P ops C k (wpQuiet P ops C Lq l) a := by unfold qOp; simp only [h0]; exact h
    obtain ⟨v, hy, hK⟩ := yieldsIn_of_qOp h0 hq
    refine HeadsQ.first h0 (Region.noSelect_spec hsel) hs hc hn hkn (fun listed' a' hL => seqB_ready hL.1) l.length listed a inv (Region.free_spec h0 hB.1.2) hr hy ?_
    refine ih (k + 1) _ _ (fun j hj => ?_) (by simp only [List.length_cons] at hk; omega) (inv.set hr hkn) hB.2 hK
    have := hl (j + 1) (by simp; omega)
    simpa [Nat.add_assoc, Nat.add_comm 1 j] using this
/-- The region, walked in the text's order: its first n operations in every world of the class C, the others from any one of them. -/
theorem wp_region_class {id : Nat} {Q : Exit → Act → World → Prop} {a : Act} {w : World} {l : List Oper} (C : World → Prop) (m : Nat) (hm : P.follows .mixedOrders = true) (hB : Region.lexTailB .any l.toArray m = true) (hC : C w.drew)
    (h : wpQuiet P l.toArray C (fun a' => ∀ w', C w' → wpList P l.toArray Q (l.drop m) a' w') (l.take m) a) : (Code.region id l.toArray true).wp P Q a w := by
  simp only [Region.lexTailB, Bool.and_eq_true, decide_eq_true_eq] at hB
  obtain ⟨⟨⟨⟨hsel, hn⟩, hs⟩, hc⟩, hlex⟩ := hB
  have hm' : m < l.length := by simpa using hn
  have htl : (l.take m).length = m := by rw [List.length_take]; omega
  have hdl : (l.drop m).length = l.toArray.size - m := by simp
  have inv0 : HeadInv .any l.toArray m (Array.replicate l.toArray.size false) :=
    ⟨by simp, fun j oj _ hl => (by rw [getD_replicate_false] at hl; cases hl), fun t _ ht => getD_in (by simpa using ht) (getD_replicate_false _ _)⟩
  have H := HeadsQ.lex (md := .any) (g := l.toArray.size - m) hsel hs hc hn (l.take m) 0 _ a (fun j hj => by
    rw [htl] at hj
    simp [hj]) (by simpa using htl) inv0 (by rw [htl]; exact hlex) h
  refine wp_region_any hm ?_
  have A := HeadsQ.any (Q := Q) (g := l.toArray.size - m) (fun listed a' w' hw hL => by
    have := wpAny_of_seq (md := .any) (Q' := Q) (l.drop m) m listed a' w' (fun j => by simp [List.getElem?_drop]) (by rw [hdl]; exact hL.1) (hL.2 w' hw)
    rwa [hdl] at this) _ _ _ w.drew hC H
  rw [htl, show m + (l.toArray.size - m) = l.toArray.size by omega] at A
  exact A
end
end Go.Proofs.YtfbokhdimffabaaGreatDoor
