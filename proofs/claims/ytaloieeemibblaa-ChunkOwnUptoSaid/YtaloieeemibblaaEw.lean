/- A list of chunks that grows. -/
import Derived.Test.YtaloieeemibblaaEv
set_option linter.unusedVariables false
set_option linter.unusedSimpArgs false
namespace Go.Proofs.Ytaloieeemibblaa
open Go.ChangeShapes Go.WideShapes Go.ChangeAt Go.RowKit Go.Shelf
attribute [local go_sem] Oper.semAt_some

theorem info_ck : (Try.prog.info? 57).map (fun i => (i.zero, i.size, i.bytes)) = some (some (.agg #[.string ⟨#[]⟩, .slice none 0 0]), 2, 40) := by kernel_rfl
/-- A list's cells. -/
def ckVs (L : List It) : List Value := L.flatMap fun x => [.string x.t, x.v]
theorem ckVs_app (L : List It) (x : It) : ckVs (L ++ [x]) = ckVs L ++ [.string x.t, x.v] := by simp [ckVs]
theorem append_ck (base : Nat) (w : World) (v : Value) (n : Nat) (xs : List Value) (h : w.ownsRow base 57 2 v n xs) (hbase : base ≤ w.heap.size) (g : Nat) (t : ByteArray) (D : Option Addr) (dn dc : Nat) (hg : Blk w g 57 #[.string t, .slice D dn dc]) (hn : n ≤ 1099511627776) (ty : TypeId) :
    ∃ A' c' w', (Builtin.append_ #[24, 24] ty #[v, .slice (some ⟨g, 0, none⟩) 1 1]).run Try.prog w = .ok (.slice A' (n + 1) c') w' ∧
      w'.ownsRow base 57 2 (.slice A' (n + 1) c') (n + 1) (xs ++ [.string t, .slice D dn dc]) ∧ w.grownBy w' v.ownBlock ∧ ((Value.slice A' (n + 1) c').ownBlock = v.ownBlock ∨ (Value.slice A' (n + 1) c').ownBlock = some w.heap.size) := by
  obtain ⟨i0, hi, hz0, hz1, hz2⟩ := info_parts info_ck
  have hV : Vs w w.heap.size (some ⟨g, 0, none⟩) [.string t, .slice D dn dc] := fun _ => ⟨_, rfl, hg.lt, fun j hj => by
    have e0 : (⟨g, 0, none⟩ : Addr).add j = ⟨g, j, none⟩ := by unfold Addr.add; split <;> simp_all
    rw [e0, hg.cell]
    simp at hj
    rcases j with _ | _ | j <;> first | rfl | omega⟩
  obtain ⟨A', c', w', hrun, h2, h3, h4⟩ := run_append_vn (P := Try.prog) w base 24 ty 57 i0 _ 2 40 Try.underlying24 hi hz0 hz1 hz2 rfl (by omega) v n xs h w.heap.size ⟨g, 0, none⟩ 1 1 [.string t, .slice D dn dc] rfl hV (by intro u hu; simp at hu; rcases hu with rfl | rfl <;> rfl) (by unfold maxLen; omega) (by omega) hbase
  exact ⟨A', c', w', hrun, h2, h3, h4⟩
/-- The chunks that stand in a list are these. -/
def Items (base : Nat) (lb : List UInt8) (V : World) (L : List It) : Prop := ∀ (j : Nat) (hj : j < L.length), L[j].t = typC lb j ∧ L[j].n = be4 (restC lb j) 0 ∧ V.ownsRow base 5 1 L[j].v L[j].n (bytesV (datC lb j))
theorem Items.upd {base : Nat} {lb : List UInt8} {V V' : World} {L : List It} (h : Items base lb V L) {S : Nat → Prop} (u : Upd S V V') (hS : ∀ g cs, Blk V g 5 cs → ¬ S g) (hS2 : ∀ g c fz, V.heap[g]? = some (.cells c 5 fz) → ¬ S g) : Items base lb V' L := fun j hj => by
  obtain ⟨h1, h2, h3⟩ := h j hj
  refine ⟨h1, h2, own_upd h3 u (fun g hg => ?_)⟩
  rcases h3.2 with ⟨e, _⟩ | ⟨g', c, cur, e, _, a, _⟩
  · rw [e] at hg; cases hg
  · have e1 : g' = g := by rw [e] at hg; simpa [Value.ownBlock] using hg
    subst e1
    exact hS2 _ _ _ a
/-- What holds behind k chunks. -/
structure SpS (w : World) (b5 bb m c : Nat) (A : Option Addr) (B : Nat) (lb : List UInt8) (k : Nat) (V : World) : Prop where
  h2 : Blk V w.heap.size 24 #[.slice none 0 0]
  h3 : Blk V (w.heap.size + 1) 25 #[.int .i64 0]
  row : ∃ Al cl L, Blk V b5 24 #[.slice Al k cl] ∧ V.ownsRow w.heap.size 57 2 (.slice Al k cl) k (ckVs L) ∧ L.length = k ∧ Items w.heap.size lb V L
  cb : Blk V bb 22 #[.slice A m c]
  bs : Bs V B A lb
  hB : B ≤ w.heap.size
  bel : Below w.heap.size w V
  lt : w.heap.size + 1 < b5 ∧ b5 < bb
/-- What comes with a chunk. -/
def EnS (base b5 : Nat) (lb : List UInt8) (k : Nat) (x : It) (V : World) : Prop := x.t = typC lb k ∧ x.n = be4 (restC lb k) 0 ∧ V.ownsRow base 5 1 x.v x.n (bytesV (datC lb k)) ∧ b5 < x.lo ∧ x.lo ≤ V.heap.size ∧
  ∃ Al cl, Blk V b5 24 #[.slice Al k cl] ∧ ∀ g, (Value.slice Al k cl).ownBlock = some g → g < x.lo
section
variable {w : World} {b5 bb m c B k : Nat} {A : Option Addr} {lb : List UInt8} {V V' : World}
theorem SpS.keep (h : SpS w b5 bb m c A B lb k V) {S : Nat → Prop} (u : Upd S V V') (hS : ∀ j, S j → V.heap.size ≤ j) : SpS w b5 bb m c A B lb k V' := by
  obtain ⟨Al, cl, L, r1, r2, r3, r4⟩ := h.row
  have nb : ∀ {b t cs}, Blk V b t cs → ¬ S b := fun hb e => by have := hS _ e; have := hb.lt; omega
  have nh : ∀ {b : Nat} {o : Obj}, V.heap[b]? = some o → ¬ S b := fun hb e => by have := hS _ e; have := (Array.getElem?_eq_some_iff.1 hb).1; omega
  exact ⟨h.h2.upd u (nb h.h2), h.h3.upd u (nb h.h3), ⟨Al, cl, L, r1.upd u (nb r1), own_upd r2 u (fun j hj e => by have := hS _ e; have := (r2.lt j hj).2; omega), r3, r4.upd u (fun _ _ hb => nb hb) (fun _ _ _ hb => nh hb)⟩, h.cb.upd u (nb h.cb),
    h.bs.upd u (Nat.le_trans h.hB h.bel.size) (fun ad _ hlt e => by have := hS _ e; have := h.hB; have := h.bel.size; omega), h.hB, h.bel.trans (u.below h.bel.size (fun j hj e => by have := hS _ e; have := h.bel.size; omega)), h.lt⟩
theorem SpS.put (h : SpS w b5 bb m c A B lb k V) {ll : Nat} {ob : Obj} (hll : w.heap.size ≤ ll) (ho : V.heap[ll]? = some ob) (hoc : ob.isCells = false) (o' : Obj) : SpS w b5 bb m c A B lb k (V.putObj ll o') := by
  have u := upd_putObj (S := (· = ll)) V ll o' rfl
  have hub := u.below (B := w.heap.size) h.bel.size (fun i hi e => by omega)
  obtain ⟨Al, cl, L, r1, r2, r3, r4⟩ := h.row
  exact ⟨h.h2.upd u (blk_ne_obj h.h2 ho hoc), h.h3.upd u (blk_ne_obj h.h3 ho hoc), ⟨Al, cl, L, r1.upd u (blk_ne_obj r1 ho hoc), own_put r2 ho hoc o', r3, fun j hj => ⟨(r4 j hj).1, (r4 j hj).2.1, own_put (r4 j hj).2.2 ho hoc o'⟩⟩, h.cb.upd u (blk_ne_obj h.cb ho hoc), h.bs.below (hub.mono h.hB), h.hB, h.bel.trans hub, h.lt⟩
theorem EnS.alloc {base : Nat} {x : It} (h : EnS base b5 lb k x V) (o : Obj) : EnS base b5 lb k x (V.alloc o) := by
  obtain ⟨h1, h2, h3, h4, h7, Al, cl, h5, h6⟩ := h
  exact ⟨h1, h2, own_upd h3 ((Upd.refl No V).alloc o) (fun _ _ => id), h4, by rw [World.size_alloc]; omega, Al, cl, h5.alloc o, h6⟩
theorem EnS.put {base : Nat} {x : It} (h : EnS base b5 lb k x V) {ll : Nat} {ob : Obj} (ho : V.heap[ll]? = some ob) (hoc : ob.isCells = false) (o' : Obj) : EnS base b5 lb k x (V.putObj ll o') := by
  obtain ⟨h1, h2, h3, h4, h7, Al, cl, h5, h6⟩ := h
  have u := upd_putObj (S := (· = ll)) V ll o' rfl
  exact ⟨h1, h2, own_put h3 ho hoc o', h4, Nat.le_trans h7 u.size, Al, cl, h5.upd u (blk_ne_obj h5 ho hoc), h6⟩
/-- What a chunk more makes of it. -/
theorem SpS.step {x : It} (h : SpS w b5 bb m c A B lb k V) (he : EnS w.heap.size b5 lb k x V) (hk : k ≤ 1099511627776) :
    ∃ Al cl A9 c9 w9, Blk V b5 24 #[.slice Al k cl] ∧ (Builtin.append_ #[24, 24] 24 #[.slice Al k cl, .slice (some ⟨V.heap.size, 0, none⟩) 1 1]).run Try.prog (V.alloc (.cells #[.string x.t, x.v] 57)) = .ok (.slice A9 (k + 1) c9) w9 ∧
      Blk w9 b5 24 #[.slice Al k cl] ∧ KeepsOthers V (w9.setCell ⟨b5, 0, none⟩ (.slice A9 (k + 1) c9)) ∧ KeepsLo x.lo V (w9.setCell ⟨b5, 0, none⟩ (.slice A9 (k + 1) c9)) ∧ SpS w b5 bb m c A B lb (k + 1) (w9.setCell ⟨b5, 0, none⟩ (.slice A9 (k + 1) c9)) := by
  have hV := h.bel.size
  obtain ⟨lt1, lt2⟩ := h.lt
  obtain ⟨Al, cl, L, r1, r2, r3, r4⟩ := h.row
  obtain ⟨e1, e2, e3, e4, _, Al', cl', e5, e6⟩ := he
  have e7 : (Value.slice Al' k cl') = .slice Al k cl := by
    have a1 : V.cell? ⟨b5, 0, none⟩ = some (.slice Al k cl) := r1.cell 0
    have a2 : V.cell? ⟨b5, 0, none⟩ = some (.slice Al' k cl') := e5.cell 0
    rw [a1] at a2
    injection a2 with a2
    exact a2.symm
  rw [e7] at e6
  have ua := (Upd.refl No V).alloc (.cells #[.string x.t, x.v] 57)
  have hnb := Blk.new V 57 #[.string x.t, x.v]
  have ra := own_upd r2 ua (fun _ _ => id)
  have ba := r1.alloc (.cells #[.string x.t, x.v] 57)
  have hsz : (V.alloc (.cells #[.string x.t, x.v] 57)).heap.size = V.heap.size + 1 := World.size_alloc _ _
  have koa : KeepsOthers V (V.alloc (.cells #[.string x.t, x.v] 57)) := KeepsOthers.alloc _ _
  have kla := KeepsLo.alloc x.lo V (.cells #[.string x.t, x.v] 57)
  have hia : Items w.heap.size lb (V.alloc (.cells #[.string x.t, x.v] 57)) L := r4.upd ua (fun _ _ _ => id) (fun _ _ _ _ => id)
  have e3a := own_upd e3 ua (fun _ _ => id)
  generalize V.alloc (.cells #[.string x.t, x.v] 57) = V1 at *
  obtain ⟨A9, c9, w9, hrun, o9, hg9, hw9⟩ := append_ck w.heap.size V1 (.slice Al k cl) k (ckVs L) ra (by omega) V.heap.size x.t x.A x.n x.c hnb hk 24
  have u9 : Upd (fun j => some j = (Value.slice Al k cl).ownBlock) V1 w9 := (Upd.of_grown hg9).mono (fun j _ e => e)
  have nb : ∀ {b t cs}, Blk V1 b t cs → t ≠ 57 → ¬ some b = (Value.slice Al k cl).ownBlock := fun hb ht e => own_blk_ne ra hb (fun e => ht e.symm) e.symm
  have nh : ∀ {b : Nat} {cs fz}, V1.heap[b]? = some (.cells cs 5 fz) → ¬ some b = (Value.slice Al k cl).ownBlock := fun {b cs fz} hb e => by
    rcases ra.2 with ⟨e', _⟩ | ⟨g', c, cur, e', _, a, _⟩
    · rw [e'] at e; cases e
    · have e1 : g' = b := by rw [e'] at e; simpa [Value.ownBlock] using e.symm
      subst e1
      rw [hb] at a
      injection a with a
      injection a with _ a
      exact absurd a (by decide)
  have b9 := ba.upd u9 (nb ba (by decide))
  have us := (Upd.refl (· = b5) w9).setCell (p := ⟨b5, 0, none⟩) (fun _ => rfl) (.slice A9 (k + 1) c9)
  have u01 : Upd (fun j => j < x.lo) V1 w9 := u9.mono (fun j _ e => e6 j e.symm)
  have hb1 : Below w.heap.size V1 w9 := u9.below (by omega) (fun j hj e => by have := (r2.lt j e.symm).1; omega)
  have hb2 : Below w.heap.size w9 (w9.setCell ⟨b5, 0, none⟩ (.slice A9 (k + 1) c9)) := us.below (by have := hb1.size; omega) (fun j hj e => by omega)
  have ne5 : ∀ {b : Nat} {cs fz}, w9.heap[b]? = some (.cells cs 5 fz) → ¬ b = b5 := fun {b cs fz} hb e => by
    subst e
    have := b9
    unfold Blk at this
    rw [hb] at this
    injection this with this
    injection this with _ this
    exact absurd this (by decide)
  have hu : ∀ {b t cs}, Blk V b t cs → t ≠ 57 → b ≠ b5 → Blk (w9.setCell ⟨b5, 0, none⟩ (.slice A9 (k + 1) c9)) b t cs := fun {b t cs} hb ht hne => (((hb.upd ua id).upd u9 (nb (hb.upd ua id) ht)).upd us hne)
  have own8 : ∀ {v : Value} {n : Nat} {xs : List Value}, V1.ownsRow w.heap.size 5 1 v n xs → (w9.setCell ⟨b5, 0, none⟩ (.slice A9 (k + 1) c9)).ownsRow w.heap.size 5 1 v n xs := fun {v n xs} ho => by
    have hk1 : ∀ g, v.ownBlock = some g → ¬ some g = (Value.slice Al k cl).ownBlock := fun g hg => by
      rcases ho.2 with ⟨e', _⟩ | ⟨g', c, cur, e', _, a, _⟩
      · rw [e'] at hg; cases hg
      · have e1 : g' = g := by rw [e'] at hg; simpa [Value.ownBlock] using hg
        subst e1
        exact nh a
    have h9 := own_upd ho u9 hk1
    refine own_upd h9 us (fun g hg => ?_)
    rcases h9.2 with ⟨e', _⟩ | ⟨g', c, cur, e', _, a, _⟩
    · rw [e'] at hg; cases hg
    · have e1 : g' = g := by rw [e'] at hg; simpa [Value.ownBlock] using hg
      subst e1
      exact ne5 a
  refine ⟨Al, cl, A9, c9, w9, r1, hrun, b9, koa.trans ((keeps_row ra hg9).trans (KeepsOthers.setCell _ _ _)), kla.trans ((KeepsLo.upd u01 (fun _ e => e)).trans (KeepsLo.upd us (fun _ e => by omega))), ?_⟩
  refine ⟨hu h.h2 (by decide) (by omega), hu h.h3 (by decide) (by omega), ⟨A9, c9, L ++ [x], by simpa using b9.set_ 0 (.slice A9 (k + 1) c9), ?_, by simp [r3], ?_⟩, hu h.cb (by decide) (by omega), ?_, h.hB, ?_, h.lt⟩
  · rw [ckVs_app]
    exact own_upd o9 us (fun j hj e => own_blk_ne o9 b9 (by decide) (by rw [hj, e]))
  · intro j hj
    rw [List.length_append] at hj
    by_cases hjk : j < L.length
    · rw [List.getElem_append_left hjk]
      obtain ⟨i1, i2, i3⟩ := hia j hjk
      exact ⟨i1, i2, own8 i3⟩
    · obtain rfl : j = L.length := by simp at hj; omega
      rw [List.getElem_append_right (Nat.le_refl _)]
      simp only [Nat.sub_self, List.getElem_cons_zero]
      rw [r3]
      exact ⟨e1, e2, own8 e3a⟩
  · exact ((h.bs.below (ua.fresh.mono (by have := h.hB; omega))).below (hb1.mono h.hB)).below (hb2.mono h.hB)
  · exact ((h.bel.trans (ua.fresh.mono hV)).trans hb1).trans hb2
end
end Go.Proofs.Ytaloieeemibblaa
