/- Contracts of the document's Align and Bytes (for later layers). -/
import Derived.Test.YthbdhpciibjnmaaRf
import Derived.Test.YthbdhpciibjnmaaU
import Derived.Deep.RegionHeld3
import Derived.WalkSpells
namespace Go.Proofs.Ythbdhpciibjnmaa
open Go.ChangeShapes Go.WideShapes Go.ChangeAt Go.RowKit

theorem refAlign_any (A : Option Addr) (n c : Nat) (high : Bool) (at_ : Nat) (w : World) (ha : at_ ≤ 8 * n) (hl : n ≤ 140737488355328) :
    Calls Try.prog 40 #[.agg #[.slice A n c, .bool high, .int .i64 (at_ : Int)]] w fun e w' => e = .returned (.agg #[.slice A n c, .bool high, .int .i64 (((at_ + 7) / 8 * 8 : Nat) : Int)]) ∧ Below w.heap.size w w' := by
  have e : (((at_ : Int) + 7) / 8 * 8) = (((at_ + 7) / 8 * 8 : Nat) : Int) := by omega
  have HE := Lib.hid e; clear e
  go_enter Try.func40, Try.ntmps40
  go_wp2_with fail
  rw [HE.out]
  go_returns
  exact ⟨rfl, by go_grown⟩
theorem refBytes_end (A : Option Addr) (m c : Nat) (high : Bool) (at_ : Nat) (n : Int) (w : World) (ha : at_ ≤ 8 * m) (hl : m ≤ 140737488355328) (h0 : 0 ≤ n) (hn : (m : Int) - ((at_ : Int) + 7) / 8 < n) :
    Calls Try.prog 41 #[.agg #[.slice A m c, .bool high, .int .i64 (at_ : Int)], .int .i64 n] w fun e w' => e = .returned (.tuple #[.agg #[.slice A m c, .bool high, .int .i64 (at_ : Int)], .slice none 0 0, .int .i64 5]) ∧ Below w.heap.size w w' := by
  have d1 : decide (n < 0) = false := by simp; omega
  have d3 : decide ((m : Int) - ((at_ : Int) + 7) / 8 < n) = true := by simp; omega
  go_enter Try.func41, Try.ntmps41
  go_wp2_with fail
  go_returns
  exact ⟨rfl, by go_grown⟩
theorem step_append_bs {P : Program} (w : World) {ops : Array Oper} {o : Oper} {a : Act} {K : Act → World → Prop} {Q : Exit → Act → World → Prop} {E : Prop} (hgd : o.guard = none) (s x : Operand) (t : TypeId)
    (ho : o.op = .call { callee := .builtin .append, args := #[s, x], argTypes := #[t, t] })
    (base : Nat) (e : TypeId) (i : TypeInfo) (ht : P.underlying t = some (.slice e)) (hi : P.info? e = some i) (hz : i.zero = some (.int .u8 0))
    (hsize : i.size = 1) (hby : i.bytes = 1) (v : Value) (n m : Nat) (xs : List Value) (hs : a.eval s = v) (hown : w.ownsRow base e 1 v n xs)
    (B : Nat) (A : Option Addr) (c : Nat) (l : List UInt8) (hm : l.length = m) (hx : a.eval x = .slice A m c) (hr : Bs w B A l) (h47 : n + m ≤ 140737488355328) (hbase : base ≤ w.heap.size)
    (h : ∀ A' c' w', w'.ownsRow base e 1 (.slice A' (n + m) c') (n + m) (xs ++ bytesV l) → w.grownBy w' v.ownBlock → K (a.put o.dst (.slice A' (n + m) c')) w') :
    if Region.wanted o (yielded ops a.tmps) = true then Oper.wp P o a w K Q else E := by
  have hw : Region.wanted o (yielded ops a.tmps) = true := by simp [Region.wanted, hgd]
  rw [if_pos hw]
  subst hm
  exact wp_append_bs w s x t ho base e i ht hi hz hsize hby v n xs hs hown B A c l hx hr h47 hbase fun A' c' w' h2 h3 _ => h A' c' w' h2 h3

theorem frz_alloc (w : World) (o : Obj) (a : Addr) (h : a.block < w.heap.size) : (w.alloc o).frozen? a = w.frozen? a := World.frozen?_of_block (Below.heap_alloc w o _ h)
theorem al_cell {W : World} {o : Obj} {b i : Nat} {v : Value} (h : b < W.heap.size) (hc : W.cell? ⟨b, i, none⟩ = some v) : (W.alloc o).cell? ⟨b, i, none⟩ = some v := (World.cell?_alloc_lt W o ⟨b, i, none⟩ h).trans hc
theorem al_frz {W : World} {o : Obj} {b i : Nat} {v : Bool} (h : b < W.heap.size) (hc : W.frozen? ⟨b, i, none⟩ = v) : (W.alloc o).frozen? ⟨b, i, none⟩ = v := (frz_alloc W o ⟨b, i, none⟩ h).trans hc
theorem kp_cell {W W' : World} {row : Option Nat} {b i : Nat} {v : Value} (hg : W.grownBy W' row) (hlt : b < W.heap.size) (hne : some b ≠ row) (h : W.cell? ⟨b, i, none⟩ = some v) : W'.cell? ⟨b, i, none⟩ = some v := (World.cell?_of_block (a := ⟨b, i, none⟩) (hg.block _ hlt hne)).trans h
theorem kp_frz {W W' : World} {row : Option Nat} {b i : Nat} {v : Bool} (hg : W.grownBy W' row) (hlt : b < W.heap.size) (hne : some b ≠ row) (h : W.frozen? ⟨b, i, none⟩ = v) : W'.frozen? ⟨b, i, none⟩ = v := (World.frozen?_of_block (a := ⟨b, i, none⟩) (hg.block _ hlt hne)).trans h
theorem set_same {W : World} {a : Addr} {v : Value} (h : W.cell? a = some v) (x : Value) : (W.setCell a x).cell? a = some x := by
  unfold World.cell? at h
  split at h
  · rename_i cs t fr hh
    split at h
    · cases h
    · rename_i hs
      have hlt := (Array.getElem?_eq_some_iff.mp h).1
      simp [World.setCell, World.cell?, Array.getElem?_modify, hh, hs, hlt]
  · cases h
theorem Bs.cast {w w' : World} {B : Nat} {A : Option Addr} {l : List UInt8} (h : Bs w B A l) (hh : w'.heap = w.heap) : Bs w' B A l := h.keep fun p _ => by unfold World.cell?; rw [hh]
def RefBytesRes (w : World) (A : Option Addr) (m c : Nat) (high : Bool) (at_ : Nat) (l : List UInt8) (n : Nat) (e : Ending) (w' : World) : Prop :=
  ∃ A' c', e = .returned (.tuple #[.agg #[.slice A m c, .bool high, .int .i64 (at_ : Int)], .slice A' n c', .int .i64 0]) ∧ w'.ownsRow w.heap.size 5 1 (.slice A' n c') n (bytesV l) ∧ Below w.heap.size w w'
set_option maxHeartbeats 2000000 in
set_option maxRecDepth 100000 in
theorem refBytes_ok (A : Option Addr) (c : Nat) (l : List UInt8) (high : Bool) (at_ n : Nat) (w : World) (h : Bs w w.heap.size A l) (hl : l.length ≤ 140737488355328) (hc : l.length ≤ c) (hcm : c ≤ maxLen) (hn : (at_ + 7) / 8 + n ≤ l.length) (ha : at_ ≤ 8 * l.length) :
    Calls Try.prog 41 #[.agg #[.slice A l.length c, .bool high, .int .i64 (at_ : Int)], .int .i64 (n : Int)] w (RefBytesRes w A l.length c high (8 * ((at_ + 7) / 8 + n)) ((l.drop ((at_ + 7) / 8)).take n) n) := by
  unfold maxLen at hcm
  obtain ⟨i0, hi, hz0, hz1, hz2⟩ := info_parts info_u8
  have d1 : decide ((n : Int) < 0) = false := by simp
  have d3 : decide ((l.length : Int) - ((at_ : Int) + 7) / 8 < (n : Int)) = false := by simp; omega
  have HA : Hid ((8 : Int) * (((at_ : Int) + 7) / 8 + n) = ((8 * ((at_ + 7) / 8 + n) : Nat) : Int)) := Lib.hid (by omega)
  go_enter Try.func41, Try.ntmps41
  go_wp2_with fail
  rw [HA.out]
  have hb0 := (Blk.new w 51 #[.slice A l.length c, .bool high, .int .i64 ((8 * ((at_ + 7) / 8 + n) : Nat) : Int)]).alloc (.cells #[.slice none 0 0, .bool false, .int .i64 0] 51)
  have hb1 := Blk.new (w.alloc (.cells #[.slice A l.length c, .bool high, .int .i64 ((8 * ((at_ + 7) / 8 + n) : Nat) : Int)] 51)) 51 #[.slice none 0 0, .bool false, .int .i64 0]
  have hs0 : ((w.alloc (.cells #[.slice A l.length c, .bool high, .int .i64 ((8 * ((at_ + 7) / 8 + n) : Nat) : Int)] 51)).alloc (.cells #[.slice none 0 0, .bool false, .int .i64 0] 51)).heap.size = w.heap.size + 2 := by simp
  have hB0 := (h.alloc (Nat.le_refl _) (.cells #[.slice A l.length c, .bool high, .int .i64 ((8 * ((at_ + 7) / 8 + n) : Nat) : Int)] 51)).alloc (by simp) (.cells #[.slice none 0 0, .bool false, .int .i64 0] 51)
  have hL0 : Below w.heap.size w ((w.alloc (.cells #[.slice A l.length c, .bool high, .int .i64 ((8 * ((at_ + 7) / 8 + n) : Nat) : Int)] 51)).alloc (.cells #[.slice none 0 0, .bool false, .int .i64 0] 51)) := ((Below.refl _ _).alloc (Nat.le_refl _) _).alloc (by simp) _
  generalize (w.alloc (.cells #[.slice A l.length c, .bool high, .int .i64 ((8 * ((at_ + 7) / 8 + n) : Nat) : Int)] 51)).alloc (.cells #[.slice none 0 0, .bool false, .int .i64 0] 51) = W0 at *
  rw [World.size_alloc] at hb1
  have HB0 := Lib.hid hB0
  have HS0 := Lib.hid hs0
  have HL0 := Lib.hid hL0
  have HBk := Lib.hid hb1
  have lH : w.heap.size < W0.heap.size := by omega
  have lH1 : w.heap.size + 1 < W0.heap.size := by omega
  have c0 : W0.cell? ⟨w.heap.size, 0, none⟩ = some (.slice A l.length c) := by rw [hb0.cell]; rfl
  have c1 : W0.cell? ⟨w.heap.size, 1, none⟩ = some (.bool high) := by rw [hb0.cell]; rfl
  have c2 : W0.cell? ⟨w.heap.size, 2, none⟩ = some (.int .i64 ((8 * ((at_ + 7) / 8 + n) : Nat) : Int)) := by rw [hb0.cell]; rfl
  have e0 : W0.cell? ⟨w.heap.size + 1, 0, none⟩ = some (.slice none 0 0) := by rw [hb1.cell]; rfl
  have e1 : W0.cell? ⟨w.heap.size + 1, 1, none⟩ = some (.bool false) := by rw [hb1.cell]; rfl
  have e2 : W0.cell? ⟨w.heap.size + 1, 2, none⟩ = some (.int .i64 0) := by rw [hb1.cell]; rfl
  have f0 := hb1.frozen 0
  have f1 := hb1.frozen 1
  have f2 := hb1.frozen 2
  clear hB0 hs0 hL0 hb0 hb1
  generalize hat2 : ((8 * ((at_ + 7) / 8 + n) : Nat) : Int) = at2 at *
  have hcut := HB0.out.cutN (k := (at_ + 7) / 8) (n := n) (cap := c) (by omega) hc
  have hlen : ((l.drop ((at_ + 7) / 8)).take n).length = n := by rw [List.length_take, List.length_drop]; omega
  have HC := Lib.hid hcut; clear hcut
  have HLn := Lib.hid hlen; clear hlen
  have HAt := Lib.hid hat2; clear hat2
  have hn0 : (0 : Int) ≤ ((at_ : Int) + 7) / 8 + n := by omega
  have hn1 : ((at_ : Int) + 7) / 8 + n ≤ (c : Int) := by omega
  have hn2 : (0 : Int) ≤ ((at_ : Int) + 7) / 8 := by omega
  have hn3 : ((at_ : Int) + 7) / 8 ≤ ((at_ : Int) + 7) / 8 + n := by omega
  have hn4 : (at_ + 7) / 8 + n ≤ c := by omega
  have hnn : 0 + n ≤ 140737488355328 := by omega
  have hm1 : w.heap.size ≤ (W0.alloc (.cells #[] 5)).heap.size := by simp; omega
  have hm2 : (0 : Nat) ≤ maxLen := by omega
  have hm3 : w.heap.size ≤ W0.heap.size := by omega
  have hw0 : w.heap.size < (W0.alloc (.cells #[] 5)).heap.size := by simp; omega
  have hw1 : w.heap.size + 1 < (W0.alloc (.cells #[] 5)).heap.size := by simp; omega
  have hx0 : some w.heap.size ≠ some W0.heap.size := by simp; omega
  have hx1 : some (w.heap.size + 1) ≠ some W0.heap.size := by simp; omega
  by_cases hck : c = (at_ + 7) / 8
  · have hB2 : Hid (Bs (W0.alloc (.cells #[] 5)) w.heap.size A ((l.drop ((at_ + 7) / 8)).take n)) := by
      have := HC.out; rw [if_pos hck] at this; exact Lib.hid (this.alloc hm3 _)
    have hz : n = 0 := by omega
    subst hz
    have q2 : (((at_ : Int) + 7) / 8).toNat = c := by omega
    have q4 : ((at_ : Int) + 7) / 8 ≤ (c : Int) := by omega
    have q1 : IntKind.i64.wrap (((at_ : Int) + 7) / 8) = ((at_ : Int) + 7) / 8 := IntWalk.i64_in _ (by omega)
    have HK := Lib.hid hck; clear hck hn0 hn1 hn3 hn4
    have g0 : (W0.alloc (.cells #[] 5)).drew.frozen? ⟨w.heap.size + 1, 0, none⟩ = false := al_frz lH1 f0
    have g1 : (W0.alloc (.cells #[] 5)).drew.frozen? ⟨w.heap.size + 1, 1, none⟩ = false := al_frz lH1 f1
    have g2 : (W0.alloc (.cells #[] 5)).drew.frozen? ⟨w.heap.size + 1, 2, none⟩ = false := al_frz lH1 f2
    go_region_held3 (fun w' => w'.cell? ⟨w.heap.size, 0, none⟩ = some (.slice A l.length c) ∧ w'.cell? ⟨w.heap.size, 1, none⟩ = some (.bool high) ∧ w'.cell? ⟨w.heap.size, 2, none⟩ = some (.int .i64 at2))
      (go_keep)
      ((refine step_append_bs _ (by rfl) (.tmp 29) (.tmp 36) _ (by rfl) w.heap.size 5 i0 Try.underlying22 hi hz0 hz1 hz2 (.slice (some ⟨W0.heap.size, 0, none⟩) 0 0) 0 0 [] (by rfl) (World.ownsRow_made W0 #[] 0 hm3 hm2 rfl) w.heap.size A 0 ((l.drop ((at_ + 7) / 8)).take 0) HLn.out (by rfl) (hB2.out.cast rfl) hnn hm1 ?_; intro A5 c5 w5 hown5 hgrow5; have k0 := kp_cell hgrow5 hw0 hx0 (al_cell lH c0); have k1 := kp_cell hgrow5 hw0 hx0 (al_cell lH c1); have k2 := kp_cell hgrow5 hw0 hx0 (al_cell lH c2); have k3 := kp_cell hgrow5 hw1 hx1 (al_cell lH1 e0); have k4 := kp_cell hgrow5 hw1 hx1 (al_cell lH1 e1); have k5 := kp_cell hgrow5 hw1 hx1 (al_cell lH1 e2); have k6 := kp_frz hgrow5 hw1 hx1 (al_frz lH1 f0); have k7 := kp_frz hgrow5 hw1 hx1 (al_frz lH1 f1); have k8 := kp_frz hgrow5 hw1 hx1 (al_frz lH1 f2)))
    go_wp2_with fail
    have m0 := ((World.cell?_setCell_other _ ⟨w.heap.size + 1, 2, none⟩ ⟨w.heap.size + 1, 0, none⟩ (.int .i64 at2) (by simp)).trans ((World.cell?_setCell_other _ ⟨w.heap.size + 1, 1, none⟩ ⟨w.heap.size + 1, 0, none⟩ (.bool high) (by simp)).trans (set_same k3 (.slice A l.length c))))
    have m1 := ((World.cell?_setCell_other _ ⟨w.heap.size + 1, 2, none⟩ ⟨w.heap.size + 1, 1, none⟩ (.int .i64 at2) (by simp)).trans (set_same ((World.cell?_setCell_other _ ⟨w.heap.size + 1, 0, none⟩ ⟨w.heap.size + 1, 1, none⟩ (.slice A l.length c) (by simp)).trans k4) (.bool high)))
    have m2 := set_same ((World.cell?_setCell_other _ ⟨w.heap.size + 1, 1, none⟩ ⟨w.heap.size + 1, 2, none⟩ (.bool high) (by simp)).trans ((World.cell?_setCell_other _ ⟨w.heap.size + 1, 0, none⟩ ⟨w.heap.size + 1, 2, none⟩ (.slice A l.length c) (by simp)).trans k5)) (.int .i64 at2)
    have hu5 : Upd (fun k => w.heap.size ≤ k) w5 (((w5.setCell ⟨w.heap.size + 1, 0, none⟩ (.slice A l.length c)).setCell ⟨w.heap.size + 1, 1, none⟩ (.bool high)).setCell ⟨w.heap.size + 1, 2, none⟩ (.int .i64 at2)) := (((Upd.refl (fun k => w.heap.size ≤ k) w5).setCell (p := ⟨w.heap.size + 1, 0, none⟩) (fun _ => by simp) _).setCell (p := ⟨w.heap.size + 1, 1, none⟩) (fun _ => by simp) _).setCell (p := ⟨w.heap.size + 1, 2, none⟩) (fun _ => by simp) _
    have ho5 : (((w5.setCell ⟨w.heap.size + 1, 0, none⟩ (.slice A l.length c)).setCell ⟨w.heap.size + 1, 1, none⟩ (.bool high)).setCell ⟨w.heap.size + 1, 2, none⟩ (.int .i64 at2)).ownsRow w.heap.size 5 1 (.slice A5 0 c5) 0 (bytesV ((l.drop ((at_ + 7) / 8)).take 0)) := by
      have hblk : Blk w5 (w.heap.size + 1) 51 #[.slice none 0 0, .bool false, .int .i64 0] := ((HBk.out.alloc (.cells #[] 5)).upd (Upd.refl No _).drew id).upd (Upd.of_grown hgrow5) (fun e => hx1 e)
      have hown6 : w5.ownsRow w.heap.size 5 1 (.slice A5 0 c5) 0 (bytesV ((l.drop ((at_ + 7) / 8)).take 0)) := by simpa using hown5
      exact own_upd hown6 ((((Upd.refl (fun k => k = w.heap.size + 1) w5).setCell (p := ⟨w.heap.size + 1, 0, none⟩) (fun _ => rfl) _).setCell (p := ⟨w.heap.size + 1, 1, none⟩) (fun _ => rfl) _).setCell (p := ⟨w.heap.size + 1, 2, none⟩) (fun _ => rfl) _) (fun k hk e => own_blk_ne hown6 hblk (by decide) (by subst e; exact hk))
    generalize (((w5.setCell ⟨w.heap.size + 1, 0, none⟩ (.slice A l.length c)).setCell ⟨w.heap.size + 1, 1, none⟩ (.bool high)).setCell ⟨w.heap.size + 1, 2, none⟩ (.int .i64 at2)) = W9 at *
    refine bodyPost_ret (v := .tuple #[.agg #[.slice A l.length c, .bool high, .int .i64 at2], .slice A5 0 c5, .int .i64 0]) (by simp [results, Try.results41, go_sem, m0, m1, m2]) rfl ?_
    refine ⟨A5, c5, by rw [HAt.out], ho5, ?_⟩
    have hb5 : Below w.heap.size (W0.alloc (.cells #[] 5)) w5 := (Below.refl _ _).drew.grown hgrow5 hm1 (by simp [Value.ownBlock]; omega)
    exact (((HL0.out.alloc hm3 _).trans hb5).trans (hu5.below (by have := hb5.size; omega) (fun k hk => by omega)))
  · have hB2 : Hid (Bs (W0.alloc (.cells #[] 5)) w.heap.size (A.map (·.add ((at_ + 7) / 8))) ((l.drop ((at_ + 7) / 8)).take n)) := by
      have := HC.out; rw [if_neg hck] at this; exact Lib.hid (this.alloc hm3 _)
    have q1 : IntKind.i64.wrap (((at_ : Int) + 7) / 8 + n) = ((at_ : Int) + 7) / 8 + n := IntWalk.i64_in _ (by omega)
    have q2 : (((at_ : Int) + 7) / 8 + n).toNat = (at_ + 7) / 8 + n := by omega
    have q3 : (((at_ : Int) + 7) / 8).toNat = (at_ + 7) / 8 := by omega
    have g0 : (W0.alloc (.cells #[] 5)).drew.frozen? ⟨w.heap.size + 1, 0, none⟩ = false := al_frz lH1 f0
    have g1 : (W0.alloc (.cells #[] 5)).drew.frozen? ⟨w.heap.size + 1, 1, none⟩ = false := al_frz lH1 f1
    have g2 : (W0.alloc (.cells #[] 5)).drew.frozen? ⟨w.heap.size + 1, 2, none⟩ = false := al_frz lH1 f2
    go_region_held3 (fun w' => w'.cell? ⟨w.heap.size, 0, none⟩ = some (.slice A l.length c) ∧ w'.cell? ⟨w.heap.size, 1, none⟩ = some (.bool high) ∧ w'.cell? ⟨w.heap.size, 2, none⟩ = some (.int .i64 at2))
      (go_keep)
      ((refine step_append_bs _ (by rfl) (.tmp 29) (.tmp 36) _ (by rfl) w.heap.size 5 i0 Try.underlying22 hi hz0 hz1 hz2 (.slice (some ⟨W0.heap.size, 0, none⟩) 0 0) 0 n [] (by rfl) (World.ownsRow_made W0 #[] 0 hm3 hm2 rfl) w.heap.size (A.map (·.add ((at_ + 7) / 8))) (c - (at_ + 7) / 8) ((l.drop ((at_ + 7) / 8)).take n) HLn.out (by rfl) (hB2.out.cast rfl) hnn hm1 ?_; intro A5 c5 w5 hown5 hgrow5; have k0 := kp_cell hgrow5 hw0 hx0 (al_cell lH c0); have k1 := kp_cell hgrow5 hw0 hx0 (al_cell lH c1); have k2 := kp_cell hgrow5 hw0 hx0 (al_cell lH c2); have k3 := kp_cell hgrow5 hw1 hx1 (al_cell lH1 e0); have k4 := kp_cell hgrow5 hw1 hx1 (al_cell lH1 e1); have k5 := kp_cell hgrow5 hw1 hx1 (al_cell lH1 e2); have k6 := kp_frz hgrow5 hw1 hx1 (al_frz lH1 f0); have k7 := kp_frz hgrow5 hw1 hx1 (al_frz lH1 f1); have k8 := kp_frz hgrow5 hw1 hx1 (al_frz lH1 f2)))
    go_wp2_with fail
    have m0 := ((World.cell?_setCell_other _ ⟨w.heap.size + 1, 2, none⟩ ⟨w.heap.size + 1, 0, none⟩ (.int .i64 at2) (by simp)).trans ((World.cell?_setCell_other _ ⟨w.heap.size + 1, 1, none⟩ ⟨w.heap.size + 1, 0, none⟩ (.bool high) (by simp)).trans (set_same k3 (.slice A l.length c))))
    have m1 := ((World.cell?_setCell_other _ ⟨w.heap.size + 1, 2, none⟩ ⟨w.heap.size + 1, 1, none⟩ (.int .i64 at2) (by simp)).trans (set_same ((World.cell?_setCell_other _ ⟨w.heap.size + 1, 0, none⟩ ⟨w.heap.size + 1, 1, none⟩ (.slice A l.length c) (by simp)).trans k4) (.bool high)))
    have m2 := set_same ((World.cell?_setCell_other _ ⟨w.heap.size + 1, 1, none⟩ ⟨w.heap.size + 1, 2, none⟩ (.bool high) (by simp)).trans ((World.cell?_setCell_other _ ⟨w.heap.size + 1, 0, none⟩ ⟨w.heap.size + 1, 2, none⟩ (.slice A l.length c) (by simp)).trans k5)) (.int .i64 at2)
    have hu5 : Upd (fun k => w.heap.size ≤ k) w5 (((w5.setCell ⟨w.heap.size + 1, 0, none⟩ (.slice A l.length c)).setCell ⟨w.heap.size + 1, 1, none⟩ (.bool high)).setCell ⟨w.heap.size + 1, 2, none⟩ (.int .i64 at2)) := (((Upd.refl (fun k => w.heap.size ≤ k) w5).setCell (p := ⟨w.heap.size + 1, 0, none⟩) (fun _ => by simp) _).setCell (p := ⟨w.heap.size + 1, 1, none⟩) (fun _ => by simp) _).setCell (p := ⟨w.heap.size + 1, 2, none⟩) (fun _ => by simp) _
    have ho5 : (((w5.setCell ⟨w.heap.size + 1, 0, none⟩ (.slice A l.length c)).setCell ⟨w.heap.size + 1, 1, none⟩ (.bool high)).setCell ⟨w.heap.size + 1, 2, none⟩ (.int .i64 at2)).ownsRow w.heap.size 5 1 (.slice A5 n c5) n (bytesV ((l.drop ((at_ + 7) / 8)).take n)) := by
      have hblk : Blk w5 (w.heap.size + 1) 51 #[.slice none 0 0, .bool false, .int .i64 0] := ((HBk.out.alloc (.cells #[] 5)).upd (Upd.refl No _).drew id).upd (Upd.of_grown hgrow5) (fun e => hx1 e)
      have hown6 : w5.ownsRow w.heap.size 5 1 (.slice A5 n c5) n (bytesV ((l.drop ((at_ + 7) / 8)).take n)) := by simpa using hown5
      exact own_upd hown6 ((((Upd.refl (fun k => k = w.heap.size + 1) w5).setCell (p := ⟨w.heap.size + 1, 0, none⟩) (fun _ => rfl) _).setCell (p := ⟨w.heap.size + 1, 1, none⟩) (fun _ => rfl) _).setCell (p := ⟨w.heap.size + 1, 2, none⟩) (fun _ => rfl) _) (fun k hk e => own_blk_ne hown6 hblk (by decide) (by subst e; exact hk))
    generalize (((w5.setCell ⟨w.heap.size + 1, 0, none⟩ (.slice A l.length c)).setCell ⟨w.heap.size + 1, 1, none⟩ (.bool high)).setCell ⟨w.heap.size + 1, 2, none⟩ (.int .i64 at2)) = W9 at *
    refine bodyPost_ret (v := .tuple #[.agg #[.slice A l.length c, .bool high, .int .i64 at2], .slice A5 n c5, .int .i64 0]) (by simp [results, Try.results41, go_sem, m0, m1, m2]) rfl ?_
    refine ⟨A5, c5, by rw [HAt.out], ho5, ?_⟩
    have hb5 : Below w.heap.size (W0.alloc (.cells #[] 5)) w5 := (Below.refl _ _).drew.grown hgrow5 hm1 (by simp [Value.ownBlock]; omega)
    exact (((HL0.out.alloc hm3 _).trans hb5).trans (hu5.below (by have := hb5.size; omega) (fun k hk => by omega)))
end Go.Proofs.Ythbdhpciibjnmaa
