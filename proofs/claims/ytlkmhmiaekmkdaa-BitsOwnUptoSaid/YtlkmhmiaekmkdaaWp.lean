/- The document's put1: a bit more. -/
import Derived.Test.YtlkmhmiaekmkdaaWf
import Derived.Deep.CutBlock
namespace Go.Proofs.Ytlkmhmiaekmkdaa
open Go.ChangeShapes Go.WideShapes Go.ChangeAt Go.RowKit

/-- A writer as a value: its bytes in a row of its own, its bits. -/
def WVal (w : World) (base : Nat) (A : Option Addr) (c : Nat) (l : List UInt8) (high : Bool) (bs : List Bool) : Prop :=
  w.ownsRow base 5 1 (.slice A l.length c) l.length (bytesV l) ∧ Packed high bs l
def PutV (w : World) (base : Nat) (A : Option Addr) (high : Bool) (bs : List Bool) (e : Ending) (w' : World) : Prop :=
  ∃ A' c' l', e = .returned (.agg #[.bool high, .slice A' l'.length c', .int .i64 (bs.length : Int)]) ∧ WVal w' base A' c' l' high bs ∧ Upd (fun k => A.map (·.block) = some k) w w' ∧ OwnOr w A A'
def MidV (w : World) (base gB gT : Nat) (A : Option Addr) (high : Bool) (bs : List Bool) (wx : World) : Prop :=
  ∃ gd c1 l1, Blk wx gB 50 #[.bool high, .slice (some ⟨gd, 0, none⟩) l1.length c1, .int .i64 (bs.length : Int)] ∧ Blk wx gT 50 #[.bool false, .slice none 0 0, .int .i64 0] ∧
    wx.ownsRow base 5 1 (.slice (some ⟨gd, 0, none⟩) l1.length c1) l1.length (bytesV l1) ∧ l1.length = bs.length / 8 + 1 ∧ Holds high bs l1 ∧ Upd (fun k => A.map (·.block) = some k) w wx ∧ OwnOr w A (some ⟨gd, 0, none⟩)
/-- What put1's stores leave. -/
theorem put1_end {w wc : World} {base gd c1 gB gT : Nat} {A : Option Addr} {l1 : List UInt8} {high : Bool} {bs : List Bool} {b : Bool} {y : UInt8} {t0 t1 t2 : Value}
    (hB2 : Blk wc gB 50 #[.bool high, .slice (some ⟨gd, 0, none⟩) l1.length c1, .int .i64 (bs.length : Int)]) (hT2 : Blk wc gT 50 #[t0, t1, t2])
    (hown : wc.ownsRow base 5 1 (.slice (some ⟨gd, 0, none⟩) l1.length c1) l1.length (bytesV l1)) (hl : l1.length = bs.length / 8 + 1) (hU : Upd (fun k => A.map (·.block) = some k) w wc) (hO : OwnOr w A (some ⟨gd, 0, none⟩))
    (hHy : Holds high (bs ++ [b]) (l1.set (bs.length / 8) y)) (hgB : w.heap.size ≤ gB) (hgT : w.heap.size ≤ gT) (hBT : gB ≠ gT) (n : Int) :
    let W9 := ((((wc.setCell ⟨gd, bs.length / 8, none⟩ (.int .u8 (y.toNat : Int))).setCell ⟨gB, 2, none⟩ (.int .i64 n)).setCell ⟨gT, 0, none⟩ (.bool high)).setCell ⟨gT, 1, none⟩ (.slice (some ⟨gd, 0, none⟩) l1.length c1)).setCell ⟨gT, 2, none⟩ (.int .i64 n)
    W9.cell? ⟨gT, 0, none⟩ = some (.bool high) ∧ W9.cell? ⟨gT, 1, none⟩ = some (.slice (some ⟨gd, 0, none⟩) l1.length c1) ∧ W9.cell? ⟨gT, 2, none⟩ = some (.int .i64 n) ∧
      WVal W9 base (some ⟨gd, 0, none⟩) c1 (l1.set (bs.length / 8) y) high (bs ++ [b]) ∧ Upd (fun k => A.map (·.block) = some k) w W9 ∧ OwnOr w A (some ⟨gd, 0, none⟩) := by
  intro W9
  have hneB : gd ≠ gB := fun e => own_blk_ne hown hB2 (by decide) (by subst e; rfl)
  have hneT : gd ≠ gT := fun e => own_blk_ne hown hT2 (by decide) (by subst e; rfl)
  have u1 : Upd (· = gd) wc (wc.setCell ⟨gd, bs.length / 8, none⟩ (.int .u8 (y.toNat : Int))) := (Upd.refl (· = gd) wc).setCell (p := ⟨gd, bs.length / 8, none⟩) (fun _ => rfl) _
  have u2 : Upd (· = gB) (wc.setCell ⟨gd, bs.length / 8, none⟩ (.int .u8 (y.toNat : Int))) ((wc.setCell ⟨gd, bs.length / 8, none⟩ (.int .u8 (y.toNat : Int))).setCell ⟨gB, 2, none⟩ (.int .i64 n)) := (Upd.refl (· = gB) _).setCell (p := ⟨gB, 2, none⟩) (fun _ => rfl) _
  have hT3 := (hT2.upd u1 (fun e => hneT e.symm)).upd u2 (fun e => hBT e.symm)
  have hT9 : Blk W9 gT 50 #[.bool high, .slice (some ⟨gd, 0, none⟩) l1.length c1, .int .i64 n] := ((hT3.set_ 0 _).set_ 1 _).set_ 2 _
  have u3 : Upd (· = gT) ((wc.setCell ⟨gd, bs.length / 8, none⟩ (.int .u8 (y.toNat : Int))).setCell ⟨gB, 2, none⟩ (.int .i64 n)) W9 := (((Upd.refl (· = gT) _).setCell (p := ⟨gT, 0, none⟩) (fun _ => rfl) _).setCell (p := ⟨gT, 1, none⟩) (fun _ => rfl) _).setCell (p := ⟨gT, 2, none⟩) (fun _ => rfl) _
  have hs := hown.stored (bs.length / 8) (.int .u8 (y.toNat : Int))
  have e : bytesV (l1.set (bs.length / 8) y) = (bytesV l1).set (bs.length / 8) (.int .u8 (y.toNat : Int)) := by simp [bytesV, bv, List.map_set]
  have h1 : (wc.setCell ⟨gd, bs.length / 8, none⟩ (.int .u8 (y.toNat : Int))).ownsRow base 5 1 (.slice (some ⟨gd, 0, none⟩) (l1.set (bs.length / 8) y).length c1) (l1.set (bs.length / 8) y).length (bytesV (l1.set (bs.length / 8) y)) := by
    rw [List.length_set, e]; exact hs.1
  have h2 := own_upd (own_upd h1 u2 (fun k hk e => by subst e; rw [ownBlock_slice] at hk; injection hk with hk; exact hneB hk)) u3 (fun k hk e => by subst e; rw [ownBlock_slice] at hk; injection hk with hk; exact hneT hk)
  refine ⟨by rw [hT9.cell]; rfl, by rw [hT9.cell]; rfl, by rw [hT9.cell]; rfl, ⟨h2, by simp [hl]; omega, hHy⟩, ?_, hO⟩
  refine Upd.then (Upd.then (Upd.then hU u1 (fun i hi e => ?_)) u2 (fun i hi e => by omega)) u3 (fun i hi e => by omega)
  subst e
  rcases hO i rfl with h | h
  · exact h
  · omega
set_option maxHeartbeats 4000000 in
set_option maxRecDepth 100000 in
theorem put1_any (w : World) (base : Nat) (A : Option Addr) (c : Nat) (l : List UInt8) (high : Bool) (bs : List Bool) (b : Bool) (h : WVal w base A c l high bs) (hB : base ≤ w.heap.size) (hsz : bs.length ≤ 1125899906842000) :
    Calls Try.prog 43 #[.agg #[.bool high, .slice A l.length c, .int .i64 (bs.length : Int)], .int .u32 ((b.toNat : Nat) : Int)] w (PutV w base A high (bs ++ [b])) := by
  obtain ⟨i0, hi, hz0, hz1, hz2⟩ := info_parts info_u8
  obtain ⟨hown, hP⟩ := h
  have HP := Lib.hid hP; clear hP
  go_enter Try.func43, Try.ntmps43
  go_upto_if 9 with fail
  have hb0 := (Blk.new w 50 #[.bool high, .slice A l.length c, .int .i64 (bs.length : Int)]).alloc (.cells #[.bool false, .slice none 0 0, .int .i64 0] 50)
  have hb1 := Blk.new (w.alloc (.cells #[.bool high, .slice A l.length c, .int .i64 (bs.length : Int)] 50)) 50 #[.bool false, .slice none 0 0, .int .i64 0]
  rw [World.size_alloc] at hb1
  have hu0 : Upd No w ((w.alloc (.cells #[.bool high, .slice A l.length c, .int .i64 (bs.length : Int)] 50)).alloc (.cells #[.bool false, .slice none 0 0, .int .i64 0] 50)) := ((Upd.refl No w).alloc _).alloc _
  have hs0 : ((w.alloc (.cells #[.bool high, .slice A l.length c, .int .i64 (bs.length : Int)] 50)).alloc (.cells #[.bool false, .slice none 0 0, .int .i64 0] 50)).heap.size = w.heap.size + 2 := by simp
  have hown0 := own_upd hown hu0 (fun _ _ => id)
  generalize (w.alloc (.cells #[.bool high, .slice A l.length c, .int .i64 (bs.length : Int)] 50)).alloc (.cells #[.bool false, .slice none 0 0, .int .i64 0] 50) = W0 at *
  have hl := HP.out.1
  have hneB : (Value.slice A l.length c).ownBlock ≠ some w.heap.size := own_blk_ne hown0 hb0 (by decide)
  have hneT : (Value.slice A l.length c).ownBlock ≠ some (w.heap.size + 1) := own_blk_ne hown0 hb1 (by decide)
  go_cut [] (fun wx => MidV w base w.heap.size (w.heap.size + 1) A high bs wx)
  case first =>
    have hc1 : W0.cell? ⟨w.heap.size, 1, none⟩ = some (.slice A l.length c) := by rw [hb0.cell]; rfl
    have hf1 := hb0.frozen 1
    have HS0 := Lib.hid hs0; clear hs0
    have HLl := Lib.hid hl; clear hl
    go_wp2_with (at_builtin; refine wpList_append_lies _ rfl (.tmp 11) (.tmp 12) _ rfl base 5 i0 (.int .u8 0) 1 1 Try.underlying22 hi hz0 hz1 hz2 rfl (by decide) (.slice A l.length c) l.length (bytesV l) rfl (hown0.alloc _) ⟨W0.heap.size, 0, none⟩ 1 1 [.int .u8 0] rfl rfl (cell_one_new _ _ _) (by simp [Value.oneCell']) (by decide) (by have := HLl.out; unfold maxLen; omega) (by have := HLl.out; omega) (by have := HS0.out; simp; omega) (W0.heap.size + 1) (by simp) ?_; intro gd c2 w1 hown1 hg1 hat1 hlt1; have hB1 := (hb0.alloc (.cells #[.int .u8 0] 5)).upd (Upd.of_grown hg1) (fun e => hneB e.symm); have hT1 := (hb1.alloc (.cells #[.int .u8 0] 5)).upd (Upd.of_grown hg1) (fun e => hneT e.symm); have hf10 := hB1.frozen 1; have hc10 := (hB1.cell 1).trans rfl)
    · go_meet
      have ha : ((bs.length : Int) % 8 == 0) = true := by assumption
      have ha' : (bs.length : Int) % 8 = 0 := by simpa using ha
      have hl := HLl.out
      have hs0 := HS0.out
      have eL : (l ++ [(0 : UInt8)]).length = l.length + 1 := by simp
      have hown2 : w1.ownsRow base 5 1 (.slice (some ⟨gd, 0, none⟩) (l ++ [(0 : UInt8)]).length c2) (l ++ [(0 : UInt8)]).length (bytesV (l ++ [0])) := by
        rw [eL, bytesV_append]; exact hown1
      have hne2 := own_blk_ne hown2 hB1 (by decide)
      have huS : Upd (· = w.heap.size) w1 (w1.setCell ⟨w.heap.size, 1, none⟩ (.slice (some ⟨gd, 0, none⟩) (l.length + 1) c2)) := (Upd.refl (· = w.heap.size) w1).setCell (p := ⟨w.heap.size, 1, none⟩) (fun _ => rfl) _
      rw [ownBlock_slice] at hg1 hat1
      refine ⟨gd, c2, l ++ [0], by rw [eL]; exact hB1.set_ 1 _, hT1.upd huS (by simp), own_upd hown2 huS (fun k hk e => hne2 (by subst e; exact hk)), by rw [eL]; omega, holds_grow HP.out.2, ?_, ?_⟩
      · exact ((((hu0.mono (fun k _ h => h.elim)).alloc _).then (Upd.of_grown hg1) (fun i hi e => e.symm)).setCell (p := ⟨w.heap.size, 1, none⟩) (fun hlt => absurd hlt (by simp)) _)
      · intro k hk
        have hk' : gd = k := by simpa using hk
        subst hk'
        rcases hat1 with h | h
        · exact .inl h
        · exact .inr (by omega)
    · go_meet
      have ha : ((bs.length : Int) % 8 == 0) = false := by assumption
      have ha' : ¬ (bs.length : Int) % 8 = 0 := by simpa using ha
      have hl := HLl.out
      obtain ⟨gd, cap, hv, _, _⟩ := hown0.form (by omega)
      injection hv with h1 _ _
      subst h1
      exact ⟨gd, c, l, hb0, hb1, hown0, by omega, HP.out.2, hu0.mono (fun k _ h => h.elim), fun k hk => .inl hk⟩
  case rest =>
    clear hb0 hb1 hu0 hown0 hneB hneT hs0 hl hown
    obtain ⟨gd, c1, l1, hB2, hT2, hown2, hl1, hH, hU, hO⟩ := hcut
    have hq : bs.length / 8 < l1.length := by omega
    obtain ⟨y, hy, hHy⟩ := put1_byte high bs l1 b hH hq
    have hx := byte_lt l1[bs.length / 8]
    have d0 : wc.cell? ⟨w.heap.size, 0, none⟩ = some (.bool high) := by rw [hB2.cell]; rfl
    have d1 : wc.cell? ⟨w.heap.size, 1, none⟩ = some (.slice (some ⟨gd, 0, none⟩) l1.length c1) := by rw [hB2.cell]; rfl
    have d2 : wc.cell? ⟨w.heap.size, 2, none⟩ = some (.int .i64 (bs.length : Int)) := by rw [hB2.cell]; rfl
    have df := hB2.frozen 2
    have t0 : wc.cell? ⟨w.heap.size + 1, 0, none⟩ = some (.bool false) := by rw [hT2.cell]; rfl
    have t1 : wc.cell? ⟨w.heap.size + 1, 1, none⟩ = some (.slice none 0 0) := by rw [hT2.cell]; rfl
    have t2 : wc.cell? ⟨w.heap.size + 1, 2, none⟩ = some (.int .i64 0) := by rw [hT2.cell]; rfl
    have tf0 := hT2.frozen 0
    have tf1 := hT2.frozen 1
    have tf2 := hT2.frozen 2
    have hcd : wc.cell? ⟨gd, bs.length / 8, none⟩ = some (.int .u8 (l1[bs.length / 8].toNat : Int)) := by
      rw [hown2.cellAt _ (by omega)]; exact bytesV_get l1 _ hq
    have hfd := hown2.frozenAt (bs.length / 8)
    have hneB : gd ≠ w.heap.size := fun e => own_blk_ne hown2 hB2 (by decide) (by subst e; rfl)
    have hneT : gd ≠ w.heap.size + 1 := fun e => own_blk_ne hown2 hT2 (by decide) (by subst e; rfl)
    have hi1 : (bs.length : Int) / 8 < (l1.length : Int) := by omega
    have hb2 : ((b.toNat : Nat) : Int) ≤ 1 := by cases b <;> simp
    have HY := Lib.hid hy; clear hy
    have HB2 := Lib.hid hB2; clear hB2
    have HT2 := Lib.hid hT2; clear hT2
    have HO2 := Lib.hid hown2; clear hown2
    have HL1 := Lib.hid hl1; clear hl1
    clear hH
    cases high
    · go_wp2_with fail
      have E : ((l1[bs.length / 8].toNat : Int) + ((b.toNat : Nat) : Int) * 2 ^ (bs.length % 8)) % 256 = (y.toNat : Int) := by
        have h1 := HY.out
        rw [show pos false (bs.length % 8) = (bs.length % 8) from rfl] at h1
        have h2 := byte_lt y
        have h3 : ((b.toNat : Nat) : Int) * 2 ^ (bs.length % 8) = ((b.toNat * 2 ^ (bs.length % 8) : Nat) : Int) := by simp
        rw [h3]
        omega
      rw [E]
      obtain ⟨m0, m1, m2, hV, hU9, hO9⟩ := put1_end HB2.out HT2.out HO2.out HL1.out hU hO hHy (Nat.le_refl _) (Nat.le_succ _) (by omega) ((bs.length : Int) + 1)
      generalize ((((wc.setCell ⟨gd, bs.length / 8, none⟩ (.int .u8 (y.toNat : Int))).setCell ⟨w.heap.size, 2, none⟩ (.int .i64 ((bs.length : Int) + 1))).setCell ⟨w.heap.size + 1, 0, none⟩ (.bool false)).setCell ⟨w.heap.size + 1, 1, none⟩ (.slice (some ⟨gd, 0, none⟩) l1.length c1)).setCell ⟨w.heap.size + 1, 2, none⟩ (.int .i64 ((bs.length : Int) + 1)) = W9 at *
      refine bodyPost_ret (v := .agg #[.bool false, .slice (some ⟨gd, 0, none⟩) l1.length c1, .int .i64 ((bs.length : Int) + 1)]) (by simp [results, Try.results43, go_sem, m0, m1, m2]) rfl ?_
      exact ⟨some ⟨gd, 0, none⟩, c1, l1.set (bs.length / 8) y, by simp, hV, hU9, hO9⟩
    · go_wp2_with fail
      have E : ((l1[bs.length / 8].toNat : Int) + ((b.toNat : Nat) : Int) * 2 ^ (7 - bs.length % 8)) % 256 = (y.toNat : Int) := by
        have h1 := HY.out
        rw [show pos true (bs.length % 8) = (7 - bs.length % 8) from rfl] at h1
        have h2 := byte_lt y
        have h3 : ((b.toNat : Nat) : Int) * 2 ^ (7 - bs.length % 8) = ((b.toNat * 2 ^ (7 - bs.length % 8) : Nat) : Int) := by simp
        rw [h3]
        omega
      rw [E]
      obtain ⟨m0, m1, m2, hV, hU9, hO9⟩ := put1_end HB2.out HT2.out HO2.out HL1.out hU hO hHy (Nat.le_refl _) (Nat.le_succ _) (by omega) ((bs.length : Int) + 1)
      generalize ((((wc.setCell ⟨gd, bs.length / 8, none⟩ (.int .u8 (y.toNat : Int))).setCell ⟨w.heap.size, 2, none⟩ (.int .i64 ((bs.length : Int) + 1))).setCell ⟨w.heap.size + 1, 0, none⟩ (.bool true)).setCell ⟨w.heap.size + 1, 1, none⟩ (.slice (some ⟨gd, 0, none⟩) l1.length c1)).setCell ⟨w.heap.size + 1, 2, none⟩ (.int .i64 ((bs.length : Int) + 1)) = W9 at *
      refine bodyPost_ret (v := .agg #[.bool true, .slice (some ⟨gd, 0, none⟩) l1.length c1, .int .i64 ((bs.length : Int) + 1)]) (by simp [results, Try.results43, go_sem, m0, m1, m2]) rfl ?_
      exact ⟨some ⟨gd, 0, none⟩, c1, l1.set (bs.length / 8) y, by simp, hV, hU9, hO9⟩
end Go.Proofs.Ytlkmhmiaekmkdaa
