/- The reader's write. -/
import Derived.Test.YthnfnfaiicfenaaZc
namespace Go.Proofs.Ythnfnfaiicfenaa
open Go.ChangeShapes Go.WideShapes Go.ChangeAt Go.RowKit

theorem Upk.setAhead {w : World} {N gu size : Nat} {high : Bool} {early : Nat} {most : Int} {Ao : Option Addr} {co : Nat} {out : List UInt8} {At : Option Addr} {ct : Nat} {tx : List (Nat × Nat)} {af an : Nat}
    (h : Upk w N gu size high early most Ao co out At ct tx af an) (f n : Nat) : Upk ((w.setCell ⟨gu, 6, none⟩ (.int .i64 (f : Int))).setCell ⟨gu, 7, none⟩ (.int .i64 (n : Int))) N gu size high early most Ao co out At ct tx f n ∧ Upd (US gu N) w ((w.setCell ⟨gu, 6, none⟩ (.int .i64 (f : Int))).setCell ⟨gu, 7, none⟩ (.int .i64 (n : Int))) := by
  have hs : Upd (· = gu) w ((w.setCell ⟨gu, 6, none⟩ (.int .i64 (f : Int))).setCell ⟨gu, 7, none⟩ (.int .i64 (n : Int))) := ((Upd.refl (· = gu) w).setCell (p := ⟨gu, 6, none⟩) (fun _ => rfl) _).setCell (p := ⟨gu, 7, none⟩) (fun _ => rfl) _
  refine ⟨⟨(h.blk.set_ 6 _).set_ 7 _, own_upd h.own hs (fun k hk e => ?_), own_upd h.tab hs (fun k hk e => ?_), h.lt, Nat.le_trans h.room hs.size⟩, hs.mono (fun k _ e => .inl e)⟩
  · subst e; exact own_blk_ne h.own h.blk (by decide) hk
  · subst e; exact own_blk_ne h.tab h.blk (by decide) hk
theorem belowStep2 {W w w' : World} {g : Nat} (h : Below g W w) (hg : g < W.heap.size) (k : Below w.heap.size w w') : Below g W w' := h.trans (k.mono (by have := h.size; omega))
/-- A text's block, whatever it holds. -/
def OpenM (w : World) (g : Nat) : Prop := ∃ a b, Blk w g 61 #[a, b]
theorem OpenM.step {w w' : World} {g : Nat} (h : OpenM w g) (hb : Below w.heap.size w w') : OpenM w' g := by
  obtain ⟨a, b, h⟩ := h
  exact ⟨a, b, h.upd (Upd.of_fresh hb) id⟩
/-- What write answers and leaves. -/
def Wrote (w : World) (N gu size : Nat) (high : Bool) (early : Nat) (most : Int) (k : Nat) (out : List UInt8) (tx : List (Nat × Nat)) (af an : Nat) (e : Ending) (w' : World) : Prop :=
  e = .returned (.int .i64 (k : Int)) ∧ (k = 0 → UpkO w' N gu size high early most out tx af an) ∧ Upd (US gu N) w w'
/-- A row that isn't empty: its address, its room. -/
theorem _root_.Go.World.ownsRow.rowAt {w : World} {base size : Nat} {e : TypeId} {A : Option Addr} {n c : Nat} {xs : List Value} (h : w.ownsRow base e size (.slice A n c) n xs) (hn : 0 < n) : ∃ g, A = some ⟨g, 0, none⟩ ∧ n ≤ c ∧ c ≤ maxLen ∧ base ≤ g ∧ g < w.heap.size := by
  have hc : n ≤ c ∧ c ≤ maxLen := by
    rcases h.2 with ⟨h1, rfl⟩ | ⟨g, cap, cur, h1, _, _, h2, h3, _⟩
    · omega
    · injection h1 with _ _ h; subst h; exact ⟨h2, h3⟩
  obtain ⟨g, cap, hv, h3, h4⟩ := h.form hn
  injection hv with hA _ _
  exact ⟨g, hA, hc.1, hc.2, h3, h4⟩
theorem growTx_len {size : Nat} {tx : List (Nat × Nat)} {af an : Nat} (hl : tx.length ≤ 4090) : (growTx size tx af an).length ≤ 4091 := by
  unfold growTx
  split
  · rw [List.length_append]; simp; omega
  · omega
/-- The same, by whether there is room for n bytes behind the first L. -/
def WroteIf (w : World) (N gu size : Nat) (high : Bool) (early : Nat) (most : Int) (L n : Nat) (out : List UInt8) (tx : List (Nat × Nat)) (e : Ending) (w' : World) : Prop :=
  if most < (L : Int) + n then Wrote w N gu size high early most 3 [] [] 0 0 e w' else Wrote w N gu size high early most 0 out tx L n e w'
theorem WroteIf.no {w : World} {N gu size : Nat} {high : Bool} {early : Nat} {most : Int} {L n : Nat} {out : List UInt8} {tx : List (Nat × Nat)} {e : Ending} {w' : World} (hm : most < (L : Int) + n) (h : Wrote w N gu size high early most 3 [] [] 0 0 e w') : WroteIf w N gu size high early most L n out tx e w' := by
  unfold WroteIf; rw [if_pos hm]; exact h
theorem WroteIf.ok {w : World} {N gu size : Nat} {high : Bool} {early : Nat} {most : Int} {L n : Nat} {out : List UInt8} {tx : List (Nat × Nat)} {e : Ending} {w' : World} (hm : ¬ most < (L : Int) + n) (h : Wrote w N gu size high early most 0 out tx L n e w') : WroteIf w N gu size high early most L n out tx e w' := by
  unfold WroteIf; rw [if_neg hm]; exact h
set_option maxHeartbeats 4000000 in
set_option maxRecDepth 100000 in
theorem write_no (w : World) (N gu size : Nat) (high : Bool) (early : Nat) (most : Int) (Ao : Option Addr) (co : Nat) (out : List UInt8) (At : Option Addr) (ct : Nat) (tx : List (Nat × Nat)) (af an : Nat) (h : Upk w N gu size high early most Ao co out At ct tx af an)
    (h1 : 2 ≤ size) (h2 : size ≤ 8) (hl : tx.length ≤ 4090) (han : an ≤ 140737488355328) (code : Nat) (hno : clr size + 2 + (growTx size tx af an).length ≤ code) :
    Calls Try.prog 41 #[.pointer (some ⟨gu, 0, none⟩), .int .i64 (code : Int)] w (Wrote w N gu size high early most 32 [] [] 0 0) := by
  have HG := Lib.hid (grow_any w N gu size high early most Ao co out At ct tx af an h h1 h2 (by omega) han)
  have hgl : (growTx size tx af an).length ≤ 4091 := growTx_len hl
  clear h
  generalize growTx size tx af an = tx2 at *
  go_enter Try.func41, Try.ntmps41
  go_wp2_with fail
  refine HG.out.mono ?_
  rintro e w1 ⟨rfl, ⟨A1, c1, T1, d1, hs1⟩, hu1⟩
  have HC := Lib.hid (codes_any w1 N gu size high early most A1 c1 out T1 d1 tx2 af an hs1 h1 h2 (by omega))
  have HU := Lib.hid hu1
  have g : decide (((clr size + 2 + tx2.length : Nat) : Int) ≤ (code : Int)) = true := by simp; omega
  clear hs1 hu1 HG
  go_wp2_with fail
  refine HC.out.mono ?_
  rintro e w2 ⟨rfl, hb2⟩
  go_wp2_with fail
  go_ret
  exact ⟨rfl, fun h => absurd h (by decide), HU.out.trans (Upd.fresh_ hb2)⟩
set_option maxHeartbeats 4000000 in
set_option maxRecDepth 100000 in
theorem write_one (w : World) (N gu size : Nat) (high : Bool) (early : Nat) (most : Int) (Ao : Option Addr) (co : Nat) (out : List UInt8) (At : Option Addr) (ct : Nat) (tx : List (Nat × Nat)) (af an : Nat) (h : Upk w N gu size high early most Ao co out At ct tx af an)
    (h1 : 2 ≤ size) (h2 : size ≤ 8) (hl : tx.length ≤ 4090) (han : an ≤ 140737488355328) (hol : out.length ≤ 140737488355000) (code : Nat) (hc : code < clr size) :
    Calls Try.prog 41 #[.pointer (some ⟨gu, 0, none⟩), .int .i64 (code : Int)] w
      (WroteIf w N gu size high early most out.length 1 (out ++ [UInt8.ofNat code]) (growTx size tx af an)) := by
  have HG := Lib.hid (grow_any w N gu size high early most Ao co out At ct tx af an h h1 h2 (by omega) han)
  have hgl : (growTx size tx af an).length ≤ 4091 := growTx_len hl
  have hcl := clr_le h1 h2
  obtain ⟨i0, hi, hz0, hz1, hz2⟩ := info_parts info_u8
  clear h
  generalize growTx size tx af an = tx2 at *
  go_enter Try.func41, Try.ntmps41
  go_wp2_with fail
  refine HG.out.mono ?_
  rintro e w1 ⟨rfl, ⟨A1, c1, T1, d1, hs1⟩, hu1⟩
  have HC := Lib.hid (codes_any w1 N gu size high early most A1 c1 out T1 d1 tx2 af an hs1 h1 h2 (by omega))
  have HU := Lib.hid hu1
  have HS1 := Lib.hid hs1
  have g : decide (((clr size + 2 + tx2.length : Nat) : Int) ≤ (code : Int)) = false := by simp; omega
  clear hs1 hu1 HG
  go_wp2_with fail
  refine HC.out.mono ?_
  rintro e w2 ⟨rfl, hb2⟩
  have HS2 := Lib.hid (HS1.out.fresh hb2)
  have HU2 := Lib.hid (HU.out.trans (Upd.fresh_ hb2))
  clear hb2 HC HS1 HU
  have g2 : decide (((clr size : Nat) : Int) + 2 ≤ (code : Int)) = false := by simp; omega
  have c0' := HS2.out.c0
  have c1' := HS2.out.c1
  have c2' := HS2.out.c2
  have hlt2 := HS2.out.blk.lt
  go_wp2_with fail
  refine (first_any size high early _ h1 h2).mono ?_
  rintro e w3 ⟨rfl, hb3⟩
  have HB3 := Lib.hid ((Blk.new w2 61 #[.int .i64 0, .int .i64 1]).upd (Upd.of_fresh hb3) id)
  have hb3' := ((Below.refl w2.heap.size w2).alloc (Nat.le_refl _) (.cells #[.int .i64 0, .int .i64 1] 61)).trans (hb3.mono (by simp))
  have HS3 := Lib.hid (HS2.out.fresh hb3')
  have HU3 := Lib.hid (HU2.out.trans (Upd.fresh_ hb3'))
  clear hb3 hb3' HS2 HU2 c0' c1' c2' hlt2
  generalize w2.heap.size = gm at *
  have c3' := HS3.out.c3
  have c4' := HS3.out.c4
  have m0 : w3.cell? ⟨gm, 0, none⟩ = some (.int .i64 0) := by rw [HB3.out.cell]; rfl
  have m1 : w3.cell? ⟨gm, 1, none⟩ = some (.int .i64 1) := by rw [HB3.out.cell]; rfl
  have s1 : IntKind.i64.wrap ((out.length : Int) + 1) = (out.length : Int) + 1 := IntWalk.i64_in _ (by omega)
  by_cases hm : most < (out.length : Int) + 1
  · have hd : decide (most < (out.length : Int) + 1) = true := by simp; omega
    have HM := Lib.hid hm
    clear hm
    go_wp2_with fail
    go_quiet (fail)
    go_wp2_with fail
    go_ret
    exact WroteIf.no (by have := HM.out; omega) ⟨rfl, fun h => absurd h (by decide), HU3.out.drewN nq⟩
  have hd : decide (most < (out.length : Int) + 1) = false := by simp; omega
  have HM := Lib.hid hm
  clear hm
  go_wp2_with fail
  go_quiet (fail)
  have HS4 := Lib.hid (HS3.out.drewN nq)
  have HU4 := Lib.hid (HU3.out.drewN nq)
  have HB4 : Hid (Blk (w3.drewN nq) gm 61 #[.int .i64 0, .int .i64 1]) := HB3
  clear c3' c4' m0 m1 s1 hd HS3 HU3 HB3
  generalize w3.drewN nq = w4 at *
  have c0' := HS4.out.c0
  have c1' := HS4.out.c1
  have c2' := HS4.out.c2
  go_wp2_with fail
  refine (clear_any size high early _ h1 h2).mono ?_
  rintro e w5 ⟨rfl, hb5⟩
  have HS5 := Lib.hid (HS4.out.fresh hb5)
  have HU5 := Lib.hid (HU4.out.trans (Upd.fresh_ hb5))
  have HB5 := Lib.hid (HB4.out.upd (Upd.of_fresh hb5) id)
  clear hb5 HS4 HU4 HB4 c0' c1' c2'
  have g3 : decide ((code : Int) < ((clr size : Nat) : Int)) = true := by simp; omega
  have c3' := HS5.out.c3
  have q1 : IntKind.u8.wrap (code : Int) = (code : Int) := by rw [IntKind.wrap_u8]; omega
  have HD := Lib.hid (HS5.out.fresh ((Below.refl _ _).alloc (Nat.le_refl _) (.cells #[.int .u8 (code : Int)] 5)))
  have HDU := Lib.hid (HU5.out.alloc (.cells #[.int .u8 (code : Int)] 5))
  have HDB := Lib.hid (HB5.out.alloc (.cells #[.int .u8 (code : Int)] 5))
  have hO := HD.out.own
  have hsz := HD.out.room
  have hcA := HD.out.c3
  have hlen : (out ++ [UInt8.ofNat code]).length = out.length + 1 := by simp
  have hby : bytesV (out ++ [UInt8.ofNat code]) = bytesV out ++ [.int .u8 (code : Int)] := by
    rw [bytesV_append]
    have : (UInt8.ofNat code).toNat = code := by rw [UInt8.toNat_ofNat']; omega
    simp [bytesV, bv]
    omega
  have HLEN := Lib.hid hlen
  have HBY := Lib.hid hby
  clear hlen hby
  go_wp2_with (at_builtin; refine wpList_append_vs (w5.alloc (.cells #[.int .u8 (code : Int)] 5)) rfl (.tmp 59) (.tmp 62) _ rfl N 5 i0 (.int .u8 0) 1 Try.underlying22 hi hz0 hz1 hz2 rfl (.slice A1 out.length c1) out.length (bytesV out) rfl hO (w5.heap.size + 1) (some ⟨w5.heap.size, 0, none⟩) 1 1 [.int .u8 (code : Int)] rfl rfl (vs_lit w5 5 [.int .u8 (code : Int)] (w5.heap.size + 1) (by simp)) (by simp [Value.oneCell']) (by unfold maxLen; omega) (by omega) hsz ?_; intro A6 c6 w6 o6 hg6 hat6; have hb6 := HD.out.blk.upd (Upd.of_grown hg6) (fun e => own_blk_ne HD.out.own HD.out.blk (by decide) e.symm); have hc6 : w6.cell? ⟨gu, 3, none⟩ = some (.slice A1 out.length c1) := (hb6.cell 3).trans rfl; have hf6 := hb6.frozen 3; have hk6 := HDB.out.upd (Upd.of_grown hg6) (fun e => own_blk_ne HD.out.own HDB.out (by decide) e.symm); have n1 : w6.cell? ⟨gm, 1, none⟩ = some (.int .i64 1) := (hk6.cell 1).trans rfl; have hne := Blk.ne_ hk6 hb6 (by decide); have c66 : w6.cell? ⟨gu, 6, none⟩ = some (.int .i64 (af : Int)) := (hb6.cell 6).trans rfl; have c67 : w6.cell? ⟨gu, 7, none⟩ = some (.int .i64 (an : Int)) := (hb6.cell 7).trans rfl; have f66 := hb6.frozen 6; have f67 := hb6.frozen 7)
  obtain ⟨hs7, hu7⟩ := HD.out.growOut (A2 := A6) (c2 := c6) (n := out.length + 1) (out2 := out ++ [UInt8.ofNat code]) HLEN.out (by rw [HBY.out]; exact o6) hg6
  obtain ⟨hs8, hu8⟩ := hs7.setAhead out.length 1
  go_ret
  exact WroteIf.ok (by have := HM.out; omega) ⟨rfl, fun _ => ⟨_, _, _, _, hs8⟩, HDU.out.trans (hu7.trans hu8)⟩
set_option maxHeartbeats 4000000 in
set_option maxRecDepth 100000 in
theorem write_met (w : World) (N gu size : Nat) (high : Bool) (early : Nat) (most : Int) (Ao : Option Addr) (co : Nat) (out : List UInt8) (At : Option Addr) (ct : Nat) (tx : List (Nat × Nat)) (af an : Nat) (h : Upk w N gu size high early most Ao co out At ct tx af an)
    (h1 : 2 ≤ size) (h2 : size ≤ 8) (hl : tx.length ≤ 4090) (han : an ≤ 140737488355328) (k f n : Nat) (hk : (growTx size tx af an)[k]? = some (f, n)) (hf : f < out.length) (hn : out.length + n ≤ 140737488355000) :
    Calls Try.prog 41 #[.pointer (some ⟨gu, 0, none⟩), .int .i64 ((clr size : Nat) + 2 + (k : Int))] w
      (WroteIf w N gu size high early most out.length n (againL out f n) (growTx size tx af an)) := by
  have HG := Lib.hid (grow_any w N gu size high early most Ao co out At ct tx af an h h1 h2 (by omega) han)
  have hgl : (growTx size tx af an).length ≤ 4091 := growTx_len hl
  have hcl := clr_le h1 h2
  clear h
  generalize growTx size tx af an = tx2 at *
  obtain ⟨hkl, hk⟩ := List.getElem?_eq_some_iff.mp hk
  have t0 := (txV_get tx2 k hkl).1
  have t1 := (txV_get tx2 k hkl).2
  rw [hk] at t0 t1
  have HT0 := Lib.hid t0
  have HT1 := Lib.hid t1
  clear t0 t1 hk
  go_enter Try.func41, Try.ntmps41
  go_wp2_with fail
  refine HG.out.mono ?_
  rintro e w1 ⟨rfl, ⟨A1, c1, T1, d1, hs1⟩, hu1⟩
  have HC := Lib.hid (codes_any w1 N gu size high early most A1 c1 out T1 d1 tx2 af an hs1 h1 h2 (by omega))
  have HU := Lib.hid hu1
  have HS1 := Lib.hid hs1
  have g : decide (((clr size + 2 + tx2.length : Nat) : Int) ≤ ((clr size : Nat) : Int) + 2 + (k : Int)) = false := by simp; omega
  clear hs1 hu1 HG
  go_wp2_with fail
  refine HC.out.mono ?_
  rintro e w2 ⟨rfl, hb2⟩
  have HS2 := Lib.hid (HS1.out.fresh hb2)
  have HU2 := Lib.hid (HU.out.trans (Upd.fresh_ hb2))
  clear hb2 HC HS1 HU
  have g2 : decide (((clr size : Nat) : Int) + 2 ≤ ((clr size : Nat) : Int) + 2 + (k : Int)) = true := by simp; omega
  have c0' := HS2.out.c0
  have c1' := HS2.out.c1
  have c2' := HS2.out.c2
  have hlt2 := HS2.out.blk.lt
  go_wp2_with fail
  refine (first_any size high early _ h1 h2).mono ?_
  rintro e w3 ⟨rfl, hb3⟩
  have HB3 := Lib.hid ((Blk.new w2 61 #[.int .i64 0, .int .i64 1]).upd (Upd.of_fresh hb3) id)
  have hb3' := ((Below.refl w2.heap.size w2).alloc (Nat.le_refl _) (.cells #[.int .i64 0, .int .i64 1] 61)).trans (hb3.mono (by simp))
  have HS3 := Lib.hid (HS2.out.fresh hb3')
  obtain ⟨gt, rfl, hrc, hrm, _, hgt⟩ := HS2.out.tab.rowAt (by omega)
  have HN : Hid (∀ w', Below w2.heap.size w3 w' → Upk w' N gu size high early most A1 c1 out (some ⟨gt, 0, none⟩) d1 tx2 af an ∧ Upd (US gu N) w w') := Lib.hid fun w' hb => ⟨HS2.out.fresh (hb3'.trans hb), HU2.out.trans (Upd.fresh_ (hb3'.trans hb))⟩
  clear hb3 hb3' HS2 HU2 c0' c1' c2'
  generalize w2.heap.size = gm at *
  have c0' := HS3.out.c0
  have c1' := HS3.out.c1
  have c2' := HS3.out.c2
  have c5' := HS3.out.c5
  have e0 := (HS3.out.tab.cellAt (k * 2) (by omega)).trans HT0.out
  have e1 := (HS3.out.tab.cellAt (k * 2 + 1) (by omega)).trans HT1.out
  clear HS3
  have hgm3 := HB3.out.lt
  have HO3 : Hid (OpenM w3 gm) := Lib.hid ⟨_, _, HB3.out⟩
  clear HB3
  have s1 : IntKind.i64.wrap (((clr size : Nat) : Int) + 2 + (k : Int) - (((clr size : Nat) : Int) + 2)) = (k : Int) := by
    rw [show ((clr size : Nat) : Int) + 2 + (k : Int) - (((clr size : Nat) : Int) + 2) = (k : Int) by omega]; exact IntWalk.i64_in _ (by omega)
  have hfull : Hid (∀ w', Below gm w3 w' → OpenM w' gm → (Below gm w3 w' ∧ OpenM w' gm ∧ w'.cell? ⟨gu, 0, none⟩ = some (.int .i64 (size : Int)) ∧ w'.cell? ⟨gu, 1, none⟩ = some (.bool high) ∧ w'.cell? ⟨gu, 2, none⟩ = some (.int .i64 (early : Int)) ∧ w'.cell? ⟨gu, 5, none⟩ = some (.slice (some ⟨gt, 0, none⟩) tx2.length d1) ∧ w'.cell? ⟨gt, k * 2, none⟩ = some (.int .i64 (f : Int)) ∧ w'.cell? ⟨gt, k * 2 + 1, none⟩ = some (.int .i64 (n : Int)))) :=
    Lib.hid fun w' hb hm => ⟨hb, hm, (hb.cell (p := ⟨gu, 0, none⟩) hlt2).trans c0', (hb.cell (p := ⟨gu, 1, none⟩) hlt2).trans c1', (hb.cell (p := ⟨gu, 2, none⟩) hlt2).trans c2', (hb.cell (p := ⟨gu, 5, none⟩) hlt2).trans c5', (hb.cell (p := ⟨gt, k * 2, none⟩) hgt).trans e0, (hb.cell (p := ⟨gt, k * 2 + 1, none⟩) hgt).trans e1⟩
  go_wp2_with fail
  go_region_held3 (fun w' => Below gm w3 w' ∧ OpenM w' gm ∧ w'.cell? ⟨gu, 0, none⟩ = some (.int .i64 (size : Int)) ∧ w'.cell? ⟨gu, 1, none⟩ = some (.bool high) ∧ w'.cell? ⟨gu, 2, none⟩ = some (.int .i64 (early : Int)) ∧ w'.cell? ⟨gu, 5, none⟩ = some (.slice (some ⟨gt, 0, none⟩) tx2.length d1) ∧ w'.cell? ⟨gt, k * 2, none⟩ = some (.int .i64 (f : Int)) ∧ w'.cell? ⟨gt, k * 2 + 1, none⟩ = some (.int .i64 (n : Int)))
    (first | exact hfull.out _ (Below.refl _ _) HO3.out | exact hfull.out _ (Below.drew (Below.refl _ _)) HO3.out | exact hfull.out _ (Below.drew (And.left (by assumption))) (And.left (And.right (by assumption))) | exact hfull.out _ hc6 ⟨_, _, hMB⟩ | exact hfull.out _ (((by assumption : Below gm w3 _).setCell (p := ⟨gm, 0, none⟩) (Nat.le_refl _) _).setCell (p := ⟨gm, 1, none⟩) (Nat.le_refl _) _) ⟨_, _, hM9⟩)
    ((go_at_call 48; refine (first_any size high early _ h1 h2).mono ?_; rintro e w6 ⟨rfl, hb6⟩; have hc6 := belowStep2 (And.left (by assumption)) hgm3 hb6; obtain ⟨va, vb, hMB⟩ := OpenM.step (And.left (And.right (by assumption))) hb6; have k0 : w6.cell? ⟨gm, 0, none⟩ = some va := (hMB.cell 0).trans rfl; have k1 : w6.cell? ⟨gm, 1, none⟩ = some vb := (hMB.cell 1).trans rfl; have k2 := hMB.frozen 0; have k3 := hMB.frozen 1; have hM9 : Blk ((w6.setCell ⟨gm, 0, none⟩ (.int .i64 (f : Int))).setCell ⟨gm, 1, none⟩ (.int .i64 (n : Int))) gm 61 #[.int .i64 (f : Int), .int .i64 (n : Int)] := (hMB.set_ 0 _).set_ 1 _))
  rename_i hH
  obtain ⟨hs9, hu9⟩ := HN.out _ hH.1
  have HS3 := Lib.hid hs9
  have HU3 := Lib.hid hu9
  have HB3 := Lib.hid hM9
  clear hH hs9 hu9 hM9 HN hfull HO3 c0' c1' c2' c5' e0 e1 k0 k1 k2 k3 hMB hc6 hb6
  generalize (w6.setCell ⟨gm, 0, none⟩ (.int .i64 (f : Int))).setCell ⟨gm, 1, none⟩ (.int .i64 (n : Int)) = w9 at *
  have c3' := HS3.out.c3
  have c4' := HS3.out.c4
  have m1 : w9.cell? ⟨gm, 1, none⟩ = some (.int .i64 (n : Int)) := by rw [HB3.out.cell]; rfl
  have s1 : IntKind.i64.wrap ((out.length : Int) + n) = (out.length : Int) + n := IntWalk.i64_in _ (by omega)
  by_cases hm : most < (out.length : Int) + n
  · have hd : decide (most < (out.length : Int) + n) = true := by simp; omega
    have HM := Lib.hid hm
    clear hm
    go_wp2_with fail
    go_quiet (fail)
    go_wp2_with fail
    go_ret
    exact WroteIf.no (by have := HM.out; omega) ⟨rfl, fun h => absurd h (by decide), HU3.out.drewN nq⟩
  have hd : decide (most < (out.length : Int) + n) = false := by simp; omega
  have HM := Lib.hid hm
  clear hm
  go_wp2_with fail
  go_quiet (fail)
  have HS4 := Lib.hid (HS3.out.drewN nq)
  have HU4 := Lib.hid (HU3.out.drewN nq)
  have HB4 : Hid (Blk (w9.drewN nq) gm 61 #[.int .i64 (f : Int), .int .i64 (n : Int)]) := HB3
  clear c3' c4' m1 s1 hd HS3 HU3 HB3
  generalize w9.drewN nq = w4 at *
  have c0' := HS4.out.c0
  have c1' := HS4.out.c1
  have c2' := HS4.out.c2
  have g3 : decide (((clr size : Nat) : Int) + 2 + (k : Int) < ((clr size : Nat) : Int)) = false := by simp; omega
  go_wp2_with fail
  refine (clear_any size high early _ h1 h2).mono ?_
  rintro e w5 ⟨rfl, hb5⟩
  have HS5 := Lib.hid (HS4.out.fresh hb5)
  have HU5 := Lib.hid (HU4.out.trans (Upd.fresh_ hb5))
  have HB5 := Lib.hid (HB4.out.upd (Upd.of_fresh hb5) id)
  clear hb5 HS4 HU4 HB4 c0' c1' c2'
  have m0 : w5.cell? ⟨gm, 0, none⟩ = some (.int .i64 (f : Int)) := by rw [HB5.out.cell]; rfl
  have m1 : w5.cell? ⟨gm, 1, none⟩ = some (.int .i64 (n : Int)) := by rw [HB5.out.cell]; rfl
  go_wp2_with fail
  refine (again_any w5 N gu size high early most A1 c1 out (some ⟨gt, 0, none⟩) d1 tx2 af an HS5.out f n hf hn).mono ?_
  rintro e w7 ⟨⟨rfl, ⟨A7, c7, T7, d7, hs7⟩, hu7⟩, ht7⟩
  have HS7 := Lib.hid hs7
  have HU7 := Lib.hid (HU5.out.trans hu7)
  have hB7 := ht7 gm _ HB5.out
  have m1 : w7.cell? ⟨gm, 1, none⟩ = some (.int .i64 (n : Int)) := by rw [hB7.cell]; rfl
  have c66 := HS7.out.c6
  have c67 := HS7.out.c7
  have f66 := HS7.out.blk.frozen 6
  have f67 := HS7.out.blk.frozen 7
  have hne := Blk.ne_ hB7 HS7.out.blk (by decide)
  clear hs7 hu7 ht7 hB7 HS5 HU5 HB5 m0
  obtain ⟨hs8, hu8⟩ := HS7.out.setAhead out.length n
  have HS8 := Lib.hid hs8
  have HU8 := Lib.hid (HU7.out.trans hu8)
  clear hs8 hu8 HS7 HU7
  go_wp2_with fail
  go_ret
  exact WroteIf.ok (by have := HM.out; omega) ⟨rfl, fun _ => ⟨_, _, _, _, HS8.out⟩, HU8.out⟩
end Go.Proofs.Ythnfnfaiicfenaa
