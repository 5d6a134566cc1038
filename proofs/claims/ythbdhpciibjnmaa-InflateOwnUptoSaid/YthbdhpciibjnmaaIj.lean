/- Contract of the stream's row: the lengths of both codes, as one row. -/
import Derived.Test.YthbdhpciibjnmaaIi
import Derived.Test.YthbdhpciibjnmaaIn
import Derived.Deep.LoopGhost
namespace Go.Proofs.Ythbdhpciibjnmaa
open Go.ChangeShapes Go.WideShapes Go.ChangeAt Go.RowKit

def RowR (w : World) (B gs gr : Nat) (A : Option Addr) (c : Nat) (b : List UInt8) (most : Nat) (Ao : Option Addr) (co : Nat) (out : List UInt8) (fx : Option Addr) (x : Except Nat (Nat × List Int)) (e : Ending) (w' : World) : Prop :=
  match x with
  | .error k => e = gaveUp k ∧ Left w B w'
  | .ok (q, l) => ∃ Ar cr n, e = .returned (.slice Ar n cr) ∧ w'.ownsRow w.heap.size 3 1 (.slice Ar n cr) n (intsV l) ∧ Str w' B gs gr A c b most q Ao co out fx ∧ Left w B w'
/-- The row so far. -/
def RwAt (w : World) (Ar : Option Addr) (n cr : Nat) (row : List Int) (wr : World) : Prop := wr.ownsRow w.heap.size 3 1 (.slice Ar n cr) n (intsV row)
section
variable {w wr w' : World} {B gs gr : Nat} {A : Option Addr} {c : Nat} {b : List UInt8} {most p : Nat} {Ao : Option Addr} {co : Nat} {out : List UInt8} {fx : Option Addr}
/-- A row of numbers that came to be within the call grows. -/
theorem Str.rowGrow (h : Str wr B gs gr A c b most p Ao co out fx) {base : Nat} {v : Value} {n : Nat} {xs : List Value} (hO : wr.ownsRow base 3 1 v n xs) (hfx : FixAt w' B fx) (hu : Upd (fun k => some k = v.ownBlock) wr w') : Str w' B gs gr A c b most p Ao co out fx := by
  rcases hO.2 with ⟨rfl, _⟩ | ⟨g, cap, cur, rfl, _, h4, _⟩
  · have hu2 : Upd No wr w' := hu.mono (fun k _ e => by cases e)
    exact h.fresh hu2.fresh
  · exact h.other h4 (by decide) (by decide) (by decide) hfx (hu.mono (fun k _ e => by injection e))
theorem Left.grow {n : Nat} {v : Value} {xs : List Value} (h : Left w B wr) (hB : B ≤ w.heap.size) (hO : wr.ownsRow w.heap.size 3 1 v n xs) (hu : Upd (fun k => some k = v.ownBlock) wr w') : Left w B w' := by
  refine ⟨h.1.trans (hu.below (Nat.le_trans hB h.1.size) (fun k hk e => ?_)), fun k cs t hb ht => (h.2 k cs t hb ht).upd hu (fun e => ?_)⟩
  · have := (hO.lt k e.symm).1; omega
  · have := (hO.lt k e.symm).1; have := hb.lt; omega
end
set_option maxHeartbeats 8000000 in
set_option maxRecDepth 100000 in
theorem row_any (w : World) (B gs gr : Nat) (A : Option Addr) (c : Nat) (b : List UInt8) (most p : Nat) (Ao : Option Addr) (co : Nat) (out : List UInt8) (fx : Option Addr) (h : Str w B gs gr A c b most p Ao co out fx)
    (bd gd : Nat) (lc : List Int) (hD : DecAt w bd gd lc) (hg : lc.any badLen = false) (hlc : lc.length = 19) (hro : 0 ≤ roomOf lc) (n : Nat) (hn : n ≤ 400) :
    Calls Try.prog 63 #[.pointer (some ⟨gs, 0, none⟩), .pointer (some ⟨gd, 0, none⟩), .int .i64 (n : Int)] w (RowR w B gs gr A c b most Ao co out fx (rowM b lc n p [])) := by
  obtain ⟨i0, hi, hz0, hz1, hz2⟩ := info_parts info_int
  obtain ⟨X, HX⟩ : ∃ X, Hid (rowM b lc n p [] = X) := ⟨_, Lib.hid rfl⟩
  rw [HX.out]
  have HH := Lib.hid h
  have HD := Lib.hid hD
  have HG := Lib.hid hg
  have HRO := Lib.hid hro
  have HLC := Lib.hid hlc
  have hpp := h.rdr.2.2.2.1
  clear h hD hg hro hlc
  go_enter Try.func63, Try.ntmps63
  go_wp2_with (at_make; refine wpList_make_own _ rfl (.const (.int .i64 0)) (.tmp 10) 36 rfl w.heap.size 3 i0 (.int .i64 0) 1 Try.underlying36 hi hz0 hz1 .i64 .i64 _ n rfl rfl rfl (by rw [hz2]; omega) (by unfold maxLen; omega) (Nat.le_refl _) ?_; intro w1 hown1 hg1; have hb1 := (Below.refl w.heap.size w).grown hg1 (Nat.le_refl _) (by simp); have HS1 := Lib.hid (HH.out.fresh hb1); have HL1 := Lib.hid (Left.fresh hb1 HH.out.size); have HO1 := Lib.hid hown1; clear hown1 hg1 hb1)
  go_loopg [7] (8 * b.length - p) (fun gk v wr => ∃ (q m cr : Nat) (Ar : Option Addr) (row : List Int), gk = 8 * b.length - q ∧ q ≤ 8 * b.length ∧ m ≤ n ∧ v = .slice Ar m cr ∧ Hid (wr.ownsRow w.heap.size 3 1 (.slice Ar m cr) m (intsV row)) ∧ Hid (∀ x ∈ row, 0 ≤ x ∧ x ≤ 15) ∧ Hid (Str wr B gs gr A c b most q Ao co out fx) ∧ Hid (Left w B wr) ∧ Hid (rowM b lc n q row = X))
  case atStart => exact ⟨p, 0, n, _, [], rfl, hpp, by omega, rfl, HO1, Lib.hid (by simp), HS1, HL1, HX⟩
  case round =>
    obtain ⟨q, m, cr, Ar, row, rfl, hq, hm, rfl, HO, HR15, HS, HL, HXq⟩ := hrel
    have hrl := own_len HO.out
    rw [intsV_length] at hrl
    have HRL := Lib.hid hrl
    by_cases hlt : m < n
    · have hx1 := HXq.out
      rw [rowM_next hq (by omega)] at hx1
      have HN := Lib.hid (next_num wr B gs gr A c b most q Ao co out fx HS.out bd gd lc (HL.out.2.dec (by decide) (by decide) HD.out) HG.out (by rw [HLC.out]; omega) HRO.out)
      rcases hx : nextM b lc q with ke | ⟨v, q2⟩
      · rw [hx] at HN hx1
        have HXE : Hid (X = .error ke) := Lib.hid hx1.symm
        clear hx hx1 hrl
        go_wp2_with fail
        refine HN.out.mono ?_
        rintro e w3 ⟨rfl, hl⟩
        refine ⟨rfl, ?_⟩
        rw [HXE.out]
        exact ⟨rfl, HL.out.trans hl⟩
      · rw [hx] at HN hx1
        dsimp only at hx1
        obtain ⟨hv19, hq2, hq2l⟩ := nextM_ok hx
        rw [HLC.out] at hv19
        clear hx
        rcases hy : runM b v row q2 with ke | ⟨⟨z, t⟩, q3⟩
        · rw [hy] at hx1
          have HXE : Hid (X = .error ke) := Lib.hid hx1.symm
          have HYE := Lib.hid hy
          clear hy hx1 hrl
          go_wp2_with fail
          refine HN.out.mono ?_
          rintro e w3 ⟨rfl, hs3, hl3⟩
          have HRU := Lib.hid (run_any w3 B gs gr A c b most q2 Ao co out fx hs3 v hv19 Ar cr m _ row (hl3.2.own (by decide) HO.out) (by omega))
          rw [HYE.out] at HRU
          have HL3 := Lib.hid (HL.out.trans hl3)
          clear hs3 hl3
          go_wp2_with fail
          refine HRU.out.mono ?_
          rintro e w4 ⟨rfl, hl⟩
          refine ⟨rfl, ?_⟩
          rw [HXE.out]
          exact ⟨rfl, HL3.out.trans hl⟩
        · rw [hy] at hx1
          dsimp only at hx1
          obtain ⟨hq3, hq3l, ht1, ht2⟩ := runM_ok hy hq2l
          obtain ⟨hz0', hz15⟩ := runM_len hy hv19 HR15.out
          have HYE := Lib.hid hy
          rw [hrl] at hx1
          clear hy hrl
          go_wp2_with fail
          refine HN.out.mono ?_
          rintro e w3 ⟨rfl, hs3, hl3⟩
          have HRU := Lib.hid (run_any w3 B gs gr A c b most q2 Ao co out fx hs3 v hv19 Ar cr m _ row (hl3.2.own (by decide) HO.out) (by omega))
          rw [HYE.out] at HRU
          have HL3 := Lib.hid (HL.out.trans hl3)
          have HO3 := Lib.hid (hl3.2.own (by decide) HO.out)
          clear hs3 hl3 HN
          by_cases hk : n - m < t
          · rw [if_pos hk] at hx1
            have HXE : Hid (X = .error 41) := Lib.hid hx1.symm
            clear hx1
            have d1 : decide ((n : Int) - (m : Int) < (t : Int)) = true := by simp; omega
            go_wp2_with fail
            refine HRU.out.mono ?_
            rintro e w4 ⟨rfl, hs4, hl4⟩
            have HL4 := Lib.hid (HL3.out.trans hl4)
            clear hs4 hl4
            go_wp2_with fail
            refine ⟨rfl, ?_⟩
            rw [HXE.out]
            exact ⟨rfl, HL4.out⟩
          · rw [if_neg hk] at hx1
            have HXN := Lib.hid hx1
            clear hx1
            have d1 : decide ((n : Int) - (m : Int) < (t : Int)) = false := by simp; omega
            go_wp2_with fail
            refine HRU.out.mono ?_
            rintro e w4 ⟨rfl, hs4, hl4⟩
            have HL4 := Lib.hid (HL3.out.trans hl4)
            have HO4 := Lib.hid (hl4.2.own (by decide) HO3.out)
            have HS4 := Lib.hid hs4
            clear hs4 hl4 HRU HO3 HL3
            go_wp2_with fail
            go_loopw [7, 33] (fun v i wx => ∃ (j m2 cx : Nat) (Ax : Option Addr), j ≤ t ∧ i = .int .i64 (j : Int) ∧ m2 = m + j ∧ v = .slice Ax m2 cx ∧ Hid (wx.ownsRow w.heap.size 3 1 (.slice Ax m2 cx) m2 (intsV (row ++ List.replicate j z))) ∧ Hid (Str wx B gs gr A c b most q3 Ao co out fx) ∧ Hid (Left w B wx)) (fun _ i _ => t - (intOf i).toNat)
            case atStart => exact ⟨0, m, cr, Ar, by omega, rfl, rfl, rfl, Lib.hid (by rw [List.replicate_zero, List.append_nil]; exact HO4.out), HS4, HL4⟩
            case round =>
              obtain ⟨j, m2, cx, Ax, hj, rfl, hm2, rfl, HOx, HSx, HLx⟩ := hrel
              have HM2 := Lib.hid hm2
              by_cases hjt : j < t
              · have hOx := HOx.out
                have hszx := HLx.out.1.size
                have hm2b : m2 + 1 ≤ 1000 := by omega
                have hszw : w.heap.size ≤ wr.heap.size := by
                  obtain ⟨g, cap, cur, hh⟩ := (show ∃ g cap cur, True from ⟨0, 0, 0, trivial⟩)
                  exact hszx
                clear hm2
                go_wp2_with (at_builtin; refine wpList_append_vs _ rfl (.tmp 35) (.tmp 37) _ rfl w.heap.size 3 i0 (.int .i64 0) 8 Try.underlying36 hi hz0 hz1 hz2 rfl (.slice Ax m2 cx) m2 (intsV (row ++ List.replicate j z)) rfl (hOx.alloc _) (wr.heap.size + 1) (some ⟨wr.heap.size, 0, none⟩) 1 1 [.int .i64 z] rfl rfl (vs_lit1 wr 3 _) (by simp [Value.oneCell']) (by unfold maxLen; omega) (by omega) (by simp; omega) ?_; intro A9 c9 w9 o9 hg9 _)
                have hu9 : Upd (fun k => some k = (Value.slice Ax m2 cx).ownBlock) wr w9 := ((Upd.refl _ wr).alloc _).trans (Upd.of_grown hg9)
                have hl9 := HLx.out.grow HH.out.size hOx hu9
                have HS9 := Lib.hid (HSx.out.rowGrow hOx (HH.out.fix.keep hl9.2) hu9)
                have HL9 := Lib.hid hl9
                have HO9 : Hid (w9.ownsRow w.heap.size 3 1 (.slice A9 (m2 + 1) c9) (m2 + 1) (intsV (row ++ List.replicate (j + 1) z))) := Lib.hid (by
                  rw [List.replicate_succ', ← List.append_assoc, intsV_append]
                  exact o9)
                clear hu9 hl9 o9 hg9 hOx
                go_wp2_with fail
                go_roundw
                case rel => exact ⟨j + 1, m2 + 1, c9, A9, by omega, by go_num, by have := HM2.out; omega, rfl, HO9, HS9, HL9⟩
                case measure => simp [intOf]; omega
              · obtain rfl : j = t := by omega
                have HR2 : Hid (∀ x ∈ row ++ List.replicate j z, 0 ≤ x ∧ x ≤ 15) := Lib.hid (fun x hx => by
                  rcases List.mem_append.mp hx with h1 | h1
                  · exact HR15.out x h1
                  · obtain rfl := (List.mem_replicate.mp h1).2
                    exact ⟨hz0', hz15⟩)
                have hm2n : m2 ≤ n := by omega
                clear hm2
                go_wp2_with fail
                go_roundg (8 * b.length - q3)
                case measure => omega
                case rel => exact ⟨q3, m2, cx, Ax, _, rfl, hq3l, hm2n, rfl, HOx, HR2, HSx, HLx, HXN⟩
    · obtain rfl : m = n := by omega
      have hx1 := HXq.out
      rw [rowM_end hq (by omega)] at hx1
      have HXE : Hid (X = .ok (q, row)) := Lib.hid hx1.symm
      clear hx1 hrl
      go_wp2_with fail
      go_ret
      rw [HXE.out]
      exact ⟨Ar, cr, m, rfl, HO.out, HS.out, HL.out⟩
end Go.Proofs.Ythbdhpciibjnmaa
