/- Contract of the stream's lengthsCode: the code by which the other codes' lengths are packed. -/
import Derived.Test.YthbdhpciibjnmaaIg
import Derived.Deep.RegionWith
import Derived.RegionDies
namespace Go.Proofs.Ythbdhpciibjnmaa
open Go.ChangeShapes Go.WideShapes Go.ChangeAt Go.RowKit

def ordV : Array Value := #[.int .i64 16, .int .i64 17, .int .i64 18, .int .i64 0, .int .i64 8, .int .i64 7, .int .i64 9, .int .i64 6, .int .i64 10, .int .i64 5, .int .i64 11, .int .i64 4, .int .i64 12, .int .i64 3, .int .i64 13, .int .i64 2, .int .i64 14, .int .i64 1, .int .i64 15]
def ord0 : Array Value := #[.int .i64 0, .int .i64 0, .int .i64 0, .int .i64 0, .int .i64 0, .int .i64 0, .int .i64 0, .int .i64 0, .int .i64 0, .int .i64 0, .int .i64 0, .int .i64 0, .int .i64 0, .int .i64 0, .int .i64 0, .int .i64 0, .int .i64 0, .int .i64 0, .int .i64 0]
theorem ordV_map : ordV = (orderL.map fun (k : Nat) => Value.int .i64 (k : Int)).toArray := rfl
theorem ordV_get (k : Nat) (hk : k < 19) : ordV[k]? = some (.int .i64 ((orderL.getD k 0 : Nat) : Int)) := by
  have h : ∀ k, k < 19 → orderL[k]? = some (orderL.getD k 0) := by decide
  rw [ordV_map, List.getElem?_toArray, List.getElem?_map, h k hk]
  rfl
theorem ordV_one : ordV.all (·.oneCell') = true := by kernel_rfl
/-- A list of the lengths' order lies in block g. -/
def OrdAt (g : Nat) (w : World) : Prop := Blk w g 121 ordV
theorem OrdAt.cell_ {g : Nat} {w : World} (h : OrdAt g w) (k : Nat) (hk : k < 19) : w.cell? ⟨g, k, none⟩ = some (.int .i64 ((orderL.getD k 0 : Nat) : Int)) := (Blk.cell h k).trans (ordV_get k hk)
theorem OrdAt.keep {g : Nat} {w w' : World} (h : OrdAt g w) (k : Keep TS w w') : OrdAt g w' := k g _ _ h (by decide)
theorem ord_info : (Try.prog.info? 121).map (·.size) = some 19 := by kernel_rfl
set_option maxHeartbeats 1000000 in
set_option maxRecDepth 100000 in
theorem order_any (w : World) :
    Calls Try.prog 78 #[] w fun e w' => e = .returned (.agg ordV) ∧ Below w.heap.size w w' := by
  go_enter Try.func78, Try.ntmps78
  have hRB := Blk.new w 121 ord0
  have HB3 := Lib.hid (below_setRow ((Below.refl w.heap.size w).alloc (Nat.le_refl _) (.cells ord0 121)) (Nat.le_refl w.heap.size) ordV)
  have HR3 : Hid (OrdAt w.heap.size ((w.alloc (.cells ord0 121)).setRow w.heap.size ordV)) := Lib.hid (setRow_heap _ _ _ _ _ _ hRB)
  go_wp2_with (refine wpList_store_rowK rfl 121 (.tmp 0) (.tmp 1) rfl w.heap.size ordV rfl rfl 121 ord0 hRB ord_info rfl ordV_one ?_; intro w3 hw3; have hw3' : w3 = (w.alloc (.cells ord0 121)).setRow w.heap.size ordV := hw3; clear hw3; rw [← hw3'] at HB3 HR3; clear hw3')
  exact bodyPost_ret (v := .agg ordV) (results_cell_row rfl _ _ w.heap.size 121 ordV (0, 0) _ rfl HR3.out Try.underlying121 rfl ord_info) rfl ⟨rfl, HB3.out⟩
theorem order_lt (k : Nat) (hk : k < 19) : orderL.getD k 0 < 19 := by
  have : ∀ k, k < 19 → orderL.getD k 0 < 19 := by decide
  exact this k hk
/-- A decoder that a method answers. -/
def Code1 (w : World) (B gs gr : Nat) (A : Option Addr) (c : Nat) (b : List UInt8) (most : Nat) (Ao : Option Addr) (co : Nat) (out : List UInt8) (fx : Option Addr) (x : Except Nat (Nat × List Int)) (e : Ending) (w' : World) : Prop :=
  match x with
  | .error k => e = gaveUp k ∧ Left w B w'
  | .ok (q, l) => ∃ g, e = .returned (.pointer (some ⟨g, 0, none⟩)) ∧ DecAt w' B g l ∧ Str w' B gs gr A c b most q Ao co out fx ∧ Left w B w'
def LnAt (g : Nat) (lens : List Int) (base : Nat) (wr : World) : Prop := wr.ownsRow base 3 1 (.slice (some ⟨g, 0, none⟩) 19 19) 19 (intsV lens) ∧ lens.length = 19 ∧ lens.any badLen = false
theorem any_set (l : List Int) (k : Nat) (z : Int) (h : l.any badLen = false) (hz : badLen z = false) : (l.set k z).any badLen = false := by
  rw [List.any_eq_false] at *
  intro x hx
  rcases List.mem_or_eq_of_mem_set hx with h1 | h1
  · exact h x h1
  · subst h1; simp [hz]
theorem LnAt.keep {g : Nat} {lens : List Int} {base : Nat} {w w' : World} (h : LnAt g lens base w) (k : Keep TS w w') : LnAt g lens base w' := ⟨k.own (by decide) h.1, h.2⟩
theorem LnAt.cell {g : Nat} {lens : List Int} {base : Nat} {w : World} (h : LnAt g lens base w) (k : Nat) (hk : k < 19) : ∃ v, w.cell? ⟨g, k, none⟩ = some v := ⟨_, row_at h.1 k (by rw [h.2.1]; exact hk)⟩
theorem LnAt.set_ {g : Nat} {lens : List Int} {base : Nat} {w : World} (h : LnAt g lens base w) (k x : Nat) (hx : x < 8) : LnAt g (lens.set k (x : Int)) base (w.setCell ⟨g, k, none⟩ (.int .i64 (x : Int))) :=
  ⟨row_set h.1 k _, by rw [List.length_set]; exact h.2.1, any_set _ _ _ h.2.2 (by unfold badLen; simp; omega)⟩
section
variable {w w' : World} {B gs gr : Nat} {A : Option Addr} {c : Nat} {b : List UInt8} {most p : Nat} {Ao : Option Addr} {co : Nat} {out : List UInt8} {fx : Option Addr}
/-- A write to a row of numbers that came to be within the call. -/
theorem Str.ints (h : Str w B gs gr A c b most p Ao co out fx) {g base n cc : Nat} {xs : List Value} (hO : w.ownsRow base 3 1 (.slice (some ⟨g, 0, none⟩) n cc) n xs) (hfx : FixAt w' B fx) (hu : Upd (· = g) w w') : Str w' B gs gr A c b most p Ao co out fx := by
  rcases hO.2 with ⟨h2, _⟩ | ⟨g', cap, cur, h2, _, h4, _⟩
  · injection h2 with h2 _ _; cases h2
  · injection h2 with h2 _ _
    injection h2 with h2
    injection h2 with h2
    subst h2
    exact h.other h4 (by decide) (by decide) (by decide) hfx hu
end
/-- A write to memory that came to be within the call. -/
theorem Left.setNew {w w' : World} {B : Nat} (h : Left w B w') (hB : B ≤ w.heap.size) (o : Nat) (v : Value) : Left w B (w'.setCell ⟨w.heap.size, o, none⟩ v) :=
  ⟨h.1.setCell (p := ⟨w.heap.size, o, none⟩) hB v, fun k cs t hb ht => (h.2 k cs t hb ht).upd ((Upd.refl (· = w.heap.size) w').setCell (p := ⟨w.heap.size, o, none⟩) (fun _ => rfl) v) (by have := hb.lt; omega)⟩
set_option maxHeartbeats 4000000 in
set_option maxRecDepth 100000 in
theorem lengthsCode_any (w : World) (B gs gr : Nat) (A : Option Addr) (c : Nat) (b : List UInt8) (most p : Nat) (Ao : Option Addr) (co : Nat) (out : List UInt8) (fx : Option Addr) (h : Str w B gs gr A c b most p Ao co out fx) (n : Nat) (hn : n ≤ 19) :
    Calls Try.prog 64 #[.pointer (some ⟨gs, 0, none⟩), .int .i64 (n : Int)] w (Code1 w B gs gr A c b most Ao co out fx (lensM b n p)) := by
  obtain ⟨i0, hi, hz0, hz1, hz2⟩ := info_parts info_int
  obtain ⟨X, HX⟩ : ∃ X, Hid (lensM b n p = X) := ⟨_, Lib.hid rfl⟩
  rw [HX.out]
  unfold lensM at HX
  obtain ⟨Y, HY⟩ : ∃ Y, Hid (lensF b n 0 p (List.replicate 19 0) = Y) := ⟨_, Lib.hid rfl⟩
  rw [HY.out] at HX
  have HH := Lib.hid h
  clear h
  have hlen19 : Try.prog.arrayLen 121 = 19 := by kernel_rfl
  have hn19 : (n : Int) ≤ 19 := by omega
  go_enter Try.func64, Try.ntmps64
  go_wp2_with (at_make; refine wpList_make_full _ rfl (.const (.int .i64 19)) (.const (.int .i64 19)) 36 rfl w.heap.size 3 i0 (.int .i64 0) 1 Try.underlying36 hi hz0 hz1 .i64 .i64 19 19 19 rfl rfl rfl rfl (by rw [hz2]; decide) (by decide) (Nat.le_refl _) ?_; intro w1 hown1 hg1; rw [make_ints 19] at hown1; have hb1 := (Below.refl w.heap.size w).grown hg1 (Nat.le_refl _) (by simp); have HF0 : Hid (LnAt w.heap.size (List.replicate 19 0) w.heap.size w1) := Lib.hid ⟨hown1, by simp, by decide⟩; have HS1 := Lib.hid (HH.out.fresh hb1); have HB1 := Lib.hid hb1; clear hown1 hg1 hb1)
  refine (order_any w1).mono ?_
  rintro e w2 ⟨rfl, hb2⟩
  have hRB := Blk.new w2 121 ord0
  have hb13 : Below w1.heap.size w1 ((w2.alloc (.cells ord0 121)).setRow w2.heap.size ordV) := below_setRow (hb2.alloc hb2.size _) hb2.size _
  have HO3 : Hid (OrdAt w2.heap.size ((w2.alloc (.cells ord0 121)).setRow w2.heap.size ordV)) := Lib.hid (setRow_heap _ _ _ _ _ _ hRB)
  have HF3 := Lib.hid (HF0.out.keep (Keep.of_fresh hb13))
  have HS3 := Lib.hid (HS1.out.fresh hb13)
  have HL3 := Lib.hid (Left.fresh (HB1.out.trans (hb13.mono HB1.out.size)) HH.out.size)
  clear hb13 hb2 HF0 HS1 HB1
  go_wp2_with (refine wpList_store_rowK rfl 121 (.tmp 6) (.tmp 10) rfl w2.heap.size ordV rfl rfl 121 ord0 hRB ord_info rfl ordV_one ?_; intro w3 hw3; have hw3' : w3 = (w2.alloc (.cells ord0 121)).setRow w2.heap.size ordV := hw3; clear hw3 hRB; rw [← hw3'] at HO3 HF3 HS3 HL3; clear hw3')
  generalize w2.heap.size = g at *
  go_loopw [14] (fun i wr => ∃ (k q : Nat) (lens : List Int), k ≤ n ∧ i = .int .i64 (k : Int) ∧ Hid (OrdAt g wr) ∧ Hid (LnAt w.heap.size lens w.heap.size wr) ∧ Hid (Str wr B gs gr A c b most q Ao co out fx) ∧ Hid (Left w B wr) ∧ Hid (lensF b (n - k) k q lens = Y)) (fun i _ => n - (intOf i).toNat)
  case atStart => exact ⟨0, p, _, by omega, rfl, HO3, HF3, HS3, HL3, HY⟩
  case round =>
    obtain ⟨k, q, lens, hk, rfl, HO, HF, HS, HL, HYk⟩ := hrel
    by_cases hlt : k < n
    · obtain ⟨r, hr⟩ : ∃ r, n - k = r + 1 := ⟨n - k - 1, by omega⟩
      have hyk := HYk.out
      rw [hr, lensF] at hyk
      have HR := Lib.hid hr; clear hr
      have HT := Lib.hid (take_num wr B gs gr A c b most q Ao co out fx HS.out 3 (by omega))
      have hord := HO.out.cell_ k (by omega)
      have hol := order_lt k (by omega)
      obtain ⟨o, ho⟩ : ∃ o, orderL.getD k 0 = o := ⟨_, rfl⟩
      rw [ho] at hord hol hyk
      have HOo := Lib.hid ho
      clear ho
      have hk19 : (k : Int) < 19 := by omega
      have holI : (o : Int) < 19 := by omega
      rcases hx : takeM b q 3 with ke | ⟨x, q2⟩
      · rw [hx] at HT hyk
        have HYE : Hid (Y = .error ke) := Lib.hid hyk.symm
        clear hyk hx
        go_wp2_with fail
        refine HT.out.mono ?_
        rintro e w3 ⟨rfl, hl⟩
        refine ⟨rfl, ?_⟩
        rw [← HX.out, HYE.out]
        exact ⟨rfl, HL.out.trans hl⟩
      · rw [hx] at HT hyk
        have hx8 := (takeM_ok hx).1
        have HYN : Hid (lensF b (n - (k + 1)) (k + 1) q2 (lens.set o (x : Int)) = Y) := Lib.hid (by rw [show n - (k + 1) = r by have := HR.out; omega]; exact hyk)
        clear hyk hx
        go_wp2_with fail
        refine HT.out.mono ?_
        rintro e w3 ⟨rfl, hs3, hl3⟩
        have hf3 := HF.out.keep (w' := w3) hl3.2
        obtain ⟨v3, hc3⟩ := hf3.cell o hol
        have hz3 := hf3.1.frozenAt o
        have ho3 := HO.out.keep (w' := w3) hl3.2
        have hl4 : Left w B (w3.setCell ⟨w.heap.size, o, none⟩ (.int .i64 (x : Int))) := (HL.out.trans hl3).setNew HH.out.size o _
        have hs4 := hs3.ints hf3.1 (HH.out.fix.keep hl4.2) ((Upd.refl (· = w.heap.size) w3).setCell (p := ⟨w.heap.size, o, none⟩) (fun _ => rfl) (.int .i64 (x : Int)))
        have HF4 := Lib.hid (hf3.set_ o x (by omega))
        have HS4 := Lib.hid hs4
        have HL4 := Lib.hid hl4
        have HO4 : Hid (OrdAt g (w3.setCell ⟨w.heap.size, o, none⟩ (.int .i64 (x : Int)))) := Lib.hid (Blk.upd ho3 ((Upd.refl (· = w.heap.size) w3).setCell (p := ⟨w.heap.size, o, none⟩) (fun _ => rfl) (.int .i64 (x : Int))) (fun e => own_blk_ne hf3.1 ho3 (by decide) (by rw [show g = w.heap.size from e]; rfl)))
        clear hl4 hs4 hl3 hs3 hf3 ho3
        go_wp2_with fail
        go_roundw
        case rel => exact ⟨k + 1, q2, _, by omega, by go_num, HO4, HF4, HS4, HL4, HYN⟩
        case measure => simp [intOf]; omega
    · obtain rfl : k = n := by omega
      have hy := HYk.out
      rw [Nat.sub_self, lensF] at hy
      have HX2 : Hid ((if mayM lens false = true then .ok (q, lens) else .error 41 : Except Nat (Nat × List Int)) = X) := Lib.hid (by rw [← HX.out, ← hy])
      have hlen : lens.length ≤ 4096 := by rw [HF.out.2.1]; omega
      clear hy HYk
      rcases hm : mayM lens false with _ | _
      · have HX3 : Hid (X = .error 41) := Lib.hid (by rw [← HX2.out, hm]; rfl)
        have HG := Lib.hid (goodDecoder_no (some ⟨w.heap.size, 0, none⟩) 19 19 lens false wr HF.out.2.1 (Vs.of_own HF.out.1) hlen HF.out.2.2 hm)
        clear hm
        go_wp2_with fail
        refine HG.out.mono ?_
        rintro e w3 ⟨rfl, rfl⟩
        refine ⟨rfl, ?_⟩
        rw [HX3.out]
        exact ⟨rfl, HL.out⟩
      · have HX3 : Hid (X = .ok (q, lens)) := Lib.hid (by rw [← HX2.out, hm]; rfl)
        have HG := Lib.hid (goodDecoder_any (some ⟨w.heap.size, 0, none⟩) 19 19 lens false wr HF.out.2.1 (Vs.of_own HF.out.1) hlen HF.out.2.2 hm)
        clear hm
        go_wp2_with fail
        refine HG.out.mono ?_
        rintro e w3 ⟨g, rfl, hd, hb⟩
        have HD3 := Lib.hid (hd.from_ HS.out.size)
        have HS3 := Lib.hid (HS.out.fresh hb)
        have HL3 := Lib.hid (HL.out.trans (Left.fresh hb HS.out.size))
        clear hd hb
        go_wp2_with fail
        go_ret
        rw [HX3.out]
        exact ⟨g, rfl, HD3.out, HS3.out, HL3.out⟩
end Go.Proofs.Ythbdhpciibjnmaa
