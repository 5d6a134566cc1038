/- The reader's methods: grow, again. -/
import Derived.Test.YthnfnfaiicfenaaZb
namespace Go.Proofs.Ythnfnfaiicfenaa
open Go.ChangeShapes Go.WideShapes Go.ChangeAt Go.RowKit

def growTx (size : Nat) (tx : List (Nat × Nat)) (af an : Nat) : List (Nat × Nat) := if 1 ≤ an ∧ clr size + 2 + tx.length < 4096 then tx ++ [(af, an + 1)] else tx
/-- What a method leaves: the state, and what else may have been written. -/
def Did (w : World) (N gu size : Nat) (high : Bool) (early : Nat) (most : Int) (out : List UInt8) (tx : List (Nat × Nat)) (af an : Nat) (e : Ending) (w' : World) : Prop :=
  e = .returned (.tuple #[]) ∧ UpkO w' N gu size high early most out tx af an ∧ Upd (US gu N) w w'
set_option maxHeartbeats 4000000 in
set_option maxRecDepth 100000 in
theorem grow_any (w : World) (N gu size : Nat) (high : Bool) (early : Nat) (most : Int) (Ao : Option Addr) (co : Nat) (out : List UInt8) (At : Option Addr) (ct : Nat) (tx : List (Nat × Nat)) (af an : Nat) (h : Upk w N gu size high early most Ao co out At ct tx af an)
    (h1 : 2 ≤ size) (h2 : size ≤ 8) (hl : tx.length ≤ 4096) (han : an ≤ 140737488355328) :
    Calls Try.prog 61 #[.pointer (some ⟨gu, 0, none⟩)] w (Did w N gu size high early most out (growTx size tx af an) af an) := by
  have c7 := h.c7
  have hcl := clr_le h1 h2
  by_cases g1 : 1 ≤ an
  · have HC := Lib.hid (codes_any w N gu size high early most Ao co out At ct tx af an h h1 h2 hl)
    have d1 : decide ((0 : Int) < (an : Int)) = true := by simp; omega
    by_cases g2 : clr size + 2 + tx.length < 4096
    · have HX : Hid (growTx size tx af an = tx ++ [(af, an + 1)]) := Lib.hid (by unfold growTx; rw [if_pos ⟨g1, g2⟩])
      have d2 : decide (((clr size + 2 + tx.length : Nat) : Int) < 4096) = true := by simp; omega
      have HS := Lib.hid h; clear h
      go_enter Try.func61, Try.ntmps61
      go_wp2_with fail
      refine HC.out.mono ?_
      rintro e w1 ⟨rfl, hb1⟩
      obtain ⟨i0, hi, hz0, hz1, hz2⟩ := info_parts info_text
      have HS1 := Lib.hid (HS.out.fresh hb1)
      have HB1 := Lib.hid hb1
      have hz := hb1.size
      clear hb1 c7 HC HS
      have c5 := HS1.out.c5
      have c6 := HS1.out.c6
      have c7 := HS1.out.c7
      have hf5 := HS1.out.blk.frozen 5
      have HD := Lib.hid (HS1.out.drew.fresh ((Below.refl _ _).alloc (Nat.le_refl _) (.cells #[.int .i64 (af : Int), .int .i64 ((an : Int) + 1)] 61)))
      have hO := HD.out.tab
      have hsz := HD.out.room
      have hcA : (w1.alloc (.cells #[.int .i64 (af : Int), .int .i64 ((an : Int) + 1)] 61)).cell? ⟨gu, 5, none⟩ = some (.slice At tx.length ct) := HD.out.c5
      have s1 : IntKind.i64.wrap ((an : Int) + 1) = (an : Int) + 1 := IntWalk.i64_in _ (by omega)
      have hm : (tx ++ [(af, an + 1)]).length = tx.length + 1 := by simp
      have HM := Lib.hid hm; clear hm
      go_wp2_with fail
      go_region_law (refine step_append_vn (w1.drew.alloc (.cells #[.int .i64 (af : Int), .int .i64 ((an : Int) + 1)] 61)) rfl (.tmp 17) (.tmp 30) _ rfl N 61 i0 (.agg #[.int .i64 0, .int .i64 0]) 2 16 Try.underlying59 hi hz0 hz1 hz2 rfl (by decide) (.slice At tx.length ct) tx.length (txV tx) (by simp [Act.eval]) hO (w1.heap.size + 1) ⟨w1.heap.size, 0, none⟩ 1 1 [.int .i64 (af : Int), .int .i64 ((an : Int) + 1)] rfl (by simp [Act.eval]) (vs_lit w1.drew 61 [.int .i64 (af : Int), .int .i64 ((an : Int) + 1)] (w1.heap.size + 1) (by simp)) (by simp [Value.oneCell']) (by unfold maxLen; omega) (by omega) hsz ?_; intro A6 c6' w6 o6 hg6 hat6; have hb6 := HD.out.blk.upd (Upd.of_grown hg6) (fun e => own_blk_ne HD.out.tab HD.out.blk (by decide) e.symm); have hc6' : w6.cell? ⟨gu, 5, none⟩ = some (.slice At tx.length ct) := (hb6.cell 5).trans rfl; have hf6 := hb6.frozen 5)
      all_goals
        have hu1 : Upd (US gu N) w w1 := Upd.fresh_ HB1.out
        have hu2 : Upd (US gu N) w (w1.drew.alloc (.cells #[.int .i64 (af : Int), .int .i64 ((an : Int) + 1)] 61)) := hu1.drew.alloc _
        obtain ⟨hs7, hu7⟩ := HD.out.growTab (A2 := A6) (c2 := c6') (n := tx.length + 1) (tx2 := tx ++ [(af, an + 1)]) HM.out (by rw [txV_append]; exact o6) hg6
        have HS7 := Lib.hid hs7
        have HU7 := Lib.hid (hu2.trans hu7)
        clear s1 hu1 hu2 hs7 hu7 hg6 hat6 o6 hc6' hf6 hb6
        go_wp2_with fail
        go_end0
        exact ⟨rfl, by rw [HX.out]; exact ⟨_, _, _, _, HS7.out⟩, HU7.out⟩
    · have HX : Hid (growTx size tx af an = tx) := Lib.hid (by unfold growTx; rw [if_neg (fun h => g2 h.2)])
      have d2 : decide (((clr size + 2 + tx.length : Nat) : Int) < 4096) = false := by simp; omega
      have HS := Lib.hid h; clear h
      go_enter Try.func61, Try.ntmps61
      go_wp2_with fail
      refine HC.out.mono ?_
      rintro e w1 ⟨rfl, hb1⟩
      go_wp2_with fail
      go_end0
      exact ⟨rfl, by rw [HX.out]; exact ⟨_, _, _, _, HS.out.fresh hb1⟩, Upd.fresh_ hb1⟩
  · have HX : Hid (growTx size tx af an = tx) := Lib.hid (by unfold growTx; rw [if_neg (fun h => g1 h.1)])
    have d1 : decide ((0 : Int) < (an : Int)) = false := by simp; omega
    have HS := Lib.hid h; clear h
    go_enter Try.func61, Try.ntmps61
    go_wp2_with fail
    go_end0
    exact ⟨rfl, by rw [HX.out]; exact ⟨_, _, _, _, HS.out⟩, Upd.refl _ _⟩
/-- Blocks of texts stay. -/
def Texts (w w' : World) : Prop := ∀ k cs, Blk w k 61 cs → Blk w' k 61 cs
def AgR (w : World) (N gu size : Nat) (high : Bool) (early : Nat) (most : Int) (out : List UInt8) (At : Option Addr) (ct : Nat) (tx : List (Nat × Nat)) (af an f n gb j : Nat) (wr : World) : Prop :=
  ∃ Ao co, Upk wr N gu size high early most Ao co (againL out f j) At ct tx af an ∧ Blk wr gb 61 #[.int .i64 (f : Int), .int .i64 (n : Int)] ∧ Upd (US gu N) w wr ∧ Texts w wr
set_option maxHeartbeats 4000000 in
set_option maxRecDepth 100000 in
theorem again_any (w : World) (N gu size : Nat) (high : Bool) (early : Nat) (most : Int) (Ao : Option Addr) (co : Nat) (out : List UInt8) (At : Option Addr) (ct : Nat) (tx : List (Nat × Nat)) (af an : Nat) (h : Upk w N gu size high early most Ao co out At ct tx af an)
    (f n : Nat) (hf : f < out.length) (hn : out.length + n ≤ 140737488355000) :
    Calls Try.prog 62 #[.pointer (some ⟨gu, 0, none⟩), .agg #[.int .i64 (f : Int), .int .i64 (n : Int)]] w (fun e w' => Did w N gu size high early most (againL out f n) tx af an e w' ∧ Texts w w') := by
  obtain ⟨i0, hi, hz0, hz1, hz2⟩ := info_parts info_u8
  have H0 : Hid (AgR w N gu size high early most out At ct tx af an f n w.heap.size 0 (w.alloc (.cells #[.int .i64 (f : Int), .int .i64 (n : Int)] 61))) :=
    Lib.hid ⟨Ao, co, h.fresh ((Below.refl _ _).alloc (Nat.le_refl _) _), Blk.new _ _ _, (Upd.refl _ _).alloc _, fun _ _ h => h.alloc _⟩
  clear h
  go_enter Try.func62, Try.ntmps62
  go_wp2_with fail
  obtain ⟨gb, hgb⟩ : ∃ gb, gb = w.heap.size := ⟨_, rfl⟩
  rw [← hgb] at H0 ⊢
  have HGB := Lib.hid hgb; clear hgb
  go_loopw [7] (fun i wr => ∃ j : Nat, j ≤ n ∧ i = .int .i64 (j : Int) ∧ Hid (AgR w N gu size high early most out At ct tx af an f n gb j wr)) (fun i _ => n - (intOf i).toNat)
  case atStart => exact ⟨0, by omega, rfl, H0⟩
  case round =>
    obtain ⟨j, hj, rfl, HM⟩ := hrel
    by_cases hlt : j < n
    · obtain ⟨Ar, cr, hS, hB, hU, hT⟩ := HM.out
      have HTr := Lib.hid hT; clear hT
      have HSr := Lib.hid hS; clear hS HM
      have HBr := Lib.hid hB; clear hB
      have HUr := Lib.hid hU; clear hU
      have HSU : Hid (againL out f (j + 1) = againL out f j ++ [(againL out f j).getD (f + j) 0]) := Lib.hid rfl
      have hxl := againL_length out f j
      generalize againL out f j = X at *
      obtain ⟨L, hL⟩ : ∃ L, X.length = L := ⟨_, rfl⟩
      obtain ⟨ga, rfl, hrc, hrm, _, _⟩ := row_form HSr.out.own (by omega)
      have hc3 := HSr.out.c3
      have hf3 := HSr.out.blk.frozen 3
      have hb0 : wr.cell? ⟨gb, 0, none⟩ = some (.int .i64 (f : Int)) := by rw [HBr.out.cell]; rfl
      have hx := HSr.out.own.cellAt (f + j) (by omega)
      rw [bytesV_get X (f + j) (by omega)] at hx
      have hgd : X.getD (f + j) 0 = X[f + j]'(by omega) := getD_in (by omega)
      rw [hgd] at HSU
      generalize X[f + j]'(by omega) = x at *
      rw [hL] at hc3 hrc hxl
      have HLL := Lib.hid hL; clear hL
      have HD := Lib.hid (HSr.out.drew.fresh ((Below.refl _ _).alloc (Nat.le_refl _) (.cells #[.int .u8 (x.toNat : Int)] 5)))
      have hO := HD.out.own
      rw [HLL.out] at hO
      have hsz := HD.out.room
      have s1 : IntKind.i64.wrap ((f : Int) + (j : Int)) = (f : Int) + (j : Int) := IntWalk.i64_in _ (by omega)
      have s2 : 0 ≤ (f : Int) + (j : Int) := by omega
      have s3 : ((f : Int) + (j : Int)).toNat = f + j := by omega
      have s4 : (f : Int) + (j : Int) < (L : Int) := by omega
      have s5 : f + j < L := by omega
      have hL2 : L + 1 ≤ 140737488355000 := by omega
      have hxb := byte_lt x
      have hcA : (wr.alloc (.cells #[.int .u8 (x.toNat : Int)] 5)).cell? ⟨gu, 3, none⟩ = some (.slice (some ⟨ga, 0, none⟩) L cr) := by rw [← HLL.out]; exact HD.out.c3
      have HXL := Lib.hid hxl
      clear hgd hxl
      go_wp2_with fail
      go_region_law (refine step_append_vs (wr.drew.alloc (.cells #[.int .u8 (x.toNat : Int)] 5)) rfl (.tmp 14) (.tmp 25) _ rfl N 5 i0 (.int .u8 0) 1 Try.underlying22 hi hz0 hz1 hz2 rfl (.slice (some ⟨ga, 0, none⟩) L cr) L (bytesV X) (by simp [Act.eval]) hO (wr.heap.size + 1) (some ⟨wr.heap.size, 0, none⟩) 1 1 [.int .u8 (x.toNat : Int)] rfl (by simp [Act.eval]) (vs_lit wr.drew 5 [.int .u8 (x.toNat : Int)] (wr.heap.size + 1) (by simp)) (by simp [Value.oneCell']) (by unfold maxLen; omega) (by omega) hsz ?_; intro A6 c6 w6 o6 hg6 hat6; rw [← HLL.out] at hg6; have hb6 := HD.out.blk.upd (Upd.of_grown hg6) (fun e => own_blk_ne HD.out.own HD.out.blk (by decide) e.symm); have hc6 : w6.cell? ⟨gu, 3, none⟩ = some (.slice (some ⟨ga, 0, none⟩) X.length cr) := (hb6.cell 3).trans rfl; have hf6 := hb6.frozen 3)
      all_goals
        obtain ⟨hs7, hu7⟩ := HD.out.growOut (A2 := A6) (c2 := c6) (n := L + 1) (out2 := X ++ [x]) (by rw [List.length_append, HLL.out]; rfl) (by rw [bytesV_append]; exact o6) hg6
        have HS7 := Lib.hid hs7
        have HU7 : Hid (Upd (US gu N) w _) := Lib.hid ((HUr.out.drew.alloc _).trans hu7)
        have hBd : Blk (wr.drew.alloc (.cells #[.int .u8 (x.toNat : Int)] 5)) gb 61 #[.int .i64 (f : Int), .int .i64 (n : Int)] := (HBr.out.upd (Upd.refl No _).drew id).alloc _
        have hB6 := hBd.upd (Upd.of_grown hg6) (fun e => own_blk_ne HD.out.own hBd (by decide) e.symm)
        have HT7 : Hid (Texts w (w6.setCell ⟨gu, 3, none⟩ (.slice A6 (L + 1) c6))) := Lib.hid fun k cs hk => by
          have e1 : Blk (wr.drew.alloc (.cells #[.int .u8 (x.toNat : Int)] 5)) k 61 cs := ((HTr.out k cs hk).upd (Upd.refl No _).drew id).alloc _
          have e2 := e1.upd (Upd.of_grown hg6) (fun e => own_blk_ne HD.out.own e1 (by decide) e.symm)
          exact e2.upd ((Upd.refl (· = gu) w6).setCell (p := ⟨gu, 3, none⟩) (fun _ => rfl) _) (Blk.ne_ e2 hb6 (by decide))
        have HB7 := Lib.hid (hB6.upd ((Upd.refl (· = gu) w6).setCell (p := ⟨gu, 3, none⟩) (fun _ => rfl) (.slice A6 (L + 1) c6)) (Blk.ne_ hB6 hb6 (by decide)))
        clear s1 s2 s3 s4 s5 hs7 hu7 hg6 hat6 o6 hc6 hf6 hb6 hBd hB6
        go_wp2_with fail
        go_roundw
        case rel => exact ⟨j + 1, by omega, by go_num, Lib.hid ⟨A6, c6, by rw [HSU.out]; exact HS7.out, HB7.out, HU7.out, HT7.out⟩⟩
        case measure => simp [intOf]; omega
    · obtain rfl : j = n := by omega
      obtain ⟨Ar, cr, hS, hB, hU, hT⟩ := HM.out
      have HTr := Lib.hid hT; clear hT
      have HSr := Lib.hid hS; clear hS HM
      have HUr := Lib.hid hU; clear hU hB
      go_wp2_with fail
      go_end0
      exact ⟨⟨rfl, ⟨_, _, _, _, HSr.out⟩, HUr.out⟩, HTr.out⟩
end Go.Proofs.Ythnfnfaiicfenaa
