/- Contract of the stream's repeat: a match is written byte by byte. -/
import Derived.Test.YthbdhpciibjnmaaId
import Derived.Test.YthbdhpciibjnmaaAs
namespace Go.Proofs.Ythbdhpciibjnmaa
open Go.ChangeShapes Go.WideShapes Go.ChangeAt Go.RowKit

theorem copyM_succ (far n : Nat) (out : List UInt8) : copyM far (n + 1) out = copyM far n out ++ [(copyM far n out).getD ((copyM far n out).length - far) 0] := by
  induction n generalizing out with
  | zero => rfl
  | succ n ih => rw [copyM, ih]; rfl
theorem copyM_length (far n : Nat) (out : List UInt8) : (copyM far n out).length = out.length + n := by
  induction n generalizing out with
  | zero => rfl
  | succ n ih => rw [copyM, ih, List.length_append]; simp; omega
/-- The method's answer by x: what was written; the place stays. -/
def Rept (w : World) (B gs gr : Nat) (A : Option Addr) (c : Nat) (b : List UInt8) (most p : Nat) (x : Except Nat (List UInt8)) (e : Ending) (w' : World) : Prop :=
  match x with
  | .error k => e = gaveUp k ∧ Left w B w'
  | .ok out => e = .returned (.tuple #[]) ∧ Strm w' B gs gr A c b most p out ∧ Left w B w'

set_option maxHeartbeats 4000000 in
set_option maxRecDepth 100000 in
theorem repeat_any (w : World) (B gs gr : Nat) (A : Option Addr) (c : Nat) (b : List UInt8) (most p : Nat) (out : List UInt8) (h : Strm w B gs gr A c b most p out) (n far : Nat) (hfar : 1 ≤ far) (hfl : far ≤ 1000000) (hn : n ≤ 1000000) (hm : most ≤ 9223372036854775807) (hol : out.length ≤ most) (hcap : out.length + n ≤ 140737488355000) :
    Calls Try.prog 58 #[.pointer (some ⟨gs, 0, none⟩), .int .i64 (n : Int), .int .i64 (far : Int)] w (Rept w B gs gr A c b most p (repeatM most n far out)) := by
  obtain ⟨Ao, co, fx, h⟩ := h
  obtain ⟨i0, hi, hz0, hz1, hz2⟩ := info_parts info_u8
  unfold repeatM
  have hc := h.out_
  by_cases h1 : out.length < far
  · rw [if_pos h1]
    have d1 : decide ((out.length : Int) < (far : Int)) = true := by simp; omega
    go_enter Try.func58, Try.ntmps58
    go_wp2_with fail
    exact ⟨rfl, rfl, Left.refl _ _⟩
  rw [if_neg h1]
  have d1 : decide ((out.length : Int) < (far : Int)) = false := by simp; omega
  by_cases h2 : most - out.length < n
  · rw [if_pos h2]
    have HR := Lib.hid (room_no w B gs gr A c b most p Ao co out fx h n (by omega) hm hol)
    go_enter Try.func58, Try.ntmps58
    go_wp2_with fail
    refine HR.out.mono ?_
    rintro e w4 ⟨rfl, k, rfl⟩
    exact ⟨rfl, rfl, (Left.refl _ _).drewN k⟩
  rw [if_neg h2]
  have HR := Lib.hid (room_ok w B gs gr A c b most p Ao co out fx h n (by omega) hm hol)
  have HS := Lib.hid h; clear h
  go_enter Try.func58, Try.ntmps58
  go_wp2_with fail
  refine HR.out.mono ?_
  rintro e w1 ⟨rfl, k, rfl⟩
  clear hc HR
  go_wp2_with fail
  go_loopw [18] (fun i wr => ∃ j : Nat, j ≤ n ∧ i = .int .i64 (j : Int) ∧ Hid (Strm wr B gs gr A c b most p (copyM far j out)) ∧ Hid (Left w B wr)) (fun i _ => n - (intOf i).toNat)
  case atStart => exact ⟨0, by omega, rfl, Lib.hid (HS.out.drewN k).strm, Lib.hid ((Left.refl _ _).drewN k)⟩
  case round =>
    obtain ⟨j, hj, rfl, HM, HL⟩ := hrel
    by_cases hlt : j < n
    · obtain ⟨Ar, cr, fr, hS⟩ := HM.out
      have HSr := Lib.hid hS; clear hS HM
      have HSU : Hid (copyM far (j + 1) out = copyM far j out ++ [(copyM far j out).getD ((copyM far j out).length - far) 0]) := Lib.hid (copyM_succ far j out)
      have hxl := copyM_length far j out
      generalize copyM far j out = X at *
      obtain ⟨L, hL⟩ : ∃ L, X.length = L := ⟨_, rfl⟩
      obtain ⟨ga, rfl, hrc, hrm, _, _⟩ := row_form HSr.out.own (by omega)
      have hc := HSr.out.out_
      have hx := HSr.out.own.cellAt (L - far) (by omega)
      rw [bytesV_get X (L - far) (by omega)] at hx
      have hgd : X.getD (L - far) 0 = X[L - far]'(by omega) := by rw [List.getD, List.getElem?_eq_getElem (by omega)]; rfl
      rw [hL, hgd] at HSU
      generalize X[L - far]'(by omega) = x at *
      rw [hL] at hc hrc hxl
      have HLL := Lib.hid hL; clear hL
      have HD := Lib.hid (HSr.out.drew.fresh ((Below.refl _ _).alloc (Nat.le_refl _) (.cells #[.int .u8 (x.toNat : Int)] 5)))
      have hO := HD.out.own
      rw [HLL.out] at hO
      have hsz := HD.out.size
      have HLD : Hid (Left w B (wr.drew.alloc (.cells #[.int .u8 (x.toNat : Int)] 5))) := Lib.hid (HL.out.trans (Left.of_drew (w := wr) (Left.fresh ((Below.refl wr.drew.heap.size wr.drew).alloc (Nat.le_refl _) (.cells #[.int .u8 (x.toNat : Int)] 5)) HSr.out.drew.size)))
      have s1 : IntKind.i64.wrap ((L : Int) - (far : Int)) = (L : Int) - (far : Int) := IntWalk.i64_in _ (by omega)
      have s2 : 0 ≤ (L : Int) - (far : Int) := by omega
      have s3 : ((L : Int) - (far : Int)).toNat = L - far := by omega
      have s4 : (L : Int) - (far : Int) < (L : Int) := by omega
      have s5 : far ≤ L := by omega
      have hL2 : L + 1 ≤ 140737488355000 := by omega
      have hxb := byte_lt x
      have hcA : (wr.alloc (.cells #[.int .u8 (x.toNat : Int)] 5)).cell? ⟨gs, 1, none⟩ = some (.slice (some ⟨ga, 0, none⟩) L cr) := by rw [← HLL.out]; exact HD.out.out_
      have HXL := Lib.hid hxl
      clear hgd hxl
      go_wp2_with fail
      go_region_law (refine step_append_vs (wr.drew.alloc (.cells #[.int .u8 (x.toNat : Int)] 5)) rfl (.tmp 24) (.tmp 38) _ rfl B 5 i0 (.int .u8 0) 1 Try.underlying22 hi hz0 hz1 hz2 rfl (.slice (some ⟨ga, 0, none⟩) L cr) L (bytesV X) (by simp [Act.eval]) hO (wr.heap.size + 1) (some ⟨wr.heap.size, 0, none⟩) 1 1 [.int .u8 (x.toNat : Int)] rfl (by simp [Act.eval]) (vs_lit1 wr.drew 5 _) (by simp [Value.oneCell']) (by unfold maxLen; omega) (by omega) hsz ?_; intro A6 c6 w6 o6 hg6 hat6; rw [← HLL.out] at hg6; have hb6 := HD.out.grown hg6; have hc6 : w6.cell? ⟨gs, 1, none⟩ = some (.slice (some ⟨ga, 0, none⟩) X.length cr) := (hb6.cell 1).trans rfl; have hf6 := hb6.frozen 1)
      all_goals
        obtain ⟨hs7, hl7⟩ := HD.out.grow (A2 := A6) (c2 := c6) (n := L + 1) (out2 := X ++ [x]) (by rw [List.length_append, HLL.out]; rfl) (by rw [bytesV_append]; exact o6) hg6 (by rw [HLL.out]; exact hat6.imp id (fun e => ⟨_, e, Nat.le_refl _⟩))
        have HS7 := Lib.hid hs7.strm
        have HL7 := Lib.hid (HLD.out.trans hl7)
        clear s1 s2 s3 s4 s5 hs7 hl7 hg6 hat6 o6 hc6 hf6 hb6
        go_wp2_with fail
        go_roundw
        case rel => exact ⟨j + 1, by omega, by go_num, by rw [HSU.out]; exact HS7, HL7⟩
        case measure => simp [intOf]; omega
    · obtain rfl : j = n := by omega
      go_wp2_with fail
      go_end0
      exact ⟨rfl, HM.out, HL.out⟩
end Go.Proofs.Ythbdhpciibjnmaa
