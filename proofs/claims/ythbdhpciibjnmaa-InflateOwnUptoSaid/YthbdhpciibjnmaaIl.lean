/- Contract of the stream's symbols. -/
import Derived.Test.YthbdhpciibjnmaaIk
import Derived.Test.YthbdhpciibjnmaaIe
namespace Go.Proofs.Ythbdhpciibjnmaa
open Go.ChangeShapes Go.WideShapes Go.ChangeAt Go.RowKit

/-- What was written is no more than there may be, and no more than so many bits can say. -/
def OutOk (most p : Nat) (out : List UInt8) : Prop := out.length ≤ most ∧ out.length ≤ 258 * p
/-- What may be written fits into memory. -/
def CapOk (most len : Nat) : Prop := most ≤ 9223372036854775807 ∧ (∀ n, n ≤ most → n ≤ 258 * (8 * len) → n ≤ 70368744000000) ∧ len ≤ 70368744000000
theorem CapOk.out {most p : Nat} {b : List UInt8} {out : List UInt8} (h : CapOk most b.length) (ho : OutOk most p out) (hp : p ≤ 8 * b.length) : out.length ≤ 70368744000000 :=
  h.2.1 _ ho.1 (Nat.le_trans ho.2 (Nat.mul_le_mul_left 258 hp))
theorem symM_next {b : List UInt8} {most : Nat} {ll ld : List Int} {p ke : Nat} {out : List UInt8} (h : nextM b ll p = .error ke) : symM b most ll ld p out = .error ke := by unfold symM; rw [h]
theorem symM_lit {b : List UInt8} {most : Nat} {ll ld : List Int} {p v q : Nat} {out : List UInt8} (h : nextM b ll p = .ok (v, q)) (hv : v < 256) : symM b most ll ld p out = if most - out.length < 1 then .error 3 else .ok (q, out ++ [UInt8.ofNat v], false) := by
  unfold symM; rw [h]; dsimp only; rw [if_pos hv]
theorem symM_end {b : List UInt8} {most : Nat} {ll ld : List Int} {p v q : Nat} {out : List UInt8} (h : nextM b ll p = .ok (v, q)) (hv : v = 256) : symM b most ll ld p out = .ok (q, out, true) := by
  unfold symM; rw [h]; dsimp only; rw [if_neg (by omega), if_pos hv]
theorem symM_len {b : List UInt8} {most : Nat} {ll ld : List Int} {p v q : Nat} {out : List UInt8} (h : nextM b ll p = .ok (v, q)) (hv : 257 ≤ v) : symM b most ll ld p out = match lengthM b v q with
    | .error e => .error e
    | .ok (n, q) => match distM b ld q with
      | .error e => .error e
      | .ok (far, q) => match repeatM most n far out with
        | .error e => .error e
        | .ok out => .ok (q, out, false) := by
  unfold symM; rw [h]; dsimp only; rw [if_neg (by omega), if_neg (by omega)]; rfl
theorem lit_byte (v : Nat) (hv : v < 256) (o : List UInt8) : bytesV (o ++ [UInt8.ofNat v]) = bytesV o ++ [.int .u8 (v : Int)] := by
  rw [bytesV_append]
  have : bytesV [UInt8.ofNat v] = [.int .u8 (v : Int)] := by
    simp only [bytesV, bv, List.map_cons, List.map_nil]
    rw [UInt8.toNat_ofNat_of_lt' hv]
  rw [this]
/-- The codes that a block's symbols are packed by. -/
structure CodesOk (ll ld : List Int) : Prop where
  l1 : ll.any badLen = false
  l2 : ll.length ≤ 288
  l3 : 0 ≤ roomOf ll
  d1 : ld.any badLen = false
  d2 : ld.length ≤ 30
  d3 : 0 ≤ roomOf ld
theorem codesOk_fixed : CodesOk fixedL fixedD := ⟨fixedL_bad, by rw [fixedL_length]; omega, fixedL_room, fixedD_bad, by rw [fixedD_length]; omega, fixedD_room⟩
set_option maxHeartbeats 8000000 in
set_option maxRecDepth 100000 in
theorem symbols_any (w : World) (B gs gr : Nat) (A : Option Addr) (c : Nat) (b : List UInt8) (most p : Nat) (out : List UInt8) (h : Strm w B gs gr A c b most p out) (gl gd : Nat) (ll ld : List Int) (hDl : DecAt w B gl ll) (hDd : DecAt w B gd ld) (hC : CodesOk ll ld) (hcap : CapOk most b.length) (hout : OutOk most p out) :
    Calls Try.prog 36 #[.pointer (some ⟨gs, 0, none⟩), .agg #[.pointer (some ⟨gl, 0, none⟩), .pointer (some ⟨gd, 0, none⟩)]] w (Grew w B gs gr A c b most (symsM b most ll ld p out)) := by
  obtain ⟨i0, hi, hz0, hz1, hz2⟩ := info_parts info_u8
  obtain ⟨X, HX⟩ : ∃ X, Hid (symsM b most ll ld p out = X) := ⟨_, Lib.hid rfl⟩
  rw [HX.out]
  obtain ⟨Ao, co, fx, h⟩ := h
  have hpp := h.rdr.2.2.2.1
  have hbw := (Below.refl w.heap.size w).alloc (Nat.le_refl _) (.cells #[.pointer (some ⟨gl, 0, none⟩), .pointer (some ⟨gd, 0, none⟩)] 82)
  have HS0 := Lib.hid (h.fresh hbw).strm
  have HL0 : Hid (Left w B (w.alloc (.cells #[.pointer (some ⟨gl, 0, none⟩), .pointer (some ⟨gd, 0, none⟩)] 82))) := Lib.hid (Left.fresh hbw h.size)
  have HB0 : Hid (Blk (w.alloc (.cells #[.pointer (some ⟨gl, 0, none⟩), .pointer (some ⟨gd, 0, none⟩)] 82)) w.heap.size 82 #[.pointer (some ⟨gl, 0, none⟩), .pointer (some ⟨gd, 0, none⟩)]) := Lib.hid (Blk.new _ _ _)
  have HDl := Lib.hid hDl
  have HDd := Lib.hid hDd
  have HCK := Lib.hid hC
  have HCAP := Lib.hid hcap
  have HOUT := Lib.hid hout
  clear h hDl hDd hC hcap hout hbw
  go_enter Try.func36, Try.ntmps36
  go_wp2_with fail
  go_loopg [] (8 * b.length - p) (fun gk wr => ∃ (q : Nat) (o : List UInt8), gk = 8 * b.length - q ∧ q ≤ 8 * b.length ∧ Hid (OutOk most q o) ∧ Hid (Strm wr B gs gr A c b most q o) ∧ Hid (Left w B wr) ∧ Hid (Blk wr w.heap.size 82 #[.pointer (some ⟨gl, 0, none⟩), .pointer (some ⟨gd, 0, none⟩)]) ∧ Hid (symsM b most ll ld q o = X))
  case atStart => exact ⟨p, out, rfl, hpp, HOUT, HS0, HL0, HB0, HX⟩
  case round =>
    obtain ⟨q, o, rfl, hq, HOo, HS, HL, HB, HXq⟩ := hrel
    obtain ⟨Ao, co, fx, hS⟩ := HS.out
    have HSS := Lib.hid hS
    have hxs := HXq.out
    rw [symsM_step HCK.out.d2 hq HOo.out.1] at hxs
    have HN := Lib.hid (next_num wr B gs gr A c b most q Ao co o fx hS B gl ll (HL.out.2.dec (by decide) (by decide) HDl.out) HCK.out.l1 (Nat.le_trans HCK.out.l2 (by omega)) HCK.out.l3)
    have e0 := (HB.out.cell 0).trans rfl
    have hol := HOo.out.1
    have hcapo := HCAP.out.out HOo.out hq
    have hmost := HCAP.out.1
    clear hS HS
    rcases hx : nextM b ll q with ke | ⟨v, q2⟩
    · rw [hx] at HN
      rw [symM_next hx] at hxs
      have HXE : Hid (X = .error ke) := Lib.hid hxs.symm
      clear hx hxs
      go_wp2_with fail
      refine HN.out.mono ?_
      rintro e w3 ⟨rfl, hl⟩
      refine ⟨rfl, ?_⟩
      rw [HXE.out]
      exact ⟨rfl, HL.out.trans hl⟩
    rw [hx] at HN
    obtain ⟨hvl, hq2, hq2l⟩ := nextM_ok hx
    have hv288 : v < 288 := Nat.lt_of_lt_of_le hvl HCK.out.l2
    clear hvl
    by_cases hv : v < 256
    · rw [symM_lit hx hv] at hxs
      have d1 : decide ((v : Int) < 256) = true := by simp; omega
      clear hx
      by_cases hr : most - o.length < 1
      · rw [if_pos hr] at hxs
        have HXE : Hid (X = .error 3) := Lib.hid hxs.symm
        clear hxs
        go_wp2_with fail
        refine HN.out.mono ?_
        rintro e w3 ⟨rfl, hs3, hl3⟩
        have hRM := room_no w3 B gs gr A c b most q2 Ao co o fx hs3 1 (by omega) hmost hol
        rw [show ((1 : Nat) : Int) = 1 from rfl] at hRM
        have HRM := Lib.hid hRM
        have HL3 := Lib.hid (HL.out.trans hl3)
        clear hs3 hl3 hRM
        go_wp2_with fail
        refine HRM.out.mono ?_
        rintro e w4 ⟨rfl, k, rfl⟩
        refine ⟨rfl, ?_⟩
        rw [HXE.out]
        exact ⟨rfl, HL3.out.drewN k⟩
      · rw [if_neg hr] at hxs
        have HXN : Hid (symsM b most ll ld q2 (o ++ [UInt8.ofNat v]) = X) := Lib.hid hxs
        have hr2 : o.length + 1 ≤ most := by omega
        clear hxs hr
        have u1 : IntKind.u8.wrap (v : Int) = (v : Int) := by rw [IntKind.wrap_u8]; omega
        go_wp2_with fail
        refine HN.out.mono ?_
        rintro e w3 ⟨rfl, hs3, hl3⟩
        have hRM := room_ok w3 B gs gr A c b most q2 Ao co o fx hs3 1 (by omega) hmost hol
        rw [show ((1 : Nat) : Int) = 1 from rfl] at hRM
        have HRM := Lib.hid hRM
        have HL3 := Lib.hid (HL.out.trans hl3)
        have HS3 := Lib.hid hs3
        have HB3 := Lib.hid (hl3.2 _ _ _ HB.out (by decide))
        clear hs3 hl3 hRM
        go_wp2_with fail
        refine HRM.out.mono ?_
        rintro e w4 ⟨rfl, k, rfl⟩
        have HS4 := Lib.hid (HS3.out.drewN k)
        have HL4 := Lib.hid (HL3.out.drewN k)
        have HB4 : Hid (Blk (w3.drewN k) w.heap.size 82 #[.pointer (some ⟨gl, 0, none⟩), .pointer (some ⟨gd, 0, none⟩)]) := Lib.hid HB3.out
        clear HS3 HL3 HB3 HRM
        generalize w3.drewN k = w4 at *
        have HD4 := Lib.hid (HS4.out.fresh ((Below.refl w4.heap.size w4).alloc (Nat.le_refl _) (.cells #[.int .u8 (v : Int)] 5)))
        have HLD : Hid (Left w B (w4.alloc (.cells #[.int .u8 (v : Int)] 5))) := Lib.hid (HL4.out.trans (Left.fresh ((Below.refl w4.heap.size w4).alloc (Nat.le_refl _) _) HS4.out.size))
        have hc4 := HS4.out.out_
        have hO4 := HD4.out.own
        have hsz4 := HD4.out.size
        go_wp2_with (at_builtin; refine wpList_append_vs _ rfl (.tmp 29) (.tmp 32) _ rfl B 5 i0 (.int .u8 0) 1 Try.underlying22 hi hz0 hz1 hz2 rfl (.slice Ao o.length co) o.length (bytesV o) rfl hO4 (w4.heap.size + 1) (some ⟨w4.heap.size, 0, none⟩) 1 1 [.int .u8 (v : Int)] rfl rfl (vs_lit1 w4 5 _) (by simp [Value.oneCell']) (by unfold maxLen; omega) (by omega) hsz4 ?_; intro A6 c6 w6 o6 hg6 hat6; have hb6 := HD4.out.grown hg6; have hc6 : w6.cell? ⟨gs, 1, none⟩ = some (.slice Ao o.length co) := (hb6.cell 1).trans rfl; have hf6 := hb6.frozen 1)
        obtain ⟨hs7, hl7⟩ := HD4.out.grow (A2 := A6) (c2 := c6) (n := o.length + 1) (out2 := o ++ [UInt8.ofNat v]) (by rw [List.length_append]; rfl) (by rw [lit_byte v hv]; exact o6) hg6 (hat6.imp id (fun e => ⟨_, e, Nat.le_refl _⟩))
        have HS7 := Lib.hid hs7.strm
        have HL7 := Lib.hid (HLD.out.trans hl7)
        have HB7 : Hid (Blk (w6.setCell ⟨gs, 1, none⟩ (.slice A6 (o.length + 1) c6)) w.heap.size 82 #[.pointer (some ⟨gl, 0, none⟩), .pointer (some ⟨gd, 0, none⟩)]) := Lib.hid (hl7.2 _ _ _ (HB4.out.alloc _) (by decide))
        have HO7 : Hid (OutOk most q2 (o ++ [UInt8.ofNat v])) := Lib.hid (by
          have h1 := HOo.out.2
          refine ⟨by rw [List.length_append]; exact hr2, ?_⟩
          rw [List.length_append]
          simp only [List.length_cons, List.length_nil]
          omega)
        go_roundg (8 * b.length - q2)
        case measure => omega
        case rel => exact ⟨q2, _, rfl, hq2l, HO7, HS7, HL7, HB7, HXN⟩
    have d1 : decide ((v : Int) < 256) = false := by simp; omega
    by_cases hv2 : v = 256
    · rw [symM_end hx hv2] at hxs
      have HXE : Hid (X = .ok (q2, o)) := Lib.hid hxs.symm
      subst hv2
      clear hx hxs hv d1
      go_wp2_with fail
      refine HN.out.mono ?_
      rintro e w3 ⟨rfl, hs3, hl3⟩
      have HS3 := Lib.hid hs3.strm
      have HL3 := Lib.hid (HL.out.trans hl3)
      clear hs3 hl3
      go_wp2_with fail
      first | go_end0 | refine bodyPost_ret (results_none rfl _ _ _) rfl ?_
      rw [HXE.out]
      exact ⟨rfl, HS3.out, HL3.out⟩
    have hv3 : 257 ≤ v := by omega
    have d2 : ((v : Int) == 256) = false := by rw [beq_eq_false_iff_ne]; omega
    rw [symM_len hx hv3] at hxs
    clear hx hv hv2
    rcases hy : lengthM b v q2 with ke | ⟨n, q3⟩
    · rw [hy] at hxs
      have HXE : Hid (X = .error ke) := Lib.hid hxs.symm
      have HY := Lib.hid hy
      clear hxs hy
      go_wp2_with fail
      refine HN.out.mono ?_
      rintro e w3 ⟨rfl, hs3, hl3⟩
      have HLN := Lib.hid (length_num w3 B gs gr A c b most q2 Ao co o fx hs3 v hv3 (by omega))
      rw [HY.out] at HLN
      have HL3 := Lib.hid (HL.out.trans hl3)
      clear hs3 hl3
      go_wp2_with fail
      refine HLN.out.mono ?_
      rintro e w4 ⟨rfl, hl4⟩
      refine ⟨rfl, ?_⟩
      rw [HXE.out]
      exact ⟨rfl, HL3.out.trans hl4⟩
    rw [hy] at hxs
    dsimp only at hxs
    obtain ⟨hn258, hq3, hq3l, _⟩ := lengthM_ok hy hv3 hq2l
    have HY := Lib.hid hy
    have Hxs := Lib.hid hxs
    clear hxs hy
    go_wp2_with fail
    refine HN.out.mono ?_
    rintro e w3 ⟨rfl, hs3, hl3⟩
    have HLN := Lib.hid (length_num w3 B gs gr A c b most q2 Ao co o fx hs3 v hv3 (by omega))
    rw [HY.out] at HLN
    have HL3 := Lib.hid (HL.out.trans hl3)
    have HB3 := Lib.hid (hl3.2 _ _ _ HB.out (by decide))
    clear hs3 hl3 HB HN
    go_wp2_with fail
    refine HLN.out.mono ?_
    rintro e w4 ⟨rfl, hs4, hl4⟩
    have HL4 := Lib.hid (HL3.out.trans hl4)
    have HB4 := Lib.hid (hl4.2 _ _ _ HB3.out (by decide))
    have HDN := Lib.hid (dist_num w4 B gs gr A c b most q3 Ao co o fx hs4 B gd ld (HL4.out.2.dec (by decide) (by decide) HDd.out) HCK.out.d1 HCK.out.d2 HCK.out.d3)
    have e1 := (HB4.out.cell 1).trans rfl
    clear hs4 hl4 HB3 HLN HL3
    rcases hz : distM b ld q3 with ke | ⟨far, q4⟩
    · have hxs := Hxs.out
      rw [hz] at hxs HDN
      have HXE : Hid (X = .error ke) := Lib.hid hxs.symm
      clear hxs hz
      go_wp2_with fail
      refine HDN.out.mono ?_
      rintro e w5 ⟨rfl, hl5⟩
      refine ⟨rfl, ?_⟩
      rw [HXE.out]
      exact ⟨rfl, HL4.out.trans hl5⟩
    have hxs := Hxs.out
    rw [hz] at hxs HDN
    dsimp only at hxs
    obtain ⟨hf1, hf2, hq4, hq4l⟩ := distM_ok hz HCK.out.d2
    have Hxs2 := Lib.hid hxs
    clear hxs hz Hxs
    go_wp2_with fail
    refine HDN.out.mono ?_
    rintro e w5 ⟨rfl, hs5, hl5⟩
    have HL5 := Lib.hid (HL4.out.trans hl5)
    have HB5 := Lib.hid (hl5.2 _ _ _ HB4.out (by decide))
    have HRP := Lib.hid (repeat_any w5 B gs gr A c b most q4 o hs5.strm n far hf1 hf2 (by omega) hmost hol (by omega))
    clear hs5 hl5 HB4 HDN HL4
    rcases hr : repeatM most n far o with ke | o2
    · have hxs := Hxs2.out
      rw [hr] at hxs HRP
      have HXE : Hid (X = .error ke) := Lib.hid hxs.symm
      clear hxs hr
      go_wp2_with fail
      refine HRP.out.mono ?_
      rintro e w6 ⟨rfl, hl6⟩
      refine ⟨rfl, ?_⟩
      rw [HXE.out]
      exact ⟨rfl, HL5.out.trans hl6⟩
    have hxs := Hxs2.out
    rw [hr] at hxs HRP
    have HXN : Hid (symsM b most ll ld q4 o2 = X) := Lib.hid hxs
    obtain ⟨g8, g9⟩ := repeatM_len hr
    have HO6 : Hid (OutOk most q4 o2) := Lib.hid (by
      have h1 := HOo.out.2
      exact ⟨g9 hol, by omega⟩)
    clear hxs hr g8 g9 Hxs2
    go_wp2_with fail
    refine HRP.out.mono ?_
    rintro e w6 ⟨rfl, hs6, hl6⟩
    have HL6 := Lib.hid (HL5.out.trans hl6)
    have HB6 := Lib.hid (hl6.2 _ _ _ HB5.out (by decide))
    have HS6 := Lib.hid hs6
    clear hs6 hl6
    go_wp2_with fail
    go_roundg (8 * b.length - q4)
    case measure => omega
    case rel => exact ⟨q4, o2, rfl, hq4l, HO6, HS6, HL6, HB6, HXN⟩
end Go.Proofs.Ythbdhpciibjnmaa
