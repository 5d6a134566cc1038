/- Contract of the stream's block. -/
import Derived.Test.YthbdhpciibjnmaaIl
namespace Go.Proofs.Ythbdhpciibjnmaa
open Go.ChangeShapes Go.WideShapes Go.ChangeAt Go.RowKit

theorem toldM_ok {b : List UInt8} {p q : Nat} {ll ld : List Int} (h : toldM b p = .ok (q, ll, ld)) : CodesOk ll ld ∧ p ≤ q ∧ q ≤ 8 * b.length := by
  unfold toldM at h
  split at h
  · cases h
  · rename_i hl p1 h1
    have g1 := takeM_ok h1
    split at h
    · cases h
    · rename_i hd p2 h2
      have g2 := takeM_ok h2
      split at h
      · cases h
      · rename_i hc p3 h3
        have g3 := takeM_ok h3
        split at h
        · cases h
        · rename_i hbig
          split at h
          · cases h
          · rename_i p4 lc h4
            obtain ⟨a1, a2, a3, a4, a5⟩ := lensM_ok h4 g3.2.2
            split at h
            · cases h
            · rename_i p5 row h5
              obtain ⟨b1, b2, b3, b4⟩ := rowF_ok a1 _ _ _ _ _ h5 (by simp) (by simp) a5
              split at h
              · cases h
              · split at h
                · rename_i m1
                  split at h
                  · rename_i m2
                    injection h with h
                    injection h with c1 c2
                    injection c2 with c2 c3
                    subst c1 c2 c3
                    have x1 : (row.take (hl + 257)).any badLen = false := bad_small (fun x hx => b2 x (List.mem_of_mem_take hx))
                    have x2 : (row.drop (hl + 257)).any badLen = false := bad_small (fun x hx => b2 x (List.mem_of_mem_drop hx))
                    refine ⟨⟨x1, ?_, mayM_room x1 m1, x2, ?_, mayM_room x2 m2⟩, by omega, b4⟩
                    · rw [List.length_take, b1]; omega
                    · rw [List.length_drop, b1]; omega
                  · cases h
                · cases h
section
variable {b : List UInt8} {most p p1 p2 l k ke : Nat} {out : List UInt8}
/-- What a block's kind leaves. -/
def bodyM (b : List UInt8) (most p k : Nat) (out : List UInt8) : Except Nat (Nat × List UInt8) :=
  if k = 0 then storedM b most p out else if k = 1 then symsM b most fixedL fixedD p out else if k = 2 then
        (match toldM b p with
        | .error e => .error e
        | .ok (p, ll, ld) => symsM b most ll ld p out) else .error 40
theorem blockM_1 (h : takeM b p 1 = .error ke) : blockM b most p out = .error ke := by unfold blockM; rw [h]
theorem blockM_2 (h : takeM b p 1 = .ok (l, p1)) (h2 : takeM b p1 2 = .error ke) : blockM b most p out = .error ke := by unfold blockM; rw [h]; dsimp only; rw [h2]
theorem blockM_3 (h : takeM b p 1 = .ok (l, p1)) (h2 : takeM b p1 2 = .ok (k, p2)) : blockM b most p out = match bodyM b most p2 k out with
    | .error e => .error e
    | .ok (q, out) => .ok (q, out, decide (l = 1)) := by
  unfold blockM; rw [h]; dsimp only; rw [h2]; rfl
theorem bodyM_ok {q : Nat} {out2 : List UInt8} (h : bodyM b most p k out = .ok (q, out2)) (hol : out.length ≤ most) : p < q ∧ q ≤ 8 * b.length ∧ out2.length ≤ most ∧ out2.length ≤ out.length + 258 * (q - p) := by
  unfold bodyM at h
  split at h
  · exact storedM_ok h hol
  · split at h
    · exact symsM_ok (by rw [fixedD_length]; omega) h hol
    · split at h
      · split at h
        · cases h
        · rename_i q1 ll ld ht
          obtain ⟨g1, g2, g3⟩ := toldM_ok ht
          have := symsM_ok g1.d2 h hol
          omega
      · cases h
theorem blockM_ok {q : Nat} {out2 : List UInt8} {last : Bool} (h : blockM b most p out = .ok (q, out2, last)) (hol : out.length ≤ most) : p < q ∧ q ≤ 8 * b.length ∧ out2.length ≤ most ∧ out2.length ≤ out.length + 258 * (q - p) := by
  rcases h1 : takeM b p 1 with e1 | ⟨l, p1⟩
  · rw [blockM_1 h1] at h; cases h
  · rcases h2 : takeM b p1 2 with e2 | ⟨k, p2⟩
    · rw [blockM_2 h1 h2] at h; cases h
    · rw [blockM_3 h1 h2] at h
      have g1 := takeM_ok h1
      have g2 := takeM_ok h2
      split at h
      · cases h
      · rename_i q1 o1 hb
        injection h with h
        injection h with c1 c2
        injection c2 with c2 _
        subst c1 c2
        have := bodyM_ok hb hol
        omega
end
def BlockR (w : World) (B gs gr : Nat) (A : Option Addr) (c : Nat) (b : List UInt8) (most : Nat) (x : Except Nat (Nat × List UInt8 × Bool)) (e : Ending) (w' : World) : Prop :=
  match x with
  | .error k => e = gaveUp k ∧ Left w B w'
  | .ok (q, out, last) => e = .returned (.bool last) ∧ Strm w' B gs gr A c b most q out ∧ Left w B w'
theorem bool_one (l : Nat) : ((l : Int) == 1) = decide (l = 1) := by
  rw [Bool.eq_iff_iff, beq_iff_eq, decide_eq_true_iff]
  omega
set_option maxHeartbeats 8000000 in
set_option maxRecDepth 100000 in
theorem block_any (w : World) (B gs gr : Nat) (A : Option Addr) (c : Nat) (b : List UInt8) (most p : Nat) (out : List UInt8) (h : Strm w B gs gr A c b most p out) (hcap : CapOk most b.length) (hout : OutOk most p out) :
    Calls Try.prog 19 #[.pointer (some ⟨gs, 0, none⟩)] w (BlockR w B gs gr A c b most (blockM b most p out)) := by
  obtain ⟨X, HX⟩ : ∃ X, Hid (blockM b most p out = X) := ⟨_, Lib.hid rfl⟩
  rw [HX.out]
  have hx := HX.out
  obtain ⟨Ao, co, fx, h⟩ := h
  have hpp := h.rdr.2.2.2.1
  have HCAP := Lib.hid hcap
  have HOUT := Lib.hid hout
  have HT := Lib.hid (take_num w B gs gr A c b most p Ao co out fx h 1 (by omega))
  clear h hcap hout
  rcases h1 : takeM b p 1 with ke | ⟨l, p1⟩
  · rw [blockM_1 h1] at hx
    rw [h1] at HT
    have HXE : Hid (X = .error ke) := Lib.hid hx.symm
    clear hx h1
    go_enter Try.func19, Try.ntmps19
    go_wp2_with fail
    refine HT.out.mono ?_
    rintro e w1 ⟨rfl, hl⟩
    refine ⟨rfl, ?_⟩
    rw [HXE.out]
    exact ⟨rfl, hl⟩
  rw [h1] at HT
  have g1 := takeM_ok h1
  rcases h2 : takeM b p1 2 with ke | ⟨k, p2⟩
  · rw [blockM_2 h1 h2] at hx
    have HXE : Hid (X = .error ke) := Lib.hid hx.symm
    have H2 := Lib.hid h2
    clear hx h1 h2
    go_enter Try.func19, Try.ntmps19
    go_wp2_with fail
    refine HT.out.mono ?_
    rintro e w1 ⟨rfl, hs, hl⟩
    have HT2 := Lib.hid (take_num w1 B gs gr A c b most p1 Ao co out fx hs 2 (by omega))
    rw [H2.out] at HT2
    have HL := Lib.hid hl
    clear hs hl
    go_wp2_with fail
    refine HT2.out.mono ?_
    rintro e w2 ⟨rfl, hl2⟩
    refine ⟨rfl, ?_⟩
    rw [HXE.out]
    exact ⟨rfl, HL.out.trans hl2⟩
  rw [blockM_3 h1 h2] at hx
  have g2 := takeM_ok h2
  have hp2 : p2 = p + 3 := by omega
  have hk4 : k < 4 := g2.1
  have hp2l := g2.2.2
  have H2 := Lib.hid h2
  have Hx := Lib.hid hx
  have HOUT2 : Hid (OutOk most p2 out) := Lib.hid ⟨HOUT.out.1, by have := HOUT.out.2; omega⟩
  obtain ⟨lb, hlb⟩ : ∃ lb, decide (l = 1) = lb := ⟨_, rfl⟩
  rw [hlb] at hx
  have hbo : ((l : Int) == 1) = lb := by rw [bool_one, hlb]
  have Hx := Lib.hid hx
  clear hx h1 h2 g1 g2 hp2 hlb
  go_enter Try.func19, Try.ntmps19
  go_wp2_with fail
  refine HT.out.mono ?_
  rintro e w1 ⟨rfl, hs, hl⟩
  have HT2 := Lib.hid (take_num w1 B gs gr A c b most p1 Ao co out fx hs 2 (by omega))
  rw [H2.out] at HT2
  have HL := Lib.hid hl
  clear hs hl HT
  have hks : k = 0 ∨ k = 1 ∨ k = 2 ∨ k = 3 := by omega
  go_wp2_with fail
  refine HT2.out.mono ?_
  rintro e w2 ⟨rfl, hs2, hl2⟩
  have HL2 := Lib.hid (HL.out.trans hl2)
  have HS2 := Lib.hid hs2.strm
  clear hs2 hl2 HT2 HL
  have hx := Hx.out
  rcases hks with hk | hk | hk | hk
  · have d0 : ((k : Int) == 0) = true := by rw [beq_iff_eq]; omega
    have HSt := Lib.hid (stored_any w2 B gs gr A c b most p2 out HS2.out HCAP.out.1 HOUT2.out.1 (by have h1 := HCAP.out.out HOUT2.out hp2l; have h2 := HCAP.out.2.2; omega))
    have hbm : bodyM b most p2 k out = storedM b most p2 out := by unfold bodyM; rw [if_pos hk]
    rw [hbm] at hx
    clear hbm hk hk4 Hx
    rcases hb : storedM b most p2 out with ke | ⟨q, o⟩
    · rw [hb] at hx HSt
      have HXE : Hid (X = .error ke) := Lib.hid hx.symm
      clear hx hb
      go_wp2_with fail
      refine HSt.out.mono ?_
      rintro e w3 ⟨rfl, hl3⟩
      refine ⟨rfl, ?_⟩
      rw [HXE.out]
      exact ⟨rfl, HL2.out.trans hl3⟩
    · rw [hb] at hx HSt
      have HXE : Hid (X = .ok (q, o, lb)) := Lib.hid hx.symm
      clear hx hb
      go_wp2_with fail
      refine HSt.out.mono ?_
      rintro e w3 ⟨rfl, hs3, hl3⟩
      have HS3 := Lib.hid hs3
      have HL3 := Lib.hid (HL2.out.trans hl3)
      clear hs3 hl3
      go_wp2_with fail
      go_ret
      rw [HXE.out]
      exact ⟨rfl, HS3.out, HL3.out⟩
  · have d0 : ((k : Int) == 0) = false := by rw [beq_eq_false_iff_ne]; omega
    have d1 : ((k : Int) == 1) = true := by rw [beq_iff_eq]; omega
    have hbm : bodyM b most p2 k out = symsM b most fixedL fixedD p2 out := by unfold bodyM; rw [if_neg (by omega), if_pos hk]
    rw [hbm] at hx
    have HFC := Lib.hid (fixedCodes_any w2 B gs gr A c b most p2 out HS2.out)
    have Hxx := Lib.hid hx
    have HOUT3 := HOUT2
    clear hbm hk hk4 Hx hx
    go_wp2_with fail
    refine HFC.out.mono ?_
    rintro e w3 ⟨gl, gd, rfl, hdl, hdd, hs3, hl3⟩
    have HDL := Lib.hid hdl
    have HDD := Lib.hid hdd
    have HS3 := Lib.hid hs3
    have HL3 := Lib.hid (HL2.out.trans hl3)
    have hx := Hxx.out
    clear hdl hdd hs3 hl3 HFC
    have HSY := Lib.hid (symbols_any w3 B gs gr A c b most p2 out HS3.out gl gd fixedL fixedD HDL.out HDD.out codesOk_fixed HCAP.out HOUT3.out)
    rcases hb : symsM b most fixedL fixedD p2 out with ke | ⟨q, o⟩
    · rw [hb] at hx HSY
      have HXE : Hid (X = .error ke) := Lib.hid hx.symm
      clear hx hb
      go_wp2_with fail
      refine HSY.out.mono ?_
      rintro e w4 ⟨rfl, hl4⟩
      refine ⟨rfl, ?_⟩
      rw [HXE.out]
      exact ⟨rfl, HL3.out.trans hl4⟩
    · rw [hb] at hx HSY
      have HXE : Hid (X = .ok (q, o, lb)) := Lib.hid hx.symm
      clear hx hb
      go_wp2_with fail
      refine HSY.out.mono ?_
      rintro e w4 ⟨rfl, hs4, hl4⟩
      have HS4 := Lib.hid hs4
      have HL4 := Lib.hid (HL3.out.trans hl4)
      clear hs4 hl4
      go_wp2_with fail
      go_ret
      rw [HXE.out]
      exact ⟨rfl, HS4.out, HL4.out⟩
  · have d0 : ((k : Int) == 0) = false := by rw [beq_eq_false_iff_ne]; omega
    have d1 : ((k : Int) == 1) = false := by rw [beq_eq_false_iff_ne]; omega
    have d2 : ((k : Int) == 2) = true := by rw [beq_iff_eq]; omega
    have hbm : bodyM b most p2 k out = (match toldM b p2 with
        | .error e => .error e
        | .ok (p, ll, ld) => symsM b most ll ld p out) := by unfold bodyM; rw [if_neg (by omega), if_neg (by omega), if_pos hk]
    rw [hbm] at hx
    have HTC := Lib.hid (toldCodes_any w2 B gs gr A c b most p2 out HS2.out)
    clear hbm hk hk4 Hx
    rcases htd : toldM b p2 with ke | ⟨p3, ll, ld⟩
    · rw [htd] at hx HTC
      have HXE : Hid (X = .error ke) := Lib.hid hx.symm
      clear hx htd
      go_wp2_with fail
      refine HTC.out.mono ?_
      rintro e w3 ⟨rfl, hl3⟩
      refine ⟨rfl, ?_⟩
      rw [HXE.out]
      exact ⟨rfl, HL2.out.trans hl3⟩
    · rw [htd] at hx HTC
      obtain ⟨hcok, hp3, hp3l⟩ := toldM_ok htd
      have HCOK := Lib.hid hcok
      have HOUT3 : Hid (OutOk most p3 out) := Lib.hid ⟨HOUT2.out.1, by have := HOUT2.out.2; omega⟩
      have Hxx := Lib.hid hx
      clear hcok htd hx
      go_wp2_with fail
      refine HTC.out.mono ?_
      rintro e w3 ⟨gl, gd, rfl, hdl, hdd, hs3, hl3⟩
      have HDL := Lib.hid hdl
      have HDD := Lib.hid hdd
      have HS3 := Lib.hid hs3
      have HL3 := Lib.hid (HL2.out.trans hl3)
      have hx := Hxx.out
      clear hdl hdd hs3 hl3 HTC
      have HSY := Lib.hid (symbols_any w3 B gs gr A c b most p3 out HS3.out gl gd ll ld HDL.out HDD.out HCOK.out HCAP.out HOUT3.out)
      rcases hb : symsM b most ll ld p3 out with ke | ⟨q, o⟩
      · rw [hb] at hx HSY
        have HXE : Hid (X = .error ke) := Lib.hid hx.symm
        clear hx hb
        go_wp2_with fail
        refine HSY.out.mono ?_
        rintro e w4 ⟨rfl, hl4⟩
        refine ⟨rfl, ?_⟩
        rw [HXE.out]
        exact ⟨rfl, HL3.out.trans hl4⟩
      · rw [hb] at hx HSY
        have HXE : Hid (X = .ok (q, o, lb)) := Lib.hid hx.symm
        clear hx hb
        go_wp2_with fail
        refine HSY.out.mono ?_
        rintro e w4 ⟨rfl, hs4, hl4⟩
        have HS4 := Lib.hid hs4
        have HL4 := Lib.hid (HL3.out.trans hl4)
        clear hs4 hl4
        go_wp2_with fail
        go_ret
        rw [HXE.out]
        exact ⟨rfl, HS4.out, HL4.out⟩
  · have d0 : ((k : Int) == 0) = false := by rw [beq_eq_false_iff_ne]; omega
    have d1 : ((k : Int) == 1) = false := by rw [beq_eq_false_iff_ne]; omega
    have d2 : ((k : Int) == 2) = false := by rw [beq_eq_false_iff_ne]; omega
    have hbm : bodyM b most p2 k out = .error 40 := by unfold bodyM; rw [if_neg (by omega), if_neg (by omega), if_neg (by omega)]
    rw [hbm] at hx
    have HXE : Hid (X = .error 40) := Lib.hid hx.symm
    clear hbm hk hk4 Hx hx
    go_wp2_with fail
    refine ⟨rfl, ?_⟩
    rw [HXE.out]
    exact ⟨rfl, HL2.out⟩
end Go.Proofs.Ythbdhpciibjnmaa
