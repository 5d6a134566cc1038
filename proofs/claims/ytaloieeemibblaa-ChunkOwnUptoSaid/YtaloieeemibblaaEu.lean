/- The chunk that bytes begin with. -/
import Derived.Test.YtaloieeemibblaaEt
import Derived.Test.YtaloieeemibblaaH
import Derived.Test.YtaloieeemibblaaCr
import Derived.BigQuiet
set_option linter.unusedVariables false
set_option linter.unusedSimpArgs false
namespace Go.Proofs.Ytaloieeemibblaa
open Go.ChangeShapes Go.WideShapes Go.ChangeAt Go.RowKit

/-- The number at a place, the highest byte first. -/
def be4 (l : List UInt8) (i : Nat) : Nat := numB true (fun j => byteAt l (i + j)) 4
theorem be4_lt (l : List UInt8) (i : Nat) : be4 l i < 4294967296 := by
  have := beNum_lt (fun j => byteAt l (i + j)) (fun _ => byteAt_lt _ _) 4
  unfold be4 numB
  rw [if_pos rfl]
  exact this
/-- What the sum of the chunk that a row begins with is over. -/
def sumOf (l : List UInt8) : List UInt8 := (l.drop 4).take (4 + be4 l 0)
/-- Is it long enough? -/
def fits (l : List UInt8) : Bool := decide (4 ≤ l.length ∧ be4 l 0 ≤ 2147483647 ∧ be4 l 0 + 12 ≤ l.length)
def sound (l : List UInt8) : Bool := tyB ((sumOf l).take 4) && decide (be4 l (8 + be4 l 0) = crcOn 0 (sumOf l))
/-- Does it begin with a chunk? -/
def firstOk (l : List UInt8) : Bool := fits l && sound l
theorem getn_ok (A : Option Addr) (m c : Nat) (l : List UInt8) (hm : l.length = m) (i : Nat) (B : Nat) (w : World) (h : Bs w B A l) (hl : m ≤ 140737488355328) (ha : i + 4 ≤ m) :
    Calls Try.prog 59 #[.slice A m c, .int .i64 (i : Nat), .int .i64 4, .bool true] w fun e w' => e = .returned (.tuple #[.int .u32 (be4 l i : Nat), .int .i64 0]) ∧ ∃ n, w' = w.drewN n := by
  subst hm
  exact get_ok A c l i 4 true B w h hl (by omega) (by omega) ha
theorem getn_no (A : Option Addr) (m c : Nat) (i : Nat) (w : World) (hl : m ≤ 140737488355328) (ha : m < i + 4) :
    Calls Try.prog 59 #[.slice A m c, .int .i64 (i : Nat), .int .i64 4, .bool true] w fun e w' => e = .returned (.tuple #[.int .u32 0, .int .i64 5]) ∧ w = w' := by
  have he := spanErr_end (len := m) (at_ := (i : Int)) (size := 4) (by omega) (by omega)
  have := get_err A m c (i : Int) 4 true w hl (by rw [he]; omega)
  rw [he] at this
  exact this
/-- What first answers. -/
def FirstP (w : World) (l : List UInt8) (e : Ending) (w' : World) : Prop := Below w.heap.size w w' ∧ (firstOk l = false → e = .returned (.tuple #[.agg #[.string ⟨#[]⟩, .slice none 0 0], .bool false])) ∧
  (firstOk l = true → ∃ A' c', e = .returned (.tuple #[.agg #[.string ⟨((sumOf l).take 4).toArray⟩, .slice A' (be4 l 0) c'], .bool true]) ∧ w'.ownsRow w.heap.size 5 1 (.slice A' (be4 l 0) c') (be4 l 0) (bytesV ((sumOf l).drop 4)))
theorem first_out {w V : World} {x y : Value} (hb : Below w.heap.size w V) (h : Blk V w.heap.size 57 #[x, y]) (a b : Value) :
    Below w.heap.size w ((V.setCell ⟨w.heap.size, 0, none⟩ a).setCell ⟨w.heap.size, 1, none⟩ b) ∧ ((V.setCell ⟨w.heap.size, 0, none⟩ a).setCell ⟨w.heap.size, 1, none⟩ b).cell? ⟨w.heap.size, 0, none⟩ = some a ∧ ((V.setCell ⟨w.heap.size, 0, none⟩ a).setCell ⟨w.heap.size, 1, none⟩ b).cell? ⟨w.heap.size, 1, none⟩ = some b := by
  have e1 : Blk (V.setCell ⟨w.heap.size, 0, none⟩ a) w.heap.size 57 #[a, y] := by simpa using h.set_ 0 a
  have e2 : Blk ((V.setCell ⟨w.heap.size, 0, none⟩ a).setCell ⟨w.heap.size, 1, none⟩ b) w.heap.size 57 #[a, b] := by simpa using e1.set_ 1 b
  have u := ((Upd.refl (· = w.heap.size) V).setCell (p := ⟨w.heap.size, 0, none⟩) (fun _ => rfl) a).setCell (p := ⟨w.heap.size, 1, none⟩) (fun _ => rfl) b
  exact ⟨hb.trans (u.below hb.size (fun j hj e => by omega)), e2.cell 0, e2.cell 1⟩
theorem box_at {w V : World} {x y : Value} (h : Blk V w.heap.size 57 #[x, y]) : V.cell? ⟨w.heap.size, 0, none⟩ = some x ∧ V.cell? ⟨w.heap.size, 1, none⟩ = some y ∧ V.frozen? ⟨w.heap.size, 0, none⟩ = false ∧ V.frozen? ⟨w.heap.size, 1, none⟩ = false := ⟨h.cell 0, h.cell 1, h.frozen 0, h.frozen 1⟩
theorem fits_len {l : List UInt8} {m : Nat} (hm : l.length = m) : fits l = decide (4 ≤ m ∧ be4 l 0 ≤ 2147483647 ∧ be4 l 0 + 12 ≤ m) := by unfold fits; rw [hm]
theorem firstP_no {w : World} {l : List UInt8} {w' : World} (hb : Below w.heap.size w w') (h : firstOk l = false) : FirstP w l (.returned (.tuple #[.agg #[.string ⟨#[]⟩, .slice none 0 0], .bool false])) w' := ⟨hb, fun _ => rfl, fun h2 => by rw [h] at h2; cases h2⟩
set_option maxRecDepth 100000 in
set_option maxHeartbeats 4000000 in
theorem first_any (A : Option Addr) (m c : Nat) (l : List UInt8) (hm : l.length = m) (hmc : m ≤ c) (hc47 : c ≤ maxLen) (hl : m ≤ 140737488355328) (B : Nat) (w : World) (h : Bs w B A l) (hB : B ≤ w.heap.size) : Calls Try.prog 50 #[.slice A m c] w (FirstP w l) := by
  have hfit := fits_len hm
  have bel := (Below.refl w.heap.size w).alloc (Nat.le_refl _) (.cells #[.string ⟨#[]⟩, .slice none 0 0] 57)
  have k0 := Blk.new w 57 #[.string ⟨#[]⟩, .slice none 0 0]
  have hb4 := be4_lt l 0
  go_enter Try.func50, Try.ntmps50
  go_upto_region 1 with (fail)
  generalize w.alloc (.cells #[.string ⟨#[]⟩, .slice none 0 0] 57) = w1 at *
  have HB := Lib.hid bel; have HK := Lib.hid k0
  have HBS := Lib.hid (h.below (bel.mono hB))
  clear bel k0
  by_cases h4 : 4 ≤ m
  case neg =>
    have hno : firstOk l = false := by unfold firstOk; rw [hfit, decide_eq_false (by omega)]; rfl
    have HNO := Lib.hid hno
    clear hno hfit
    go_wp2_with fail
    refine (getn_no A m c 0 _ (by omega) (by omega)).mono ?_
    rintro e w2 ⟨rfl, rfl⟩
    obtain ⟨p0, p1, p2, p3⟩ := box_at HK.out
    obtain ⟨x0, x1, x2⟩ := first_out HB.out HK.out (.string ⟨#[]⟩) (.slice none 0 0)
    have HX := Lib.hid (And.intro x0 (And.intro x1 x2))
    clear x0 x1 x2
    go_wp2_with fail
    obtain ⟨x0, x1, x2⟩ := HX.out
    exact bodyPost_ret (v := .tuple #[.agg #[.string ⟨#[]⟩, .slice none 0 0], .bool false]) (by simp [results, Try.results50, go_sem, x1, x2]) rfl (firstP_no x0 HNO.out)
  case pos =>
    obtain ⟨ad, rfl, _, _⟩ := h (by omega)
    clear h
    go_wp2_with fail
    refine (getn_ok (some ad) m c l hm 0 B _ HBS.out hl (by omega)).mono ?_
    rintro e w2 ⟨rfl, q, rfl⟩
    have HB2 := Lib.hid ((Upd.drewN (Upd.refl (fun _ => False) w1) q).below (B := w.heap.size) HB.out.size (fun _ _ h => h))
    have HBW2 : Hid (Below w.heap.size w (w1.drewN q)) := Lib.hid (HB.out.trans HB2.out)
    have HK2 : Hid (Blk (w1.drewN q) w.heap.size 57 #[.string ⟨#[]⟩, .slice none 0 0]) := Lib.hid HK.out
    have HBS2 : Hid (Bs (w1.drewN q) B (some ad) l) := Lib.hid HBS.out
    clear HB HK HBS HB2
    generalize w1.drewN q = w2 at *
    have HBE : Hid (∀ i, be4 l i < 4294967296) := Lib.hid (be4_lt l)
    have HSO : Hid (firstOk l = (fits l && sound l)) := Lib.hid rfl
    have HSM : Hid (sumOf l = (l.drop 4).take (4 + be4 l 0)) := Lib.hid rfl
    have HSD : Hid (sound l = (tyB ((sumOf l).take 4) && decide (be4 l (8 + be4 l 0) = crcOn 0 (sumOf l)))) := Lib.hid rfl
    generalize hn : be4 l 0 = n at *
    by_cases hbig : n ≤ 2147483647
    case neg =>
      have HNO : Hid (firstOk l = false) := Lib.hid (by rw [HSO.out, hfit, decide_eq_false (by omega)]; rfl)
      have HNE := Lib.hid hn
      clear hfit hn
      obtain ⟨p0, p1, p2, p3⟩ := box_at HK2.out
      obtain ⟨x0, x1, x2⟩ := first_out HBW2.out HK2.out (.string ⟨#[]⟩) (.slice none 0 0)
      have HX := Lib.hid (And.intro x0 (And.intro x1 x2))
      clear x0 x1 x2
      go_wp2_with fail
      obtain ⟨x0, x1, x2⟩ := HX.out
      exact bodyPost_ret (v := .tuple #[.agg #[.string ⟨#[]⟩, .slice none 0 0], .bool false]) (by simp [results, Try.results50, go_sem, x1, x2]) rfl (firstP_no x0 HNO.out)
    case pos =>
      by_cases hlong : n + 12 ≤ m
      case neg =>
        have HNO : Hid (firstOk l = false) := Lib.hid (by rw [HSO.out, hfit, decide_eq_false (by omega)]; rfl)
        have HGN := Lib.hid (fun w => getn_no (some ad) m c (8 + n) w hl (by omega))
        simp only [Int.natCast_add, Int.cast_ofNat_Int] at HGN
        clear hfit hn
        go_wp2_with fail
        refine (HGN.out _).mono ?_
        rintro e w3 ⟨rfl, rfl⟩
        obtain ⟨p0, p1, p2, p3⟩ := box_at HK2.out
        obtain ⟨x0, x1, x2⟩ := first_out HBW2.out HK2.out (.string ⟨#[]⟩) (.slice none 0 0)
        have HX := Lib.hid (And.intro x0 (And.intro x1 x2))
        clear x0 x1 x2
        go_wp2_with fail
        obtain ⟨x0, x1, x2⟩ := HX.out
        exact bodyPost_ret (v := .tuple #[.agg #[.string ⟨#[]⟩, .slice none 0 0], .bool false]) (by simp [results, Try.results50, go_sem, x1, x2]) rfl (firstP_no x0 HNO.out)
      case pos =>
        have HFT : Hid (firstOk l = sound l) := Lib.hid (by rw [HSO.out, hfit, decide_eq_true ⟨h4, hbig, hlong⟩, Bool.true_and])
        have HGN := Lib.hid (fun w hw => getn_ok (some ad) m c l hm (8 + n) B w hw hl (by omega))
        simp only [Int.natCast_add, Int.cast_ofNat_Int] at HGN
        have HNE := Lib.hid hn
        clear hfit hn
        go_wp2_with fail
        refine (HGN.out _ HBS2.out).mono ?_
        rintro e w3 ⟨rfl, q2, rfl⟩
        have HB3 := Lib.hid ((Upd.drewN (Upd.refl (fun _ => False) w2) q2).below (B := w.heap.size) HBW2.out.size (fun _ _ h => h))
        have HBW3 : Hid (Below w.heap.size w (w2.drewN q2)) := Lib.hid (HBW2.out.trans HB3.out)
        have HK3 : Hid (Blk (w2.drewN q2) w.heap.size 57 #[.string ⟨#[]⟩, .slice none 0 0]) := Lib.hid HK2.out
        have HBS3 : Hid (Bs (w2.drewN q2) B (some ad) l) := Lib.hid HBS2.out
        have HV := Lib.hid (HBE.out (8 + n))
        clear HBW2 HK2 HBS2 HB3 HGN HBE
        generalize w2.drewN q2 = w3 at *
        generalize be4 l (8 + n) = sm at *
        have hdl : 4 ≤ l.length := by omega
        have hbs4 : Bs w3 B (some (ad.add 4)) (sumOf l) := by rw [HSM.out]; exact bs_piece HBS3.out 4 (4 + n) (by omega)
        have hsl : (sumOf l).length = 4 + n := by rw [HSM.out, List.length_take, List.length_drop]; omega
        generalize hsl0 : sumOf l = sl at *
        have HSL := Lib.hid hsl0
        clear hsl0
        have HS4 := Lib.hid (fun c' k => str_bs (w := w3.drewN k) (A := some (ad.add 4)) 4 (show (sl.take 4).length = 4 by rw [List.length_take]; omega) (Bs.drewN (hbs4.take 4) k) (by omega) c')
        have hbs8 : Bs w3 B (some ((ad.add 4).add 4)) (sl.drop 4) := by
          have := bs_piece hbs4 4 n (by omega)
          rw [List.take_of_length_le (by rw [List.length_drop]; omega)] at this
          exact this
        have HBSS := Lib.hid (And.intro hbs4 hbs8)
        clear hbs8
        have i1 : (8 + (n : Int)) ≤ (c : Int) := by omega
        have i2 : (4 : Int) ≤ 8 + (n : Int) := by omega
        have i3 : (4 : Int) ≤ (c : Int) := by omega
        have i4 : ¬ c = 4 := by omega
        clear hbs4
        go_upto_region 9 with (fail)
        rw [show 8 + n - 4 = 4 + n by omega]
        have j1 : (4 : Int) ≤ ((4 + n : Nat) : Int) := by omega
        have j2 : (4 : Int) ≤ ((c - 4 : Nat) : Int) := by omega
        have j3 : ((4 + n : Nat) : Int) ≤ ((c - 4 : Nat) : Int) := by omega
        have j4 : ¬ c - 4 = 4 := by omega
        generalize c - 4 = c4 at *
        rw [show (⟨ad.block, ad.off + 4, none⟩ : Addr) = ad.add 4 from rfl]
        generalize ad.add 4 = x4 at *
        have hcv := HS4.out c4
        clear HS4
        go_quiet (fail)
        rename_i nq
        rw [show (⟨x4.block, x4.off + 4, none⟩ : Addr) = x4.add 4 from rfl]
        generalize x4.add 4 = x8 at *
        have HB4 := Lib.hid ((Upd.drewN (Upd.refl (fun _ => False) w3) nq).below (B := w.heap.size) HBW3.out.size (fun _ _ h => h))
        have HBW4 : Hid (Below w.heap.size w (w3.drewN nq)) := Lib.hid (HBW3.out.trans HB4.out)
        have HK4 : Hid (Blk (w3.drewN nq) w.heap.size 57 #[.string ⟨#[]⟩, .slice none 0 0]) := Lib.hid HK3.out
        have HBS4 : Hid (Bs (w3.drewN nq) B (some x4) sl ∧ Bs (w3.drewN nq) B (some x8) (sl.drop 4)) := Lib.hid HBSS.out
        clear HBW3 HK3 HBS3 HB4 HBSS hcv j1 j2 j3 j4 i1 i2 i3 i4
        generalize w3.drewN nq = w4 at *
        generalize c4 - 4 = c8 at *
        have HTY := Lib.hid (isType_any ⟨(sl.take 4).toArray⟩ 4 (by simp [ByteArray.size]; omega) (by omega) w4)
        go_wp2_with fail
        refine HTY.out.mono ?_
        rintro e w5 ⟨rfl, hb5⟩
        have hs4 := HBW4.out.size
        rw [show sb ⟨(sl.take 4).toArray⟩ = sl.take 4 by simp [sb]]
        have HBW5 := Lib.hid (HBW4.out.trans (hb5.mono hs4))
        have HK5 := Lib.hid (HK4.out.upd (Upd.of_fresh hb5) id)
        have HBS5 := Lib.hid (And.intro (HBS4.out.1.below (hb5.mono (Nat.le_trans hB hs4))) (HBS4.out.2.below (hb5.mono (Nat.le_trans hB hs4))))
        clear HBW4 HK4 HBS4 hb5 HTY
        have hs5 := HBW5.out.size
        cases hty : tyB (sl.take 4) with
        | false =>
          have HNO : Hid (firstOk l = false) := Lib.hid (by rw [HFT.out, HSD.out, hty]; rfl)
          clear hty
          obtain ⟨p0, p1, p2, p3⟩ := box_at HK5.out
          obtain ⟨x0, x1, x2⟩ := first_out HBW5.out HK5.out (.string ⟨#[]⟩) (.slice none 0 0)
          have HX := Lib.hid (And.intro x0 (And.intro x1 x2))
          clear x0 x1 x2
          go_wp2_with fail
          obtain ⟨x0, x1, x2⟩ := HX.out
          exact bodyPost_ret (v := .tuple #[.agg #[.string ⟨#[]⟩, .slice none 0 0], .bool false]) (by simp [results, Try.results50, go_sem, x1, x2]) rfl (firstP_no x0 HNO.out)
        | true =>
          have HSD2 : Hid (firstOk l = decide (sm = crcOn 0 sl)) := Lib.hid (by rw [HFT.out, HSD.out, hty, Bool.true_and])
          have HCR := Lib.hid (crc_n (some x4) c4 (4 + n) sl hsl B w5 HBS5.out.1 (by omega) (by unfold maxLen; omega))
          have HCL := Lib.hid (crcOn_lt (show 0 < 4294967296 by omega) sl)
          clear hty
          generalize crcOn 0 sl = cr at *
          go_wp2_with fail
          refine HCR.out.mono ?_
          rintro e w6 ⟨rfl, hb6⟩
          have HBW6 := Lib.hid (HBW5.out.trans (hb6.mono hs5))
          have HK6 := Lib.hid (HK5.out.upd (Upd.of_fresh hb6) id)
          have HBS6 := Lib.hid (HBS5.out.2.below (hb6.mono (Nat.le_trans hB hs5)))
          clear HBW5 HK5 HBS5 hb6 HCR
          have hs6 := HBW6.out.size
          by_cases hcr : sm = cr
          case neg =>
            have HNO : Hid (firstOk l = false) := Lib.hid (by rw [HSD2.out]; exact decide_eq_false hcr)
            have i5 : ¬ ((sm : Int) = (cr : Int)) := by omega
            obtain ⟨p0, p1, p2, p3⟩ := box_at HK6.out
            obtain ⟨x0, x1, x2⟩ := first_out HBW6.out HK6.out (.string ⟨#[]⟩) (.slice none 0 0)
            have HX := Lib.hid (And.intro x0 (And.intro x1 x2))
            clear x0 x1 x2
            go_wp2_with fail
            obtain ⟨x0, x1, x2⟩ := HX.out
            exact bodyPost_ret (v := .tuple #[.agg #[.string ⟨#[]⟩, .slice none 0 0], .bool false]) (by simp [results, Try.results50, go_sem, x1, x2]) rfl (firstP_no x0 HNO.out)
          case pos =>
            have HYES : Hid (firstOk l = true) := Lib.hid (by rw [HSD2.out]; exact decide_eq_true hcr)
            subst hcr
            have HCN := Lib.hid (bclone_any x8 c8 n (sl.drop 4) (by rw [List.length_drop]; omega) B w6 HBS6.out (by omega) (by omega))
            go_wp2_with fail
            refine HCN.out.mono ?_
            rintro e w7 ⟨A7, c7, rfl, o7, hb7⟩
            have HBW7 := Lib.hid (HBW6.out.trans (hb7.mono hs6))
            have HK7 := Lib.hid (HK6.out.upd (Upd.of_fresh hb7) id)
            have hlt6 := HK6.out.lt
            have HO7 : Hid (((w7.setCell ⟨w.heap.size, 0, none⟩ (.string ⟨(sl.take 4).toArray⟩)).setCell ⟨w.heap.size, 1, none⟩ (.slice A7 n c7)).ownsRow w.heap.size 5 1 (.slice A7 n c7) n (bytesV (sl.drop 4))) := Lib.hid (own_low (own_upd o7 (((Upd.refl (· = w.heap.size) w7).setCell (p := ⟨w.heap.size, 0, none⟩) (fun _ => rfl) _).setCell (p := ⟨w.heap.size, 1, none⟩) (fun _ => rfl) _) (fun j hj e => by have := (o7.lt j hj).1; omega)) hs6)
            clear HBW6 HK6 HBS6 hb7 HCN o7
            obtain ⟨p0, p1, p2, p3⟩ := box_at HK7.out
            obtain ⟨x0, x1, x2⟩ := first_out HBW7.out HK7.out (.string ⟨(sl.take 4).toArray⟩) (.slice A7 n c7)
            have HX := Lib.hid (And.intro x0 (And.intro x1 x2))
            clear x0 x1 x2
            go_wp2_with fail
            obtain ⟨x0, x1, x2⟩ := HX.out
            exact bodyPost_ret (v := .tuple #[.agg #[.string ⟨(sl.take 4).toArray⟩, .slice A7 n c7], .bool true]) (by simp [results, Try.results50, go_sem, x1, x2]) rfl ⟨x0, fun h => by (rw [HYES.out] at h; cases h), fun _ => ⟨A7, c7, by rw [HSL.out, HNE.out], by rw [HNE.out, HSL.out]; exact HO7.out⟩⟩
end Go.Proofs.Ytaloieeemibblaa
