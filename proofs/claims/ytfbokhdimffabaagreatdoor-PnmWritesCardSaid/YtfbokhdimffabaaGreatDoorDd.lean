/- Joined texts (a claim has at most 60 files): Db Dc Dd. -/
import Derived.Test.YtfbokhdimffabaaGreatDoorDa
import Derived.Deep.LoopGhost
import Derived.Deep.RegionHeld3
import Derived.Deep.DeepCutAuto
/- The program's scan: gaps (where no remark is met) and numbers. -/
set_option linter.unusedVariables false
set_option linter.unusedSimpArgs false
namespace Go.Proofs.YtfbokhdimffabaaGreatDoor
open Go.ChangeShapes Go.WideShapes Go.ChangeAt Go.RowKit

/-- A gap's spaces. -/
def gapM (f : Bool) : List UInt8 → Bool × List UInt8
  | [] => (f, [])
  | c :: r => if isSp (c :: r) then gapM true r else (f, c :: r)
/-- A number's digits. -/
def numM (n len : Nat) : List UInt8 → (Nat × Bool) × List UInt8
  | [] => ((n, decide (0 < len)), [])
  | c :: r => if isDg (c :: r) then (if len = 9 then ((0, false), r) else numM (10 * n + (c.toNat - 48)) (len + 1) r) else ((n, decide (0 < len)), c :: r)
theorem gapM_no {f : Bool} {L : List UInt8} (h : isSp L = false) : gapM f L = (f, L) := by
  cases L with
  | nil => rfl
  | cons c r => rw [gapM, if_neg (by simp [h])]
theorem gapM_yes {f : Bool} {L : List UInt8} (h : isSp L = true) : gapM f L = gapM true L.tail := by
  cases L with
  | nil => cases h
  | cons c r => rw [gapM, if_pos h]; rfl
theorem numM_no {n len : Nat} {L : List UInt8} (h : isDg L = false) : numM n len L = ((n, decide (0 < len)), L) := by
  cases L with
  | nil => rfl
  | cons c r => rw [numM, if_neg (by simp [h])]
set_option maxRecDepth 100000 in
set_option maxHeartbeats 1000000 in
theorem gap_any (B sb : Nat) (L : List UInt8) (hno : st1 (gapM false L).2 35 35 = false) (w : World) (h : Sc w B sb L) : Calls Tryz.prog 35 #[.pointer (some ⟨sb, 0, none⟩)] w fun e w' => e = .returned (.bool (gapM false L).1) ∧ Sc w' B sb (gapM false L).2 ∧ Upd (· = sb) w w' := by
  obtain ⟨G, hG⟩ : ∃ G, gapM false L = G := ⟨_, rfl⟩
  rw [hG] at hno ⊢
  have HS0 : Hid (Sc w B sb L ∧ gapM false L = G ∧ Upd (· = sb) w w) := Lib.hid ⟨h, hG, Upd.refl _ _⟩
  have HN := Lib.hid hno
  clear h hG hno
  go_enter Tryz.func35, Tryz.ntmps35
  go_wp2_with fail
  go_loopg [3] L.length (fun gk v wr => ∃ (f : Bool) (cur : List UInt8), v = .bool f ∧ gk = cur.length ∧ Hid (Sc wr B sb cur ∧ gapM f cur = G ∧ Upd (· = sb) w wr))
  case atStart => exact ⟨false, L, rfl, rfl, HS0⟩
  case round =>
    obtain ⟨f, cur, rfl, hgk, HV⟩ := hrel
    clear HS0
    cases hsp : isSp cur with
    | true =>
      obtain ⟨x, r, rfl⟩ := isSp_cons hsp
      have h35 : st1 (x :: r) 35 35 = false := by
        unfold isSp at hsp
        rw [Bool.or_eq_true] at hsp
        simp [st1] at hsp ⊢
        omega
      have HSP := Lib.hid hsp
      have H35 := Lib.hid h35
      rw [List.length_cons] at hgk
      clear hsp h35
      go_wp2_with (first
        | (go_at_call 67; refine (starts_any B sb (x :: r) 35 35 (by decide) (by decide) wr HV.out.1).mono ?_; rintro e w1 ⟨rfl, rfl⟩; rw [H35.out])
        | (go_at_call 44; refine (space_any B sb (x :: r) _ HV.out.1).mono ?_; rintro e w2 ⟨rfl, h2, u2⟩; rw [HSP.out] at h2 ⊢))
      have HN2 : Hid (Sc w2 B sb r ∧ gapM true r = G ∧ Upd (· = sb) w w2) := Lib.hid ⟨h2, by rw [← HV.out.2.1, gapM_yes HSP.out]; rfl, HV.out.2.2.trans u2⟩
      go_roundg r.length
      case rel => exact ⟨true, r, rfl, rfl, HN2⟩
      case measure => omega
    | false =>
      have hg := gapM_no (f := f) hsp
      have hgG : G = (f, cur) := by rw [← HV.out.2.1, hg]
      have h35 : st1 cur 35 35 = false := by have := HN.out; rw [hgG] at this; exact this
      have HSP := Lib.hid hsp
      have H35 := Lib.hid h35
      have HGG := Lib.hid hgG
      clear hsp h35 hg hgG
      go_wp2_with (first
        | (go_at_call 67; refine (starts_any B sb cur 35 35 (by decide) (by decide) wr HV.out.1).mono ?_; rintro e w1 ⟨rfl, rfl⟩; rw [H35.out])
        | (go_at_call 44; refine (space_any B sb cur _ HV.out.1).mono ?_; rintro e w2 ⟨rfl, h2, u2⟩; rw [HSP.out] at h2 ⊢))
      go_ret
      rw [HGG.out]
      exact ⟨rfl, h2, HV.out.2.2.trans u2⟩
set_option maxRecDepth 100000 in
set_option maxHeartbeats 1000000 in
theorem number_any (B sb : Nat) (L : List UInt8) (w : World) (h : Sc w B sb L) : Calls Tryz.prog 36 #[.pointer (some ⟨sb, 0, none⟩)] w fun e w' => e = .returned (.tuple #[.int .i64 ((numM 0 0 L).1.1 : Nat), .bool (numM 0 0 L).1.2]) ∧ Sc w' B sb (numM 0 0 L).2 ∧ Upd (· = sb) w w' := by
  obtain ⟨G, hG⟩ : ∃ G, numM 0 0 L = G := ⟨_, rfl⟩
  rw [hG]
  have HS0 : Hid (Sc w B sb L ∧ numM 0 0 L = G ∧ Upd (· = sb) w w) := Lib.hid ⟨h, hG, Upd.refl _ _⟩
  clear h hG
  go_enter Tryz.func36, Tryz.ntmps36
  go_wp2_with fail
  go_loopw [4, 5] (fun nv lv wr => ∃ (n len : Nat) (cur : List UInt8), len ≤ 9 ∧ n < 10000000000 ∧ nv = .int .i64 (n : Int) ∧ lv = .int .i64 (len : Int) ∧ Hid (n < 10 ^ len) ∧ Hid (Sc wr B sb cur ∧ numM n len cur = G ∧ Upd (· = sb) w wr)) (fun _ lv _ => 9 - (intOf lv).toNat)
  case atStart => exact ⟨0, 0, L, by omega, by omega, rfl, rfl, Lib.hid (by omega), HS0⟩
  case round =>
    obtain ⟨n, len, cur, hlen, hn, rfl, rfl, HNL, HV⟩ := hrel
    clear HS0
    have HD := Lib.hid (fun (V : World) (hV : Sc V B sb cur) => digit_any B sb cur V hV)
    cases hdg : isDg cur with
    | true =>
      obtain ⟨x, r, rfl, hx1, hx2⟩ := st1_cons hdg
      have HDG := Lib.hid hdg
      have hdv : digV (x :: r) = x.toNat - 48 := rfl
      by_cases h9 : len = 9
      · have HGG : Hid (G = ((0, false), r)) := Lib.hid (by rw [← HV.out.2.1, numM, if_pos hdg, if_pos h9])
        clear hdg
        go_wp2_with (go_at_call 42; refine (HD.out wr HV.out.1).mono ?_; rintro e w2 ⟨rfl, h2, u2⟩; rw [HDG.out] at h2 ⊢)
        go_ret2
        rw [HGG.out]
        exact ⟨rfl, h2, HV.out.2.2.trans u2⟩
      · have HGG : Hid (numM (10 * n + (x.toNat - 48)) (len + 1) r = G) := Lib.hid (by rw [← HV.out.2.1, numM, if_pos hdg, if_neg h9])
        have h10 : n < 1000000000 := Nat.lt_of_lt_of_le HNL.out (Nat.le_trans (Nat.pow_le_pow_right (by decide) (show len ≤ 9 by omega)) (by decide))
        have HL1 : Hid (10 * n + (x.toNat - 48) < 10 ^ (len + 1)) := Lib.hid (by have := HNL.out; rw [Nat.pow_succ]; omega)
        obtain ⟨d, hd⟩ : ∃ d, x.toNat - 48 = d := ⟨_, rfl⟩
        have hd9 : d ≤ 9 := by omega
        rw [hd] at hdv HGG HL1
        clear hdg hd
        clear hx1 hx2
        go_wp2_with (go_at_call 42; refine (HD.out wr HV.out.1).mono ?_; rintro e w2 ⟨rfl, h2, u2⟩; rw [HDG.out, if_pos rfl, hdv]; rw [HDG.out] at h2)
        have HN2 : Hid (Sc w2 B sb r ∧ numM (10 * n + d) (len + 1) r = G ∧ Upd (· = sb) w w2) := Lib.hid ⟨h2, HGG.out, HV.out.2.2.trans u2⟩
        go_roundw
        case rel => exact ⟨10 * n + d, len + 1, r, by omega, by omega, by go_num, by go_num, HL1, HN2⟩
        case measure => simp [intOf]; omega
    | false =>
      have HDG := Lib.hid hdg
      have HGG : Hid (G = ((n, decide (0 < len)), cur)) := Lib.hid (by rw [← HV.out.2.1, numM_no hdg])
      clear hdg
      go_wp2_with (go_at_call 42; refine (HD.out wr HV.out.1).mono ?_; rintro e w2 ⟨rfl, h2, u2⟩; rw [HDG.out] at h2 ⊢)
      go_ret2
      rw [HGG.out]
      refine ⟨?_, h2, HV.out.2.2.trans u2⟩
      simp
end Go.Proofs.YtfbokhdimffabaaGreatDoor

/- The program's scan: a kind's letter and digit. -/
set_option linter.unusedVariables false
set_option linter.unusedSimpArgs false
namespace Go.Proofs.YtfbokhdimffabaaGreatDoor
open Go.ChangeShapes Go.WideShapes Go.ChangeAt Go.RowKit

theorem Sc.lt {V : World} {B sb : Nat} {L : List UInt8} (h : Sc V B sb L) : sb < V.heap.size := by
  obtain ⟨_, _, h, _⟩ := h
  exact Blk.lt h
/-- A file's kind (0: none), and what stands behind it. -/
def kindM (L : List UInt8) : Nat := if st1 L 80 80 then (if isDg L.tail then digV L.tail else 0) else 0
def behM (L : List UInt8) : List UInt8 := if st1 L 80 80 then (if isDg L.tail then L.tail.tail else L.tail) else L
def formV (k : Nat) : Value := .agg (if 1 ≤ k ∧ k ≤ 6 then #[.bool (kTx k), .bool (kCo k), .bool (kGr k)] else #[.bool false, .bool false, .bool false])
theorem kindM_le (L : List UInt8) : kindM L ≤ 9 := by
  unfold kindM
  split
  · split
    · rename_i h
      obtain ⟨x, r, e, h1, h2⟩ := st1_cons (L := L.tail) (lo := 48) (hi := 57) h
      rw [e]
      show x.toNat - 48 ≤ 9
      omega
    · omega
  · omega
theorem formOf_any (k : Nat) (w : World) : Calls Tryz.prog 27 #[.int .i64 (k : Nat)] w fun e w' => e = .returned (.tuple #[formV k, .bool (decide (1 ≤ k ∧ k ≤ 6))]) ∧ Below w.heap.size w w' := by
  by_cases h : 1 ≤ k ∧ k ≤ 6
  · refine (formOf_ok k h.1 h.2 w).mono ?_
    rintro e w' ⟨rfl, hb⟩
    exact ⟨by unfold formV; rw [if_pos h, decide_eq_true h], hb⟩
  · refine (formOf_no (k : Int) (by omega) w).mono ?_
    rintro e w' ⟨rfl, hb⟩
    exact ⟨by unfold formV; rw [if_neg h, decide_eq_false h], hb⟩
theorem formV_agg (k : Nat) : ∃ a b c, formV k = .agg #[.bool a, .bool b, .bool c] := by
  unfold formV
  split
  · exact ⟨_, _, _, rfl⟩
  · exact ⟨_, _, _, rfl⟩
theorem setB3 {w : World} {g : Nat} {t : TypeId} {a b c : Value} (h : Blk w g t #[a, b, c]) (x y z : Value) :
    Blk (((w.setCell ⟨g, 0, none⟩ x).setCell ⟨g, 1, none⟩ y).setCell ⟨g, 2, none⟩ z) g t #[x, y, z] ∧ Upd (· = g) w (((w.setCell ⟨g, 0, none⟩ x).setCell ⟨g, 1, none⟩ y).setCell ⟨g, 2, none⟩ z) :=
  ⟨by simpa using ((h.set_ 0 x).set_ 1 y).set_ 2 z, (((Upd.refl (· = g) w).setCell (fun _ => rfl) _).setCell (fun _ => rfl) _).setCell (fun _ => rfl) _⟩
set_option maxRecDepth 100000 in
set_option maxHeartbeats 2000000 in
theorem form_any (B sb : Nat) (L : List UInt8) (w : World) (h : Sc w B sb L) : Calls Tryz.prog 34 #[.pointer (some ⟨sb, 0, none⟩)] w fun e w' => e = .returned (.tuple #[formV (kindM L), .bool (decide (1 ≤ kindM L ∧ kindM L ≤ 6))]) ∧ Sc w' B sb (behM L) ∧ Upd (· = sb) w w' := by
  have hsl : sb < w.heap.size := h.lt
  have u1 := (Upd.refl (· = sb) w).alloc (.cells #[.bool false, .bool false, .bool false] 48)
  have HU := Lib.hid u1
  have kr := Blk.new w 48 #[.bool false, .bool false, .bool false]
  have HS1 : Hid (Sc (w.alloc (.cells #[.bool false, .bool false, .bool false] 48)) B sb L ∧ Blk (w.alloc (.cells #[.bool false, .bool false, .bool false] 48)) w.heap.size 48 #[.bool false, .bool false, .bool false]) := Lib.hid ⟨h.upd ((Upd.refl No w).alloc _) id (fun _ _ => id), kr⟩
  have HL := Lib.hid hsl
  clear kr h u1
  cases hp : st1 L 80 80 with
  | false =>
    have HP := Lib.hid hp
    have HK : Hid (kindM L = 0 ∧ behM L = L) := Lib.hid ⟨by unfold kindM; rw [if_neg (by simp [hp])], by unfold behM; rw [if_neg (by simp [hp])]⟩
    clear hp
    go_enter Tryz.func34, Tryz.ntmps34
    go_upto_region 1 with (fail)
    generalize w.alloc (.cells #[.bool false, .bool false, .bool false] 48) = w1 at *
    obtain ⟨q0, q1, q2⟩ : w1.cell? ⟨w.heap.size, 0, none⟩ = some (.bool false) ∧ w1.cell? ⟨w.heap.size, 1, none⟩ = some (.bool false) ∧ w1.cell? ⟨w.heap.size, 2, none⟩ = some (.bool false) := ⟨HS1.out.2.cell 0, HS1.out.2.cell 1, HS1.out.2.cell 2⟩
    have f0 := HS1.out.2.frozen 0; have f1 := HS1.out.2.frozen 1; have f2 := HS1.out.2.frozen 2
    go_wp2_with (go_at_call 67; refine (starts_any B sb L 80 80 (by decide) (by decide) w1 HS1.out.1).mono ?_; rintro e w1 ⟨rfl, rfl⟩; rw [HP.out])
    obtain ⟨k3, u3⟩ := setB3 HS1.out.2 (.bool false) (.bool false) (.bool false)
    generalize ((w1.setCell ⟨w.heap.size, 0, none⟩ (.bool false)).setCell ⟨w.heap.size, 1, none⟩ (.bool false)).setCell ⟨w.heap.size, 2, none⟩ (.bool false) = w3 at *
    have x0 : w3.cell? ⟨w.heap.size, 0, none⟩ = some (.bool false) := k3.cell 0
    have x1 : w3.cell? ⟨w.heap.size, 1, none⟩ = some (.bool false) := k3.cell 1
    have x2 : w3.cell? ⟨w.heap.size, 2, none⟩ = some (.bool false) := k3.cell 2
    have hsl := HL.out
    refine bodyPost_ret (v := .tuple #[.agg #[.bool false, .bool false, .bool false], .bool false]) (by simp [results, Tryz.results34, go_sem, x0, x1, x2]) rfl ⟨?_, ?_, ?_⟩
    · rw [HK.out.1]; rfl
    · rw [HK.out.2]
      exact HS1.out.1.upd u3 (by omega) (fun j hj => by obtain ⟨_, _, _, _, _, h⟩ := HS1.out.1; omega)
    · exact HU.out.then u3 (fun i hi e => by omega)
  | true =>
    obtain ⟨x, r, rfl, hx1, hx2⟩ := st1_cons hp
    have HP := Lib.hid hp
    have HK : Hid (kindM (x :: r) = (if isDg r then digV r else 0) ∧ behM (x :: r) = (if isDg r then r.tail else r)) := Lib.hid ⟨by unfold kindM; rw [if_pos hp]; rfl, by unfold behM; rw [if_pos hp]; rfl⟩
    clear hp hx1 hx2
    obtain ⟨k, hk⟩ : ∃ k, (if isDg r then digV r else 0) = k := ⟨_, rfl⟩
    obtain ⟨a, b, c, habc⟩ := formV_agg k
    have HD := Lib.hid (fun V hV => digit_any B sb r V hV)
    have HF := Lib.hid (fun V => formOf_any k V)
    rw [hk] at HD HK
    rw [habc] at HF
    have HH := Lib.hid (And.intro hk habc)
    clear hk habc
    obtain ⟨ok, hok⟩ : ∃ ok, decide (1 ≤ k ∧ k ≤ 6) = ok := ⟨_, rfl⟩
    rw [hok] at HF
    have HOK := Lib.hid hok
    clear hok
    go_enter Tryz.func34, Tryz.ntmps34
    go_upto_region 1 with (fail)
    generalize w.alloc (.cells #[.bool false, .bool false, .bool false] 48) = w1 at *
    go_wp2_with (first
      | (go_at_call 67; refine (starts_any B sb (x :: r) 80 80 (by decide) (by decide) w1 HS1.out.1).mono ?_; rintro e w1 ⟨rfl, rfl⟩; rw [HP.out])
      | (go_at_call 68; refine (next_any B sb x r _ HS1.out.1).mono ?_; rintro e w2 ⟨rfl, h2, u2⟩)
      | (go_at_call 42; refine (HD.out _ h2).mono ?_; rintro e w3 ⟨rfl, h3, u3⟩))
    refine (HF.out w3).mono ?_
    rintro e w4 ⟨rfl, hb4⟩
    have hsl := HL.out
    have hs1 : w.heap.size < w1.heap.size := HS1.out.2.lt
    have u4 := (u2.trans u3).trans ((Upd.of_fresh hb4).mono (fun _ _ h => absurd h id))
    have k4 := HS1.out.2.upd u4 (by omega)
    have h4 := h3.upd (Upd.of_fresh hb4) id (fun _ _ => id)
    have u5 := HU.out.trans (u4.mono (fun _ _ e => e))
    have HA := Lib.hid (And.intro k4 (And.intro h4 u5))
    have f0 := k4.frozen 0; have f1 := k4.frozen 1; have f2 := k4.frozen 2
    have q0 : w4.cell? ⟨w.heap.size, 0, none⟩ = some (.bool false) := k4.cell 0
    have q1 : w4.cell? ⟨w.heap.size, 1, none⟩ = some (.bool false) := k4.cell 1
    have q2 : w4.cell? ⟨w.heap.size, 2, none⟩ = some (.bool false) := k4.cell 2
    clear u2 u3 h2 h3 hb4 u4 k4 h4 u5
    go_wp2_with fail
    obtain ⟨k4, h4, u5⟩ := HA.out
    obtain ⟨k3, u3⟩ := setB3 k4 (.bool a) (.bool b) (.bool c)
    generalize ((w4.setCell ⟨w.heap.size, 0, none⟩ (.bool a)).setCell ⟨w.heap.size, 1, none⟩ (.bool b)).setCell ⟨w.heap.size, 2, none⟩ (.bool c) = w9 at *
    have x0 : w9.cell? ⟨w.heap.size, 0, none⟩ = some (.bool a) := k3.cell 0
    have x1 : w9.cell? ⟨w.heap.size, 1, none⟩ = some (.bool b) := k3.cell 1
    have x2 : w9.cell? ⟨w.heap.size, 2, none⟩ = some (.bool c) := k3.cell 2
    refine bodyPost_ret (v := .tuple #[.agg #[.bool a, .bool b, .bool c], .bool ok]) (by simp [results, Tryz.results34, go_sem, x0, x1, x2]) rfl ⟨?_, ?_, ?_⟩
    · rw [HK.out.1, HH.out.2, HOK.out]
    · rw [HK.out.2]
      exact h4.upd u3 (by omega) (fun j hj => by obtain ⟨_, _, _, _, _, h⟩ := h4; omega)
    · exact u5.then u3 (fun i hi e => by omega)
end Go.Proofs.YtfbokhdimffabaaGreatDoor

/- The program's scan: a file's head. -/
set_option linter.unusedVariables false
set_option linter.unusedSimpArgs false
namespace Go.Proofs.YtfbokhdimffabaaGreatDoor
open Go.ChangeShapes Go.WideShapes Go.ChangeAt Go.RowKit

/-- A number of a head; some of them. -/
def fieldM (L : List UInt8) : Option (Nat × List UInt8) :=
  if (gapM false L).1 = true ∧ (numM 0 0 (gapM false L).2).1.2 = true ∧ 1 ≤ (numM 0 0 (gapM false L).2).1.1 then some ((numM 0 0 (gapM false L).2).1.1, (numM 0 0 (gapM false L).2).2) else none
def fieldsM : Nat → List UInt8 → Option (List Nat × List UInt8)
  | 0, L => some ([], L)
  | i + 1, L => match fieldM L with
    | none => none
    | some (v, L') => (fieldsM i L').map fun p => (v :: p.1, p.2)
/-- No remark is met. -/
def noRem : Nat → List UInt8 → Prop
  | 0, _ => True
  | i + 1, L => st1 (gapM false L).2 35 35 = false ∧ ∀ v L', fieldM L = some (v, L') → noRem i L'
def hdV (k : Nat) (vs : List Nat) : Array Value := #[.bool (kTx k), .bool (kCo k), .bool (kGr k), .int .i64 (vs.getD 0 0 : Nat), .int .i64 (vs.getD 1 0 : Nat), .int .i64 (vs.getD 2 1 : Nat)]
def hd0 : Array Value := #[.bool false, .bool false, .bool false, .int .i64 0, .int .i64 0, .int .i64 0]
def manyM (k : Nat) : Nat := if kGr k then 3 else 2
def headM (L : List UInt8) : Option (List Nat × List UInt8) := if 1 ≤ kindM L ∧ kindM L ≤ 6 then fieldsM (manyM (kindM L)) (behM L) else none
theorem hdV_set (k : Nat) (vs : List Nat) (v i : Nat) (hi : vs.length = i) (h3 : i < 3) : (hdV k vs).setIfInBounds (3 + i) (.int .i64 (v : Nat)) = hdV k (vs ++ [v]) := by
  subst hi
  match vs, h3 with
  | [], _ => rfl
  | [a], _ => rfl
  | [a, b], _ => rfl
theorem setB6 {w : World} {g : Nat} {t : TypeId} {a b c d e f : Value} (h : Blk w g t #[a, b, c, d, e, f]) (x y z u v s : Value) :
    Blk ((((((w.setCell ⟨g, 0, none⟩ x).setCell ⟨g, 1, none⟩ y).setCell ⟨g, 2, none⟩ z).setCell ⟨g, 3, none⟩ u).setCell ⟨g, 4, none⟩ v).setCell ⟨g, 5, none⟩ s) g t #[x, y, z, u, v, s] ∧ Upd (· = g) w ((((((w.setCell ⟨g, 0, none⟩ x).setCell ⟨g, 1, none⟩ y).setCell ⟨g, 2, none⟩ z).setCell ⟨g, 3, none⟩ u).setCell ⟨g, 4, none⟩ v).setCell ⟨g, 5, none⟩ s) :=
  ⟨by simpa using (((((h.set_ 0 x).set_ 1 y).set_ 2 z).set_ 3 u).set_ 4 v).set_ 5 s, ((((((Upd.refl (· = g) w).setCell (fun _ => rfl) _).setCell (fun _ => rfl) _).setCell (fun _ => rfl) _).setCell (fun _ => rfl) _).setCell (fun _ => rfl) _).setCell (fun _ => rfl) _⟩
/-- What a head comes to. -/
def HeadQ (B sb : Nat) (w : World) (L : List UInt8) (e : Ending) (w' : World) : Prop :=
  Upd (· = sb) w w' ∧ ((headM L = none ∧ e = .returned (.tuple #[.agg hd0, .bool false])) ∨ ∃ vs L', headM L = some (vs, L') ∧ e = .returned (.tuple #[.agg (hdV (kindM L) vs), .bool (decide (vs.getD 2 1 ≤ 65535))]) ∧ Sc w' B sb L')
theorem headQ_zero {B sb g : Nat} {w w3 w9 : World} {L : List UInt8} {t : TypeId} (hn : headM L = none) (hg : w.heap.size ≤ g) (hu : Upd (· = sb) w w3) (k : Blk w3 g t hd0) (h9 : w9 = (((((w3.setCell ⟨g, 0, none⟩ (.bool false)).setCell ⟨g, 1, none⟩ (.bool false)).setCell ⟨g, 2, none⟩ (.bool false)).setCell ⟨g, 3, none⟩ (.int .i64 0)).setCell ⟨g, 4, none⟩ (.int .i64 0)).setCell ⟨g, 5, none⟩ (.int .i64 0)) :
    HeadQ B sb w L (.returned (.tuple #[.agg hd0, .bool false])) w9 ∧ w9.cell? ⟨g, 0, none⟩ = some (.bool false) ∧ w9.cell? ⟨g, 1, none⟩ = some (.bool false) ∧ w9.cell? ⟨g, 2, none⟩ = some (.bool false) ∧ w9.cell? ⟨g, 3, none⟩ = some (.int .i64 0) ∧ w9.cell? ⟨g, 4, none⟩ = some (.int .i64 0) ∧ w9.cell? ⟨g, 5, none⟩ = some (.int .i64 0) := by
  obtain ⟨k9, u9⟩ := setB6 k (.bool false) (.bool false) (.bool false) (.int .i64 0) (.int .i64 0) (.int .i64 0)
  rw [← h9] at k9 u9
  exact ⟨⟨hu.then u9 (fun i hi e => by omega), .inl ⟨hn, rfl⟩⟩, k9.cell 0, k9.cell 1, k9.cell 2, k9.cell 3, k9.cell 4, k9.cell 5⟩
set_option maxRecDepth 100000 in
set_option maxHeartbeats 4000000 in
theorem head_no (B sb : Nat) (L : List UInt8) (w : World) (h : Sc w B sb L) (hk : ¬ (1 ≤ kindM L ∧ kindM L ≤ 6)) : Calls Tryz.prog 15 #[.pointer (some ⟨sb, 0, none⟩)] w (HeadQ B sb w L) := by
  have HM : Hid (headM L = none) := Lib.hid (by unfold headM; rw [if_neg hk])
  have hsl : sb < w.heap.size := h.lt
  have HU := Lib.hid ((Upd.refl (· = sb) w).alloc (.cells hd0 50))
  have HS1 := Lib.hid (And.intro (h.upd ((Upd.refl No w).alloc (.cells hd0 50)) id (fun _ _ => id)) (Blk.new w 50 hd0))
  have HF := Lib.hid (fun V hV => form_any B sb L V hV)
  have hfv : formV (kindM L) = .agg #[.bool false, .bool false, .bool false] := by unfold formV; rw [if_neg hk]
  rw [hfv, decide_eq_false hk] at HF
  have HL := Lib.hid hsl
  unfold hd0 at HU HS1
  clear h hk hfv hsl
  go_enter Tryz.func15, Tryz.ntmps15
  go_upto_region 1 with (fail)
  generalize w.alloc (.cells #[.bool false, .bool false, .bool false, .int .i64 0, .int .i64 0, .int .i64 0] 50) = w1 at *
  go_wp2_with fail
  refine (HF.out w1 HS1.out.1).mono ?_
  rintro e w2 ⟨rfl, h2, u2⟩
  have hsl := HL.out
  have hs1 : w.heap.size < w1.heap.size := HS1.out.2.lt
  have k2 := HS1.out.2.upd u2 (by omega)
  have HA := Lib.hid (And.intro (HU.out.trans u2) k2)
  have u3 := (Upd.refl No w2).alloc (.cells #[.bool false, .bool false, .bool false] 48)
  have k3 := k2.upd u3 id
  have HB := Lib.hid (And.intro ((HU.out.trans u2).trans (u3.mono (fun _ _ h => absurd h id))) k3)
  have f0 := k3.frozen 0; have f1 := k3.frozen 1; have f2 := k3.frozen 2; have f3 := k3.frozen 3; have f4 := k3.frozen 4; have f5 := k3.frozen 5
  have q0 := k3.cell 0; have q1 := k3.cell 1; have q2 := k3.cell 2; have q3 := k3.cell 3; have q4 := k3.cell 4; have q5 := k3.cell 5
  clear u2 u3 h2 k2 k3
  go_upto_region 2 with (fail)
  generalize w2.alloc (.cells #[.bool false, .bool false, .bool false] 48) = w3 at *
  go_wp2_with fail
  obtain ⟨w9, hw9⟩ : ∃ w9, w9 = (((((w3.setCell ⟨w.heap.size, 0, none⟩ (.bool false)).setCell ⟨w.heap.size, 1, none⟩ (.bool false)).setCell ⟨w.heap.size, 2, none⟩ (.bool false)).setCell ⟨w.heap.size, 3, none⟩ (.int .i64 0)).setCell ⟨w.heap.size, 4, none⟩ (.int .i64 0)).setCell ⟨w.heap.size, 5, none⟩ (.int .i64 0) := ⟨_, rfl⟩
  obtain ⟨hq, x0, x1, x2, x3, x4, x5⟩ := headQ_zero HM.out (Nat.le_refl _) HB.out.1 HB.out.2 hw9
  rw [← hw9]
  exact bodyPost_ret (v := .tuple #[.agg hd0, .bool false]) (by simp [results, Tryz.results15, go_sem, x0, x1, x2, x3, x4, x5, hd0]) rfl hq
end Go.Proofs.YtfbokhdimffabaaGreatDoor
