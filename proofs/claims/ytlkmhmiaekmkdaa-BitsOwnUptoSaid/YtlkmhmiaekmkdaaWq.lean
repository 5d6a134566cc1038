/- The document's Put. -/
import Derived.Test.YtlkmhmiaekmkdaaWp
namespace Go.Proofs.Ytlkmhmiaekmkdaa
open Go.ChangeShapes Go.WideShapes Go.ChangeAt Go.RowKit

def RefAt (w : World) (base gB gT : Nat) (A : Option Addr) (high : Bool) (bs : List Bool) (wr : World) : Prop :=
  ∃ A1 c1 l1, Blk wr gB 50 #[.bool high, .slice A1 l1.length c1, .int .i64 (bs.length : Int)] ∧ Blk wr gT 50 #[.bool false, .slice none 0 0, .int .i64 0] ∧
    WVal wr base A1 c1 l1 high bs ∧ Upd (fun k => A.map (·.block) = some k) w wr ∧ OwnOr w A A1
theorem RefAt.step {w wr w' : World} {base gB gT : Nat} {A A1 A2 : Option Addr} {c1 c2 : Nat} {l1 l2 : List UInt8} {high : Bool} {bk bk2 : List Bool} {n : Int}
    (hBk : Blk wr gB 50 #[.bool high, .slice A1 l1.length c1, .int .i64 n]) (hT : Blk wr gT 50 #[.bool false, .slice none 0 0, .int .i64 0]) (hV : WVal wr base A1 c1 l1 high bk)
    (hU : Upd (fun k => A.map (·.block) = some k) w wr) (hO : OwnOr w A A1) (hgB : w.heap.size ≤ gB) (hBT : gB ≠ gT)
    (hV2 : WVal w' base A2 c2 l2 high bk2) (hU2 : Upd (fun k => A1.map (·.block) = some k) wr w') (hO2 : OwnOr wr A1 A2) :
    Blk w' gB 50 #[.bool high, .slice A1 l1.length c1, .int .i64 n] ∧ RefAt w base gB gT A high bk2 (((w'.setCell ⟨gB, 0, none⟩ (.bool high)).setCell ⟨gB, 1, none⟩ (.slice A2 l2.length c2)).setCell ⟨gB, 2, none⟩ (.int .i64 (bk2.length : Int))) := by
  have n1 : ¬ A1.map (·.block) = some gB := by have := own_blk_ne hV.1 hBk (by decide); rwa [ownBlock_slice] at this
  have n2 : ¬ A1.map (·.block) = some gT := by have := own_blk_ne hV.1 hT (by decide); rwa [ownBlock_slice] at this
  have hB' := hBk.upd hU2 n1
  have hT' := hT.upd hU2 n2
  have u3 : Upd (· = gB) w' (((w'.setCell ⟨gB, 0, none⟩ (.bool high)).setCell ⟨gB, 1, none⟩ (.slice A2 l2.length c2)).setCell ⟨gB, 2, none⟩ (.int .i64 (bk2.length : Int))) := (((Upd.refl (· = gB) _).setCell (p := ⟨gB, 0, none⟩) (fun _ => rfl) _).setCell (p := ⟨gB, 1, none⟩) (fun _ => rfl) _).setCell (p := ⟨gB, 2, none⟩) (fun _ => rfl) _
  refine ⟨hB', A2, c2, l2, ((hB'.set_ 0 _).set_ 1 _).set_ 2 _, hT'.upd u3 (fun e => hBT e.symm), ⟨own_upd hV2.1 u3 (fun k hk e => own_blk_ne hV2.1 hB' (by decide) (by subst e; exact hk)), hV2.2⟩, ?_, ?_⟩
  · refine Upd.then (Upd.then hU hU2 (fun i hi e => ?_)) u3 (fun i hi e => by omega)
    rcases hO i e with h | h
    · exact h
    · omega
  · intro k hk
    rcases hO2 k hk with h | h
    · exact hO k h
    · exact .inr (Nat.le_trans hU.size h)
theorem RefAt.first {w : World} {base : Nat} {A : Option Addr} {c : Nat} {l : List UInt8} {high : Bool} {bs : List Bool} (h : WVal w base A c l high bs) :
    RefAt w base w.heap.size (w.heap.size + 1) A high bs ((w.alloc (.cells #[.bool high, .slice A l.length c, .int .i64 (bs.length : Int)] 50)).alloc (.cells #[.bool false, .slice none 0 0, .int .i64 0] 50)) := by
  have hb1 := Blk.new (w.alloc (.cells #[.bool high, .slice A l.length c, .int .i64 (bs.length : Int)] 50)) 50 #[.bool false, .slice none 0 0, .int .i64 0]
  rw [World.size_alloc] at hb1
  have hu0 : Upd No w ((w.alloc (.cells #[.bool high, .slice A l.length c, .int .i64 (bs.length : Int)] 50)).alloc (.cells #[.bool false, .slice none 0 0, .int .i64 0] 50)) := ((Upd.refl No w).alloc _).alloc _
  exact ⟨A, c, l, (Blk.new w _ _).alloc _, hb1, ⟨own_upd h.1 hu0 (fun _ _ => id), h.2⟩, hu0.mono (fun k _ h => h.elim), fun k hk => .inl hk⟩
def PutR (w : World) (base : Nat) (A : Option Addr) (high : Bool) (bs : List Bool) (e : Ending) (w' : World) : Prop :=
  ∃ A' c' l', e = .returned (.tuple #[.agg #[.bool high, .slice A' l'.length c', .int .i64 (bs.length : Int)], .int .i64 0]) ∧ WVal w' base A' c' l' high bs ∧ Upd (fun k => A.map (·.block) = some k) w w' ∧ OwnOr w A A'
theorem bits_next (high : Bool) (bs : List Bool) (v n k : Nat) (hk : k < n) : bs ++ (bitsOf high v n).take (k + 1) = (bs ++ (bitsOf high v n).take k) ++ [v.testBit (if high then n - 1 - k else k)] := by
  have hlt : k < (bitsOf high v n).length := by rw [bitsOf_length]; exact hk
  have h := bitsOf_get high v n k hk
  rw [List.getElem?_eq_getElem hlt] at h
  rw [List.take_succ_eq_append_getElem hlt, Option.some.inj h, List.append_assoc]
/-- The last store: into the result's cell. -/
theorem last {w wr : World} {base gT : Nat} {A A1 : Option Addr} {c1 : Nat} {l1 : List UInt8} {high : Bool} {bk : List Bool} {t0 t1 t2 : Value} (hT : Blk wr gT 50 #[t0, t1, t2]) (hV : WVal wr base A1 c1 l1 high bk) (hU : Upd (fun k => A.map (·.block) = some k) w wr) (hO : OwnOr w A A1) (hg : w.heap.size ≤ gT) (n : Int) :
    let W9 := ((wr.setCell ⟨gT, 0, none⟩ (.bool high)).setCell ⟨gT, 1, none⟩ (.slice A1 l1.length c1)).setCell ⟨gT, 2, none⟩ (.int .i64 n)
    W9.cell? ⟨gT, 0, none⟩ = some (.bool high) ∧ W9.cell? ⟨gT, 1, none⟩ = some (.slice A1 l1.length c1) ∧ W9.cell? ⟨gT, 2, none⟩ = some (.int .i64 n) ∧ WVal W9 base A1 c1 l1 high bk ∧ Upd (fun k => A.map (·.block) = some k) w W9 ∧ OwnOr w A A1 := by
  intro W9
  have hT9 : Blk W9 gT 50 #[.bool high, .slice A1 l1.length c1, .int .i64 n] := ((hT.set_ 0 _).set_ 1 _).set_ 2 _
  have u3 : Upd (· = gT) wr W9 := (((Upd.refl (· = gT) _).setCell (p := ⟨gT, 0, none⟩) (fun _ => rfl) _).setCell (p := ⟨gT, 1, none⟩) (fun _ => rfl) _).setCell (p := ⟨gT, 2, none⟩) (fun _ => rfl) _
  exact ⟨by rw [hT9.cell]; rfl, by rw [hT9.cell]; rfl, by rw [hT9.cell]; rfl, ⟨own_upd hV.1 u3 (fun k hk e => own_blk_ne hV.1 hT (by decide) (by subst e; exact hk)), hV.2⟩, Upd.then hU u3 (fun i hi e => by omega), hO⟩
set_option maxHeartbeats 4000000 in
set_option maxRecDepth 100000 in
theorem refPut_ok (w : World) (base : Nat) (A : Option Addr) (c : Nat) (l : List UInt8) (high : Bool) (bs : List Bool) (v n : Nat) (h : WVal w base A c l high bs) (hB : base ≤ w.heap.size) (hn : n ≤ 32) (hsz : bs.length + n ≤ 1125899906842000) :
    Calls Try.prog 27 #[.agg #[.bool high, .slice A l.length c, .int .i64 (bs.length : Int)], .int .u32 (v : Int), .int .i64 (n : Int)] w (PutR w base A high (bs ++ bitsOf high v n)) := by
  have d1 : decide ((n : Int) < 0) = false := by simp
  have d2 : decide ((32 : Int) < (n : Int)) = false := by simp; omega
  have H0 := Lib.hid (RefAt.first h); clear h
  go_enter Try.func27, Try.ntmps27
  go_wp2_with fail
  generalize (w.alloc (.cells #[.bool high, .slice A l.length c, .int .i64 (bs.length : Int)] 50)).alloc (.cells #[.bool false, .slice none 0 0, .int .i64 0] 50) = W0 at *
  go_loopg [8] n (fun gk i wr => ∃ k : Nat, k ≤ n ∧ gk = n - k ∧ i = .int .i64 k ∧ RefAt w base w.heap.size (w.heap.size + 1) A high (bs ++ (bitsOf high v n).take k) wr)
  case atStart => exact ⟨0, by omega, rfl, rfl, by simpa using H0.out⟩
  case round =>
    obtain ⟨k, hk, rfl, rfl, A1, c1, l1, hB2, hT2, hV, hU, hO⟩ := hrel
    by_cases hlt : k < n
    · have HN := Lib.hid (bits_next high bs v n k hlt)
      have hlen : (bs ++ (bitsOf high v n).take k).length ≤ 1125899906842000 := by rw [List.length_append, List.length_take, bitsOf_length]; omega
      have hB3 : base ≤ wr.heap.size := Nat.le_trans hB hU.size
      generalize bs ++ (bitsOf high v n).take k = bk at *
      have d0 : wr.cell? ⟨w.heap.size, 0, none⟩ = some (.bool high) := by rw [hB2.cell]; rfl
      have d3 : wr.cell? ⟨w.heap.size, 1, none⟩ = some (.slice A1 l1.length c1) := by rw [hB2.cell]; rfl
      have d4 : wr.cell? ⟨w.heap.size, 2, none⟩ = some (.int .i64 (bk.length : Int)) := by rw [hB2.cell]; rfl
      have HB2 := Lib.hid hB2; clear hB2
      have HT2 := Lib.hid hT2; clear hT2
      have HV := Lib.hid hV; clear hV
      have HU := Lib.hid hU; clear hU
      cases high
      · go_wp2_with fail
        rw [bit_val']
        refine (put1_any wr base A1 c1 l1 false bk (v.testBit k) HV.out hB3 hlen).mono ?_
        rintro e w' ⟨A2, c2, l2, rfl, hV2, hU2, hO2⟩
        obtain ⟨hB9, hR9⟩ := RefAt.step HB2.out HT2.out HV.out HU.out hO (Nat.le_refl _) (by omega) hV2 hU2 hO2
        have e0 : w'.cell? ⟨w.heap.size, 0, none⟩ = some (.bool false) := by rw [hB9.cell]; rfl
        have e1 : w'.cell? ⟨w.heap.size, 1, none⟩ = some (.slice A1 l1.length c1) := by rw [hB9.cell]; rfl
        have e2 : w'.cell? ⟨w.heap.size, 2, none⟩ = some (.int .i64 (bk.length : Int)) := by rw [hB9.cell]; rfl
        have f0 := hB9.frozen 0
        have f1 := hB9.frozen 1
        have f2 := hB9.frozen 2
        have HR9 := Lib.hid hR9
        clear hR9 hB9 hV2 hU2 hO2
        go_wp2_with fail
        go_roundg (n - (k + 1))
        case measure => omega
        case rel =>
          refine ⟨k + 1, by omega, rfl, by go_num, ?_⟩
          have h1 := HN.out
          have h2 := HR9.out
          simp only [Bool.false_eq_true, if_false] at h1
          rw [h1]
          simpa using h2
      · go_wp2_with fail
        rw [bit_val']
        refine (put1_any wr base A1 c1 l1 true bk (v.testBit (n - 1 - k)) HV.out hB3 hlen).mono ?_
        rintro e w' ⟨A2, c2, l2, rfl, hV2, hU2, hO2⟩
        obtain ⟨hB9, hR9⟩ := RefAt.step HB2.out HT2.out HV.out HU.out hO (Nat.le_refl _) (by omega) hV2 hU2 hO2
        have e0 : w'.cell? ⟨w.heap.size, 0, none⟩ = some (.bool true) := by rw [hB9.cell]; rfl
        have e1 : w'.cell? ⟨w.heap.size, 1, none⟩ = some (.slice A1 l1.length c1) := by rw [hB9.cell]; rfl
        have e2 : w'.cell? ⟨w.heap.size, 2, none⟩ = some (.int .i64 (bk.length : Int)) := by rw [hB9.cell]; rfl
        have f0 := hB9.frozen 0
        have f1 := hB9.frozen 1
        have f2 := hB9.frozen 2
        have HR9 := Lib.hid hR9
        clear hR9 hB9 hV2 hU2 hO2
        go_wp2_with fail
        go_roundg (n - (k + 1))
        case measure => omega
        case rel =>
          refine ⟨k + 1, by omega, rfl, by go_num, ?_⟩
          have h1 := HN.out
          have h2 := HR9.out
          simp only [if_true] at h1
          rw [h1]
          simpa using h2
    · have hkn : k = n := by omega
      subst hkn
      have hfull : (bitsOf high v k).take k = bitsOf high v k := List.take_of_length_le (by rw [bitsOf_length]; omega)
      rw [hfull] at hB2 hV
      have d0 : wr.cell? ⟨w.heap.size, 0, none⟩ = some (.bool high) := by rw [hB2.cell]; rfl
      have d3 : wr.cell? ⟨w.heap.size, 1, none⟩ = some (.slice A1 l1.length c1) := by rw [hB2.cell]; rfl
      have d4 : wr.cell? ⟨w.heap.size, 2, none⟩ = some (.int .i64 ((bs ++ bitsOf high v k).length : Int)) := by rw [hB2.cell]; rfl
      have t0 : wr.cell? ⟨w.heap.size + 1, 0, none⟩ = some (.bool false) := by rw [hT2.cell]; rfl
      have t1 : wr.cell? ⟨w.heap.size + 1, 1, none⟩ = some (.slice none 0 0) := by rw [hT2.cell]; rfl
      have t2 : wr.cell? ⟨w.heap.size + 1, 2, none⟩ = some (.int .i64 0) := by rw [hT2.cell]; rfl
      have tf0 := hT2.frozen 0
      have tf1 := hT2.frozen 1
      have tf2 := hT2.frozen 2
      have HL := Lib.hid (last hT2 hV hU hO (Nat.le_succ _) ((bs ++ bitsOf high v k).length : Int))
      clear hB2 hT2 hV hU hO hfull
      generalize bs ++ bitsOf high v k = bk at *
      generalize hN : ((bk.length : Nat) : Int) = N at *
      go_wp2_with fail
      obtain ⟨m0, m1, m2, hV9, hU9, hO9⟩ := HL.out
      generalize (((wr.setCell ⟨w.heap.size + 1, 0, none⟩ (.bool high)).setCell ⟨w.heap.size + 1, 1, none⟩ (.slice A1 l1.length c1)).setCell ⟨w.heap.size + 1, 2, none⟩ (.int .i64 N)) = W9 at *
      refine bodyPost_ret (v := .tuple #[.agg #[.bool high, .slice A1 l1.length c1, .int .i64 N], .int .i64 0]) (by simp [results, Try.results27, go_sem, m0, m1, m2]) rfl ?_
      exact ⟨A1, c1, l1, by rw [hN], hV9, hU9, hO9⟩
theorem refPut_range (A : Option Addr) (m c : Nat) (high : Bool) (N v n : Int) (w : World) (hn : n < 0 ∨ 32 < n) :
    Calls Try.prog 27 #[.agg #[.bool high, .slice A m c, .int .i64 N], .int .u32 v, .int .i64 n] w fun e w' => e = .returned (.tuple #[.agg #[.bool high, .slice A m c, .int .i64 N], .int .i64 2]) ∧ Below w.heap.size w w' := by
  rcases hn with hn | hn
  · have d1 : decide (n < 0) = true := by simp; omega
    go_enter Try.func27, Try.ntmps27
    go_wp2_with fail
    go_returns
    exact ⟨rfl, by go_grown⟩
  · have d1 : decide (n < 0) = false := by simp; omega
    go_enter Try.func27, Try.ntmps27
    go_wp2_with fail
    go_returns
    exact ⟨rfl, by go_grown⟩
end Go.Proofs.Ytlkmhmiaekmkdaa
