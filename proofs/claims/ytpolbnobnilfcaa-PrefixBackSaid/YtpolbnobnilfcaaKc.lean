/- Contract of the program's merged: two rising rows of coins as one. -/
import Derived.Test.YtpolbnobnilfcaaKb
import Derived.Deep.RegionHeld3
import Derived.Deep.AppendLies
namespace Go.Proofs.Ytpolbnobnilfcaa
open Go.ChangeShapes Go.WideShapes Go.ChangeAt Go.RowKit

def tagL (b : Bool) (X : List Nat) : List (Bool × Nat) := X.map fun x => (b, x)
theorem tagL_cons (b : Bool) (x : Nat) (X : List Nat) : tagL b (x :: X) = (b, x) :: tagL b X := rfl
theorem tagL_length (b : Bool) (X : List Nat) : (tagL b X).length = X.length := by simp [tagL]
theorem mg_left_nil : ∀ Y : List Nat, mg [] Y = tagL false Y
  | [] => by simp [mg, tagL]
  | y :: Y => by rw [mg, mg_left_nil Y]; rfl
theorem mg_right_nil : ∀ X : List Nat, mg X [] = tagL true X
  | [] => by simp [mg, tagL]
  | x :: X => by rw [mg, mg_right_nil X]; rfl
theorem mg_first (x y : Nat) (X Y : List Nat) (h : x ≤ y) : mg (x :: X) (y :: Y) = (true, x) :: mg X (y :: Y) := by rw [mg, if_pos h]
theorem mg_second (x y : Nat) (X Y : List Nat) (h : ¬ x ≤ y) : mg (x :: X) (y :: Y) = (false, y) :: mg (x :: X) Y := by rw [mg, if_neg h]
/-- The merging under way: the rests X and Y, what has been laid out. -/
def CmAt (w : World) (own P : List Nat) (va vb vr : Value) (X Y : List Nat) (wr : World) : Prop :=
  ∃ A B ca cb acc gr n cr, va = .slice A X.length ca ∧ vb = .slice B Y.length cb ∧ vr = .slice (some ⟨gr, 0, none⟩) n cr ∧ X.length ≤ ca ∧ Y.length ≤ cb ∧ ca ≤ maxLen ∧ cb ≤ maxLen ∧ Cs wr w.heap.size A (tagL true X) ∧ Cs wr w.heap.size B (tagL false Y) ∧
    CRow wr w.heap.size gr n cr acc ∧ acc ++ mg X Y = mg own P ∧ Below w.heap.size w wr
theorem mg_rests (X Y : List Nat) (h : X = [] ∨ Y = []) : mg X Y = tagL true X ++ tagL false Y := by
  rcases h with rfl | rfl
  · rw [mg_left_nil]; rfl
  · rw [mg_right_nil]; simp [tagL]
theorem Cs.first {w : World} {B g off : Nat} {c : Bool × Nat} {o : List (Bool × Nat)} (h : Cs w B (some ⟨g, off, none⟩) (c :: o)) : g < B ∧ w.cell? ⟨g, off, none⟩ = some (.int .i64 (c.2 : Int)) ∧ w.cell? ⟨g, off + 1, none⟩ = some (.bool (!c.1)) := by
  obtain ⟨g', off', e, hg, hc⟩ := h (by simp)
  injection e with e
  injection e with e1 e2
  subst e1 e2
  exact ⟨hg, hc 0 _ (by rw [coinsV_cons]; rfl), hc 1 _ (by rw [coinsV_cons]; rfl)⟩
theorem Cs.some_ {w : World} {B : Nat} {A : Option Addr} {c : Bool × Nat} {o : List (Bool × Nat)} (h : Cs w B A (c :: o)) : ∃ g off, A = some ⟨g, off, none⟩ := by
  obtain ⟨g, off, e, _⟩ := h (by simp)
  exact ⟨g, off, e⟩
def CmRes (w : World) (own P : List Nat) (e : Ending) (w' : World) : Prop :=
  ∃ A' n c', e = .returned (.slice A' n c') ∧ n = own.length + P.length ∧ w'.ownsRow w.heap.size 102 2 (.slice A' n c') n (coinsV (mg own P)) ∧ Below w.heap.size w w'

set_option maxHeartbeats 4000000 in
set_option maxRecDepth 100000 in
theorem merged_any (w : World) (A B : Option Addr) (ca cb : Nat) (own P : List Nat) (hA : Cs w w.heap.size A (tagL true own)) (hB : Cs w w.heap.size B (tagL false P)) (hca : own.length ≤ ca) (hcb : P.length ≤ cb) (hma : ca ≤ maxLen) (hmb : cb ≤ maxLen) (hl : own.length + P.length ≤ 16384)
    (hoA : ∀ x ∈ own, x ≤ 1152921504606846976) (hoB : ∀ x ∈ P, x ≤ 1152921504606846976) :
    Calls Try.prog 54 #[.slice A own.length ca, .slice B P.length cb] w (CmRes w own P) := by
  obtain ⟨i0, hi, hz0, hz1, hz2⟩ := info_parts info_coin
  have e0 : IntKind.i64.wrap ((own.length : Int) + (P.length : Int)) = ((own.length + P.length : Nat) : Int) := by rw [IntWalk.i64_in _ (by omega)]; simp
  have HA := Lib.hid hA; clear hA
  have HB := Lib.hid hB; clear hB
  have HoA := Lib.hid hoA; clear hoA
  have HoB := Lib.hid hoB; clear hoB
  go_enter Try.func54, Try.ntmps54
  go_wp2_with (at_make; refine wpList_make_own _ rfl (.const (.int .i64 0)) (.tmp 10) 89 rfl w.heap.size 102 i0 (.agg #[.int .i64 0, .bool false]) 2 Try.underlying89 hi hz0 hz1 .i64 .i64 _ (own.length + P.length) rfl rfl rfl (by rw [hz2]; omega) (by unfold maxLen; omega) (Nat.le_refl _) ?_; intro w1 hown1 hg1; have hb1 := (Below.refl w.heap.size w).grown hg1 (Nat.le_refl _) (by simp))
  have HST : Hid (CmAt w own P (.slice A own.length ca) (.slice B P.length cb) (.slice (some ⟨w.heap.size, 0, none⟩) 0 (own.length + P.length)) own P w1) := Lib.hid
    ⟨A, B, ca, cb, [], w.heap.size, 0, own.length + P.length, rfl, rfl, rfl, hca, hcb, hma, hmb, HA.out.below hb1, HB.out.below hb1, hown1, rfl, hb1⟩
  clear hown1 hg1 hb1 e0
  go_loopw [0, 1, 5] (fun va vb vr wr => ∃ X Y : List Nat, Hid (X.length ≤ own.length) ∧ Hid (Y.length ≤ P.length) ∧ X <:+ own ∧ Y <:+ P ∧ Hid (CmAt w own P va vb vr X Y wr)) (fun va vb _ _ => (match va with | .slice _ n _ => n | _ => 0) + (match vb with | .slice _ n _ => n | _ => 0))
  case atStart => exact ⟨own, P, Lib.hid (Nat.le_refl _), Lib.hid (Nat.le_refl _), List.suffix_refl _, List.suffix_refl _, HST⟩
  case round =>
    obtain ⟨X, Y, hX, hY, hsX, hsY, hC⟩ := hrel
    obtain ⟨A, B, ca, cb, acc, gr, n, cr, rfl, rfl, rfl, hca, hcb, hma, hmb, hA, hB, hO, hM, hBe⟩ := hC.out
    clear hC
    have HM := Lib.hid hM; clear hM
    have HBe := Lib.hid hBe; clear hBe
    have HA := Lib.hid hA; clear hA
    have HB := Lib.hid hB; clear hB
    have hnl := hO.len
    have HML : Hid (n + (mg X Y).length = own.length + P.length) := Lib.hid (by
      have h1 := congrArg List.length HM.out
      rw [List.length_append, mg_length own P] at h1
      omega)
    have HO := Lib.hid hO; clear hO
    have hs1 := HBe.out.size
    by_cases hXY : X = [] ∨ Y = []
    · have HMR := Lib.hid (mg_rests X Y hXY)
      have hln : n + X.length + Y.length = own.length + P.length := by
        have h1 := HML.out
        rw [mg_length] at h1
        omega
      have HLN := Lib.hid hln
      have hln1 : n + X.length + Y.length ≤ 16384 := by omega
      clear hln
      have HXL := Lib.hid (tagL_length true X)
      have HYL := Lib.hid (tagL_length false Y)
      have hz : ¬ 0 < X.length ∨ ¬ 0 < Y.length := by
        rcases hXY with rfl | rfl
        · exact .inl (by simp)
        · exact .inr (by simp)
      by_cases p : 0 < X.length
      · have d1 : decide ((0 : Int) < (X.length : Int)) = true := decide_eq_true (by omega)
        have d2 : decide ((0 : Int) < (Y.length : Int)) = false := decide_eq_false (by omega)
        go_wp2_with (first | (at_builtin; refine wpList_append_cs _ rfl (.tmp 45) (.tmp 46) 89 rfl w.heap.size 102 i0 (.agg #[.int .i64 0, .bool false]) Try.underlying89 hi hz0 hz1 hz2 rfl (.slice (some ⟨gr, 0, none⟩) n cr) n (coinsV acc) rfl HO.out w.heap.size A X.length ca (tagL true X) HXL.out rfl HA.out (by omega) hs1 ?_; intro A1 c1 w1 o1 hg1; have hb1 := (Below.refl w.heap.size wr).grown hg1 hs1 (fun k hk => (World.ownsRow.lt HO.out k hk).1); have HB1 := Lib.hid hb1; have HO1 := Lib.hid o1; have hs2 := hb1.size; clear hb1 o1 hg1) | (at_builtin; refine wpList_append_cs _ rfl (.tmp 47) (.tmp 48) 89 rfl w.heap.size 102 i0 (.agg #[.int .i64 0, .bool false]) Try.underlying89 hi hz0 hz1 hz2 rfl (.slice A1 (n + X.length) c1) (n + X.length) (coinsV acc ++ coinsV (tagL true X)) rfl HO1.out w.heap.size B Y.length cb (tagL false Y) HYL.out rfl (HB.out.below HB1.out) (by omega) (by omega) ?_; intro A2 c2 w2 o2 hg2; have hb2 := (Below.refl w.heap.size w1).grown hg2 (by omega) (fun k hk => (HO1.out.lt k hk).1); have HB2 := Lib.hid (HB1.out.trans hb2); have HO2 := Lib.hid o2; clear hb2 o2 hg2))
        go_ret
        exact ⟨A2, n + X.length + Y.length, c2, rfl, HLN.out, by rw [← HM.out, HMR.out, ← List.append_assoc, coinsV_append, coinsV_append]; exact HO2.out, HBe.out.trans HB2.out⟩
      · have d1 : decide ((0 : Int) < (X.length : Int)) = false := decide_eq_false (by omega)
        go_wp2_with (first | (at_builtin; refine wpList_append_cs _ rfl (.tmp 45) (.tmp 46) 89 rfl w.heap.size 102 i0 (.agg #[.int .i64 0, .bool false]) Try.underlying89 hi hz0 hz1 hz2 rfl (.slice (some ⟨gr, 0, none⟩) n cr) n (coinsV acc) rfl HO.out w.heap.size A X.length ca (tagL true X) HXL.out rfl HA.out (by omega) hs1 ?_; intro A1 c1 w1 o1 hg1; have hb1 := (Below.refl w.heap.size wr).grown hg1 hs1 (fun k hk => (World.ownsRow.lt HO.out k hk).1); have HB1 := Lib.hid hb1; have HO1 := Lib.hid o1; have hs2 := hb1.size; clear hb1 o1 hg1) | (at_builtin; refine wpList_append_cs _ rfl (.tmp 47) (.tmp 48) 89 rfl w.heap.size 102 i0 (.agg #[.int .i64 0, .bool false]) Try.underlying89 hi hz0 hz1 hz2 rfl (.slice A1 (n + X.length) c1) (n + X.length) (coinsV acc ++ coinsV (tagL true X)) rfl HO1.out w.heap.size B Y.length cb (tagL false Y) HYL.out rfl (HB.out.below HB1.out) (by omega) (by omega) ?_; intro A2 c2 w2 o2 hg2; have hb2 := (Below.refl w.heap.size w1).grown hg2 (by omega) (fun k hk => (HO1.out.lt k hk).1); have HB2 := Lib.hid (HB1.out.trans hb2); have HO2 := Lib.hid o2; clear hb2 o2 hg2))
        go_ret
        exact ⟨A2, n + X.length + Y.length, c2, rfl, HLN.out, by rw [← HM.out, HMR.out, ← List.append_assoc, coinsV_append, coinsV_append]; exact HO2.out, HBe.out.trans HB2.out⟩
    · obtain ⟨x, X, rfl⟩ : ∃ x X', X = x :: X' := by
        cases X with
        | nil => exact absurd (.inl rfl) hXY
        | cons x X => exact ⟨x, X, rfl⟩
      obtain ⟨y, Y, rfl⟩ : ∃ y Y', Y = y :: Y' := by
        cases Y with
        | nil => exact absurd (.inr rfl) hXY
        | cons y Y => exact ⟨y, Y, rfl⟩
      clear hXY
      have hx := HoA.out x (hsX.subset (by simp))
      have hy := HoB.out y (hsY.subset (by simp))
      obtain ⟨ga, oa, rfl⟩ := HA.out.some_
      obtain ⟨gb, ob, rfl⟩ := HB.out.some_
      obtain ⟨la, a1, a2⟩ := HA.out.first
      obtain ⟨lb, b1, b2⟩ := HB.out.first
      have HTA := Lib.hid HA.out.tail
      have HTB := Lib.hid HB.out.tail
      have hgr := HO.out.lt
      rw [List.length_cons] at hca hcb
      have q1 : (1 : Int) ≤ (X.length : Int) + 1 := by omega
      have q2 : (X.length : Int) + 1 ≤ (ca : Int) := by omega
      have q3 : (1 : Int) ≤ (Y.length : Int) + 1 := by omega
      have q4 : (Y.length : Int) + 1 ≤ (cb : Int) := by omega
      have hml := HML.out
      rw [mg_length, List.length_cons, List.length_cons] at hml
      by_cases hxy : x ≤ y
      · have d3 : decide ((x : Int) ≤ (y : Int)) = true := decide_eq_true (by omega)
        have hne : some ga ≠ some gr := fun e => by injection e with e; omega
        go_wp2_with fail
        go_quiet (fail)
        go_wp2_with fail
        go_region_held3 (fun w' => w'.cell? ⟨ga, oa, none⟩ = some (.int .i64 (x : Int)) ∧ w'.cell? ⟨ga, oa + 1, none⟩ = some (.bool false))
          (first
            | go_keep
            | (go_split_ands
               refine ⟨?_, ?_⟩
               · (rw [hgrow.cell_far _ (by simp; omega) hne]; assumption)
               · (rw [hgrow.cell_far _ (by simp; omega) hne]; assumption)))
          ((refine step_append_lies _ (by rfl) _ _ _ (by rfl) w.heap.size 102 i0 (.agg #[.int .i64 0, .bool false]) 2 16 Try.underlying89 hi hz0 hz1 hz2 rfl (by omega) (.slice (some ⟨gr, 0, none⟩) n cr) n (coinsV acc) (by rfl) (World.ownsRow.alloc (w := wr) HO.out _)
              ⟨wr.heap.size, 0, none⟩ 1 1 [.int .i64 (x : Int), .bool false] (by rfl) (by rfl) (World.news_of_block (cs := #[.int .i64 (x : Int), .bool false]) (t := 102) (fr := (0, 0)) (heap_alloc_new wr _)) (by simp [Value.oneCell'])
              (by omega) (by unfold maxLen; omega) (by omega) (by simp; omega) (wr.heap.size + 1) (by simp) ?_; intro gg cap w1 hown1 hgrow hat hlt))
        go_wp2_with fail
        go_roundw
        case rel =>
          have hbw : Below w.heap.size wr w1 := ((below_drewN (Below.refl w.heap.size wr) (nq + 1)).alloc (show w.heap.size ≤ (wr.drewN (nq + 1)).heap.size from hs1) _).grown hgrow (by simp; omega) (fun k hk => (World.ownsRow.lt HO.out k hk).1)
          refine ⟨X, y :: Y, Lib.hid (by have := hX.out; simp at this; omega), hY, (List.suffix_cons x X).trans hsX, hsY, Lib.hid ⟨_, _, _, _, acc ++ [(true, x)], gg, n + 1, cap, rfl, rfl, rfl, by omega, by rw [List.length_cons]; omega, by omega, hmb, ?_, HB.out.below hbw, ?_, ?_, HBe.out.trans hbw⟩⟩
          · by_cases h1 : ca = 1
            · obtain rfl : X = [] := List.eq_nil_of_length_eq_zero (by omega)
              exact Cs.nil_
            · rw [if_neg h1]; exact HTA.out.below hbw
          · unfold CRow; rw [coinsV_append]; exact hown1
          · rw [← HM.out, mg_first x y X Y hxy, List.append_assoc]; rfl
        case measure => simp
      · have d3 : decide ((x : Int) ≤ (y : Int)) = false := decide_eq_false (by omega)
        have hne : some gb ≠ some gr := fun e => by injection e with e; omega
        go_wp2_with fail
        go_quiet (fail)
        go_wp2_with fail
        go_region_held3 (fun w' => w'.cell? ⟨gb, ob, none⟩ = some (.int .i64 (y : Int)) ∧ w'.cell? ⟨gb, ob + 1, none⟩ = some (.bool true))
          (first
            | go_keep
            | (go_split_ands
               refine ⟨?_, ?_⟩
               · (rw [hgrow.cell_far _ (by simp; omega) hne]; assumption)
               · (rw [hgrow.cell_far _ (by simp; omega) hne]; assumption)))
          ((refine step_append_lies _ (by rfl) _ _ _ (by rfl) w.heap.size 102 i0 (.agg #[.int .i64 0, .bool false]) 2 16 Try.underlying89 hi hz0 hz1 hz2 rfl (by omega) (.slice (some ⟨gr, 0, none⟩) n cr) n (coinsV acc) (by rfl) (World.ownsRow.alloc (w := wr) HO.out _)
              ⟨wr.heap.size, 0, none⟩ 1 1 [.int .i64 (y : Int), .bool true] (by rfl) (by rfl) (World.news_of_block (cs := #[.int .i64 (y : Int), .bool true]) (t := 102) (fr := (0, 0)) (heap_alloc_new wr _)) (by simp [Value.oneCell'])
              (by omega) (by unfold maxLen; omega) (by omega) (by simp; omega) (wr.heap.size + 1) (by simp) ?_; intro gg cap w1 hown1 hgrow hat hlt))
        go_wp2_with fail
        go_roundw
        case rel =>
          have hbw : Below w.heap.size wr w1 := ((below_drewN (Below.refl w.heap.size wr) (nq + 1)).alloc (show w.heap.size ≤ (wr.drewN (nq + 1)).heap.size from hs1) _).grown hgrow (by simp; omega) (fun k hk => (World.ownsRow.lt HO.out k hk).1)
          refine ⟨x :: X, Y, hX, Lib.hid (by have := hY.out; simp at this; omega), hsX, (List.suffix_cons y Y).trans hsY, Lib.hid ⟨_, _, _, _, acc ++ [(false, y)], gg, n + 1, cap, rfl, rfl, rfl, by rw [List.length_cons]; omega, by omega, hma, by omega, HA.out.below hbw, ?_, ?_, ?_, HBe.out.trans hbw⟩⟩
          · by_cases h1 : cb = 1
            · obtain rfl : Y = [] := List.eq_nil_of_length_eq_zero (by omega)
              exact Cs.nil_
            · rw [if_neg h1]; exact HTB.out.below hbw
          · unfold CRow; rw [coinsV_append]; exact hown1
          · rw [← HM.out, mg_second x y X Y hxy, List.append_assoc]; rfl
        case measure => simp
end Go.Proofs.Ytpolbnobnilfcaa
