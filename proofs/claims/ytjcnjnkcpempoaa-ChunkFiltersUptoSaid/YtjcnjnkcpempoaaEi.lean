/- The document's small functions of layer 12. -/
import Derived.Test.YtjcnjnkcpempoaaEf
set_option linter.unusedVariables false
set_option linter.unusedSimpArgs false
namespace Go.Proofs.Ytjcnjnkcpempoaa
open Go.ChangeShapes Go.WideShapes Go.ChangeAt Go.RowKit

set_option maxRecDepth 100000 in
theorem refBad_any (width bpp : Int) (w : World) : Calls Try.prog 41 #[.int .i64 width, .int .i64 bpp] w fun e w' => e = .returned (.bool (!mayC width bpp)) ∧ w' = w := by
  unfold mayC
  by_cases h1 : 1 ≤ width
  · by_cases h2 : width ≤ 1048576
    · by_cases h3 : 1 ≤ bpp
      · by_cases h4 : bpp ≤ 8
        all_goals
          go_enter Try.func41, Try.ntmps41
          go_wp2_with fail
          go_ret
          exact ⟨ret_bool (by simp [h1, h2, h3, h4]; try omega), rfl⟩
      · go_enter Try.func41, Try.ntmps41
        go_wp2_with fail
        go_ret
        exact ⟨ret_bool (by simp [h1, h2, h3]; try omega), rfl⟩
    · go_enter Try.func41, Try.ntmps41
      go_wp2_with fail
      go_ret
      exact ⟨ret_bool (by simp [h1, h2]; try omega), rfl⟩
  · go_enter Try.func41, Try.ntmps41
    go_wp2_with fail
    go_ret
    exact ⟨ret_bool (by simp [h1]; try omega), rfl⟩
set_option maxRecDepth 100000 in
theorem size_any (v : Int) (d : Nat) (hd : d = v.natAbs) (hv : -100000 ≤ v ∧ v ≤ 100000) (w : World) : Calls Try.prog 57 #[.int .i64 v] w fun e w' => e = .returned (.int .i64 (d : Int)) ∧ w' = w := by
  obtain ⟨h3, h4⟩ := hv
  by_cases h : v < 0
  · go_enter Try.func57, Try.ntmps57
    go_wp2_with fail
    go_ret
    exact ⟨ret_ik (by omega), rfl⟩
  · go_enter Try.func57, Try.ntmps57
    go_wp2_with fail
    go_ret
    exact ⟨ret_ik (by omega), rfl⟩
theorem size_dst (a b c x : Nat) (ha : a < 256) (hb : b < 256) (hc : c < 256) (hx : x < 256) (v : Int) (hv : v = (a : Int) + b - c - x) (d : Nat) (hd : d = dst a b c x) (w : World) :
    Calls Try.prog 57 #[.int .i64 v] w fun e w' => e = .returned (.int .i64 (d : Int)) ∧ w' = w :=
  size_any v d (by rw [hd, hv]; unfold dst; omega) (by omega) w
set_option maxRecDepth 100000 in
set_option maxHeartbeats 2000000 in
theorem refGuess_any (kind a b c : Nat) (hk : kind ≤ 4) (ha : a < 256) (hb : b < 256) (hc : c < 256) (w : World) :
    Calls Try.prog 42 #[.int .i64 (kind : Int), .int .i64 (a : Int), .int .i64 (b : Int), .int .i64 (c : Int)] w fun e w' => e = .returned (.int .i64 (gsN kind a b c : Nat)) ∧ w' = w := by
  rcases gs_cases hk with rfl | rfl | rfl | rfl | rfl
  · go_enter Try.func42, Try.ntmps42
    go_wp2_with fail
    go_ret
    exact ⟨rfl, rfl⟩
  · go_enter Try.func42, Try.ntmps42
    go_wp2_with fail
    go_ret
    exact ⟨rfl, rfl⟩
  · go_enter Try.func42, Try.ntmps42
    go_wp2_with fail
    go_ret
    exact ⟨rfl, rfl⟩
  · go_enter Try.func42, Try.ntmps42
    go_wp2_with fail
    go_ret
    exact ⟨ret_ik (by unfold gsN; simp), rfl⟩
  · obtain ⟨da, hda⟩ : ∃ d, d = dst a b c a := ⟨_, rfl⟩
    obtain ⟨db, hdb⟩ : ∃ d, d = dst a b c b := ⟨_, rfl⟩
    obtain ⟨dc, hdc⟩ : ∃ d, d = dst a b c c := ⟨_, rfl⟩
    have HV : Hid (gsN 4 a b c = if da ≤ db ∧ da ≤ dc then a else if db ≤ dc then b else c) := Lib.hid (by rw [hda, hdb, hdc]; rfl)
    have HA := Lib.hid hda; have HB := Lib.hid hdb; have HC := Lib.hid hdc
    have e1 : (a : Int) + b - c - a = (b : Int) - c := by omega
    have e2 : (a : Int) + b - c - b = (a : Int) - c := by omega
    clear hda hdb hdc
    have HSA := Lib.hid (fun (v : Int) (hv : v = (a : Int) + b - c - a) => size_dst a b c a ha hb hc ha v hv da HA.out)
    have HSB := Lib.hid (fun (v : Int) (hv : v = (a : Int) + b - c - b) => size_dst a b c b ha hb hc hb v hv db HB.out)
    have HSC := Lib.hid (fun (v : Int) (hv : v = (a : Int) + b - c - c) => size_dst a b c c ha hb hc hc v hv dc HC.out)
    clear e1 e2
    by_cases h1 : da ≤ db
    · by_cases h2 : da ≤ dc
      · go_enter Try.func42, Try.ntmps42
        go_wp2_with fail
        refine (HSA.out _ rfl _).mono ?_
        rintro e w1 ⟨rfl, rfl⟩
        go_wp2_with fail
        refine (HSB.out _ rfl _).mono ?_
        rintro e w1 ⟨rfl, rfl⟩
        go_wp2_with fail
        refine (HSA.out _ rfl _).mono ?_
        rintro e w1 ⟨rfl, rfl⟩
        go_wp2_with fail
        refine (HSC.out _ rfl _).mono ?_
        rintro e w1 ⟨rfl, rfl⟩
        go_wp2_with fail
        go_ret
        exact ⟨ret_ik (by rw [HV.out, if_pos ⟨h1, h2⟩]), rfl⟩
      · have h3 : ¬ db ≤ dc ∨ db ≤ dc := by omega
        rcases h3 with h3 | h3
        all_goals
          go_enter Try.func42, Try.ntmps42
          go_wp2_with fail
          refine (HSA.out _ rfl _).mono ?_
          rintro e w1 ⟨rfl, rfl⟩
          go_wp2_with fail
          refine (HSB.out _ rfl _).mono ?_
          rintro e w1 ⟨rfl, rfl⟩
          go_wp2_with fail
          refine (HSA.out _ rfl _).mono ?_
          rintro e w1 ⟨rfl, rfl⟩
          go_wp2_with fail
          refine (HSC.out _ rfl _).mono ?_
          rintro e w1 ⟨rfl, rfl⟩
          go_wp2_with fail
          refine (HSB.out _ rfl _).mono ?_
          rintro e w1 ⟨rfl, rfl⟩
          go_wp2_with fail
          refine (HSC.out _ rfl _).mono ?_
          rintro e w1 ⟨rfl, rfl⟩
          go_wp2_with fail
          go_ret
          exact ⟨ret_ik (by rw [HV.out, if_neg (fun h => h2 h.2)]; simp [h3]), rfl⟩
    · have h3 : ¬ db ≤ dc ∨ db ≤ dc := by omega
      rcases h3 with h3 | h3
      all_goals
        go_enter Try.func42, Try.ntmps42
        go_wp2_with fail
        refine (HSA.out _ rfl _).mono ?_
        rintro e w1 ⟨rfl, rfl⟩
        go_wp2_with fail
        refine (HSB.out _ rfl _).mono ?_
        rintro e w1 ⟨rfl, rfl⟩
        go_wp2_with fail
        refine (HSB.out _ rfl _).mono ?_
        rintro e w1 ⟨rfl, rfl⟩
        go_wp2_with fail
        refine (HSC.out _ rfl _).mono ?_
        rintro e w1 ⟨rfl, rfl⟩
        go_wp2_with fail
        go_ret
        exact ⟨ret_ik (by rw [HV.out, if_neg (fun h => h1 h.1)]; simp [h3]), rfl⟩
/-- A byte of rows, 0 outside. -/
def atM (L : List UInt8) (W : Nat) (x y : Int) : Nat := if x < 0 ∨ y < 0 then 0 else byteAt L (y.toNat * W + x.toNat)
theorem atM_lt (L : List UInt8) (W : Nat) (x y : Int) : atM L W x y < 256 := by
  unfold atM
  split
  · omega
  · exact byteAt_lt _ _
set_option maxRecDepth 100000 in
set_option maxHeartbeats 1000000 in
theorem refAt_any (A : Option Addr) (n c W : Nat) (L : List UInt8) (hn : L.length = n) (x y : Int) (hin : 0 ≤ x → 0 ≤ y → y.toNat * W + x.toNat < n) (hn2 : n ≤ 140737488355328) (B : Nat) (w : World) (h : Bs w B A L) :
    Calls Try.prog 43 #[.slice A n c, .int .i64 (W : Nat), .int .i64 x, .int .i64 y] w fun e w' => e = .returned (.int .i64 (atM L W x y : Nat)) ∧ w' = w := by
  by_cases h1 : x < 0
  · have HV : Hid (atM L W x y = 0) := Lib.hid (if_pos (.inl h1))
    go_enter Try.func43, Try.ntmps43
    go_wp2_with fail
    go_ret
    exact ⟨ret_ik (by rw [HV.out]; rfl), rfl⟩
  · by_cases h2 : y < 0
    · have HV : Hid (atM L W x y = 0) := Lib.hid (if_pos (.inr h2))
      go_enter Try.func43, Try.ntmps43
      go_wp2_with fail
      go_ret
      exact ⟨ret_ik (by rw [HV.out]; rfl), rfl⟩
    · have HV : Hid (atM L W x y = byteAt L (y.toNat * W + x.toNat)) := Lib.hid (if_neg (by omega))
      have hi := hin (by omega) (by omega)
      obtain ⟨Y, rfl⟩ : ∃ Y : Nat, y = (Y : Int) := ⟨y.toNat, by omega⟩
      obtain ⟨X, rfl⟩ : ∃ X : Nat, x = (X : Int) := ⟨x.toNat, by omega⟩
      simp only [Int.toNat_natCast] at hi HV
      have HP : Hid ((Y : Int) * (W : Int) = ((Y * W : Nat) : Int)) := Lib.hid (by rw [Int.natCast_mul])
      obtain ⟨ad, rfl, _, hc⟩ := h.at_ (k := Y * W + X) (by omega)
      rw [byteAt_get _ _ (by omega)] at hc
      have hvl := byteAt_lt L (Y * W + X)
      generalize byteAt L (Y * W + X) = v at *
      generalize Y * W = Z at *
      have hp := HP.out
      clear hin HP h1 h2 h
      go_enter Try.func43, Try.ntmps43
      go_wp2_with fail
      go_ret
      exact ⟨ret_ik (by rw [HV.out]), rfl⟩
set_option maxRecDepth 100000 in
set_option maxHeartbeats 1000000 in
theorem refCorner_any (A : Option Addr) (n c W : Nat) (L : List UInt8) (hn : L.length = n) (x y : Int) (hin : 0 ≤ x → 0 ≤ y → y.toNat * W + x.toNat < n) (hn2 : n ≤ 140737488355328) (B : Nat) (w : World) (h : Bs w B A L) :
    Calls Try.prog 44 #[.slice A n c, .int .i64 (W : Nat), .int .i64 x, .int .i64 y] w fun e w' => e = .returned (.int .i64 (atM L W x y : Nat)) ∧ w' = w := by
  by_cases h1 : x < 0
  · have HV : Hid (atM L W x y = 0) := Lib.hid (if_pos (.inl h1))
    go_enter Try.func44, Try.ntmps44
    go_wp2_with fail
    go_ret
    exact ⟨ret_ik (by rw [HV.out]; rfl), rfl⟩
  · by_cases h2 : y < 0
    · have HV : Hid (atM L W x y = 0) := Lib.hid (if_pos (.inr h2))
      go_enter Try.func44, Try.ntmps44
      go_wp2_with fail
      go_ret
      exact ⟨ret_ik (by rw [HV.out]; rfl), rfl⟩
    · have HV : Hid (atM L W x y = byteAt L (y.toNat * W + x.toNat)) := Lib.hid (if_neg (by omega))
      have hi := hin (by omega) (by omega)
      obtain ⟨Y, rfl⟩ : ∃ Y : Nat, y = (Y : Int) := ⟨y.toNat, by omega⟩
      obtain ⟨X, rfl⟩ : ∃ X : Nat, x = (X : Int) := ⟨x.toNat, by omega⟩
      simp only [Int.toNat_natCast] at hi HV
      have HP : Hid ((Y : Int) * (W : Int) = ((Y * W : Nat) : Int)) := Lib.hid (by rw [Int.natCast_mul])
      obtain ⟨ad, rfl, _, hc⟩ := h.at_ (k := Y * W + X) (by omega)
      rw [byteAt_get _ _ (by omega)] at hc
      have hvl := byteAt_lt L (Y * W + X)
      generalize byteAt L (Y * W + X) = v at *
      generalize Y * W = Z at *
      have hp := HP.out
      clear hin HP h1 h2 h
      go_enter Try.func44, Try.ntmps44
      go_wp2_with fail
      go_ret
      exact ⟨ret_ik (by rw [HV.out]), rfl⟩
end Go.Proofs.Ytjcnjnkcpempoaa
