/- Contract of the stream's run: a length and how often. -/
import Derived.Test.YthbdhpciibjnmaaIh
namespace Go.Proofs.Ythbdhpciibjnmaa
open Go.ChangeShapes Go.WideShapes Go.ChangeAt Go.RowKit

def Run2 (w : World) (B gs gr : Nat) (A : Option Addr) (c : Nat) (b : List UInt8) (most : Nat) (Ao : Option Addr) (co : Nat) (out : List UInt8) (fx : Option Addr) (x : Except Nat ((Int × Nat) × Nat)) (e : Ending) (w' : World) : Prop :=
  match x with
  | .error k => e = gaveUp k ∧ Left w B w'
  | .ok ((z, t), q) => e = .returned (.tuple #[.int .i64 z, .int .i64 (t : Int)]) ∧ Str w' B gs gr A c b most q Ao co out fx ∧ Left w B w'
/-- How often at least a symbol says a length, and how many bits more. -/
def repL (v : Nat) : Nat × Nat := if v = 16 then (3, 2) else if v = 17 then (3, 3) else if v = 18 then (11, 7) else (1, 0)
theorem repL_le (v : Nat) : (repL v).1 ≤ 11 ∧ (repL v).2 ≤ 7 := by
  unfold repL
  split
  · decide
  · split
    · decide
    · split
      · decide
      · decide
set_option maxHeartbeats 1000000 in
theorem repeats_any (w : World) (v : Nat) :
    Calls Try.prog 84 #[.int .i64 (v : Int)] w fun e w' => e = .returned (.tuple #[.int .i64 ((repL v).1 : Int), .int .i64 ((repL v).2 : Int)]) ∧ w = w' := by
  obtain ⟨X, HX⟩ : ∃ X, Hid (repL v = X) := ⟨_, Lib.hid rfl⟩
  rw [HX.out]
  unfold repL at HX
  by_cases c16 : v = 16
  · rw [if_pos c16] at HX
    rw [← HX.out]
    clear HX
    subst c16
    go_enter Try.func84, Try.ntmps84
    go_wp2_with fail
    go_ret2
    exact ⟨rfl, rfl⟩
  · rw [if_neg c16] at HX
    have d16 : ((v : Int) == 16) = false := by rw [beq_eq_false_iff_ne]; omega
    by_cases c17 : v = 17
    · rw [if_pos c17] at HX
      rw [← HX.out]
      clear HX
      subst c17
      clear c16 d16
      go_enter Try.func84, Try.ntmps84
      go_wp2_with fail
      go_ret2
      exact ⟨rfl, rfl⟩
    · rw [if_neg c17] at HX
      have d17 : ((v : Int) == 17) = false := by rw [beq_eq_false_iff_ne]; omega
      by_cases c18 : v = 18
      · rw [if_pos c18] at HX
        rw [← HX.out]
        clear HX
        subst c18
        clear c16 d16 c17 d17
        go_enter Try.func84, Try.ntmps84
        go_wp2_with fail
        go_ret2
        exact ⟨rfl, rfl⟩
      · rw [if_neg c18] at HX
        have d18 : ((v : Int) == 18) = false := by rw [beq_eq_false_iff_ne]; omega
        rw [← HX.out]
        clear HX c16 c17 c18
        go_enter Try.func84, Try.ntmps84
        go_wp2_with fail
        go_ret2
        exact ⟨rfl, rfl⟩
/-- runM by the program's way: first how often, then the length. -/
def runL (v : Nat) (row : List Int) : Int := if v = 16 then row.getLast?.getD 0 else if v = 17 ∨ v = 18 then 0 else (v : Int)
theorem runM_L (b : List UInt8) (v : Nat) (row : List Int) (p : Nat) (hp : p ≤ 8 * b.length) : runM b v row p = if v = 16 ∧ row = [] then .error 41 else match takeM b p (repL v).2 with
    | .error e => .error e
    | .ok (k, q) => .ok ((runL v row, (repL v).1 + k), q) := by
  unfold runM repL runL
  by_cases c16 : v = 16
  · simp only [c16, if_true, true_and]
    rcases hl : row.getLast? with _ | x
    · rw [if_pos (List.getLast?_eq_none_iff.mp hl)]
    · rw [if_neg (fun h => by rw [h] at hl; cases hl)]
      rfl
  · by_cases c17 : v = 17
    · subst c17
      simp
      cases takeM b p 3 <;> rfl
    · by_cases c18 : v = 18
      · subst c18
        simp
        cases takeM b p 7 <;> rfl
      · simp only [c16, c17, c18, if_false, false_and, false_or]
        rw [takeM_zero b p hp]
set_option maxHeartbeats 8000000 in
set_option maxRecDepth 100000 in
theorem run_any (w : World) (B gs gr : Nat) (A : Option Addr) (c : Nat) (b : List UInt8) (most p : Nat) (Ao : Option Addr) (co : Nat) (out : List UInt8) (fx : Option Addr) (h : Str w B gs gr A c b most p Ao co out fx) (v : Nat) (hv : v < 19)
    (Ar : Option Addr) (cr n base : Nat) (row : List Int) (hO : w.ownsRow base 3 1 (.slice Ar n cr) n (intsV row)) (hn : n ≤ 1000) :
    Calls Try.prog 77 #[.pointer (some ⟨gs, 0, none⟩), .int .i64 (v : Int), .slice Ar n cr] w (Run2 w B gs gr A c b most Ao co out fx (runM b v row p)) := by
  have hl := own_len hO
  rw [intsV_length] at hl
  rw [runM_L b v row p h.rdr.2.2.2.1]
  by_cases hbad : v = 16 ∧ row = []
  · rw [if_pos hbad]
    obtain ⟨rfl, rfl⟩ := hbad
    obtain rfl : n = 0 := by simpa using hl.symm
    clear hO hl hn
    go_enter Try.func77, Try.ntmps77
    go_wp2_with fail
    exact ⟨rfl, rfl, Left.refl _ _⟩
  · rw [if_neg hbad]
    have HR := Lib.hid (repeats_any w v)
    obtain ⟨hv1, hv2⟩ := repL_le v
    generalize (repL v).1 = y at *
    generalize (repL v).2 = m at *
    have HT := Lib.hid (take_num w B gs gr A c b most p Ao co out fx h m (by omega))
    have hkb : ∀ k q, takeM b p m = .ok (k, q) → k < 128 := fun k q hx => by
      have h1 := (takeM_ok hx).1
      have h2 : 2 ^ m ≤ 2 ^ 7 := Nat.pow_le_pow_right (by omega) hv2
      omega
    have HH := Lib.hid h
    have HOo := Lib.hid hO
    have HB := Lib.hid hbad
    obtain ⟨Z, HZ⟩ : ∃ Z, Hid (runL v row = Z) := ⟨_, Lib.hid rfl⟩
    rw [HZ.out]
    unfold runL at HZ
    clear h hO hbad
    have first_ : ∀ (P : Prop), (v = 16 → 0 < n → P) → (v ≠ 16 → P) → P := fun P h1 h2 => by
      by_cases c16 : v = 16
      · refine h1 c16 ?_
        rcases Nat.eq_zero_or_pos n with h0 | h0
        · exact absurd ⟨c16, List.eq_nil_of_length_eq_zero (by omega)⟩ HB.out
        · exact h0
      · exact h2 c16
    rcases hx : takeM b p m with ke | ⟨k, q⟩
    · rw [hx] at HT
      show Calls _ _ _ _ (Run2 w B gs gr A c b most Ao co out fx (.error ke))
      clear hx hkb hv1 hv2 HZ
      refine first_ _ (fun c16 h0 => ?_) (fun c16 => ?_)
      · subst c16
        have d0 : (((n : Nat) : Int) == 0) = false := by rw [beq_eq_false_iff_ne]; omega
        clear first_ hl
        go_enter Try.func77, Try.ntmps77
        go_wp2_with fail
        refine HR.out.mono ?_
        rintro e w3 ⟨rfl, rfl⟩
        go_wp2_with fail
        refine HT.out.mono ?_
        rintro e w3 ⟨rfl, hl⟩
        exact ⟨rfl, rfl, hl⟩
      · have d16 : ((v : Int) == 16) = false := by rw [beq_eq_false_iff_ne]; omega
        clear first_ hl c16
        go_enter Try.func77, Try.ntmps77
        go_wp2_with fail
        refine HR.out.mono ?_
        rintro e w3 ⟨rfl, rfl⟩
        go_wp2_with fail
        refine HT.out.mono ?_
        rintro e w3 ⟨rfl, hl⟩
        exact ⟨rfl, rfl, hl⟩
    · rw [hx] at HT
      have hk := hkb k q hx
      show Calls _ _ _ _ (Run2 w B gs gr A c b most Ao co out fx (.ok ((Z, y + k), q)))
      have hs : Hid ((y : Int) + (k : Int) = ((y + k : Nat) : Int)) := Lib.hid (by omega)
      clear hx hkb
      refine first_ _ (fun c16 h0 => ?_) (fun c16 => ?_)
      · subst c16
        have hne : row ≠ [] := fun e => by subst e; simp at hl; omega
        have hlast : row.getLast? = some (row[n - 1]'(by omega)) := by
          rw [List.getLast?_eq_getElem?, show row.length - 1 = n - 1 by omega, List.getElem?_eq_getElem (by omega)]
        rw [if_pos rfl, hlast] at HZ
        obtain ⟨ga, rfl, hrc, _, _, _⟩ := row_form HOo.out h0
        have HC : Hid (∀ w', Left w B w' → w'.cell? ⟨ga, n - 1, none⟩ = some (.int .i64 (row[n - 1]'(by omega)))) := Lib.hid (fun w' hl' => row_at (hl'.2.own (by decide) HOo.out) (n - 1) (by omega))
        have HZ2 : Hid ((row[n - 1]'(by omega)) = Z) := HZ
        generalize row[n - 1]'(by omega) = z at *
        have d0 : (((n : Nat) : Int) == 0) = false := by rw [beq_eq_false_iff_ne]; omega
        have s1 : IntKind.i64.wrap ((n : Int) - 1) = (n : Int) - 1 := IntWalk.i64_in _ (by omega)
        have s2 : 0 ≤ (n : Int) - 1 := by omega
        have s3 : ((n : Int) - 1).toNat = n - 1 := by omega
        have s4 : (n : Int) - 1 < (n : Int) := by omega
        have s5 : 1 ≤ n := by omega
        have s6 : (1 : Int) ≤ (n : Int) := by omega
        clear first_ hl hne hlast HZ
        go_enter Try.func77, Try.ntmps77
        go_wp2_with fail
        refine HR.out.mono ?_
        rintro e w3 ⟨rfl, rfl⟩
        go_wp2_with fail
        refine HT.out.mono ?_
        rintro e w3 ⟨rfl, hs3, hl3⟩
        have hc3 := HC.out w3 hl3
        go_wp2_with fail
        go_ret2
        exact ⟨ret_two HZ2.out hs.out, hs3, hl3⟩
      · have d16 : ((v : Int) == 16) = false := by rw [beq_eq_false_iff_ne]; omega
        rw [if_neg c16] at HZ
        by_cases c17 : v = 17
        · subst c17
          rw [if_pos (.inl rfl)] at HZ
          clear first_ hl c16 d16
          go_enter Try.func77, Try.ntmps77
          go_wp2_with fail
          refine HR.out.mono ?_
          rintro e w3 ⟨rfl, rfl⟩
          go_wp2_with fail
          refine HT.out.mono ?_
          rintro e w3 ⟨rfl, hs3, hl3⟩
          go_wp2_with fail
          go_ret2
          exact ⟨ret_two HZ.out hs.out, hs3, hl3⟩
        · have d17 : ((v : Int) == 17) = false := by rw [beq_eq_false_iff_ne]; omega
          by_cases c18 : v = 18
          · subst c18
            rw [if_pos (.inr rfl)] at HZ
            clear first_ hl c16 d16 c17 d17
            go_enter Try.func77, Try.ntmps77
            go_wp2_with fail
            refine HR.out.mono ?_
            rintro e w3 ⟨rfl, rfl⟩
            go_wp2_with fail
            refine HT.out.mono ?_
            rintro e w3 ⟨rfl, hs3, hl3⟩
            go_wp2_with fail
            go_ret2
            exact ⟨ret_two HZ.out hs.out, hs3, hl3⟩
          · have d18 : ((v : Int) == 18) = false := by rw [beq_eq_false_iff_ne]; omega
            rw [if_neg (by omega)] at HZ
            clear first_ hl c16 c17 c18
            go_enter Try.func77, Try.ntmps77
            go_wp2_with fail
            refine HR.out.mono ?_
            rintro e w3 ⟨rfl, rfl⟩
            go_wp2_with fail
            refine HT.out.mono ?_
            rintro e w3 ⟨rfl, hs3, hl3⟩
            go_wp2_with fail
            go_ret2
            exact ⟨ret_two HZ.out hs.out, hs3, hl3⟩
end Go.Proofs.Ythbdhpciibjnmaa
