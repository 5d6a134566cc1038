/- Contract of the stream's run: a length and how often. -/
import Derived.Test.YtjaeiddfpclbkaaDoorIh
namespace Go.Proofs.YtjaeiddfpclbkaaDoor
open Go.ChangeShapes Go.WideShapes Go.ChangeAt Go.RowKit

def Run2 (w : World) (B gs gr : Nat) (A : Option Addr) (c : Nat) (b : List UInt8) (most : Nat) (Ao : Option Addr) (co : Nat) (out : List UInt8) (fx : Option Addr) (x : Except Nat ((Int × Nat) × Nat)) (e : Ending) (w' : World) : Prop :=
  match x with
  | .error k => e = gaveUp k ∧ Left w B w'
  | .ok ((z, t), q) => e = .returned (.tuple #[.int .i64 z, .int .i64 (t : Int)]) ∧ Str w' B gs gr A c b most q Ao co out fx ∧ Left w B w'
theorem ret_two {a a' b b' : Int} (h1 : a = a') (h2 : b = b') : Ending.returned (.tuple #[.int .i64 a, .int .i64 b]) = .returned (.tuple #[.int .i64 a', .int .i64 b']) := by rw [h1, h2]
set_option maxHeartbeats 4000000 in
set_option maxRecDepth 100000 in
theorem run_any (w : World) (B gs gr : Nat) (A : Option Addr) (c : Nat) (b : List UInt8) (most p : Nat) (Ao : Option Addr) (co : Nat) (out : List UInt8) (fx : Option Addr) (h : Str w B gs gr A c b most p Ao co out fx) (v : Nat) (hv : v < 19)
    (Ar : Option Addr) (cr n base : Nat) (row : List Int) (hO : w.ownsRow base 3 1 (.slice Ar n cr) n (intsV row)) (hn : n ≤ 1000) :
    Calls Tryd.prog 77 #[.pointer (some ⟨gs, 0, none⟩), .int .i64 (v : Int), .slice Ar n cr] w (Run2 w B gs gr A c b most Ao co out fx (runM b v row p)) := by
  have hl := own_len hO
  rw [intsV_length] at hl
  unfold runM
  by_cases c16 : v = 16
  · rw [if_pos c16]
    subst c16
    rcases Nat.eq_zero_or_pos n with h0 | h0
    · have hr : row = [] := List.eq_nil_of_length_eq_zero (by omega)
      subst hr h0
      show Calls _ _ _ _ (Run2 w B gs gr A c b most Ao co out fx (.error 41))
      clear hO hl hn
      go_enter Tryd.func77, Tryd.ntmps77
      go_wp2_with fail
      exact ⟨rfl, rfl, Left.refl _ _⟩
    · have hne : row ≠ [] := fun e => by subst e; simp at hl; omega
      have hlast : row.getLast? = some (row[n - 1]'(by omega)) := by
        rw [List.getLast?_eq_getElem?, show row.length - 1 = n - 1 by omega, List.getElem?_eq_getElem (by omega)]
      rw [hlast]
      obtain ⟨ga, rfl, hrc, _, _, _⟩ := row_form hO h0
      have hc := row_at hO (n - 1) (by omega)
      have HOo := Lib.hid hO
      have HT := Lib.hid (take_num w.drew B gs gr A c b most p Ao co out fx h.drew 2 (by omega))
      have d1 : (((n : Nat) : Int) == 0) = false := by rw [beq_eq_false_iff_ne]; omega
      have s1 : IntKind.i64.wrap ((n : Int) - 1) = (n : Int) - 1 := IntWalk.i64_in _ (by omega)
      have s2 : 0 ≤ (n : Int) - 1 := by omega
      have s3 : ((n : Int) - 1).toNat = n - 1 := by omega
      have s4 : (n : Int) - 1 < (n : Int) := by omega
      have s5 : 1 ≤ n := by omega
      have s6 : (1 : Int) ≤ (n : Int) := by omega
      rcases hx : takeM b p 2 with ke | ⟨k, q⟩
      · rw [hx] at HT
        show Calls _ _ _ _ (Run2 w B gs gr A c b most Ao co out fx (.error ke))
        generalize row[n - 1]'(by omega) = z at *
        clear hx hlast hl hne hO
        go_enter Tryd.func77, Tryd.ntmps77
        go_wp2_with fail
        go_region_dies
        all_goals
          refine HT.out.mono ?_
          rintro e w3 ⟨rfl, hl⟩
          exact ⟨rfl, rfl, Left.of_drew hl⟩
      · rw [hx] at HT
        have hk := (takeM_ok hx).1
        show Calls _ _ _ _ (Run2 w B gs gr A c b most Ao co out fx (.ok ((row[n - 1]'(by omega), 3 + k), q)))
        have HC : Hid (∀ w', Left w B w' → w'.cell? ⟨ga, n - 1, none⟩ = some (.int .i64 (row[n - 1]'(by omega)))) := Lib.hid (fun w' hl' => row_at (hl'.2.own (by decide) HOo.out) (n - 1) (by omega))
        generalize row[n - 1]'(by omega) = z at *
        clear hx hlast hl hne hO
        go_enter Tryd.func77, Tryd.ntmps77
        go_wp2_with fail
        go_region_with (go_at_call 34; refine HT.out.mono ?_; rintro e w3 ⟨rfl, hs3, hl3⟩; have hc3 := HC.out w3 (Left.of_drew hl3))
        all_goals
          clear s1 s2 s3 s4 s5 s6
          have hs : IntKind.i64.wrap (3 + (k : Int)) = ((3 + k : Nat) : Int) := by rw [IntWalk.i64_in _ (by omega)]; omega
          go_wp2_with fail
          go_ret2
          exact ⟨ret_two rfl hs, hs3, Left.of_drew hl3⟩
  · rw [if_neg c16]
    have d16 : ((v : Int) == 16) = false := by rw [beq_eq_false_iff_ne]; omega
    by_cases c17 : v = 17
    · rw [if_pos c17]
      subst c17
      have HT := Lib.hid (take_num w B gs gr A c b most p Ao co out fx h 3 (by omega))
      clear c16 d16 hl hO
      rcases hx : takeM b p 3 with ke | ⟨k, q⟩
      · rw [hx] at HT
        show Calls _ _ _ _ (Run2 w B gs gr A c b most Ao co out fx (.error ke))
        clear hx
        go_enter Tryd.func77, Tryd.ntmps77
        go_wp2_with fail
        refine HT.out.mono ?_
        rintro e w3 ⟨rfl, hl⟩
        exact ⟨rfl, rfl, hl⟩
      · rw [hx] at HT
        have hk := (takeM_ok hx).1
        show Calls _ _ _ _ (Run2 w B gs gr A c b most Ao co out fx (.ok ((0, 3 + k), q)))
        clear hx
        go_enter Tryd.func77, Tryd.ntmps77
        go_wp2_with fail
        refine HT.out.mono ?_
        rintro e w3 ⟨rfl, hs, hl⟩
        go_wp2_with fail
        go_ret2
        exact ⟨ret_two rfl (by omega), hs, hl⟩
    · rw [if_neg c17]
      have d17 : ((v : Int) == 17) = false := by rw [beq_eq_false_iff_ne]; omega
      by_cases c18 : v = 18
      · rw [if_pos c18]
        subst c18
        have HT := Lib.hid (take_num w B gs gr A c b most p Ao co out fx h 7 (by omega))
        clear c16 d16 c17 d17 hl hO
        rcases hx : takeM b p 7 with ke | ⟨k, q⟩
        · rw [hx] at HT
          show Calls _ _ _ _ (Run2 w B gs gr A c b most Ao co out fx (.error ke))
          clear hx
          go_enter Tryd.func77, Tryd.ntmps77
          go_wp2_with fail
          refine HT.out.mono ?_
          rintro e w3 ⟨rfl, hl⟩
          exact ⟨rfl, rfl, hl⟩
        · rw [hx] at HT
          have hk := (takeM_ok hx).1
          show Calls _ _ _ _ (Run2 w B gs gr A c b most Ao co out fx (.ok ((0, 11 + k), q)))
          clear hx
          go_enter Tryd.func77, Tryd.ntmps77
          go_wp2_with fail
          refine HT.out.mono ?_
          rintro e w3 ⟨rfl, hs, hl⟩
          go_wp2_with fail
          go_ret2
          exact ⟨ret_two rfl (by omega), hs, hl⟩
      · rw [if_neg c18]
        have d18 : ((v : Int) == 18) = false := by rw [beq_eq_false_iff_ne]; omega
        clear c16 c17 c18 hl hO
        go_enter Tryd.func77, Tryd.ntmps77
        go_wp2_with fail
        go_ret2
        exact ⟨rfl, h, Left.refl _ _⟩
end Go.Proofs.YtjaeiddfpclbkaaDoor
