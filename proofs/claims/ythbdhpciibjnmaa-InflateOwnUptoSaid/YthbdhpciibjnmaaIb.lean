/- Contracts of the stream's methods that answer a number: take, next, stepped, length, distance; and wantRoom. -/
import Derived.Test.YthbdhpciibjnmaaIa
import Derived.Deep.RegionWith
import Derived.RegionDies
namespace Go.Proofs.Ythbdhpciibjnmaa
open Go.ChangeShapes Go.WideShapes Go.ChangeAt Go.RowKit

section
variable (w : World) (B gs gr : Nat) (A : Option Addr) (c : Nat) (b : List UInt8) (most p : Nat) (Ao : Option Addr) (co : Nat) (out : List UInt8) (fx : Option Addr)
theorem take_num (h : Str w B gs gr A c b most p Ao co out fx) (n : Nat) (hn : n ≤ 32) :
    Calls Try.prog 34 #[.pointer (some ⟨gs, 0, none⟩), .int .i64 (n : Int)] w (Num w B gs gr A c b most Ao co out fx (takeM b p n)) := by
  unfold takeM
  by_cases hl : p + n ≤ 8 * b.length
  · rw [if_pos hl]; exact take_ok w B gs gr A c b most p Ao co out fx h n hn hl
  · rw [if_neg hl]; exact take_no w B gs gr A c b most p Ao co out fx h n hn hl
set_option maxHeartbeats 400000 in
theorem next_num (h : Str w B gs gr A c b most p Ao co out fx) (bd gd : Nat) (l : List Int) (hD : DecAt w bd gd l) (hg : l.any badLen = false) (hl : l.length ≤ 4096) (hro : 0 ≤ roomOf l) :
    Calls Try.prog 56 #[.pointer (some ⟨gs, 0, none⟩), .pointer (some ⟨gd, 0, none⟩)] w (Num w B gs gr A c b most Ao co out fx (nextM b l p)) := by
  have hc := h.in_
  have HT := Lib.hid (next_any w bd gd l hD hg hl hro B gr A c b false p h.rdr)
  unfold nextM
  clear hD hg hl hro
  generalize nextOf l (fun i => bitAt b false (p + i)) (8 * b.length - p) = x at *
  obtain ⟨u, s, er⟩ := x
  show Calls _ _ _ _ (Num w B gs gr A c b most Ao co out fx (if er = 0 then .ok (s, p + u) else .error er))
  have HH := Lib.hid h
  by_cases h0 : er = 0
  · rw [if_pos h0]
    subst h0
    go_enter Try.func56, Try.ntmps56
    go_wp2_with fail
    refine HT.out.mono ?_
    rintro e w1 ⟨he, hr, hu⟩
    obtain rfl : e = .returned (.tuple #[.int .i64 (s : Int), .int .i64 0]) := he
    have HS := Lib.hid (HH.out.read hu hr)
    clear hr hu HT
    go_wp2_with fail
    refine (must_ok w1).mono ?_
    rintro e w2 ⟨rfl, rfl⟩
    go_wp2_with fail
    go_ret
    exact ⟨rfl, HS.out⟩
  · rw [if_neg h0]
    have H0 := Lib.hid h0; clear h0
    go_enter Try.func56, Try.ntmps56
    go_wp2_with fail
    refine HT.out.mono ?_
    rintro e w1 ⟨he, hr, hu⟩
    obtain rfl : e = .returned (.tuple #[.int .i64 (s : Int), .int .i64 (er : Int)]) := he
    have HS := Lib.hid (HH.out.read hu hr)
    clear hr hu HT
    go_wp2_with fail
    refine (must_no er H0.out w1).mono ?_
    rintro e w2 ⟨rfl, rfl⟩
    exact ⟨rfl, rfl, HS.out.2⟩
theorem room_ok (h : Str w B gs gr A c b most p Ao co out fx) (n : Nat) (hn : n ≤ most - out.length) (hm : most ≤ 9223372036854775807) (hol : out.length ≤ most) :
    Calls Try.prog 54 #[.pointer (some ⟨gs, 0, none⟩), .int .i64 (n : Int)] w fun e w' => e = .returned (.tuple #[]) ∧ ∃ k, w' = w.drewN k := by
  have hc := h.out_
  have hc2 := h.most_
  have d1 : decide (((most : Nat) : Int) - (out.length : Int) < (n : Int)) = false := by simp; omega
  go_enter Try.func54, Try.ntmps54
  go_wp2_with fail
  go_quiet (fail)
  go_wp2_with fail
  go_end0
  exact ⟨rfl, _, rfl⟩
theorem room_no (h : Str w B gs gr A c b most p Ao co out fx) (n : Nat) (hn : ¬ n ≤ most - out.length) (hm : most ≤ 9223372036854775807) (hol : out.length ≤ most) :
    Calls Try.prog 54 #[.pointer (some ⟨gs, 0, none⟩), .int .i64 (n : Int)] w fun e w' => e = gaveUp 3 ∧ ∃ k, w' = w.drewN k := by
  have hc := h.out_
  have hc2 := h.most_
  have d1 : decide (((most : Nat) : Int) - (out.length : Int) < (n : Int)) = true := by simp; omega
  go_enter Try.func54, Try.ntmps54
  go_wp2_with fail
  go_quiet (fail)
  go_wp2_with fail
  exact ⟨rfl, rfl, _, rfl⟩
theorem ret_two {a a' b b' : Int} (h1 : a = a') (h2 : b = b') : Ending.returned (.tuple #[.int .i64 a, .int .i64 b]) = .returned (.tuple #[.int .i64 a', .int .i64 b']) := by rw [h1, h2]
omit w B gs gr A c b most p Ao co out fx in
theorem step_val (r m v : Nat) (hr : r ≤ 7) (hm : m ≤ 15) (hv : v < 32768) : IntKind.i64.wrap (IntKind.i64.wrap (IntKind.i64.wrap (r : Int) * 2 ^ m) + (v : Int)) = ((r * 2 ^ m + v : Nat) : Int) := by
  have h1 : 2 ^ m ≤ 32768 := Nat.pow_le_pow_right (n := 2) (by omega) hm
  have h2 : r * 2 ^ m ≤ 7 * 32768 := Nat.mul_le_mul hr h1
  have e : (r : Int) * 2 ^ m = ((r * 2 ^ m : Nat) : Int) := by simp
  rw [IntWalk.i64_in (r : Int) (by omega), e]
  generalize r * 2 ^ m = q at *
  rw [IntWalk.i64_in (q : Int) (by omega), IntWalk.i64_in _ (by omega)]
  omega
/-- What a symbol stands for at least, and how many bits more. -/
def stepL (k g : Nat) : Nat × Nat := if k < g then (k, 0) else ((g + k % g) * 2 ^ (k / g - 1), k / g - 1)
omit w B gs gr A c b most p Ao co out fx in
theorem stepL_le (k g : Nat) (hg : 2 ≤ g) (hg2 : g ≤ 4) (hk : k ≤ 31) : (stepL k g).1 ≤ 7 * 32768 ∧ (stepL k g).2 ≤ 14 := by
  unfold stepL
  split
  · dsimp only; omega
  · have hm14 : k / g - 1 ≤ 14 := by
      have h1 : k / g ≤ k / 2 := Nat.div_le_div_left hg (by omega)
      omega
    have := Nat.mod_lt k (show 0 < g by omega)
    have h1 : 2 ^ (k / g - 1) ≤ 32768 := Nat.le_trans (Nat.pow_le_pow_right (n := 2) (by omega) hm14) (by decide)
    exact ⟨Nat.mul_le_mul (by omega) h1, hm14⟩
omit w B gs gr A c b most p Ao co out fx in
theorem takeM_zero (b : List UInt8) (p : Nat) (hp : p ≤ 8 * b.length) : takeM b p 0 = .ok (0, p) := by
  unfold takeM
  rw [if_pos (by omega)]
  rfl
omit w B gs gr A c b most p Ao co out fx in
theorem steppedM_L (b : List UInt8) (k g p : Nat) (hg : 2 ≤ g) (hp : p ≤ 8 * b.length) : steppedM b k g p = match takeM b p (stepL k g).2 with
    | .error e => .error e
    | .ok (x, q) => .ok ((stepL k g).1 + x, q) := by
  unfold steppedM stepL
  by_cases h1 : k < 2 * g
  · rw [if_pos h1]
    by_cases h2 : k < g
    · rw [if_pos h2]
      dsimp only
      rw [takeM_zero b p hp]
      rfl
    · rw [if_neg h2]
      have e : k / g = 1 := by
        rw [Nat.div_eq_iff (by omega)]
        omega
      have e2 : k % g = k - g := by
        rw [Nat.mod_eq_sub_mod (by omega), Nat.mod_eq_of_lt (by omega)]
      dsimp only
      rw [e, e2, Nat.sub_self, takeM_zero b p hp]
      simp
      omega
  · rw [if_neg h1, if_neg (by omega)]
    rfl
omit B gs gr A c b most p Ao co out fx in
theorem step_any (k g : Nat) (hg : 2 ≤ g) (hg2 : g ≤ 4) (hk : k ≤ 31) :
    Calls Try.prog 81 #[.int .i64 (k : Int), .int .i64 (g : Int)] w fun e w' => e = .returned (.tuple #[.int .i64 ((stepL k g).1 : Int), .int .i64 ((stepL k g).2 : Int)]) ∧ ∃ m, w' = w.drewN m := by
  obtain ⟨X, HX⟩ : ∃ X, Hid (stepL k g = X) := ⟨_, Lib.hid rfl⟩
  rw [HX.out]
  unfold stepL at HX
  by_cases hkg : k < g
  · rw [if_pos hkg] at HX
    rw [← HX.out]
    clear HX
    have d1 : decide (k < g) = true := by simp; omega
    go_enter Try.func81, Try.ntmps81
    go_wp2_with fail
    go_ret2
    exact ⟨rfl, 0, rfl⟩
  · rw [if_neg hkg] at HX
    have d1 : decide (k < g) = false := by simp; omega
    obtain ⟨m, hm⟩ : ∃ m, k / g - 1 = m := ⟨_, rfl⟩
    have hm2 : ((k : Int) / (g : Int)) - 1 = (m : Int) := by
      have h1 : 1 ≤ k / g := (Nat.le_div_iff_mul_le (by omega)).mpr (by omega)
      have h2 : ((k / g : Nat) : Int) = (k : Int) / (g : Int) := by simp
      omega
    have hm15 : m ≤ 14 := by
      have h1 : k / g ≤ k / 2 := Nat.div_le_div_left hg (by omega)
      omega
    obtain ⟨r, hr⟩ : ∃ r, g + k % g = r := ⟨_, rfl⟩
    have hr7 : r ≤ 7 := by
      have := Nat.mod_lt k (show 0 < g by omega)
      omega
    have hr2 : (g : Int) + (k : Int) % (g : Int) = (r : Int) := by
      have h2 : ((k % g : Nat) : Int) = (k : Int) % (g : Int) := by simp
      omega
    rw [hm, hr] at HX
    have hmo : 0 ≤ (k : Int) % (g : Int) ∧ (k : Int) % (g : Int) < 4 := by
      have h1 := Int.emod_nonneg (k : Int) (show (g : Int) ≠ 0 by omega)
      have h2 := Int.emod_lt_of_pos (k : Int) (show (0 : Int) < g by omega)
      omega
    have hg0 : ¬ g = 0 := by omega
    have hsv : Hid (wrap64 ((r : Int) * 2 ^ m) = ((r * 2 ^ m : Nat) : Int)) := Lib.hid (by
      have h1 : 2 ^ m ≤ 32768 := Nat.pow_le_pow_right (n := 2) (by omega) (by omega : m ≤ 15)
      have h2 : r * 2 ^ m ≤ 7 * 32768 := Nat.mul_le_mul hr7 h1
      have e : (r : Int) * 2 ^ m = ((r * 2 ^ m : Nat) : Int) := by simp
      rw [e]
      generalize r * 2 ^ m = q at *
      rw [IntWalk.wrap64_in (q : Int) (by omega)])
    clear hm hr hkg
    rw [← HX.out]
    clear HX
    go_enter Try.func81, Try.ntmps81
    go_wp2_with fail
    go_ret2
    exact ⟨ret_two hsv.out rfl, 0, rfl⟩
set_option maxHeartbeats 1000000 in
theorem stepped_num (h : Str w B gs gr A c b most p Ao co out fx) (k g : Nat) (hg : 2 ≤ g) (hg2 : g ≤ 4) (hk : k ≤ 31) :
    Calls Try.prog 75 #[.pointer (some ⟨gs, 0, none⟩), .int .i64 (k : Int), .int .i64 (g : Int)] w (Num w B gs gr A c b most Ao co out fx (steppedM b k g p)) := by
  rw [steppedM_L b k g p hg h.rdr.2.2.2.1]
  have HSt := Lib.hid (step_any w k g hg hg2 hk)
  obtain ⟨hv, hm15⟩ := stepL_le k g hg hg2 hk
  generalize (stepL k g).1 = y at *
  generalize (stepL k g).2 = m at *
  have hvb := numAt_lt b p m
  have hxb : ∀ v q, takeM b p m = .ok (v, q) → v < 32768 := fun v q hv => by
    unfold takeM at hv
    split at hv
    · injection hv with hv
      injection hv with hv _
      have : 2 ^ m ≤ 2 ^ 15 := Nat.pow_le_pow_right (by omega) (by omega)
      omega
    · cases hv
  have HT : Hid (∀ n, Calls Try.prog 34 #[.pointer (some ⟨gs, 0, none⟩), .int .i64 (m : Int)] (w.drewN n) (Num (w.drewN n) B gs gr A c b most Ao co out fx (takeM b p m))) := Lib.hid (fun n => take_num (w.drewN n) B gs gr A c b most p Ao co out fx (h.drewN n) m (by omega))
  rcases hx : takeM b p m with ke | ⟨v, q⟩
  · rw [hx] at HT
    clear hx hxb hvb
    show Calls _ _ _ _ (Num w B gs gr A c b most Ao co out fx (.error ke))
    go_enter Try.func75, Try.ntmps75
    go_wp2_with fail
    refine HSt.out.mono ?_
    rintro e w1 ⟨rfl, n, rfl⟩
    go_wp2_with fail
    refine (HT.out n).mono ?_
    rintro e w1 ⟨rfl, hl⟩
    exact ⟨rfl, rfl, hl.of_drewN⟩
  · rw [hx] at HT
    have hv2 := hxb v q hx
    clear hx hxb hvb
    show Calls _ _ _ _ (Num w B gs gr A c b most Ao co out fx (.ok (y + v, q)))
    go_enter Try.func75, Try.ntmps75
    go_wp2_with fail
    refine HSt.out.mono ?_
    rintro e w1 ⟨rfl, n, rfl⟩
    go_wp2_with fail
    refine (HT.out n).mono ?_
    rintro e w1 ⟨rfl, hs, hl⟩
    go_wp2_with fail
    go_ret
    exact ⟨ret_nm (by omega), hs, hl.of_drewN⟩
end
end Go.Proofs.Ythbdhpciibjnmaa
