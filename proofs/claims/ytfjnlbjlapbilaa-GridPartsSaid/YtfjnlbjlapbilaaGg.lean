/- The statements' own words: a copy of a list, which sizes fit, a grid at both. -/
import Derived.Test.YtfjnlbjlapbilaaGf
import Derived.Test.YtfjnlbjlapbilaaGo
import Derived.Deep.RegionHeld3
import Derived.Deep.DeepCutAuto
namespace Go.Proofs.Ytfjnlbjlapbilaa
open Go.ChangeShapes Go.WideShapes Go.ChangeAt Go.RowKit

set_option maxHeartbeats 400000 in
theorem own_n (A : Option Addr) (c n : Nat) (l : List Int) (hn : l.length = n) (B : Nat) (w : World) (h : Is w B A l) (hB : B ≤ w.heap.size) (hl : n ≤ 17592186044416) :
    Calls Try.prog 16 #[.slice A n c] w fun e w' => ∃ A' c', e = .returned (.slice A' n c') ∧
      w'.ownsRow w.heap.size 3 1 (.slice A' n c') n (intsV l) ∧ Below w.heap.size w w' := by
  subst hn
  obtain ⟨i0, hi, hz0, hz1, hz2⟩ := info_parts info_int
  go_enter Try.func16, Try.ntmps16
  go_wp2_with (at_builtin; refine wpList_append_vs _ rfl (.tmp 3) (.tmp 4) _ rfl w.heap.size 3 i0 (.int .i64 0) 8 Try.underlying22 hi hz0 hz1 hz2 rfl (.slice (some ⟨w.heap.size, 0, none⟩) 0 0) 0 [] rfl (World.ownsRow_made w #[] 0 (Nat.le_refl _) (by omega) rfl) B A l.length c (intsV l) (intsV_length l) rfl (Vs.alloc h hB _) (intsV_one l) (by unfold maxLen; omega) (by omega) (by simp) ?_; intro A1 c1 w1 o1 hg1 _; simp only [Nat.zero_add, List.nil_append] at o1 ⊢)
  go_ret
  exact ⟨A1, c1, rfl, o1, ((Below.refl _ _).alloc (Nat.le_refl _) _).grown hg1 (by simp) (by simp [Value.ownBlock])⟩

set_option maxRecDepth 100000 in
theorem fits_any (x y : Int) (w : World) : Calls Try.prog 40 #[.int .i64 x, .int .i64 y] w fun e w' => e = .returned (.bool (mayB x y)) ∧ w' = w := by
  go_enter Try.func40, Try.ntmps40
  by_cases h1 : (1 : Int) ≤ x
  case neg =>
    have HE : Hid (mayB x y = false) := Lib.hid (by simp [mayB, sideB, h1])
    go_wp2_with fail
    go_ret
    exact ⟨ret_bl HE.out.symm, rfl⟩
  by_cases h2 : (1 : Int) ≤ y
  case neg =>
    have HE : Hid (mayB x y = false) := Lib.hid (by simp [mayB, sideB, h2])
    go_wp2_with fail
    go_ret
    exact ⟨ret_bl HE.out.symm, rfl⟩
  by_cases h3 : x ≤ (4096 : Int)
  case neg =>
    have HE : Hid (mayB x y = false) := Lib.hid (by simp [mayB, sideB, h3])
    go_wp2_with fail
    go_ret
    exact ⟨ret_bl HE.out.symm, rfl⟩
  by_cases h4 : y ≤ (4096 : Int)
  case neg =>
    have HE : Hid (mayB x y = false) := Lib.hid (by simp [mayB, sideB, h4])
    go_wp2_with fail
    go_ret
    exact ⟨ret_bl HE.out.symm, rfl⟩
  have HE : Hid (mayB x y = decide (x * y ≤ 65536)) := Lib.hid (by simp [mayB, sideB, h1, h2, h3, h4])
  have b1 : 0 ≤ x * y ∧ x * y ≤ 16777216 := by
    have := Int.mul_le_mul h3 h4 (by omega) (by omega)
    have := Int.mul_nonneg (show 0 ≤ x by omega) (show 0 ≤ y by omega)
    omega
  have hwr : wrap64 (x * y) = x * y := IntWalk.wrap64_in _ (by omega)
  go_wp2_with fail
  go_ret
  exact ⟨ret_bl HE.out.symm, rfl⟩

/-- There is a grid of just these cells. -/
def Good (x y : Int) (n : Nat) : Prop := mayB x y = true ∧ (n : Int) = x * y
instance (x y : Int) (n : Nat) : Decidable (Good x y n) := by unfold Good; infer_instance
def BothR (w : World) (x y : Int) (A : Option Addr) (c n : Nat) (l : List Int) (e : Ending) (w' : World) : Prop :=
  if Good x y n then ∃ g r c', e = .returned (.tuple #[.pointer (some ⟨g, 0, none⟩), .agg #[.int .i64 x, .int .i64 y, .slice A n c], .bool true, .bool true]) ∧ GridAt w' w.heap.size 87 3 g r c' x.toNat y.toNat (intsV l) ∧ r < g ∧ Below w.heap.size w w'
  else e = .returned (.tuple #[.pointer none, .agg #[.int .i64 x, .int .i64 y, .slice A n c], .bool false, .bool true]) ∧ Below w.heap.size w w'

/-- The fault of Of. -/
def ofErr (x y : Int) (n : Nat) : Int := if mayB x y = false then 4 else if (n : Int) ≠ x * y then 3 else 0
theorem of_all (x y : Int) (A : Option Addr) (c n : Nat) (l : List Int) (hn : l.length = n) (w : World) (h : Vs w w.heap.size A (intsV l)) :
    Calls Try.prog 37 #[.int .i64 x, .int .i64 y, .slice A n c] w fun e w' => ∃ p : Option Addr, e = .returned (.tuple #[.pointer p, .int .i64 (ofErr x y n)]) ∧ (ofErr x y n ≠ 0 → p = none) ∧
      (ofErr x y n = 0 → ∃ g r c', p = some ⟨g, 0, none⟩ ∧ GridAt w' w.heap.size 87 3 g r c' x.toNat y.toNat (intsV l) ∧ r < g) ∧ Below w.heap.size w w' := by
  refine (of_any x y A c n (intsV l) (by rw [intsV_length]; exact hn) (intsV_one l) w.heap.size w h (Nat.le_refl _)).mono ?_
  intro e w' hO
  unfold OfR at hO
  unfold ofErr
  by_cases h1 : mayB x y = false
  · rw [if_pos h1] at hO ⊢
    obtain ⟨rfl, rfl⟩ := hO
    exact ⟨none, rfl, fun _ => rfl, fun k => absurd k (by decide), Below.refl _ _⟩
  · rw [if_neg h1] at hO ⊢
    by_cases h2 : (n : Int) ≠ x * y
    · rw [if_pos h2] at hO ⊢
      obtain ⟨rfl, rfl⟩ := hO
      exact ⟨none, rfl, fun _ => rfl, fun k => absurd k (by decide), Below.refl _ _⟩
    · rw [if_neg h2] at hO ⊢
      obtain ⟨g, r, c', rfl, h3, h4, h5⟩ := hO
      exact ⟨_, rfl, fun k => absurd rfl k, fun _ => ⟨g, r, c', rfl, h3, h4⟩, h5⟩
theorem of_drew {B : Nat} {w w' : World} (h : Below B w.drew w') : Below B w w' := ⟨h.os, h.tape, h.output, h.size, h.block⟩
theorem blk3 {w w' : World} {g : Nat} {t : TypeId} {a b c : Value} (h : Blk w g t #[a, b, c]) (hb : Below w.heap.size w w') : Blk w' g t #[a, b, c] ∧ w'.cell? ⟨g, 0, none⟩ = some a ∧ w'.cell? ⟨g, 1, none⟩ = some b ∧ w'.cell? ⟨g, 2, none⟩ = some c := by
  have k := h.upd (Upd.of_fresh hb) id
  exact ⟨k, by rw [k.cell]; rfl, by rw [k.cell]; rfl, by rw [k.cell]; rfl⟩

theorem set3 {w : World} {g : Nat} {t : TypeId} {a b c : Value} (h : Blk w g t #[a, b, c]) (x y z : Value) : Blk (((w.setCell ⟨g, 0, none⟩ x).setCell ⟨g, 1, none⟩ y).setCell ⟨g, 2, none⟩ z) g t #[x, y, z] := by
  simpa using ((h.set_ 0 x).set_ 1 y).set_ 2 z
theorem set3_upd (w : World) (g : Nat) (x y z : Value) : Upd (· = g) w (((w.setCell ⟨g, 0, none⟩ x).setCell ⟨g, 1, none⟩ y).setCell ⟨g, 2, none⟩ z) :=
  (((Upd.refl (· = g) w).setCell (p := ⟨g, 0, none⟩) (fun _ => rfl) _).setCell (p := ⟨g, 1, none⟩) (fun _ => rfl) _).setCell (p := ⟨g, 2, none⟩) (fun _ => rfl) _
set_option maxRecDepth 100000 in
set_option maxHeartbeats 2000000 in
theorem both_any (x y : Int) (A : Option Addr) (c n : Nat) (l : List Int) (hn : l.length = n) (hl : n ≤ 17592186044416) (B : Nat) (w : World) (h : Is w B A l) (hB : B ≤ w.heap.size) :
    Calls Try.prog 12 #[.agg #[.int .i64 x, .int .i64 y, .slice A n c]] w (BothR w x y A c n l) := by
  have HG : Hid (ofErr x y n = 0 ↔ Good x y n) := Lib.hid (by
    unfold ofErr Good
    by_cases h1 : mayB x y = false
    · simp [h1]
    · by_cases h2 : (n : Int) = x * y <;> simp [h1, h2])
  go_enter Try.func12, Try.ntmps12
  go_wp2_with fail
  have hb0 : Blk (w.alloc (.cells #[.int .i64 x, .int .i64 y, .slice A n c] 24)) w.heap.size 24 #[.int .i64 x, .int .i64 y, .slice A n c] := Blk.new w _ _
  have hb1 := hb0.alloc (.cells #[.int .i64 0, .int .i64 0, .slice none 0 0] 27)
  have hg1 := Blk.new (w.alloc (.cells #[.int .i64 x, .int .i64 y, .slice A n c] 24)) 27 #[.int .i64 0, .int .i64 0, .slice none 0 0]
  rw [World.size_alloc] at hg1
  have hbw := ((Below.refl w.heap.size w).alloc (Nat.le_refl _) (.cells #[.int .i64 x, .int .i64 y, .slice A n c] 24)).alloc (by simp) (.cells #[.int .i64 0, .int .i64 0, .slice none 0 0] 27)
  have hs0 : ((w.alloc (.cells #[.int .i64 x, .int .i64 y, .slice A n c] 24)).alloc (.cells #[.int .i64 0, .int .i64 0, .slice none 0 0] 27)).heap.size = w.heap.size + 1 + 1 := by simp
  generalize (w.alloc (.cells #[.int .i64 x, .int .i64 y, .slice A n c] 24)).alloc (.cells #[.int .i64 0, .int .i64 0, .slice none 0 0] 27) = W0 at *
  have HI0 : Hid (Is W0 B A l) := Lib.hid (Vs.below h (hbw.mono hB))
  have k0 : W0.cell? ⟨w.heap.size, 0, none⟩ = some (.int .i64 x) := by rw [hb1.cell]; rfl
  have k1 : W0.cell? ⟨w.heap.size, 1, none⟩ = some (.int .i64 y) := by rw [hb1.cell]; rfl
  have k2 : W0.cell? ⟨w.heap.size, 2, none⟩ = some (.slice A n c) := by rw [hb1.cell]; rfl
  have HB1 := Lib.hid hb1; have HG1 := Lib.hid hg1; have HBW := Lib.hid hbw
  have hBW : B ≤ W0.heap.size := by omega
  clear hb0 hb1 hg1 hbw h
  go_region_held3 (fun w' => w'.cell? ⟨w.heap.size, 0, none⟩ = some (.int .i64 x) ∧ w'.cell? ⟨w.heap.size, 1, none⟩ = some (.int .i64 y) ∧ w'.cell? ⟨w.heap.size, 2, none⟩ = some (.slice A n c))
    (go_keep)
    ((first
      | (go_at_call 16; refine (own_n A c n l hn B _ (by exact HI0.out) (by exact hBW) hl).mono ?_; rintro e w1 ⟨A1, c1, rfl, o1, hbx1⟩; have HV1 := Lib.hid (Vs.of_own o1); have hx1 := blk3 (by exact HB1.out) hbx1; have k10 := hx1.2.1; have k11 := hx1.2.2.1; have k12 := hx1.2.2.2; have HB2 := Lib.hid hx1.1; have HBX1 := Lib.hid hbx1; clear hx1 o1 hbx1)
      | (go_at_call 37; refine (of_all x y _ _ n l hn _ (by exact HV1.out)).mono ?_; rintro e w2 ⟨p, rfl, hp1, hp2, hbx2⟩; have hx2 := blk3 (by exact HB2.out) hbx2; have k20 := hx2.2.1; have k21 := hx2.2.2.1; have k22 := hx2.2.2.2; have HB3 := Lib.hid hx2.1; have HBX2 := Lib.hid hbx2; have HP1 := Lib.hid hp1; have HP2 := Lib.hid hp2; clear hx2 hp1 hp2 hbx2)))
  rename_i hHeld
  clear hHeld k10 k11 k12 k0 k1 k2
  have hsw := HBW.out.size
  have hx1 : Below W0.heap.size W0 w1 := of_drew HBX1.out
  have hx1s := hx1.size
  have hbx : Below w.heap.size w w2 := (HBW.out.trans (hx1.mono hsw)).trans (HBX2.out.mono (by omega))
  have hG2 := (HG1.out.upd (Upd.of_fresh hx1) id).upd (Upd.of_fresh HBX2.out) id
  have hs1 : w.heap.size + 1 + 1 ≤ w1.heap.size := by omega
  have hs2 := HBX2.out.size
  have hn2 := HB3.out.alloc (.cells #[.int .i64 x, .int .i64 y, .slice A n c] 27)
  have m0 : (w2.alloc (.cells #[.int .i64 x, .int .i64 y, .slice A n c] 27)).cell? ⟨w.heap.size, 0, none⟩ = some (.int .i64 x) := by rw [hn2.cell]; rfl
  have m1 : (w2.alloc (.cells #[.int .i64 x, .int .i64 y, .slice A n c] 27)).cell? ⟨w.heap.size, 1, none⟩ = some (.int .i64 y) := by rw [hn2.cell]; rfl
  have m2 : (w2.alloc (.cells #[.int .i64 x, .int .i64 y, .slice A n c] 27)).cell? ⟨w.heap.size, 2, none⟩ = some (.slice A n c) := by rw [hn2.cell]; rfl
  have hq2 := Blk.new w2 27 #[.int .i64 x, .int .i64 y, .slice A n c]
  have m3 : (w2.alloc (.cells #[.int .i64 x, .int .i64 y, .slice A n c] 27)).cell? ⟨w2.heap.size, 0, none⟩ = some (.int .i64 x) := by rw [hq2.cell]; rfl
  have m4 : (w2.alloc (.cells #[.int .i64 x, .int .i64 y, .slice A n c] 27)).cell? ⟨w2.heap.size, 1, none⟩ = some (.int .i64 y) := by rw [hq2.cell]; rfl
  have m5 : (w2.alloc (.cells #[.int .i64 x, .int .i64 y, .slice A n c] 27)).cell? ⟨w2.heap.size, 2, none⟩ = some (.slice A n c) := by rw [hq2.cell]; rfl
  have hG3 := hG2.alloc (.cells #[.int .i64 x, .int .i64 y, .slice A n c] 27)
  have f0 := hG3.frozen 0
  have f1 := hG3.frozen 1
  have f2 := hG3.frozen 2
  have HB4 := Lib.hid hbx; have HG4 := Lib.hid (hG2.alloc (.cells #[.int .i64 x, .int .i64 y, .slice A n c] 27))
  clear hbx hG2 HB1 HB2 HBX1 HBX2 HG1 HV1 HI0 hx1 hn2 HB3 hq2 hG3
  obtain ⟨E, hE⟩ : ∃ E, ofErr x y n = E := ⟨_, rfl⟩
  rw [hE] at HG HP1 HP2 ⊢
  have HE := Lib.hid hE
  clear hE
  have HB5 := Lib.hid (HB4.out.alloc HB4.out.size (.cells #[.int .i64 x, .int .i64 y, .slice A n c] 27))
  have HP3 : Hid (E = 0 → ∃ g r c', p = some ⟨g, 0, none⟩ ∧ GridAt (w2.alloc (.cells #[.int .i64 x, .int .i64 y, .slice A n c] 27)) w1.heap.size 87 3 g r c' x.toNat y.toNat (intsV l) ∧ r < g) := Lib.hid (fun k => by
    obtain ⟨g, r, c', h1, h2, h3⟩ := HP2.out k
    exact ⟨g, r, c', h1, h2.below ((Below.refl _ w2).alloc (Nat.le_refl _) _), h3⟩)
  clear HP2
  cases hm : mayB x y with
  | false =>
    obtain rfl : E = 4 := by rw [← HE.out]; unfold ofErr; rw [if_pos hm]
    obtain rfl : p = none := HP1.out (by decide)
    have HN : Hid (¬ Good x y n) := Lib.hid (fun k => by have := HG.out.2 k; omega)
    have HM := Lib.hid hm
    clear hm HP3 HP1 HG HE
    by_cases hq : ((n : Int) != wrap64 (x * y)) = true
    all_goals
      go_wp2_with fail
      refine (fits_any x y _).mono ?_
      rintro e w3 ⟨rfl, rfl⟩
      rw [HM.out]
      clear hq
      go_wp2_with fail
      generalize w2.alloc (.cells #[.int .i64 x, .int .i64 y, .slice A n c] 27) = W3 at *
      have e0 : W3.cell? ⟨w.heap.size + 1, 0, none⟩ = some (.int .i64 0) := by rw [HG4.out.cell]; rfl
      have e1 : W3.cell? ⟨w.heap.size + 1, 1, none⟩ = some (.int .i64 0) := by rw [HG4.out.cell]; rfl
      have e2 : W3.cell? ⟨w.heap.size + 1, 2, none⟩ = some (.slice none 0 0) := by rw [HG4.out.cell]; rfl
      have hne1 : ¬ (w.heap.size + 1 = w2.heap.size) := by omega
      have hne2 : ¬ (w2.heap.size = w.heap.size + 1) := by omega
      go_region_held3 (fun w' => w'.cell? ⟨w2.heap.size, 0, none⟩ = some (.int .i64 x) ∧ w'.cell? ⟨w2.heap.size, 1, none⟩ = some (.int .i64 y) ∧ w'.cell? ⟨w2.heap.size, 2, none⟩ = some (.slice A n c))
        (go_keep)
        ((fail))
      rename_i hHeld
      clear hHeld e0 e1 e2 m0 m1 m2 m3 m4 m5 f0 f1 f2
      have hb9 := set3 HG4.out (.int .i64 x) (.int .i64 y) (.slice A n c)
      have hu9 := set3_upd W3 (w.heap.size + 1) (.int .i64 x) (.int .i64 y) (.slice A n c)
      have HB9 := Lib.hid (HB5.out.trans (hu9.below HB5.out.size (fun k hk e => by omega)))
      have HU9 := Lib.hid hu9
      clear hu9
      generalize ((W3.setCell ⟨w.heap.size + 1, 0, none⟩ (.int .i64 x)).setCell ⟨w.heap.size + 1, 1, none⟩ (.int .i64 y)).setCell ⟨w.heap.size + 1, 2, none⟩ (.slice A n c) = W9 at *
      have n0 : W9.cell? ⟨w.heap.size + 1, 0, none⟩ = some (.int .i64 x) := by rw [hb9.cell]; rfl
      have n1 : W9.cell? ⟨w.heap.size + 1, 1, none⟩ = some (.int .i64 y) := by rw [hb9.cell]; rfl
      have n2 : W9.cell? ⟨w.heap.size + 1, 2, none⟩ = some (.slice A n c) := by rw [hb9.cell]; rfl
      clear hb9
      go_wp2_with fail
      refine bodyPost_ret (v := .tuple #[.pointer none, .agg #[.int .i64 x, .int .i64 y, .slice A n c], .bool false, .bool true]) (by simp [results, Try.results12, go_sem, n0, n1, n2]) rfl ?_
      unfold BothR
      rw [if_neg HN.out]
      exact ⟨rfl, HB9.out.drew⟩
  | true =>
    obtain ⟨b1, b2, b3, b4, b5⟩ := mayB_bd hm
    have b0 : 1 ≤ x * y := by
      have := Int.mul_pos (show 0 < x by omega) (show 0 < y by omega)
      omega
    have hwr : wrap64 (x * y) = x * y := IntWalk.wrap64_in _ (by omega)
    by_cases hxy : (n : Int) = x * y
    · obtain rfl : E = 0 := by rw [← HE.out]; unfold ofErr; rw [if_neg (by rw [hm]; simp), if_neg (by simp [hxy])]
      obtain ⟨g, r, c', rfl, hga, hrg⟩ := HP3.out rfl
      have HN : Hid (Good x y n) := Lib.hid ⟨hm, hxy⟩
      have HM := Lib.hid hm
      have HGA := Lib.hid hga
      have d1 : ((n : Int) != x * y) = false := by simp [hxy]
      clear hm HP3 HP1 HG HE hga hxy
      go_wp2_with fail
      refine (fits_any x y _).mono ?_
      rintro e w3 ⟨rfl, rfl⟩
      rw [HM.out]
      clear d1 hwr b5 b0
      go_wp2_with fail
      generalize w2.alloc (.cells #[.int .i64 x, .int .i64 y, .slice A n c] 27) = W3 at *
      have e0 : W3.cell? ⟨w.heap.size + 1, 0, none⟩ = some (.int .i64 0) := by rw [HG4.out.cell]; rfl
      have e1 : W3.cell? ⟨w.heap.size + 1, 1, none⟩ = some (.int .i64 0) := by rw [HG4.out.cell]; rfl
      have e2 : W3.cell? ⟨w.heap.size + 1, 2, none⟩ = some (.slice none 0 0) := by rw [HG4.out.cell]; rfl
      have hne1 : ¬ (w.heap.size + 1 = w2.heap.size) := by omega
      have hne2 : ¬ (w2.heap.size = w.heap.size + 1) := by omega
      go_region_held3 (fun w' => w'.cell? ⟨w2.heap.size, 0, none⟩ = some (.int .i64 x) ∧ w'.cell? ⟨w2.heap.size, 1, none⟩ = some (.int .i64 y) ∧ w'.cell? ⟨w2.heap.size, 2, none⟩ = some (.slice A n c))
        (go_keep)
        ((fail))
      rename_i hHeld
      clear hHeld e0 e1 e2 m0 m1 m2 m3 m4 m5 f0 f1 f2
      have hb9 := set3 HG4.out (.int .i64 x) (.int .i64 y) (.slice A n c)
      have hu9 := set3_upd W3 (w.heap.size + 1) (.int .i64 x) (.int .i64 y) (.slice A n c)
      have HB9 := Lib.hid (HB5.out.trans (hu9.below HB5.out.size (fun k hk e => by omega)))
      have HU9 := Lib.hid hu9
      clear hu9
      generalize ((W3.setCell ⟨w.heap.size + 1, 0, none⟩ (.int .i64 x)).setCell ⟨w.heap.size + 1, 1, none⟩ (.int .i64 y)).setCell ⟨w.heap.size + 1, 2, none⟩ (.slice A n c) = W9 at *
      have n0 : W9.cell? ⟨w.heap.size + 1, 0, none⟩ = some (.int .i64 x) := by rw [hb9.cell]; rfl
      have n1 : W9.cell? ⟨w.heap.size + 1, 1, none⟩ = some (.int .i64 y) := by rw [hb9.cell]; rfl
      have n2 : W9.cell? ⟨w.heap.size + 1, 2, none⟩ = some (.slice A n c) := by rw [hb9.cell]; rfl
      clear hb9
      go_wp2_with fail
      refine bodyPost_ret (v := .tuple #[.pointer (some ⟨g, 0, none⟩), .agg #[.int .i64 x, .int .i64 y, .slice A n c], .bool true, .bool true]) (by simp [results, Try.results12, go_sem, n0, n1, n2]) rfl ?_
      unfold BothR
      rw [if_pos HN.out]
      refine ⟨g, r, c', rfl, (HGA.out.upd HU9.out.drew ?_ ?_).low (by omega), hrg, HB9.out.drew⟩
      · have := HGA.out.fresh; omega
      · have := HGA.out.form.2.2.1; omega
    · obtain rfl : E = 3 := by rw [← HE.out]; unfold ofErr; rw [if_neg (by rw [hm]; simp), if_pos (by simp [hxy])]
      obtain rfl : p = none := HP1.out (by decide)
      have HN : Hid (¬ Good x y n) := Lib.hid (fun k => hxy k.2)
      have HM := Lib.hid hm
      have d1 : ((n : Int) != x * y) = true := by simp [hxy]
      clear hm HP3 HP1 HG HE hxy
      go_wp2_with fail
      refine (fits_any x y _).mono ?_
      rintro e w3 ⟨rfl, rfl⟩
      rw [HM.out]
      clear d1 hwr b5 b0
      go_wp2_with fail
      generalize w2.alloc (.cells #[.int .i64 x, .int .i64 y, .slice A n c] 27) = W3 at *
      have e0 : W3.cell? ⟨w.heap.size + 1, 0, none⟩ = some (.int .i64 0) := by rw [HG4.out.cell]; rfl
      have e1 : W3.cell? ⟨w.heap.size + 1, 1, none⟩ = some (.int .i64 0) := by rw [HG4.out.cell]; rfl
      have e2 : W3.cell? ⟨w.heap.size + 1, 2, none⟩ = some (.slice none 0 0) := by rw [HG4.out.cell]; rfl
      have hne1 : ¬ (w.heap.size + 1 = w2.heap.size) := by omega
      have hne2 : ¬ (w2.heap.size = w.heap.size + 1) := by omega
      go_region_held3 (fun w' => w'.cell? ⟨w2.heap.size, 0, none⟩ = some (.int .i64 x) ∧ w'.cell? ⟨w2.heap.size, 1, none⟩ = some (.int .i64 y) ∧ w'.cell? ⟨w2.heap.size, 2, none⟩ = some (.slice A n c))
        (go_keep)
        ((fail))
      rename_i hHeld
      clear hHeld e0 e1 e2 m0 m1 m2 m3 m4 m5 f0 f1 f2
      have hb9 := set3 HG4.out (.int .i64 x) (.int .i64 y) (.slice A n c)
      have hu9 := set3_upd W3 (w.heap.size + 1) (.int .i64 x) (.int .i64 y) (.slice A n c)
      have HB9 := Lib.hid (HB5.out.trans (hu9.below HB5.out.size (fun k hk e => by omega)))
      have HU9 := Lib.hid hu9
      clear hu9
      generalize ((W3.setCell ⟨w.heap.size + 1, 0, none⟩ (.int .i64 x)).setCell ⟨w.heap.size + 1, 1, none⟩ (.int .i64 y)).setCell ⟨w.heap.size + 1, 2, none⟩ (.slice A n c) = W9 at *
      have n0 : W9.cell? ⟨w.heap.size + 1, 0, none⟩ = some (.int .i64 x) := by rw [hb9.cell]; rfl
      have n1 : W9.cell? ⟨w.heap.size + 1, 1, none⟩ = some (.int .i64 y) := by rw [hb9.cell]; rfl
      have n2 : W9.cell? ⟨w.heap.size + 1, 2, none⟩ = some (.slice A n c) := by rw [hb9.cell]; rfl
      clear hb9
      go_wp2_with fail
      refine bodyPost_ret (v := .tuple #[.pointer none, .agg #[.int .i64 x, .int .i64 y, .slice A n c], .bool false, .bool true]) (by simp [results, Try.results12, go_sem, n0, n1, n2]) rfl ?_
      unfold BothR
      rw [if_neg HN.out]
      exact ⟨rfl, HB9.out.drew⟩
end Go.Proofs.Ytfjnlbjlapbilaa
