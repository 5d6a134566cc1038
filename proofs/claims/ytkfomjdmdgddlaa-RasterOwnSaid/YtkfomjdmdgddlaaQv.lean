/- Paste, the program's, walked. -/
import Derived.Test.YtkfomjdmdgddlaaQu
import Derived.Test.YtkfomjdmdgddlaaCt
import Derived.Test.YtkfomjdmdgddlaaQt
import Derived.Deep.DeepCutAuto
namespace Go.Proofs.Ytkfomjdmdgddlaa
open Go.ChangeShapes Go.WideShapes Go.ChangeAt Go.RowKit

/-- k rows of R pixels, of an image P wide, from (sx, sy) on, laid into rows W wide at (X, Y). -/
def rowsL (l : List Int) (W : Nat) (m : List Int) (P X Y sx sy R : Nat) : Nat → List Int
  | 0 => l
  | k + 1 => spL (rowsL l W m P X Y sx sy R k) (4 * ((Y + k) * W + X)) ((m.drop (4 * ((sy + k) * P + sx))).take (4 * R))
theorem rowsL_length {l m : List Int} {W H P Q X Y sx sy R : Nat} (hl : l.length = 4 * (W * H)) (hm : m.length = 4 * (P * Q)) (hx : X + R ≤ W) (hsx : sx + R ≤ P) : ∀ k, Y + k ≤ H → sy + k ≤ Q → (rowsL l W m P X Y sx sy R k).length = 4 * (W * H)
  | 0, _, _ => hl
  | k + 1, h1, h2 => by
    have ih := rowsL_length (Y := Y) (sy := sy) hl hm hx hsx k (by omega) (by omega)
    have hp := place_lt (W := W) (H := H) (X := X) (Y := Y + k) (n := R) hx (by omega)
    have hq := place_lt (W := P) (H := Q) (X := sx) (Y := sy + k) (n := R) hsx (by omega)
    rw [rowsL, spL_length _ _ _ (by rw [List.length_take, List.length_drop, hm, ih]; omega), ih]
def pasL (l : List Int) (W H : Int) (m : List Int) (P Q : Int) (x y : Int) : List Int :=
  if min (wrap64 (x + P)) W ≤ max x 0 then l
  else rowsL l W.toNat m P.toNat (max x 0).toNat (max y 0).toNat (max x 0 - x).toNat (max y 0 - y).toNat (min (wrap64 (x + P)) W - max x 0).toNat (min (wrap64 (y + Q)) H - max y 0).toNat
def pasI (W H : Int) (l : List Int) (P Q : Int) (m : List Int) (x y : Int) : IRes := if goodB W H l.length = true ∧ goodB P Q m.length = true then ⟨W, H, 0, pasL l W H m P Q x y⟩ else errI 6
/-- The program's frame: two images' boxes, the answer's. -/
structure FrP (w : World) (W H : Int) (A : Option Addr) (n c : Nat) (P Q : Int) (A' : Option Addr) (n' c' : Nat) (w1 : World) : Prop where
  im : IB w1 w.heap.size (.int .i64 W) (.int .i64 H) (.slice A n c)
  ip : IB w1 (w.heap.size + 1) (.int .i64 P) (.int .i64 Q) (.slice A' n' c')
  z : IB w1 (w.heap.size + 1 + 1) (.int .i64 0) (.int .i64 0) (.slice none 0 0)
  bel : Below w.heap.size w w1
theorem FrP.upd {w w1 w2 : World} {W H P Q : Int} {A A' : Option Addr} {n c n' c' : Nat} {S : Nat → Prop} (h : FrP w W H A n c P Q A' n' c' w1) (u : Upd S w1 w2) (hS : ∀ k, k ≤ w.heap.size + 1 + 1 → ¬ S k) : FrP w W H A n c P Q A' n' c' w2 :=
  ⟨IB.of (h.im.blk.upd u (hS _ (by omega))), IB.of (h.ip.blk.upd u (hS _ (by omega))), IB.of (h.z.blk.upd u (hS _ (by omega))), h.bel.trans (u.below h.bel.size (fun k hk => hS k (by omega)))⟩
theorem FrP.call {w w1 w2 : World} {W H P Q : Int} {A A' : Option Addr} {n c n' c' : Nat} (h : FrP w W H A n c P Q A' n' c' w1) (hb : Below w1.heap.size w1 w2) : FrP w W H A n c P Q A' n' c' w2 := h.upd (Upd.of_fresh hb) (fun _ _ => id)
theorem FrP.new (w : World) (W H : Int) (A : Option Addr) (n c : Nat) (P Q : Int) (A' : Option Addr) (n' c' : Nat) : ∃ w1, ((w.alloc (.cells #[.int .i64 W, .int .i64 H, .slice A n c] 24)).alloc (.cells #[.int .i64 P, .int .i64 Q, .slice A' n' c'] 24)).alloc (.cells #[.int .i64 0, .int .i64 0, .slice none 0 0] 24) = w1 ∧ FrP w W H A n c P Q A' n' c' w1 ∧ w1.heap.size = w.heap.size + 1 + 1 + 1 := by
  obtain ⟨h1, h2, h3, h4, h5⟩ := boxes3 w #[.int .i64 W, .int .i64 H, .slice A n c] #[.int .i64 P, .int .i64 Q, .slice A' n' c'] #[.int .i64 0, .int .i64 0, .slice none 0 0] 24 24 24
  exact ⟨_, rfl, ⟨IB.of h3, IB.of h4, IB.of h5, h1⟩, h2⟩
theorem FrP.put {w w1 : World} {W H P Q : Int} {A A' : Option Addr} {n c n' c' : Nat} (h : FrP w W H A n c P Q A' n' c' w1) (u v z : Value) : IB (((w1.setCell ⟨w.heap.size + 1 + 1, 0, none⟩ u).setCell ⟨w.heap.size + 1 + 1, 1, none⟩ v).setCell ⟨w.heap.size + 1 + 1, 2, none⟩ z) (w.heap.size + 1 + 1) u v z ∧
    Below w.heap.size w (((w1.setCell ⟨w.heap.size + 1 + 1, 0, none⟩ u).setCell ⟨w.heap.size + 1 + 1, 1, none⟩ v).setCell ⟨w.heap.size + 1 + 1, 2, none⟩ z) ∧
    Upd (· = w.heap.size + 1 + 1) w1 (((w1.setCell ⟨w.heap.size + 1 + 1, 0, none⟩ u).setCell ⟨w.heap.size + 1 + 1, 1, none⟩ v).setCell ⟨w.heap.size + 1 + 1, 2, none⟩ z) :=
  have t := IB.put h.z u v z w.heap.size (by omega)
  ⟨t.1, h.bel.trans t.2.1, t.2.2⟩
/-- The copy that is answered: its box, its samples; all of it newer than w2. -/
structure PO (w2 : World) (g r c n : Nat) (W H : Int) (L : List Int) (wr : World) : Prop where
  hg : w2.heap.size ≤ g
  im : IB wr g (.int .i64 W) (.int .i64 H) (.slice (some ⟨r, 0, none⟩) n c)
  ow : wr.ownsRow w2.heap.size 28 1 (.slice (some ⟨r, 0, none⟩) n c) n (usV L)
  bel : Below w2.heap.size w2 wr
section
variable {w2 wr w' : World} {g r c n : Nat} {W H : Int} {L L' : List Int}
theorem PO.ne (h : PO w2 g r c n W H L wr) : ¬ g = r := fun e => by
  subst e
  exact own_blk_ne h.ow h.im.blk (by decide) rfl
theorem PO.call (h : PO w2 g r c n W H L wr) (u : Upd No wr w') : PO w2 g r c n W H L w' :=
  ⟨h.hg, IB.of (h.im.blk.upd u id), own_upd h.ow u (fun _ _ => id), h.bel.trans (u.fresh.mono h.bel.size)⟩
theorem PO.next (h : PO w2 g r c n W H L wr) (ho : w'.ownsRow w2.heap.size 28 1 (.slice (some ⟨r, 0, none⟩) n c) n (usV L')) (u : Upd (· = r) wr w') : PO w2 g r c n W H L' w' := by
  have hr := (row_lt h.ow r rfl).1
  exact ⟨h.hg, IB.of (h.im.blk.upd u h.ne), ho, h.bel.trans (u.below h.bel.size (fun k hk e => by omega))⟩
theorem PO.made {a b d : Value} (hg : w2.heap.size ≤ g) (hb : IB wr g a b d) (ho : wr.ownsRow w2.heap.size 28 1 (.slice (some ⟨r, 0, none⟩) n c) n (usV L)) (hbl : Below w2.heap.size w2 wr) :
    PO w2 g r c n W H L (((wr.setCell ⟨g, 0, none⟩ (.int .i64 W)).setCell ⟨g, 1, none⟩ (.int .i64 H)).setCell ⟨g, 2, none⟩ (.slice (some ⟨r, 0, none⟩) n c)) := by
  obtain ⟨t1, t2, t3⟩ := IB.put hb (.int .i64 W) (.int .i64 H) (.slice (some ⟨r, 0, none⟩) n c) w2.heap.size hg
  exact ⟨hg, t1, own_other ho hb.blk (by decide) t3, hbl.trans t2⟩
theorem PO.fresh (ho : wr.ownsRow w2.heap.size 28 1 (.slice (some ⟨r, 0, none⟩) n c) n (usV L)) (hbl : Below w2.heap.size w2 wr) :
    PO w2 wr.heap.size r c n W H L (wr.alloc (.cells #[.int .i64 W, .int .i64 H, .slice (some ⟨r, 0, none⟩) n c] 24)) :=
  ⟨hbl.size, IB.of (Blk.new wr _ _), own_upd ho ((Upd.refl No wr).alloc _) (fun _ _ => id), hbl.alloc hbl.size _⟩
end
theorem ImR.of {w w' : World} {W H : Int} {A : Option Addr} {n c : Nat} {L : List Int} (hl : L.length = n) (ho : w'.ownsRow w.heap.size 28 1 (.slice A n c) n (usV L)) (hb : Below w.heap.size w w') : ImR w ⟨W, H, 0, L⟩ (.returned (.tuple #[imgV W H A n c, .int .i64 0])) w' := by
  subst hl
  exact ⟨A, c, rfl, ho, hb⟩
theorem PO.len {w2 wr : World} {g r c n : Nat} {W H : Int} {L : List Int} (h : PO w2 g r c n W H L wr) : L.length = n := by
  have := own_len h.ow
  rwa [usV_length] at this
theorem wrap_low {x P : Int} (hx : -9223372036854775808 ≤ x ∧ x ≤ 9223372036854775807) (hP : 0 ≤ P ∧ P ≤ 4096) : wrap64 (x + P) = x + P ∨ wrap64 (x + P) < 0 := by
  unfold wrap64
  omega
set_option maxRecDepth 100000 in
set_option maxHeartbeats 40000000 in
theorem paste_any (W H : Int) (A : Option Addr) (n c : Nat) (l : List Int) (hn : l.length = n) (P Q : Int) (A' : Option Addr) (n' c' : Nat) (m : List Int) (hn' : m.length = n') (hc' : n' ≤ c') (hcm' : c' ≤ maxLen) (B : Nat) (w : World) (h : Us w B A l) (h' : Us w B A' m) (hB : B ≤ w.heap.size)
    (x y : Int) (hx : -9223372036854775808 ≤ x ∧ x ≤ 9223372036854775807) (hy : -9223372036854775808 ≤ y ∧ y ≤ 9223372036854775807) :
    Calls Try.prog 22 #[imgV W H A n c, imgV P Q A' n' c', .int .i64 x, .int .i64 y] w (ImR w (pasI W H l P Q m x y)) := by
  obtain ⟨w1, hw1, hf, hsz⟩ := FrP.new w W H A n c P Q A' n' c'
  have HW1 := Lib.hid hw1
  have HF := Lib.hid hf
  have HV := Lib.hid (Vs.below h (hf.bel.mono hB))
  have HV' := Lib.hid (Vs.below h' (hf.bel.mono hB))
  have HX := Lib.hid (And.intro hx hy)
  clear hw1 hf h h' hx hy
  go_enter Try.func22, Try.ntmps22
  go_upto_region 1 with (fail)
  rw [HW1.out]
  clear HW1
  have q0 := HF.out.im.c0; have q1 := HF.out.im.c1; have q2 := HF.out.im.c2
  go_wp2_with fail
  refine (good_any W H A n c w1).mono ?_
  rintro e w2 ⟨rfl, hb2⟩
  have hs2 := Nat.le_trans HF.out.bel.size hb2.size
  have HF2 := Lib.hid (HF.out.call hb2)
  have HV2 := Lib.hid (Vs.below HV.out (hb2.mono (by have := HF.out.bel.size; omega)))
  have HW2 := Lib.hid (Vs.below HV'.out (hb2.mono (by have := HF.out.bel.size; omega)))
  clear HF HV HV' hb2 q0 q1 q2 hsz
  cases hg : goodB W H n with
  | false =>
    have HE : Hid (pasI W H l P Q m x y = errI 6) := Lib.hid (by unfold pasI; rw [hn, if_neg (by rw [hg]; simp)])
    obtain ⟨_, d0, d1, d2, f0, f1, f2⟩ := HF2.out.z
    have HP := Lib.hid (HF2.out.put (.int .i64 0) (.int .i64 0) (.slice none 0 0))
    clear hg
    go_wp2_with fail
    have n0 := HP.out.1.c0; have n1 := HP.out.1.c1; have n2 := HP.out.1.c2
    refine bodyPost_ret (v := .tuple #[imgV 0 0 none 0 0, .int .i64 6]) (by simp [results, Try.results22, go_sem, n0, n1, n2]) rfl ?_
    rw [HE.out]
    exact ImR.err HP.out.2.1
  | true =>
    have HG := Lib.hid hg
    have q0 := HF2.out.ip.c0; have q1 := HF2.out.ip.c1; have q2 := HF2.out.ip.c2
    clear hg
    go_wp2_with fail
    refine (good_any P Q A' n' c' w2).mono ?_
    rintro e w3 ⟨rfl, hb3⟩
    have hs3 := Nat.le_trans hs2 hb3.size
    have HF3 := Lib.hid (HF2.out.call hb3)
    have HV3 := Lib.hid (Vs.below HV2.out (hb3.mono (by omega)))
    have HW3 := Lib.hid (Vs.below HW2.out (hb3.mono (by omega)))
    clear HF2 HV2 HW2 hb3 q0 q1 q2 hs2
    cases hg2 : goodB P Q n' with
    | false =>
      have HE : Hid (pasI W H l P Q m x y = errI 6) := Lib.hid (by unfold pasI; rw [hn', if_neg (by rw [hg2]; simp)])
      obtain ⟨_, d0, d1, d2, f0, f1, f2⟩ := HF3.out.z
      have HP := Lib.hid (HF3.out.put (.int .i64 0) (.int .i64 0) (.slice none 0 0))
      clear hg2
      go_wp2_with fail
      have n0 := HP.out.1.c0; have n1 := HP.out.1.c1; have n2 := HP.out.1.c2
      refine bodyPost_ret (v := .tuple #[imgV 0 0 none 0 0, .int .i64 6]) (by simp [results, Try.results22, go_sem, n0, n1, n2]) rfl ?_
      rw [HE.out]
      exact ImR.err HP.out.2.1
    | true =>
      have HE : Hid (pasI W H l P Q m x y = ⟨W, H, 0, pasL l W H m P Q x y⟩) := Lib.hid (by unfold pasI; rw [hn, hn', if_pos ⟨HG.out, hg2⟩])
      obtain ⟨W, H, rfl, rfl, hn4, hfew, hw1, hw2, hh1, hh2⟩ := goodB_nat HG.out
      obtain ⟨P, Q, rfl, rfl, hn4', hfew', hp1, hp2, hq1, hq2⟩ := goodB_nat hg2
      have hn0 : 0 < n := by have := Nat.mul_pos hw1 hh1; omega
      obtain ⟨r, o, rfl, hrB, hsm⟩ := Us.smp HV3.out (by omega)
      obtain ⟨r2, o2, rfl, hrB2, hsm2⟩ := Us.smp HW3.out (by have := Nat.mul_pos hp1 hq1; omega)
      have HN4 := Lib.hid hn4
      have HN4' := Lib.hid hn4'
      have HFEW := Lib.hid hfew
      have HFEW' := Lib.hid hfew'
      have HSM := Lib.hid hsm
      have HSM2 := Lib.hid hsm2
      have HUL := Lib.hid HV3.out
      have HCl : Hid (∀ wx, Below w3.heap.size w3 wx → Calls Try.prog 45 #[.slice (some ⟨r, o, none⟩) n c] wx fun e w' => ∃ r' c', e = .returned (.slice (some ⟨r', 0, none⟩) n c') ∧ Hid (w'.ownsRow w3.heap.size 28 1 (.slice (some ⟨r', 0, none⟩) n c') n (usV l)) ∧ Below w3.heap.size w3 w' ∧ Hid (Upd No wx w')) := Lib.hid (fun wx hb =>
        (clone_any r o n c l hn B wx (Vs.below HUL.out (hb.mono (by omega))) (by have := hb.size; omega) hn0 (by omega)).mono (fun e w' ⟨r', c', h1, h2, h3⟩ => ⟨r', c', h1, Lib.hid (own_low h2 hb.size), hb.trans (h3.mono hb.size), Lib.hid (Upd.of_fresh h3)⟩))
      have hfull : Hid (∀ w', Below w3.heap.size w3 w' → (Below w3.heap.size w3 w' ∧ w'.cell? ⟨w.heap.size, 0, none⟩ = some (.int .i64 (W : Int)) ∧ w'.cell? ⟨w.heap.size, 1, none⟩ = some (.int .i64 (H : Int)) ∧ w'.cell? ⟨w.heap.size, 2, none⟩ = some (.slice (some ⟨r, o, none⟩) n c))) := Lib.hid fun w' hb => by
        have hk := (HF3.out.call hb).im
        exact ⟨hb, hk.c0, hk.c1, hk.c2⟩
      have q0 := HF3.out.im.c0; have q1 := HF3.out.im.c1; have q2 := HF3.out.im.c2
      clear hg2 hsm hsm2 HV3 HW3 HG hn4 hn4' hfew hfew'
      go_wp2_with fail
      go_cut [10] (fun v wx => ∃ g r' c' : Nat, v = .pointer (some ⟨g, 0, none⟩) ∧ Hid (PO w3 g r' c' n (W : Int) (H : Int) l wx))
      case first =>
        go_region_held3 (fun w' => Below w3.heap.size w3 w' ∧ w'.cell? ⟨w.heap.size, 0, none⟩ = some (.int .i64 (W : Int)) ∧ w'.cell? ⟨w.heap.size, 1, none⟩ = some (.int .i64 (H : Int)) ∧ w'.cell? ⟨w.heap.size, 2, none⟩ = some (.slice (some ⟨r, o, none⟩) n c))
          (first | exact hfull.out _ (Below.refl _ _) | exact hfull.out _ ((Below.refl _ _).drew) | exact hfull.out _ (hc6) | exact hfull.out _ (hc6.alloc hc6.size _) | exact hfull.out _ (hc6.trans (IB.put hk6 _ _ _ w3.heap.size (Nat.le_refl _)).2.1) | exact hfull.out _ ((Below.refl _ _).alloc (Nat.le_refl _) _) | exact hfull.out _ (((Below.refl _ _).drew).alloc (Nat.le_refl _) _) | exact hfull.out _ (((Below.refl _ _).alloc (Nat.le_refl _) _).drew))
          ((go_at_call 45; refine (HCl.out _ (by first | exact Below.refl _ _ | exact (Below.refl _ _).drew | exact (Below.refl _ _).alloc (Nat.le_refl _) _ | exact ((Below.refl _ _).drew).alloc (Nat.le_refl _) _ | exact ((Below.refl _ _).alloc (Nat.le_refl _) _).drew)).mono ?_; rintro e w6 ⟨r6, c6, rfl, HO6, hc6, HU6⟩; (first | (have hk6 : IB w6 w3.heap.size _ _ _ := IB.of ((Blk.new w3 _ _).upd HU6.out id)) | (have hk6 : IB w6 w3.heap.size _ _ _ := IB.of ((Blk.new w3.drew _ _).upd HU6.out id)) | (have hk6 : IB w6 w3.heap.size _ _ _ := IB.of (((Blk.new w3 _ _).upd ((Upd.refl No _).drew) id).upd HU6.out id)) | skip); try (have d0 := hk6.c0; have d1 := hk6.c1; have d2 := hk6.c2; have f0 := hk6.f0; have f1 := hk6.f1; have f2 := hk6.f2)))
        all_goals
          go_wp2_with fail
          go_meet
          first
          | exact ⟨_, r6, c6, rfl, Lib.hid (PO.fresh HO6.out hc6)⟩
          | exact ⟨_, r6, c6, rfl, Lib.hid (PO.made (Nat.le_refl _) hk6 HO6.out hc6)⟩
      case rest =>
        obtain ⟨g, r', cc, rfl, HPO⟩ := hcut
        clear hfull HCl q0 q1 q2 HUL
        have HF4 := Lib.hid (HF3.out.call HPO.out.bel)
        have HFC : Hid (∀ wr, Below w3.heap.size w3 wr → FrP w W H (some ⟨r, o, none⟩) n c P Q (some ⟨r2, o2, none⟩) n' c' wr) := Lib.hid (fun wr hb => HF3.out.call hb)
        have q0 := HF4.out.im.c0; have q1 := HF4.out.im.c1; have q2 := HF4.out.im.c2
        have p0 := HF4.out.ip.c0; have p1 := HF4.out.ip.c1; have p2 := HF4.out.ip.c2
        clear HF3
        go_wp2_with fail
        refine (overlap_any x P W wc).mono ?_
        rintro e w5 ⟨rfl, rfl⟩
        go_wp2_with fail
        refine (overlap_any y Q H w5).mono ?_
        rintro e w6 ⟨rfl, rfl⟩
        have HPL : Hid (pasL l W H m P Q x y = (if min (wrap64 (x + P)) W ≤ max x 0 then l
  else rowsL l W m P (max x 0).toNat (max y 0).toNat (max x 0 - x).toNat (max y 0 - y).toNat (min (wrap64 (x + P)) W - max x 0).toNat (min (wrap64 (y + Q)) H - max y 0).toNat)) := Lib.hid (by unfold pasL; simp only [Int.toNat_natCast])
        have hxw := wrap_low HX.out.1 (P := (P : Int)) (by omega)
        have hyw := wrap_low HX.out.2 (P := (Q : Int)) (by omega)
        obtain ⟨X, hX⟩ : ∃ X : Nat, max x 0 = (X : Int) := ⟨(max x 0).toNat, by omega⟩
        obtain ⟨Y, hY⟩ : ∃ Y : Nat, max y 0 = (Y : Int) := ⟨(max y 0).toNat, by omega⟩
        obtain ⟨b, hb⟩ : ∃ b, min (wrap64 (y + Q)) (H : Int) = b := ⟨_, rfl⟩
        obtain ⟨t, ht⟩ : ∃ t, min (wrap64 (x + P)) (W : Int) = t := ⟨_, rfl⟩
        rw [hX, hY, hb, ht] at HPL
        rw [hX, hY, hb, ht]
        have hxo : x ≤ X := by omega
        have hyo : y ≤ Y := by omega
        by_cases hlt : t ≤ X
        case pos =>
          have HL : Hid (pasL l W H m P Q x y = l) := Lib.hid (by rw [HPL.out, if_pos hlt])
          have hdt : decide (t ≤ (X : Int)) = true := by simpa using hlt
          obtain ⟨_, m0, m1, m2, _, _, _⟩ := HPO.out.im
          obtain ⟨_, d0, d1, d2, f0, f1, f2⟩ := HF4.out.z
          have HP := Lib.hid (HF4.out.put (.int .i64 W) (.int .i64 H) (.slice (some ⟨r', 0, none⟩) n cc))
          have HOE := Lib.hid (own_other (own_low HPO.out.ow hs3) HF4.out.z.blk (by decide) HP.out.2.2)
          clear HPL hxw hyw hX hY hb ht hxo hyo hlt
          go_wp2_with fail
          have n0 := HP.out.1.c0; have n1 := HP.out.1.c1; have n2 := HP.out.1.c2
          refine bodyPost_ret (v := .tuple #[imgV W H (some ⟨r', 0, none⟩) n cc, .int .i64 0]) (by simp [results, Try.results22, go_sem, n0, n1, n2]) rfl ?_
          rw [HE.out, HL.out]
          exact ImR.of hn HOE.out HP.out.2.1
        have hxe : wrap64 (x + P) = x + P := by omega
        obtain ⟨R, hR⟩ : ∃ R : Nat, t = ((X + R : Nat) : Int) := ⟨(t - X).toNat, by omega⟩
        obtain ⟨sx, hsx⟩ : ∃ sx : Nat, (X : Int) - x = (sx : Int) := ⟨((X : Int) - x).toNat, by omega⟩
        obtain ⟨sy, hsy⟩ : ∃ sy : Nat, (Y : Int) - y = (sy : Int) := ⟨((Y : Int) - y).toNat, by omega⟩
        obtain ⟨K, hK⟩ : ∃ K : Nat, (b - Y).toNat = K := ⟨_, rfl⟩
        have HL : Hid (pasL l W H m P Q x y = rowsL l W m P X Y sx sy R K) := Lib.hid (by
          rw [HPL.out, if_neg hlt, hsx, hsy, hK, hR]
          simp only [Int.toNat_natCast]
          rw [show ((X + R : Nat) : Int) - (X : Int) = (R : Int) by omega, Int.toNat_natCast])
        have hR1 : 1 ≤ R := by omega
        have hXR : X + R ≤ W := by omega
        have hSR : sx + R ≤ P := by omega
        have HK : Hid (∀ k, k < K → Y + k < H ∧ sy + k < Q ∧ ((Y + k : Nat) : Int) < b ∧ ((Y + k : Nat) : Int) - y = ((sy + k : Nat) : Int)) := Lib.hid (fun k hk => by omega)
        have HK2 : Hid (¬ ((Y + K : Nat) : Int) < b) := Lib.hid (by omega)
        have hKb : K ≤ 4096 := by omega
        have hYb : Y < 9223372036854775808 := by have := HX.out.2; omega
        have hdt : decide (t ≤ (X : Int)) = false := by simpa using hlt
        have s1 : IntKind.i64.wrap (t - (X : Int)) = (R : Int) := by rw [IntWalk.i64_in _ (by omega)]; omega
        have s2 : IntKind.i64.wrap ((X : Int) - x) = (sx : Int) := by rw [hsx]; exact IntWalk.i64_in _ (by omega)
        have HPO0 : Hid (PO w3 g r' cc n W H (rowsL l W m P X Y sx sy R 0) w6) := HPO
        obtain ⟨_, he, hncc, hccm, _, _⟩ := row_form HPO.out.ow hn0
        clear HPL hxw hyw hX hY hb ht hxo hyo hlt hxe hR hsx hsy hK HPO HF4 he q0 q1 q2 p0 p1 p2
        go_wp2_with fail
        go_loopw [15] (fun i wr => ∃ k : Nat, k ≤ K ∧ i = .int .i64 ((Y + k : Nat) : Int) ∧ Hid (PO w3 g r' cc n W H (rowsL l W m P X Y sx sy R k) wr)) (fun i _ => K - ((intOf i).toNat - Y))
        case atStart => exact ⟨0, Nat.zero_le _, rfl, HPO0⟩
        case round =>
          obtain ⟨k, hk, rfl, HPO⟩ := hrel
          by_cases hlk : k < K
          · obtain ⟨k1, k2, k3, k4⟩ := HK.out k hlk
            have hLl := HPO.out.len
            have hnum : ((Y + (k + 1) : Nat) : Int) = ((Y + k : Nat) : Int) + 1 := by omega
            obtain ⟨Z, hZ⟩ : ∃ Z, Y + k = Z := ⟨_, rfl⟩
            obtain ⟨V, hV⟩ : ∃ V, sy + k = V := ⟨_, rfl⟩
            have hS : rowsL l W m P X Y sx sy R (k + 1) = spL (rowsL l W m P X Y sx sy R k) (4 * (Z * W + X)) ((m.drop (4 * (V * P + sx))).take (4 * R)) := by rw [rowsL, hZ, hV]
            rw [hZ] at k1 k3 k4 hnum
            rw [hV] at k2 k4
            rw [hZ]
            obtain ⟨U, Wf, hU0, hU1, hU2⟩ := names_of wr
            have HPu : Hid (∀ u, PO w3 g r' cc n W H (rowsL l W m P X Y sx sy R k) (Wf u)) := Lib.hid (fun u => HPO.out.call (hU1 u))
            have HFu : Hid (∀ u, FrP w W H (some ⟨r, o, none⟩) n c P Q (some ⟨r2, o2, none⟩) n' c' (Wf u)) := Lib.hid (fun u => HFC.out _ (HPu.out u).bel)
            have hcsl : ((m.drop (4 * (V * P + sx))).take (4 * R)).length = 4 * R := by
              have := place_lt (W := P) (H := Q) (X := sx) (Y := V) (n := R) hSR k2
              have := HN4'.out
              rw [List.length_take, List.length_drop]
              omega
            have hfit := place_lt (W := W) (H := H) (X := X) (Y := Z) (n := R) hXR k1
            have HRo : Hid (∀ u, Calls Try.prog 37 #[imgV W H (some ⟨r', 0, none⟩) n cc, .int .i64 (X : Int), .int .i64 (Z : Int), .int .i64 (R : Int)] (Wf u) fun e w' => e = .returned (.slice (some ⟨r', 4 * (Z * W + X), none⟩) (4 * R) (cc - 4 * (Z * W + X))) ∧ ∃ u', w' = Wf u') := Lib.hid (fun u =>
              (run_any hLl HN4.out hncc hccm HFEW.out (Smp.of_own (HPu.out u).ow) X Z R hR1 hXR k1).mono (fun e w' ⟨h1, h2, _⟩ => ⟨by rw [h1, Nat.zero_add], hU2 u w' h2⟩))
            have HRp : Hid (∀ u, Calls Try.prog 37 #[imgV P Q (some ⟨r2, o2, none⟩) n' c', .int .i64 (sx : Int), .int .i64 (V : Int), .int .i64 (R : Int)] (Wf u) fun e w' => e = .returned (.slice (some ⟨r2, o2 + 4 * (V * P + sx), none⟩) (4 * R) (c' - 4 * (V * P + sx))) ∧ ∃ u', w' = Wf u') := Lib.hid (fun u =>
              (run_any hn' HN4'.out hc' hcm' HFEW'.out (HSM2.out.below (HPu.out u).bel (by omega)) sx V R hR1 hSR k2).mono (fun e w' ⟨h1, h2, _⟩ => ⟨h1, hU2 u w' h2⟩))
            have HCo : Hid (∀ u, ∃ w', (Builtin.copy_ #[22, 22] 3 #[.slice (some ⟨r', 4 * (Z * W + X), none⟩) (4 * R) (cc - 4 * (Z * W + X)), .slice (some ⟨r2, o2 + 4 * (V * P + sx), none⟩) (4 * R) (c' - 4 * (V * P + sx))]).run Try.prog (Wf u) = .ok (.int .i64 ((4 * R : Nat) : Int)) w' ∧ PO w3 g r' cc n W H (rowsL l W m P X Y sx sy R (k + 1)) w') := Lib.hid (fun u => by
              obtain ⟨w', h1, h2, h3⟩ := copy_us (HPu.out u).ow (4 * (Z * W + X)) (4 * R) (cc - 4 * (Z * W + X)) r2 (o2 + 4 * (V * P + sx)) (c' - 4 * (V * P + sx)) _ hcsl ((HSM2.out.below (HPu.out u).bel (by omega)).part _ _) (by have := HN4.out; omega) 3
              refine ⟨w', h1, ?_⟩
              rw [hS]
              exact (HPu.out u).next h2 h3)
            have a0 := fun u => (HPu.out u).im.c0; have a1 := fun u => (HPu.out u).im.c1; have a2 := fun u => (HPu.out u).im.c2
            have b0 := fun u => (HFu.out u).ip.c0; have b1 := fun u => (HFu.out u).ip.c1; have b2 := fun u => (HFu.out u).ip.c2
            have s3 : IntKind.i64.wrap ((Z : Int) - y) = (V : Int) := by rw [k4]; exact IntWalk.i64_in _ (by omega)
            have hdz : decide ((Z : Int) < b) = true := by simpa using k3
            have HU0 := Lib.hid hU0
            have hne : Nonempty U := by obtain ⟨u, _⟩ := hU0; exact ⟨u⟩
            have hZb : Z ≤ 4096 := by omega
            clear hLl hS hcsl hfit HPu HFu HPO hU0 hU1 hU2 k1 k2 k3 k4 hV
            generalize 4 * (Z * W + X) = F1 at *
            generalize 4 * (V * P + sx) = F2 at *
            go_wp2_with fail
            refine wp_region_class (fun w' => ∃ u, w' = Wf u) 18 (by kernel_rfl) (by kernel_rfl) HU0.out ?_
            simp only [List.take_succ_cons, List.take_zero, List.drop_succ_cons, List.drop_zero]
            repeat (go_big_quiet_step ((go_at_call 37; first | (with_reducible exact HRo.out _) | (with_reducible exact HRp.out _) | exact HRo.out _ | exact HRp.out _)))
            refine wpQuiet_nil ?_
            rintro _ ⟨u, rfl⟩
            obtain ⟨w7, hrun, hpo⟩ := HCo.out u
            have HPN := Lib.hid hpo
            have HRN := Lib.hid hrun
            clear HU0 HRo HRp HCo a0 a1 a2 b0 b1 b2 hrun hpo
            refine wpList_copy_eq rfl (.tmp 67) (.tmp 78) _ rfl rfl rfl HRN.out ?_
            go_wp2_with fail
            go_roundw
            case rel => exact ⟨k + 1, by omega, by rw [hnum], HPN⟩
            case measure => simp [intOf]; omega
          · obtain rfl : k = K := by omega
            have hLl := HPO.out.len
            have hF := HFC.out _ HPO.out.bel
            have hdz : decide (((Y + k : Nat) : Int) < b) = false := by simpa using HK2.out
            obtain ⟨_, m0, m1, m2, _, _, _⟩ := HPO.out.im
            obtain ⟨_, d0, d1, d2, f0, f1, f2⟩ := hF.z
            have HP := Lib.hid (hF.put (.int .i64 W) (.int .i64 H) (.slice (some ⟨r', 0, none⟩) n cc))
            have HOE := Lib.hid (own_other (own_low HPO.out.ow hs3) hF.z.blk (by decide) HP.out.2.2)
            clear hF
            generalize Y + k = Z at *
            go_wp2_with fail
            have n0 := HP.out.1.c0; have n1 := HP.out.1.c1; have n2 := HP.out.1.c2
            refine bodyPost_ret (v := .tuple #[imgV W H (some ⟨r', 0, none⟩) n cc, .int .i64 0]) (by simp [results, Try.results22, go_sem, n0, n1, n2]) rfl ?_
            rw [HE.out, HL.out]
            exact ImR.of hLl HOE.out HP.out.2.1
end Go.Proofs.Ytkfomjdmdgddlaa
