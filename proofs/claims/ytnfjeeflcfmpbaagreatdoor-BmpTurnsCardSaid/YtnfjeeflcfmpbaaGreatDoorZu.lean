/- A written file whose height is turned to its negative is read as the image turned upside down: for every image, with alpha and without. The card ties the table of lowest bits to the library's own text. Condition: the form's own reach of memory. -/
import Derived.Test.YtnfjeeflcfmpbaaGreatDoorZt
import Derived.Test.YtnfjeeflcfmpbaaGreatDoorZl
import Derived.Deep.CondSized
namespace Go.Proofs.YtnfjeeflcfmpbaaGreatDoor
open Go.ChangeShapes Go.WideShapes Go.ChangeAt Go.RowKit

theorem im_len {w : World} {W H : Int} {l : List Int} {n : Nat} {e : Ending} {w' : World} (hn : l.length = n) (h : ImR w ⟨W, H, 0, l⟩ e w') : ∃ A c, e = .returned (.tuple #[imgV W H A n c, .int .i64 0]) ∧ w'.ownsRow w.heap.size 42 1 (.slice A n c) n (usV l) ∧ Below w.heap.size w w' := by
  subst hn
  exact h
/-- An image that was answered: its box, its samples; all of it newer than w2. -/
structure QO (w2 : World) (g : Nat) (A : Option Addr) (c n : Nat) (W H : Int) (L : List Int) (wr : World) : Prop where
  hg : w2.heap.size ≤ g
  im : IB wr g (.int .i64 W) (.int .i64 H) (.slice A n c)
  ow : wr.ownsRow w2.heap.size 42 1 (.slice A n c) n (usV L)
  bel : Below w2.heap.size w2 wr
section
variable {w2 wr w' : World} {g c n : Nat} {A : Option Addr} {W H : Int} {L : List Int}
theorem QO.call (h : QO w2 g A c n W H L wr) (b : Below wr.heap.size wr w') : QO w2 g A c n W H L w' :=
  ⟨h.hg, h.im.call b, own_upd h.ow (Upd.of_fresh b) (fun _ _ => id), h.bel.trans (b.mono h.bel.size)⟩
theorem QO.made {a b d : Value} (hg : w2.heap.size ≤ g) (hb : IB wr g a b d) (ho : wr.ownsRow w2.heap.size 42 1 (.slice A n c) n (usV L)) (hbl : Below w2.heap.size w2 wr) :
    QO w2 g A c n W H L (((wr.setCell ⟨g, 0, none⟩ (.int .i64 W)).setCell ⟨g, 1, none⟩ (.int .i64 H)).setCell ⟨g, 2, none⟩ (.slice A n c)) := by
  obtain ⟨t1, t2, t3⟩ := IB.put hb (.int .i64 W) (.int .i64 H) (.slice A n c) w2.heap.size hg
  exact ⟨hg, t1, own_other ho hb.blk (by decide) t3, hbl.trans t2⟩
theorem QO.fresh (ho : wr.ownsRow w2.heap.size 42 1 (.slice A n c) n (usV L)) (hbl : Below w2.heap.size w2 wr) :
    QO w2 wr.heap.size A c n W H L (wr.alloc (.cells #[.int .i64 W, .int .i64 H, .slice A n c] 26)) :=
  ⟨hbl.size, IB.of (Blk.new wr _ _), own_upd ho ((Upd.refl No wr).alloc _) (fun _ _ => id), hbl.alloc hbl.size _⟩
end
theorem ib_store {w1 w9 : World} {ob : Nat} {a b d : Value} (h : IB w9 ob a b d) (hB : Below w1.heap.size w1 w9) (hob : w1.heap.size ≤ ob) (x y z : Value) : Below w1.heap.size w1 (((w9.setCell ⟨ob, 0, none⟩ x).setCell ⟨ob, 1, none⟩ y).setCell ⟨ob, 2, none⟩ z) :=
  hB.trans (IB.put h x y z w1.heap.size hob).2.1
theorem neg_u32 (H : Nat) (h1 : 1 ≤ H) (h2 : H ≤ 4096) : (-(H : Int)) % 4294967296 = ((4294967296 - H : Nat) : Int) := by omega
theorem turn_ix (k T H : Nat) (q r p Z : Nat) (hq : k / T = q) (hr : k % T = r) (hp : H - 1 - q = p) (hZ : p * T = Z) : T * (H - 1 - k / T) + k % T = Z + r := by
  rw [hq, hp, hr, Nat.mul_comm, hZ]
namespace BmpTurns

set_option maxHeartbeats 8000000 in
set_option maxRecDepth 100000 in
theorem walk (x y : Int) (A : Option Addr) (c : Nat) (l : List Int) (al : Bool) (w : World) (hT : Tab32 w) (hB1 : 0 < w.heap.size) (_ : -9223372036854775808 ≤ x ∧ x ≤ 9223372036854775807) (_ : -9223372036854775808 ≤ y ∧ y ≤ 9223372036854775807) (hu : Us w w.heap.size A l) (hlb : ∀ v ∈ l, 0 ≤ v ∧ v ≤ 65535) (hl : l.length * 2 ≤ 140737488351232) :
    Calls Tryz.prog 6 #[imgV x y A l.length c, .bool al] w fun e w' => e = .returned (.bool true) ∧ Below w.heap.size w w' := by
  obtain ⟨w1, hw1, hi, hb⟩ := newImg x y A l.length c w
  have HW1 := Lib.hid hw1; have HI := Lib.hid hi; have HB := Lib.hid hb
  have HU := Lib.hid (Vs.below hu hb); have HT := Lib.hid (hT.below hb hB1)
  have hs1 := hb.size
  have hw1lt := hi.blk.lt
  obtain ⟨n, hn⟩ : ∃ n, l.length = n := ⟨_, rfl⟩
  have HN := Lib.hid hn
  rw [hn] at hl HW1 HI ⊢
  clear hw1 hi hb hu hT hn
  go_enter Tryz.func6, Tryz.ntmps6
  go_upto_region 1 with (fail)
  rw [HW1.out]
  clear HW1
  go_wp2_with fail
  refine (wakes_any w1 HT.out (by omega)).mono ?_
  rintro e w2 ⟨rfl, hb2⟩
  have hs2 := hb2.size
  have HB2 := Lib.hid (HB.out.trans (hb2.mono HB.out.size)); have HI2 := Lib.hid (HI.out.call hb2)
  have HU2 := Lib.hid (Vs.below HU.out (hb2.mono (by omega))); have HT2 := Lib.hid (HT.out.below hb2 (by show 0 < _; omega))
  clear HB HI HU HT hb2
  have q0 := HI2.out.c0; have q1 := HI2.out.c1; have q2 := HI2.out.c2
  go_wp2_with fail
  refine (copy_any x y A n c l HN.out w.heap.size w2 HU2.out (by omega) (by omega)).mono ?_
  rintro e w3 ⟨A3, c3, rfl, o3, hb3⟩
  have hs3 := hb3.size
  have HB3 := Lib.hid (HB2.out.trans (hb3.mono HB2.out.size)); have HI3 := Lib.hid (HI2.out.call hb3)
  have HU3 := Lib.hid (Vs.below HU2.out (hb3.mono (by omega))); have HT3 := Lib.hid (HT2.out.below hb3 (by show 0 < _; omega))
  have hr3 := (row_room o3).1
  have HC3 := Lib.hid (Vs.of_own o3)
  clear HB2 HI2 HU2 HT2 hb3 o3 q0 q1 q2
  go_wp2_with fail
  refine (enc_any al x y A3 n c3 l HN.out hr3 hlb w3.heap.size w3 HT3.out (by omega) HC3.out (Nat.le_refl _)).mono ?_
  intro e w4 he
  rcases he with ⟨hg, rfl, hb4⟩ | ⟨hg, A4, c4, rfl, o4, hb4⟩
  · have HB4 := Lib.hid (HB3.out.trans (hb4.mono HB3.out.size))
    clear HB3 HI3 HU3 HT3 HC3 hb4 hg
    go_wp2_with fail
    go_ret
    exact ⟨rfl, HB4.out⟩
  have hs4 := hb4.size
  have HB4 := Lib.hid (HB3.out.trans (hb4.mono HB3.out.size)); have HI4 := Lib.hid (HI3.out.call hb4)
  have HU4 := Lib.hid (Vs.below HU3.out (hb4.mono (by omega))); have HT4 := Lib.hid (HT3.out.below hb4 (by show 0 < _; omega))
  clear HB3 HI3 HU3 HT3 HC3 hb4
  obtain ⟨W, H, rfl, rfl, hn4, hf, hw1, hw2, hh1, hh2⟩ := goodB_nat hg
  simp only [Int.toNat_natCast] at o4 ⊢
  obtain ⟨M, hM⟩ : ∃ M, W * H = M := ⟨_, rfl⟩
  have HM := Lib.hid hM
  have HM1 : Hid (wrap64 ((W : Int) * (H : Int)) = (M : Int)) := Lib.hid (by rw [← Int.natCast_mul, hM]; exact IntWalk.wrap64_in _ (by omega))
  have hLl : (pxL l (W * H)).length = W * H := pxL_length l _
  have hLok := px_ok hlb (W * H)
  have hroom := row_room o4
  obtain ⟨N, hN⟩ : ∃ N, (encB al W H (pxL l (W * H))).length = N := ⟨_, rfl⟩
  have hNb := enc_bd (al := al) hLl hf hh2
  have hFl := fun (L : List Col) (M : Nat) (h : L.length = M) => flatL_whole L M h
  have hTl : (turL W H (pxL l (W * H))).length = W * H := turL_length hLl
  have hflen : ∀ L : List Col, L.length = W * H → (flatL L (W * H)).length = 4 * (W * H) := fun L h => by rw [flatL_whole L _ h, flatMap_len _ (fun _ => rfl), h]
  obtain ⟨F, hF⟩ : ∃ F, encB al W H (pxL l (W * H)) = F := ⟨_, rfl⟩
  obtain ⟨G, hG⟩ : ∃ G, turB al W H (pxL l (W * H)) = G := ⟨_, rfl⟩
  obtain ⟨X, hX⟩ : ∃ X, flatL ((pxL l (W * H)).map (rndC al)) (W * H) = X := ⟨_, rfl⟩
  obtain ⟨Y, hY⟩ : ∃ Y, flatL ((turL W H (pxL l (W * H))).map (rndC al)) (W * H) = Y := ⟨_, rfl⟩
  have hXn : X.length = n := by have h0 := HN.out; rw [← hX, hflen _ (by rw [List.length_map, hLl])]; omega
  have hYn : Y.length = n := by have h0 := HN.out; rw [← hY, hflen _ (by rw [List.length_map, hTl])]; omega
  have HAT : Hid (∀ i, i < 4 * (W * H) → Y[(4 * W) * (H - 1 - i / (4 * W)) + i % (4 * W)]? = X[i]? ∧ i / (4 * W) < H) := Lib.hid (fun i hi => by rw [← hX, ← hY]; exact turn_at hLl hw1 i hi)
  have HXN := Lib.hid hXn; have HYN := Lib.hid hYn
  have HDX : Hid (∀ (A5 : Option Addr) (c5 : Nat) (base : Nat) (w5 : World), w5.ownsRow base 5 1 (.slice A5 N c5) N (bytesV F) → ∀ w6, Upd No w5 w6 → Below w4.heap.size w4 w6 → ∀ most : Int, ((W * H : Nat) : Int) ≤ most → Calls Tryz.prog 9 #[.slice A5 N c5, .int .i64 most] w6 fun e w7 => ∃ A c, e = .returned (.tuple #[imgV W H A n c, .int .i64 0]) ∧ w7.ownsRow w6.heap.size 42 1 (.slice A n c) n (usV X) ∧ Below w6.heap.size w6 w7) :=
    Lib.hid fun A5 c5 base w5 ho w6 hu hb most hm => by
      have h := own_upd ho hu (fun _ _ => id)
      have hr := row_room h
      have hbb : Bs w6 w6.heap.size A5 F := by have e : F.length = N := by rw [← hF, hN]
                                               subst e; exact Bs.of_own h
      rw [← hF] at hbb
      have := dec_any al W H (pxL l (W * H)) hLl hLok hw1 hw2 hh1 hh2 hf N c5 hN (by omega) hr.2 most hm A5 w6.heap.size w6 hbb (Nat.le_refl _) (HT4.out.below hb (by omega)) (by have := hb.size; omega)
      rw [hX] at this
      exact this.mono (fun e w7 he => im_len HXN.out he)
  have HDY : Hid (∀ (A5 : Option Addr) (c5 : Nat) (base : Nat) (w6 : World), w6.ownsRow base 5 1 (.slice A5 N c5) N (bytesV G) → Below w4.heap.size w4 w6 → ∀ most : Int, ((W * H : Nat) : Int) ≤ most → Calls Tryz.prog 9 #[.slice A5 N c5, .int .i64 most] w6 fun e w7 => ∃ A c, e = .returned (.tuple #[imgV W H A n c, .int .i64 0]) ∧ w7.ownsRow w6.heap.size 42 1 (.slice A n c) n (usV Y) ∧ Below w6.heap.size w6 w7) :=
    Lib.hid fun A5 c5 base w6 h hb most hm => by
      have hr := row_room h
      have hbb : Bs w6 w6.heap.size A5 G := by have e : G.length = N := by rw [← hG, turB_length, hN]
                                               subst e; exact Bs.of_own h
      rw [← hG] at hbb
      have := decTur_any al W H (pxL l (W * H)) hLl hLok hw1 hw2 hh1 hh2 hf N c5 hN (by omega) hr.2 most hm A5 w6.heap.size w6 hbb (Nat.le_refl _) (HT4.out.below hb (by omega)) (by have := hb.size; omega)
      rw [hY] at this
      exact this.mono (fun e w7 he => im_len HYN.out he)
  have hN26 : 26 ≤ N ∧ N ≤ 4194304 := by
    have h1 := enc_bd (al := al) hLl hf hh2
    rw [hN] at h1
    cases al <;> simp at h1 <;> omega
  have HBS := Lib.hid (Bs.of_own o4)
  have hFN : F.length = N := by rw [← hF, hN]
  rw [hF] at HBS o4
  rw [hFN] at o4
  rw [hN]
  have HOwn : Hid (∀ w', Below w4.heap.size w4 w' → Calls Tryz.prog 10 #[.slice A4 N c4] w' fun e w'' => ∃ A1 c1, e = .returned (.slice A1 N c1) ∧ w''.ownsRow w'.heap.size 5 1 (.slice A1 N c1) N (bytesV F) ∧ Below w'.heap.size w' w'' ∧ Below w4.heap.size w4 w'') :=
    Lib.hid fun w' hb => (own_any A4 c4 N F (by rw [← hF, hN]) w4.heap.size w' (HBS.out.below hb) hb.size (by omega)).mono (fun e w'' ⟨A1, c1, h1, h2, h3⟩ => ⟨A1, c1, h1, h2, h3, hb.trans (h3.mono hb.size)⟩)
  have HSet : Hid (∀ w', Below w4.heap.size w4 w' → Calls Tryz.prog 18 #[.slice A4 N c4, .int .i64 22, .int .i64 4, .bool false, .int .u32 ((4294967296 - H : Nat) : Int)] w' fun e w'' => ∃ A' c', e = .returned (.tuple #[.slice A' N c', .int .i64 0]) ∧ w''.ownsRow w'.heap.size 5 1 (.slice A' N c') N (bytesV G) ∧ Below w'.heap.size w' w'') :=
    Lib.hid fun w' hb => by
      have := setTur_any al W H (pxL l (W * H)) hh1 hh2 N c4 hN hN26.1 hN26.2 A4 w4.heap.size w' (by have := HBS.out.below hb; rw [← hF] at this; exact this) hb.size
      rw [hG] at this
      exact this
  have HM2 : Hid (IntKind.i64.wrap ((W : Int) * (H : Int)) = (M : Int)) := Lib.hid (by rw [← Int.natCast_mul, hM]; exact IntWalk.i64_in _ (by omega))
  have HMM : Hid (((W * H : Nat) : Int) ≤ wrap64 ((W : Int) * (H : Int)) ∧ ((W * H : Nat) : Int) ≤ IntKind.i64.wrap ((W : Int) * (H : Int)) ∧ ((W * H : Nat) : Int) ≤ (W : Int) * (H : Int)) := Lib.hid ⟨by rw [HM1.out, hM]; exact Int.le_refl _, by rw [HM2.out, hM]; exact Int.le_refl _, by rw [Int.natCast_mul]; exact Int.le_refl _⟩
  have HNM : Hid (n = 4 * M) := Lib.hid (by have h0 := HN.out; omega)
  have hbel4 := HB4.out
  clear hg hN hNb hLl hLok hroom o4 hM hF hG hX hY hXn hYn hFl hTl hflen
  have q0 := HI4.out.c0; have q1 := HI4.out.c1; have q2 := HI4.out.c2
  have hfull : Hid (∀ w', Below w4.heap.size w4 w' → (Below w4.heap.size w4 w' ∧ w'.cell? ⟨w.heap.size, 0, none⟩ = some (.int .i64 W) ∧ w'.cell? ⟨w.heap.size, 1, none⟩ = some (.int .i64 H))) :=
    Lib.hid fun w' hb => ⟨hb, (HI4.out.call hb).c0, (HI4.out.call hb).c1⟩
  have hW4 := hw2; have hH4 := hh2
  go_upto_region 6 with (fail)
  go_cut [7, 8] from 29 to 39 (fun v u wx => ∃ ob A5 c5, v = .pointer (some ⟨ob, 0, none⟩) ∧ u = .int .i64 0 ∧ Hid (QO w4 ob A5 c5 n W H X wx))
  case first =>
    go_region_held3 (fun w' => Below w4.heap.size w4 w' ∧ w'.cell? ⟨w.heap.size, 0, none⟩ = some (.int .i64 W) ∧ w'.cell? ⟨w.heap.size, 1, none⟩ = some (.int .i64 H))
      (first | exact hfull.out _ (ib_store HK8.out hc8 hob8 _ _ _) | exact hfull.out _ hc8 | exact hfull.out _ hc6 | exact hfull.out _ (hc8.alloc hc8.size _) | exact hfull.out _ (hc6.alloc hc6.size _) | exact hfull.out _ (Below.refl _ _) | exact hfull.out _ (Below.drew (Below.refl _ _)) | exact hfull.out _ (Below.drew (And.left (by assumption))) | exact hfull.out _ (Below.alloc (And.left (by assumption)) (Below.size (And.left (by assumption))) _) | exact hfull.out _ (Below.alloc (by assumption) (Below.size (by assumption)) _) | exact hfull.out _ (by assumption))
      ((first
        | (go_at_call 10; refine (HOwn.out _ (And.left (by assumption))).mono ?_; rintro e w6 ⟨A1, c1, rfl, ho6, hb6, hc6⟩)
        | (go_at_call 9; refine (HDX.out _ _ _ _ ho6 _ (by first | exact Upd.refl No _ | exact (Upd.refl No _).alloc _) (And.left (by assumption)) _ (by first | exact HMM.out.1 | exact HMM.out.2.1)).mono ?_; rintro e w8 ⟨A8, c8, rfl, ho8, hb8⟩; have hc8 : Below w4.heap.size w4 w8 := (Below.trans (And.left (by assumption)) (hb8.mono (Below.size (And.left (by assumption))))); have ho9 : w8.ownsRow w4.heap.size 42 1 (.slice A8 n c8) n (usV X) := own_low ho8 (Below.size (And.left (by assumption))); (first | (have hk8 : IB w8 w4.heap.size (.int .i64 0) (.int .i64 0) (.slice none 0 0) := IB.of (((Blk.new w4.drew 26 #[.int .i64 0, .int .i64 0, .slice none 0 0]).upd (Upd.of_fresh hb6) id).upd (Upd.of_fresh hb8) id); have HK8 := Lib.hid hk8; obtain ⟨_, d0, d1, d2, f0, f1, f2⟩ := hk8; have hob8 : w4.heap.size ≤ w4.heap.size := Nat.le_refl _) | (have hk8 : IB w8 w6.heap.size (.int .i64 0) (.int .i64 0) (.slice none 0 0) := IB.of ((Blk.new w6 26 #[.int .i64 0, .int .i64 0, .slice none 0 0]).upd (Upd.of_fresh hb8) id); have HK8 := Lib.hid hk8; obtain ⟨_, d0, d1, d2, f0, f1, f2⟩ := hk8; have hob8 : w4.heap.size ≤ w6.heap.size := hc6.size) | skip))))
    all_goals
      go_wp2_with fail
      go_meet
      first
        | exact ⟨_, A8, c8, rfl, rfl, Lib.hid (QO.made hob8 HK8.out ho9 hc8)⟩
        | exact ⟨_, A8, c8, rfl, rfl, Lib.hid (QO.fresh ho9 hc8)⟩
  case rest =>
    obtain ⟨ob, A5, c5, rfl, rfl, HQ⟩ := hcut
    have HBc := HQ.out.bel
    have hsc := HBc.size
    have HI5 := Lib.hid (HI4.out.call HBc)
    have HB5 := Lib.hid (HB4.out.trans (HBc.mono HB4.out.size))
    obtain ⟨w5, hw5⟩ : ∃ w5 : World, w5 = wc := ⟨_, rfl⟩
    rw [← hw5] at HQ HI5 HB5 HBc hsc ⊢
    have HBC := Lib.hid HBc
    clear hfull HOwn HDX hw5 q0 q1 q2 HI4 HB4 HBc hbel4
    have q0 := HI5.out.c0; have q1 := HI5.out.c1; have q2 := HI5.out.c2
    have HU32 := Lib.hid (neg_u32 H hh1 hh2)
    have i1 : (1 : Int) ≤ (H : Int) := by omega
    have i2 : (H : Int) ≤ 4096 := by omega
    go_upto_region 7 with (fail)
    go_wp2_with fail
    rw [HU32.out]
    refine (HSet.out _ HBC.out).mono ?_
    rintro e w6 ⟨A6, c6, rfl, o6, hb6⟩
    have hs6 := hb6.size
    have HQ6 := Lib.hid (HQ.out.call hb6)
    have HI6 := Lib.hid (HI5.out.call hb6)
    have HB6 := Lib.hid (HB5.out.trans (hb6.mono HB5.out.size))
    have HDY6 := Lib.hid (HDY.out A6 c6 _ w6 o6 (HBC.out.trans (hb6.mono HBC.out.size)) _ HMM.out.2.2)
    clear HQ HI5 HB5 HSet HDY hb6 o6 q0 q1 q2 HU32 HBS HT4 HU4 HBC
    have q0 := HI6.out.c0; have q1 := HI6.out.c1; have q2 := HI6.out.c2
    go_wp2_with fail
    refine HDY6.out.mono ?_
    rintro e w7 ⟨A7, c7, rfl, o7, hb7⟩
    have hs7 := hb7.size
    obtain ⟨w8, hw8, hi8, hb8⟩ := newImg (W : Nat) (H : Nat) A7 n c7 w7
    have HW8 := Lib.hid hw8
    have HB8 := Lib.hid ((HB6.out.trans (hb7.mono HB6.out.size)).trans (hb8.mono (by have := HB6.out.size; omega)))
    have HI8 := Lib.hid ((HI6.out.call hb7).call hb8)
    have HQ8 := Lib.hid ((HQ6.out.call hb7).call hb8)
    have HY8 := Lib.hid (own_upd o7 (Upd.of_fresh hb8) (fun _ _ => id))
    have HJ8 := Lib.hid hi8
    clear hw8 hi8 hb8 hb7 o7 HQ6 HI6 HB6 HDY6 q0 q1 q2
    go_upto_region 9 with (fail)
    rw [HW8.out]
    clear HW8
    have hyb : w7.heap.size < w8.heap.size := HJ8.out.blk.lt
    generalize w7.heap.size = yb at *
    have q0 := HI8.out.c0; have q1 := HI8.out.c1; have q2 := HI8.out.c2
    have p0 := HQ8.out.im.c0; have p1 := HQ8.out.im.c1; have p2 := HQ8.out.im.c2
    have r0 := HJ8.out.c0; have r1 := HJ8.out.c1; have r2 := HJ8.out.c2
    have hn0 : 0 < n := by
      have h0 := HNM.out
      have h1 := HM.out
      have := Nat.mul_le_mul hw1 hh1
      omega
    obtain ⟨g5, rfl, _, _, _, _⟩ := row_form HQ8.out.ow hn0
    obtain ⟨g7, rfl, _, _, _, _⟩ := row_form HY8.out hn0
    have hnb : n ≤ 262144 := by
      have h0 := HNM.out
      have h1 := HM.out
      rw [h1] at hf
      omega
    obtain ⟨T, hT⟩ : ∃ T, 4 * W = T := ⟨_, rfl⟩
    have t1 : 4 * (W : Int) = (T : Int) := by omega
    have hT0 : 0 < T := by omega
    have hT1 : T ≤ 16384 := by omega
    have HTT := Lib.hid hT
    have HF4 : Hid (4 * (W * H) = n) := Lib.hid (by rw [HNM.out, HM.out])
    have hne : ((n : Int) != wrap64 ((T : Int) * (H : Int))) = false := by
      have e : (T : Int) * (H : Int) = (n : Int) := by rw [← Int.natCast_mul, ← hT, Nat.mul_assoc, HF4.out]
      rw [e, IntWalk.wrap64_in _ (by omega)]
      simp
    clear hT hf hW4 hH4 hw1 hw2 hl
    go_upto_region 11 with (fail)
    go_wp2_with fail
    go_loopw [106] (fun i wr => ∃ k : Nat, k ≤ n ∧ i = .int .i64 (k : Int) ∧ ∃ m, wr = w8.drewN m) (fun i _ => n - (intOf i).toNat)
    case atStart => exact ⟨0, Nat.zero_le _, rfl, 0, rfl⟩
    case round =>
      obtain ⟨k, hk, rfl, m, rfl⟩ := hrel
      by_cases hlt : k < n
      · obtain ⟨ha, hb⟩ := HAT.out k (by rw [HF4.out]; exact hlt)
        rw [HTT.out] at ha hb
        obtain ⟨q, hq⟩ : ∃ q, k / T = q := ⟨_, rfl⟩
        obtain ⟨r, hr⟩ : ∃ r, k % T = r := ⟨_, rfl⟩
        obtain ⟨p, hp⟩ : ∃ p, H - 1 - q = p := ⟨_, rfl⟩
        obtain ⟨Z, hZ⟩ : ∃ Z, p * T = Z := ⟨_, rfl⟩
        rw [turn_ix k T H q r p Z hq hr hp hZ] at ha
        rw [hq] at hb
        have hkX : k < X.length := by rw [HXN.out]; exact hlt
        rw [List.getElem?_eq_getElem hkX] at ha
        obtain ⟨hzr, hzv⟩ := List.getElem?_eq_some_iff.1 ha
        have c7 : w8.cell? ⟨g7, Z + r, none⟩ = some (.int .u16 X[k]) := by
          rw [HY8.out.cellAt (Z + r) (by rw [← HYN.out]; omega), List.getElem?_eq_getElem (by rw [usV_length]; exact hzr), usV_get, hzv]
        have c5 : w8.cell? ⟨g5, k, none⟩ = some (.int .u16 X[k]) := by
          rw [HQ8.out.ow.cellAt k (by omega), List.getElem?_eq_getElem (by rw [usV_length]; exact hkX), usV_get]
        rw [HYN.out] at hzr
        generalize X[k] = v at *
        have hzn : Z < n := by omega
        have HPZ : Hid (wrap64 ((p : Int) * (T : Int)) = (Z : Int) ∧ IntKind.i64.wrap ((p : Int) * (T : Int)) = (Z : Int) ∧ (p : Int) * (T : Int) = (Z : Int)) := Lib.hid (by
          have e : (p : Int) * (T : Int) = (Z : Int) := by rw [← hZ, Int.natCast_mul]
          rw [e]
          exact ⟨IntWalk.wrap64_in _ (by omega), IntWalk.i64_in _ (by omega), rfl⟩)
        have j1 : (k : Int) / (T : Int) = (q : Int) := by rw [← hq]; simp
        have j2 : (k : Int) % (T : Int) = (r : Int) := by rw [← hr]; simp
        have j3 : (H : Int) - 1 - (q : Int) = (p : Int) := by omega
        have hzb : Z < n := by omega
        clear ha hkX hzv hq hr hp hZ
        go_wp2_with fail
        refine wp_region_quiet_lit (by kernel_rfl) (by kernel_rfl) ?_
        iterate 11 (go_big_quiet_step (fail))
        first | rw [HPZ.out.1] | rw [HPZ.out.2.1] | rw [HPZ.out.2.2]
        repeat (go_big_quiet_step (fail))
        refine wpQuiet_nil ?_
        intro _ hw'
        obtain ⟨nq, hw''⟩ := hw'
        subst hw''
        go_wp2_with fail
        go_roundw
        case rel => exact ⟨k + 1, by omega, by go_num, m + nq, rfl⟩
        case measure => simp [intOf]; omega
      · have hkn : k = n := by omega
        subst hkn
        go_wp2_with fail
        go_ret
        exact ⟨rfl, HB8.out.os, HB8.out.tape, HB8.out.output, HB8.out.size, HB8.out.block⟩
set_option maxRecDepth 100000 in
theorem lifted (os : Os) (started : os.Started) (H : Type) (enc : TypeId × Value → H) :
    ReturnsInHanded {} Tryz.checked os 6 .any (fun w args => (Rows.bmpTurnsSpec.pre enc Tryz.prog Tryz.f6 Rows.bmpTurnsRow.domain false w args ∧ laidMetH Tryz.prog laidL w) ∧ sizedMet enc Tryz.prog Tryz.f6 (OpenSpec.ofChange Rows.bmpTurnsSpec) false w args)
      (Rows.bmpTurnsSpec.post enc Tryz.prog Tryz.f6 false true false false) := by
  refine returnsInHanded_of_change_and (C := Tryz.checked) (X := fun w _ => laidMetH Tryz.prog laidL w) (fun _ _ _ hh h => h.of_heap hh) prog_own started (by kernel_rfl) Tryz.func6
    (ChangeSpec.witness_shaped (enc := enc) (C := Tryz.checked) (os := os) (X := fun w _ => laidMetH Tryz.prog laidL w) false (World.laidAll Tryz.prog os laidL) #[.agg #[.int .i64 0, .int .i64 0, .slice none 0 0], .bool false] 8 (World.laidAll_os _ _ _)
      (laid_shaped os _) (by kernel_rfl) (by kernel_rfl) (by kernel_rfl) (laid_met os _)) ?_
  intro W base args ds gs before hval0 hW hcnd hsz hL _
  have hval : ∀ (j : Nat) t v, Tryz.f6.params[j]? = some t → args[j]? = some v → Value.okWide Tryz.prog W .any base t v := hval0
  have hW' := hW
  obtain ⟨p, q, hA0, hV, rfl, hfz, hnd⟩ := hW
  have hA : DataW.TrodAll enc Tryz.prog W 0 (fun _ => true) true Tryz.f6.params.toList args.toList ds p := hA0
  rw [Tryz.params6] at hA hval
  obtain ⟨v0, vs0, d0, ds0, p0, q0, hargs, rfl, rfl, h0, r0⟩ := trodAll_cons hA
  obtain ⟨v1, vs1, d1, ds1, p1, q1, rfl, rfl, rfl, h1, r1⟩ := trodAll_cons r0
  obtain ⟨rfl, rfl, rfl⟩ := trodAll_nil r1
  obtain rfl : args = #[v0, v1] := by cases args; simp_all
  obtain ⟨rfl, rfl⟩ := trodVars_none hV
  obtain ⟨x0, y0, A0, l0, c0, rfl, bx0, by0, hb0, hk0, hd0⟩ := open_image (hval 0 26 v0 rfl rfl) h0
  obtain ⟨a1, rfl, rfl, rfl⟩ := open_bool Tryz.underlying4 (hval 1 4 v1 rfl rfl) h1
  have hl0 : l0.length * 2 ≤ 140737488351232 := by
    obtain ⟨_, _, _, rfl, hdd⟩ := hd0
    rcases hdd with ⟨_, rfl⟩ | ⟨e, s, rfl, hle⟩
    · simp
    · have hpz := sized_part hsz (j := 0) (t := 26) rfl rfl Tryz.underlying26
      have this : (e.length + s.length) * Tryz.prog.bytesOf 42 ≤ reachBytes := sized_slice hpz (j := 2) (t := 24) (e := 42) rfl rfl Tryz.underlying24
      rw [bytes_u16] at this
      unfold reachBytes at this
      omega
  have lt0 : ∀ x ∈ p0, x.block < W.heap.size := by obtain ⟨m, hm⟩ := h0; exact DataW.trod_lt m _ _ _ hm
  clear hA0 hval0
  refine (walk x0 y0 A0 c0 l0 a1 W (tab_of_laid hL).1 (tab_of_laid hL).2 bx0 by0 hb0 hk0 hl0).mono fun e W' ⟨he, bel⟩ => ?_
  subst he
  exact ⟨_, rfl, _, _, _, [], _, [], hW', trodAll_mk1 (shut_bool Tryz.underlying4 _), (trodAll_cons_mk (Below.trod prog_laid (by kernel_rfl) (of_decide_eq_true (by kernel_rfl)) h0 bel lt0) (trodAll_cons_mk (shut_bool Tryz.underlying4 _) trodAll_mk0)), rfl, bel.frame _, fun h => by cases h⟩

theorem over : Rows.bmpTurnsRow.holds Tryz.pinned (OpenSpec.ofChange Rows.bmpTurnsSpec) :=
  OpenClaim.holds_of_wide 6 Tryz.f6 rfl rfl rfl rfl rfl rfl rfl ⟨rfl, rfl, rfl, rfl, rfl⟩ rfl rfl rfl rfl rfl (by kernel_rfl) Tryz.func6 (by kernel_rfl)
    (of_decide_eq_true (by kernel_rfl)) (by unfold Func.isWrapper; first | (rw [if_pos (by decide +kernel)]; kernel_rfl) | (rw [if_neg (by decide +kernel)]; exact ⟨rfl, rfl⟩))
    (fun os started H enc _ => lifted os started H enc)
end BmpTurns

theorem bmpTurns_holds : Rows.BmpTurnsSaid := BmpTurns.over
theorem bmpTurns_card : Rows.BmpTurnsCardSaid :=
  Claim7.holds_tied_plain_at .later [] [.data] true Rows.bmpTurnsCard.stood.harness false bmpTurns_holds (fun _ h => by cases h) (by kernel_rfl) (fun _ h => by cases h) bmpTurns_row_tie rfl ⟨rfl, rfl⟩ (by kernel_rfl) rfl
    (fun f fn hf hfn => by
      obtain rfl : f = 6 := Option.some.inj ((show Tryz.prog.funcNamed "darkroom/darkroomlaw11.BmpTurns" = some 6 by kernel_rfl).symm.trans hf) |>.symm
      obtain rfl : fn = Tryz.f6 := (Option.some.inj (Tryz.func6.symm.trans hfn)).symm
      exact ⟨by kernel_rfl, fun j t ht => by
        rw [Tryz.params6] at ht
        have hm : t ∈ [26, 4] := by simpa using Array.mem_of_getElem? ht
        have hall : ([26, 4].all fun u => !Tryz.prog.wantsStandIn u) = true := by kernel_rfl
        exact (show Tryz.prog.wantsStandIn t = false by simpa using List.all_eq_true.1 hall t hm)⟩)
    (by kernel_rfl)
#print axioms bmpTurns_card
end Go.Proofs.YtnfjeeflcfmpbaaGreatDoor

