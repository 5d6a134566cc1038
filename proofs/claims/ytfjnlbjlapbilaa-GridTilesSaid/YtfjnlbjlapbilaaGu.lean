/- The document's tiles; two lists of rectangles that are alike. -/
import Derived.Test.YtfjnlbjlapbilaaGt
import Derived.Test.YtfjnlbjlapbilaaAr
import Derived.Deep.CutBlock
namespace Go.Proofs.Ytfjnlbjlapbilaa
open Go.ChangeShapes Go.WideShapes Go.ChangeAt Go.RowKit

theorem info_rect : (Try.prog.info? 37).map (fun i => (i.zero, i.size, i.bytes)) = some (some (.agg #[.int .i64 0, .int .i64 0, .int .i64 0, .int .i64 0]), 4, 32) := by kernel_rfl
theorem tileV_at {w h t u i j : Nat} (hi : i < cntT w t) : tileV w h t u (cntT w t * j + i) = [.int .i64 ((i * t : Nat) : Int), .int .i64 ((j * u : Nat) : Int), .int .i64 (lenT w t i : Int), .int .i64 (lenT h u j : Int)] := by
  unfold tileV
  rw [Nat.mul_add_mod, Nat.mod_eq_of_lt hi, Nat.mul_add_div (by omega), Nat.div_eq_of_lt hi, Nat.add_zero]
/-- A rectangle of a list, cell by cell. -/
theorem tile_cells {w : World} {B : Nat} {A : Option Addr} {W H t u N k : Nat} (h : Vs w B A (tilesV W H t u N)) (hk : k < N) : ∃ ad, A = some ad ∧ ad.block < B ∧ w.cell? (ad.add (k * 4)) = some (.int .i64 (((k % cntT W t) * t : Nat) : Int)) ∧
    w.cell? ⟨(ad.add (k * 4)).block, (ad.add (k * 4)).off + 1, none⟩ = some (.int .i64 (((k / cntT W t) * u : Nat) : Int)) ∧ w.cell? ⟨(ad.add (k * 4)).block, (ad.add (k * 4)).off + 2, none⟩ = some (.int .i64 (lenT W t (k % cntT W t) : Int)) ∧ w.cell? ⟨(ad.add (k * 4)).block, (ad.add (k * 4)).off + 3, none⟩ = some (.int .i64 (lenT H u (k / cntT W t) : Int)) := by
  have hl := tilesV_length (w := W) (h := H) (t := t) (u := u) N
  obtain ⟨ad, rfl, hb, hc⟩ := h (by omega)
  have g : ∀ j, j < 4 → w.cell? (ad.add (k * 4 + j)) = (tileV W H t u k)[j]? := fun j hj => by
    rw [hc (k * 4 + j) (by omega), ← tilesV_at hk j hj, List.getElem?_eq_getElem (by omega)]
  have g1 := g 1 (by omega)
  have g2 := g 2 (by omega)
  have g3 := g 3 (by omega)
  rw [← add_of_add, show (1 : Nat) = 0 + 1 from rfl, add_succ] at g1
  rw [← add_of_add, show (2 : Nat) = 1 + 1 from rfl, add_succ] at g2
  rw [← add_of_add, show (3 : Nat) = 2 + 1 from rfl, add_succ] at g3
  exact ⟨ad, rfl, hb, g 0 (by omega), g1, g2, g3⟩
theorem refTiles_bad (x y tw th : Int) (hbad : ¬ (mayB x y = true ∧ 1 ≤ tw ∧ 1 ≤ th)) (w : World) : Calls Try.prog 31 #[.int .i64 x, .int .i64 y, .int .i64 tw, .int .i64 th] w fun e w' => e = .returned (.slice none 0 0) ∧ w' = w := by
  go_enter Try.func31, Try.ntmps31
  go_wp2_with fail
  refine (fits_any x y w).mono ?_
  rintro e w1 ⟨rfl, rfl⟩
  cases hm : mayB x y with
  | false =>
    go_wp2_with fail
    go_ret
    exact ⟨rfl, rfl⟩
  | true =>
    by_cases h1 : tw < 1
    · go_wp2_with fail
      go_ret
      exact ⟨rfl, rfl⟩
    · have h2 : th < 1 := by
        rcases Int.lt_or_le th 1 with h | h
        · exact h
        · exact absurd ⟨hm, by omega, h⟩ hbad
      clear hbad
      go_wp2_with fail
      go_ret
      exact ⟨rfl, rfl⟩

/-- A row of rectangles has one more. -/
theorem append_tile (base : Nat) (w : World) (A : Option Addr) (c k : Nat) (xs : List Value) (a b d e : Value) (h : w.ownsRow base 37 4 (.slice A k c) k xs) (hb : base ≤ w.heap.size) (hk : k ≤ 65536) (h1 : ∀ u ∈ [a, b, d, e], u.oneCell' = true) (ty : TypeId) :
    ∃ A' c' w', (Builtin.append_ #[64, 64] ty #[.slice A k c, .slice (some ⟨w.heap.size, 0, none⟩) 1 1]).run Try.prog (w.alloc (.cells #[a, b, d, e] 37)) = .ok (.slice A' (k + 1) c') w' ∧
      w'.ownsRow base 37 4 (.slice A' (k + 1) c') (k + 1) (xs ++ [a, b, d, e]) ∧ Upd (fun i => (Value.slice A k c).ownBlock = some i ∨ w.heap.size ≤ i) w w' := by
  obtain ⟨i0, hi, hz0, hz1, hz2⟩ := info_parts info_rect
  obtain ⟨A', c', w', hrun, h2, h3, _⟩ := run_append_vn (P := Try.prog) (w.alloc (.cells #[a, b, d, e] 37)) base 64 ty 37 i0 _ 4 32 Try.underlying64 hi hz0 hz1 hz2 rfl (by omega) (.slice A k c) k xs (own_upd h ((Upd.refl No w).alloc _) (fun _ _ => id)) (w.heap.size + 1) ⟨w.heap.size, 0, none⟩ 1 1 [a, b, d, e] rfl (vs_lit w 37 [a, b, d, e] _ (by omega)) h1 (by unfold maxLen; omega) (by omega) (by simp; omega)
  refine ⟨A', c', w', hrun, h2, ((Upd.refl _ w).alloc _).then (Upd.of_grown h3) (fun i hi e => .inl e.symm)⟩

set_option maxRecDepth 100000 in
set_option maxHeartbeats 4000000 in
theorem refTiles_good (W H : Nat) (tw th : Int) (hm : mayB (W : Int) (H : Int) = true) (ht1 : 1 ≤ tw) (hu1 : 1 ≤ th) (w : World) :
    Calls Try.prog 31 #[.int .i64 (W : Int), .int .i64 (H : Int), .int .i64 tw, .int .i64 th] w fun e w' => ∃ A c, e = .returned (.slice A (cntT W (cutT W tw) * cntT H (cutT H th)) c) ∧
      w'.ownsRow w.heap.size 37 4 (.slice A (cntT W (cutT W tw) * cntT H (cutT H th)) c) (cntT W (cutT W tw) * cntT H (cutT H th)) (tilesV W H (cutT W tw) (cutT H th) (cntT W (cutT W tw) * cntT H (cutT H th))) ∧ Below w.heap.size w w' := by
  obtain ⟨bw1, bw2, bw3, bw4, wf⟩ := mayB_bd hm
  have W1 : 1 ≤ W := by omega
  have H1 : 1 ≤ H := by omega
  have W2 : W ≤ 4096 := by omega
  have H2 : H ≤ 4096 := by omega
  obtain ⟨t1, t2⟩ := cutT_bd W1 ht1
  obtain ⟨u1, u2⟩ := cutT_bd H1 hu1
  have hnx := cntT_le (w := W) t1
  have hny := cntT_le (w := H) u1
  go_enter Try.func31, Try.ntmps31
  have h1 : ¬ tw < 1 := by omega
  have h2 : ¬ th < 1 := by omega
  go_wp2_with fail
  refine (fits_any W H w).mono ?_
  rintro e w1 ⟨rfl, rfl⟩
  rw [hm]
  have HTW : Hid (((cutT W tw : Nat) : Int) = min tw W) := Lib.hid (by unfold cutT; omega)
  have HTH : Hid (((cutT H th : Nat) : Int) = min th H) := Lib.hid (by unfold cutT; omega)
  have hWH : W * H ≤ 65536 := by rw [← Int.natCast_mul] at wf; omega
  clear wf
  go_upto_if 27 with (fail)
  go_cut [2] (fun v wx => v = .int .i64 ((cutT W tw : Nat) : Int) ∧ wx = w1)
  case first =>
    by_cases hc : tw ≤ W
    · have e := HTW.out
      rw [Int.min_eq_left hc] at e
      go_wp2_with fail
      go_meet
      exact ⟨by rw [e], rfl⟩
    · have e := HTW.out
      rw [Int.min_eq_right (by omega)] at e
      go_wp2_with fail
      go_meet
      exact ⟨by rw [e], rfl⟩
  case rest =>
    obtain ⟨rfl, rfl⟩ := hcut
    clear HTW
    go_upto_if 31 with (fail)
    go_cut [3] (fun v wx => v = .int .i64 ((cutT H th : Nat) : Int) ∧ wx = wc)
    case first =>
      by_cases hc : th ≤ H
      · have e := HTH.out
        rw [Int.min_eq_left hc] at e
        go_wp2_with fail
        go_meet
        exact ⟨by rw [e], rfl⟩
      · have e := HTH.out
        rw [Int.min_eq_right (by omega)] at e
        go_wp2_with fail
        go_meet
        exact ⟨by rw [e], rfl⟩
    case rest =>
      obtain ⟨rfl, rfl⟩ := hcut
      clear HTH h1 h2 ht1 hu1 hm
      obtain ⟨t, ht⟩ : ∃ t, cutT W tw = t := ⟨_, rfl⟩
      obtain ⟨u, hu⟩ : ∃ u, cutT H th = u := ⟨_, rfl⟩
      rw [ht] at t1 t2 hnx
      rw [hu] at u1 u2 hny
      rw [ht, hu]
      obtain ⟨nx, hnxe⟩ : ∃ nx, cntT W t = nx := ⟨_, rfl⟩
      obtain ⟨ny, hnye⟩ : ∃ ny, cntT H u = ny := ⟨_, rfl⟩
      rw [hnxe] at hnx
      rw [hnye] at hny
      have HNX := Lib.hid hnxe; have HNY := Lib.hid hnye; have HT := Lib.hid ht; have HU := Lib.hid hu
      clear hnxe hnye ht hu
      go_wp2_with fail
      obtain ⟨wo, hwo⟩ : ∃ wo : World, wo = wc := ⟨_, rfl⟩
      subst hwo
      go_loopw [9, 10] (fun o y wr => ∃ (j : Nat) (A : Option Addr) (c : Nat), j ≤ ny ∧ y = .int .i64 ((j * u : Nat) : Int) ∧ o = .slice A (nx * j) c ∧ Hid (wr.ownsRow wo.heap.size 37 4 (.slice A (nx * j) c) (nx * j) (tilesV W H t u (nx * j))) ∧ Hid (Below wo.heap.size wo wr)) (fun _ y _ => ((H : Int) - intOf y).toNat)
      case atStart => exact ⟨0, none, 0, Nat.zero_le _, by simp, rfl, Lib.hid (by rw [Nat.mul_zero]; exact World.ownsRow_nil _ _ _ _), Lib.hid (Below.refl _ _)⟩
      case round =>
        obtain ⟨j, A, c, hj, rfl, rfl, HO, HB⟩ := hrel
        by_cases hlt : j < ny
        · have hyl : j * u < H := (cntT_iff u1).1 (by rw [HNY.out]; exact hlt)
          obtain ⟨Y0, hY0⟩ : ∃ Y0, j * u = Y0 := ⟨_, rfl⟩
          rw [hY0] at hyl ⊢
          have HY0 := Lib.hid hY0
          clear hY0
          go_wp2_with fail
          obtain ⟨wb, hwb⟩ : ∃ wb : World, wb = wr := ⟨_, rfl⟩
          subst hwb
          go_loopw [9, 11] (fun o x wr => ∃ (m : Nat) (A : Option Addr) (c : Nat), m ≤ nx ∧ x = .int .i64 ((m * t : Nat) : Int) ∧ o = .slice A (nx * j + m) c ∧ Hid (wr.ownsRow wo.heap.size 37 4 (.slice A (nx * j + m) c) (nx * j + m) (tilesV W H t u (nx * j + m))) ∧ Hid (Below wo.heap.size wo wr)) (fun _ x _ => ((W : Int) - intOf x).toNat)
          case atStart => exact ⟨0, A, c, Nat.zero_le _, by simp, rfl, HO, HB⟩
          case round =>
            clear HO HB
            obtain ⟨m, A, c, hm, rfl, rfl, HO, HB⟩ := hrel
            by_cases hlm : m < nx
            · have hxl : m * t < W := (cntT_iff t1).1 (by rw [HNX.out]; exact hlm)
              have hKn : nx * j + m < nx * ny := tile_lt hlm hlt
              have hK65 : nx * j + m ≤ 65536 := by
                have h1 : nx * ny ≤ W * H := Nat.mul_le_mul hnx hny
                omega
              have HTV : Hid (tileV W H t u (nx * j + m) = [.int .i64 ((m * t : Nat) : Int), .int .i64 ((j * u : Nat) : Int), .int .i64 (lenT W t m : Int), .int .i64 (lenT H u j : Int)]) := Lib.hid (by
                have h := tileV_at (w := W) (h := H) (t := t) (u := u) (i := m) (j := j) (by rw [HNX.out]; exact hlm)
                rw [HNX.out] at h
                exact h)
              have hlx : lenT W t m = min t (W - m * t) := rfl
              have hly : lenT H u j = min u (H - j * u) := rfl
              rw [HY0.out] at hly HTV
              obtain ⟨X0, hX0⟩ : ∃ X0, m * t = X0 := ⟨_, rfl⟩
              rw [hX0] at hxl hlx HTV ⊢
              obtain ⟨LX, hLX⟩ : ∃ LX, lenT W t m = LX := ⟨_, rfl⟩
              obtain ⟨LY, hLY⟩ : ∃ LY, lenT H u j = LY := ⟨_, rfl⟩
              rw [hLX] at hlx HTV
              rw [hLY] at hly HTV
              have HX0 := Lib.hid hX0
              obtain ⟨K, hK⟩ : ∃ K, nx * j + m = K := ⟨_, rfl⟩
              rw [hK] at HTV hK65 HO ⊢
              have HKK := Lib.hid hK
              have HLX := Lib.hid hlx; have HLY := Lib.hid hly
              have HWH := Lib.hid hWH
              clear hX0 hLX hLY hK hKn hlx hly hWH
              obtain ⟨wi, hwi⟩ : ∃ wi : World, wi = wr := ⟨_, rfl⟩
              subst hwi
              go_upto_if 55 with (fail)
              go_cut [] from 50 to 60 (fun wx => Hid (Blk wx wi.heap.size 37 #[.int .i64 (X0 : Int), .int .i64 (Y0 : Int), .int .i64 (LX : Int), .int .i64 (u : Int)] ∧ Below wi.heap.size wi wx))
              case first =>
                have hb0 := Blk.new wi 37 #[.int .i64 (X0 : Int), .int .i64 (Y0 : Int), .int .i64 (t : Int), .int .i64 (u : Int)]
                have hbb := (Below.refl wi.heap.size wi).alloc (Nat.le_refl _) (.cells #[.int .i64 (X0 : Int), .int .i64 (Y0 : Int), .int .i64 (t : Int), .int .i64 (u : Int)] 37)
                have HB0 := Lib.hid hb0; have HBB := Lib.hid hbb
                clear hb0 hbb
                have e := HLX.out
                by_cases hc : (t : Int) ≤ (W : Int) - (X0 : Int)
                · rw [Nat.min_eq_left (by omega)] at e
                  go_wp2_with fail
                  go_meet
                  rw [e]
                  exact Lib.hid ⟨HB0.out, HBB.out⟩
                · rw [Nat.min_eq_right (by omega)] at e
                  have e2 : (W : Int) - (X0 : Int) = (LX : Int) := by omega
                  have HE2 := Lib.hid e2
                  clear e e2
                  go_wp2_with fail
                  go_meet
                  rw [HE2.out]
                  exact Lib.hid ⟨Blk.new _ _ _, (Below.refl _ wi).alloc (Nat.le_refl _) _⟩
              case rest =>
                have hcut' := Lib.hid hcut.out
                clear hcut
                have k2 : wc.cell? ⟨wi.heap.size, 2, none⟩ = some (.int .i64 (LX : Int)) := by rw [hcut'.out.1.cell]; rfl
                have k3 : wc.cell? ⟨wi.heap.size, 3, none⟩ = some (.int .i64 (u : Int)) := by rw [hcut'.out.1.cell]; rfl
                have kf := hcut'.out.1.frozen 3
                obtain ⟨wd, hwd⟩ : ∃ wd : World, wd = wc := ⟨_, rfl⟩
                subst hwd
                go_upto_if 65 with (fail)
                go_cut [] from 60 to 70 (fun wx => Hid (Blk wx wi.heap.size 37 #[.int .i64 (X0 : Int), .int .i64 (Y0 : Int), .int .i64 (LX : Int), .int .i64 (LY : Int)] ∧ Below wi.heap.size wi wx))
                case first =>
                  have e := HLY.out
                  by_cases hc : (u : Int) ≤ (H : Int) - (Y0 : Int)
                  · rw [Nat.min_eq_left (by omega)] at e
                    go_wp2_with fail
                    go_meet
                    rw [e]
                    exact hcut'
                  · rw [Nat.min_eq_right (by omega)] at e
                    have e2 : (H : Int) - (Y0 : Int) = (LY : Int) := by omega
                    have HE2 := Lib.hid e2
                    clear e e2
                    go_wp2_with fail
                    go_meet
                    rw [HE2.out]
                    exact Lib.hid ⟨by simpa using hcut'.out.1.set_ 3 (.int .i64 (LY : Int)), hcut'.out.2.setCell (p := ⟨wi.heap.size, 3, none⟩) (Nat.le_refl _) _⟩
                case rest =>
                  have hc2 := hcut.out
                  obtain ⟨hb5, hbl5⟩ := hc2
                  have q0 : wc.cell? ⟨wi.heap.size, 0, none⟩ = some (.int .i64 (X0 : Int)) := by rw [hb5.cell]; rfl
                  have q1 : wc.cell? ⟨wi.heap.size, 1, none⟩ = some (.int .i64 (Y0 : Int)) := by rw [hb5.cell]; rfl
                  have q2 : wc.cell? ⟨wi.heap.size, 2, none⟩ = some (.int .i64 (LX : Int)) := by rw [hb5.cell]; rfl
                  have q3 : wc.cell? ⟨wi.heap.size, 3, none⟩ = some (.int .i64 (LY : Int)) := by rw [hb5.cell]; rfl
                  have hs5 := HB.out.size
                  have hs6 := hbl5.size
                  obtain ⟨A', c', w9, hrun, ho9, hu9⟩ := append_tile wo.heap.size wc A c K _ (.int .i64 (X0 : Int)) (.int .i64 (Y0 : Int)) (.int .i64 (LX : Int)) (.int .i64 (LY : Int)) (own_upd HO.out (Upd.of_fresh hbl5) (fun _ _ => id)) (by omega) hK65 (by simp [Value.oneCell']) 64
                  have HO9 : Hid (w9.ownsRow wo.heap.size 37 4 (.slice A' (K + 1) c') (K + 1) (tilesV W H t u (K + 1))) := Lib.hid (by
                    have e : tilesV W H t u (K + 1) = tilesV W H t u K ++ tileV W H t u K := rfl
                    rw [e, HTV.out]
                    exact ho9)
                  have HB9 : Hid (Below wo.heap.size wo w9) := Lib.hid ((HB.out.trans (hbl5.mono hs5)).trans (hu9.below (by omega) (by
                    rintro i hi (h | h)
                    · have := (HO.out.lt i h).1; omega
                    · omega)))
                  have HXX := HX0.out
                  have HH := Lib.hid hcut
                  clear ho9 hu9 hb5 hbl5 hcut k2 k3 kf
                  go_wp2_with (at_builtin; refine wpList_append_run rfl (.tmp 70) (.tmp 72) _ rfl rfl rfl hrun ?_)
                  go_roundw
                  case rel => exact ⟨m + 1, A', c', by omega, by rw [Nat.add_mul, Nat.one_mul, HXX]; go_num, by rw [← Nat.add_assoc, HKK.out], by rw [← Nat.add_assoc, HKK.out]; exact HO9, HB9⟩
                  case measure => simp [intOf]; omega
            · obtain rfl : m = nx := by omega
              have hxe : W ≤ m * t := by have := cntT_full (w := W) t1; rwa [HNX.out] at this
              obtain ⟨X0, hX0⟩ : ∃ X0, m * t = X0 := ⟨_, rfl⟩
              rw [hX0] at hxe ⊢
              go_wp2_with fail
              go_roundw
              case rel => exact ⟨j + 1, A, c, by omega, by rw [Nat.add_mul, Nat.one_mul, HY0.out]; go_num, by rw [Nat.mul_add, Nat.mul_one], by rw [Nat.mul_add, Nat.mul_one]; exact HO, HB⟩
              case measure => simp [intOf]; omega
        · obtain rfl : j = ny := by omega
          have hye : H ≤ j * u := by have := cntT_full (w := H) u1; rwa [HNY.out] at this
          obtain ⟨Y0, hY0⟩ : ∃ Y0, j * u = Y0 := ⟨_, rfl⟩
          rw [hY0] at hye ⊢
          go_wp2_with fail
          go_ret
          rw [HT.out, HU.out, HNX.out, HNY.out]
          exact ⟨A, c, rfl, HO.out, HB.out⟩

set_option maxHeartbeats 400000 in
set_option maxRecDepth 100000 in
/-- Two lists of the same rectangles. -/
theorem sameRects_true (A1 A2 : Option Addr) (c1 c2 N W H t u : Nat) (hN : N ≤ 65536) (B : Nat) (w : World) (h1 : Vs w B A1 (tilesV W H t u N)) (h2 : Vs w B A2 (tilesV W H t u N)) :
    Calls Try.prog 30 #[.slice A1 N c1, .slice A2 N c2] w fun e w' => e = .returned (.bool true) ∧ ∃ n, w' = w.drewN n := by
  have hmix : Try.prog.follows .mixedOrders = true := by kernel_rfl
  go_enter Try.func30, Try.ntmps30
  go_wp2_with fail
  go_loopw [5] (fun i wr => ∃ k : Nat, k ≤ N ∧ i = .int .i64 (k : Int) ∧ ∃ n, wr = w.drewN n) (fun i _ => N - (intOf i).toNat)
  case atStart => exact ⟨0, Nat.zero_le _, rfl, 0, rfl⟩
  case round =>
    obtain ⟨k, hk, rfl, n, rfl⟩ := hrel
    by_cases hlt : k < N
    · obtain ⟨ad1, rfl, _, a0, a1, a2, a3⟩ := tile_cells h1 hlt
      obtain ⟨ad2, rfl, _, b0, b1, b2, b3⟩ := tile_cells h2 hlt
      generalize ((k % cntT W t) * t : Nat) = x0 at a0 b0
      generalize ((k / cntT W t) * u : Nat) = x1 at a1 b1
      generalize lenT W t (k % cntT W t) = x2 at a2 b2
      generalize lenT H u (k / cntT W t) = x3 at a3 b3
      go_wp2_with fail
      go_quiet (fail)
      go_wp2_with fail
      go_roundw
      case rel => exact ⟨k + 1, by omega, by go_num, n + nq, rfl⟩
      case measure => simp [intOf]; omega
    · go_wp2_with fail
      go_ret
      exact ⟨rfl, n, rfl⟩
end Go.Proofs.Ytfjnlbjlapbilaa
