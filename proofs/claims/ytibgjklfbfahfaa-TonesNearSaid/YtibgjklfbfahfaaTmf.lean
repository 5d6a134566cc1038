/- The nearest of a palette: the program's, walked. -/
import Derived.Test.YtibgjklfbfahfaaTme
import Derived.Deep.RegionHeld3
namespace Go.Proofs.Ytibgjklfbfahfaa
open Go.ChangeShapes Go.WideShapes Go.ChangeAt Go.RowKit

theorem of_drewN {B : Nat} {w w' : World} {n : Nat} (h : Below B (w.drewN n) w') : Below B w w' := ⟨h.os, h.tape, h.output, h.size, h.block⟩
set_option maxRecDepth 100000 in
set_option maxHeartbeats 2000000 in
theorem nearest_any (A : Option Addr) (cap n : Nat) (l : List Col) (c : Col) (hn : l.length = n) (hl : n ≤ 17592186043904) (w : World) (hcs : Cs w w.heap.size A l) :
    Calls Try.prog 21 #[.slice A n cap, .agg #[.int .u16 c.r, .int .u16 c.g, .int .u16 c.b, .int .u16 c.a]] w fun e w' => ∃ z b, e = .returned (.int .i64 z) ∧ NearTo l c n z b ∧ Below w.heap.size w w' := by
  go_enter Try.func21, Try.ntmps21
  go_wp2_with fail
  have hb0 := (Below.refl w.heap.size w).alloc (Nat.le_refl _) (.cells #[.int .u16 c.r, .int .u16 c.g, .int .u16 c.b, .int .u16 c.a] 36)
  have hx := Blk.new w 36 #[.int .u16 c.r, .int .u16 c.g, .int .u16 c.b, .int .u16 c.a]
  generalize w.alloc (.cells #[.int .u16 c.r, .int .u16 c.g, .int .u16 c.b, .int .u16 c.a] 36) = W0 at *
  have HX := Lib.hid hx
  have HB := Lib.hid hb0
  have HC := Lib.hid (hcs.below hb0)
  have HN := Lib.hid hn
  clear hx hb0 hcs hn
  go_loopw [5, 6, 12] (fun p q i wr => ∃ k : Nat, k ≤ n ∧ i = .int .i64 (k : Int) ∧ ∃ z b : Int, p = .int .i64 z ∧ q = .int .i64 b ∧ Hid (NearTo l c k z b) ∧ Hid (Below W0.heap.size W0 wr)) (fun _ _ i _ => n - (intOf i).toNat)
  case atStart => exact ⟨0, Nat.zero_le _, rfl, _, _, rfl, rfl, Lib.hid (NearTo.zero l c), Lib.hid (Below.refl _ _)⟩
  case round =>
    obtain ⟨k, hk, rfl, z, b, rfl, rfl, HNT, HBR⟩ := hrel
    by_cases hlt : k < n
    · have hkl : k < l.length := by rw [HN.out]; exact hlt
      have hs0 := HB.out.size
      have hsl := HX.out.lt
      obtain ⟨pb, off, rfl, hpb, c0, c1, c2, c3⟩ := (HC.out.below (HBR.out.mono hs0)).at_ hkl
      have hxr := HX.out.upd (Upd.of_fresh HBR.out) id
      have x0 := hxr.cell 0; have x1 := hxr.cell 1; have x2 := hxr.cell 2; have x3 := hxr.cell 3
      simp only [List.getElem?_toArray, List.getElem?_cons_zero, List.getElem?_cons_succ] at x0 x1 x2 x3
      have HFA := Lib.hid (farAt_of (c := c) hkl)
      generalize l[k] = y at c0 c1 c2 c3 HFA
      have hsz : w.heap.size < wr.heap.size := Nat.lt_of_lt_of_le hsl HBR.out.size
      clear hxr hkl hs0
      have hf := farI_bd y c
      go_wp2_with fail
      refine (apart_any y c _).mono ?_
      rintro e w3 ⟨rfl, hb3⟩
      have HB3 := Lib.hid (HBR.out.trans ((((Below.refl W0.heap.size wr).alloc HBR.out.size (.cells #[.int .u16 y.r, .int .u16 y.g, .int .u16 y.b, .int .u16 y.a] 36))).trans (hb3.mono (by rw [World.size_alloc]; have := HBR.out.size; omega))))
      clear hb3 c0 c1 c2 c3 x0 x1 x2 x3
      generalize farI y c = f at *
      rcases Nat.eq_zero_or_pos k with rfl | hk0
      · obtain ⟨_, rfl, _⟩ | ⟨j, _, hj, _⟩ := HNT.out
        case inr => omega
        have HNT2 := Lib.hid (HNT.out.first)
        go_wp2_with fail
        go_roundw
        case rel => exact ⟨1, by omega, by go_num, _, _, rfl, rfl, Lib.hid (by rw [← HFA.out]; exact HNT2.out), HB3⟩
        case measure => simp [intOf]; omega
      · obtain ⟨j, rfl, hj, hbj⟩ := HNT.out.pos hk0
        clear hbj
        by_cases hfb : f < b
        · go_wp2_with fail
          go_roundw
          case rel => exact ⟨k + 1, by omega, by go_num, _, _, rfl, rfl, Lib.hid (by rw [← HFA.out]; exact HNT.out.take hk0 (by rw [HFA.out]; exact hfb)), HB3⟩
          case measure => simp [intOf]; omega
        · go_wp2_with fail
          go_roundw
          case rel => exact ⟨k + 1, by omega, by go_num, _, _, rfl, rfl, Lib.hid (HNT.out.stay hk0 (by rw [HFA.out]; omega)), HB3⟩
          case measure => simp [intOf]; omega
    · obtain rfl : k = n := by omega
      go_wp2_with fail
      go_ret
      exact ⟨z, b, rfl, HNT.out, HB.out.trans (HBR.out.mono HB.out.size)⟩
set_option maxRecDepth 100000 in
set_option maxHeartbeats 2000000 in
theorem refNearest_any (A : Option Addr) (cap n : Nat) (l : List Col) (c : Col) (hn : l.length = n) (hl : n ≤ 17592186043904) (B : Nat) (w : World) (hcs : Cs w B A l) (hBw : B ≤ w.heap.size) :
    Calls Try.prog 22 #[.slice A n cap, .agg #[.int .u16 c.r, .int .u16 c.g, .int .u16 c.b, .int .u16 c.a]] w fun e w' => ∃ z b, e = .returned (.int .i64 z) ∧ NearTo l c n z b ∧ Below w.heap.size w w' := by
  go_enter Try.func22, Try.ntmps22
  go_wp2_with fail
  have hb0 := (Below.refl w.heap.size w).alloc (Nat.le_refl _) (.cells #[.int .u16 c.r, .int .u16 c.g, .int .u16 c.b, .int .u16 c.a] 36)
  have hx := Blk.new w 36 #[.int .u16 c.r, .int .u16 c.g, .int .u16 c.b, .int .u16 c.a]
  generalize w.alloc (.cells #[.int .u16 c.r, .int .u16 c.g, .int .u16 c.b, .int .u16 c.a] 36) = W0 at *
  have HX := Lib.hid hx
  have HB := Lib.hid hb0
  have HC := Lib.hid ((hcs.below (hb0.mono hBw)))
  have HN := Lib.hid hn
  clear hx hb0 hcs hn
  go_loopw [5, 6] (fun p i wr => ∃ k : Nat, k ≤ n ∧ i = .int .i64 (k : Int) ∧ ∃ z b : Int, p = .int .i64 z ∧ Hid (NearTo l c k z b) ∧ Hid (Below W0.heap.size W0 wr)) (fun _ i _ => n - (intOf i).toNat)
  case atStart => exact ⟨0, Nat.zero_le _, rfl, _, _, rfl, Lib.hid (NearTo.zero l c), Lib.hid (Below.refl _ _)⟩
  case round =>
    obtain ⟨k, hk, rfl, z, b, rfl, HNT, HBR⟩ := hrel
    by_cases hlt : k < n
    · have hkl : k < l.length := by rw [HN.out]; exact hlt
      have hs0 := HB.out.size
      have hsl := HX.out.lt
      rcases Nat.eq_zero_or_pos k with rfl | hk0
      · obtain ⟨_, rfl, _⟩ | ⟨j, _, hj, _⟩ := HNT.out
        case inr => omega
        have HNT2 := Lib.hid (HNT.out.first)
        clear hkl
        go_wp2_with fail
        go_quiet (fail)
        go_wp2_with fail
        go_roundw
        case rel => exact ⟨1, by omega, by go_num, _, _, rfl, Lib.hid (HNT2.out), Lib.hid (below_drewN HBR.out nq)⟩
        case measure => simp [intOf]; omega
      · obtain ⟨j, rfl, hj, hbj⟩ := HNT.out.pos hk0
        have hjl : j < l.length := by rw [HN.out]; omega
        have hcw := HC.out.below (HBR.out.mono (show B ≤ W0.heap.size by omega))
        obtain ⟨pb, off, rfl, hpb, c0, c1, c2, c3⟩ := hcw.at_ hkl
        obtain ⟨pb', off', he, _, d0, d1, d2, d3⟩ := hcw.at_ hjl
        injection he with he
        injection he with he1 he2 _
        subst he1 he2
        have hxr := HX.out.upd (Upd.of_fresh HBR.out) id
        have x0 := hxr.cell 0; have x1 := hxr.cell 1; have x2 := hxr.cell 2; have x3 := hxr.cell 3
        simp only [List.getElem?_toArray, List.getElem?_cons_zero, List.getElem?_cons_succ] at x0 x1 x2 x3
        have HFA := Lib.hid (farAt_of (c := c) hkl)
        have HFJ := Lib.hid (hbj.trans (farAt_of (c := c) hjl))
        generalize l[k] = y at c0 c1 c2 c3 HFA
        generalize l[j] = u at d0 d1 d2 d3 HFJ
        have hsz : w.heap.size < wr.heap.size := Nat.lt_of_lt_of_le hsl HBR.out.size
        have hpw : pb < wr.heap.size := by omega
        have hf := farI_bd y c
        have hf2 := farI_bd u c
        have dj : decide ((j : Int) < 0) = false := decide_eq_false (by omega)
        have q1 : (k : Int) < (n : Int) := by omega
        have q2 : (j : Int) < (n : Int) := by omega
        clear hxr hkl hjl hbj hcw
        have HNTT := Lib.hid (fun h => HNT.out.take hk0 h)
        by_cases hfb : farI y c < farI u c
        · go_wp2_with fail
          go_region_held3 (fun w' => w'.cell? ⟨pb, off + k * 4, none⟩ = some (.int .u16 y.r) ∧ w'.cell? ⟨pb, off + k * 4 + 1, none⟩ = some (.int .u16 y.g) ∧ w'.cell? ⟨pb, off + k * 4 + 2, none⟩ = some (.int .u16 y.b) ∧ w'.cell? ⟨pb, off + k * 4 + 3, none⟩ = some (.int .u16 y.a) ∧ w'.cell? ⟨pb, off + j * 4, none⟩ = some (.int .u16 u.r) ∧ w'.cell? ⟨pb, off + j * 4 + 1, none⟩ = some (.int .u16 u.g) ∧ w'.cell? ⟨pb, off + j * 4 + 2, none⟩ = some (.int .u16 u.b) ∧ w'.cell? ⟨pb, off + j * 4 + 3, none⟩ = some (.int .u16 u.a) ∧ w'.cell? ⟨w.heap.size, 0, none⟩ = some (.int .u16 c.r) ∧ w'.cell? ⟨w.heap.size, 1, none⟩ = some (.int .u16 c.g) ∧ w'.cell? ⟨w.heap.size, 2, none⟩ = some (.int .u16 c.b) ∧ w'.cell? ⟨w.heap.size, 3, none⟩ = some (.int .u16 c.a))
            (go_keep)
            ((go_at_call 23; refine (far_any _ _ _).mono ?_; rintro e w3 ⟨rfl, hb3⟩; have hbb : Below wr.heap.size wr w3 := (by first | exact of_drewN (n := 1) hb3 | exact hbb.trans (hb3.mono hbb.size)); have kc0 : w3.cell? ⟨pb, off + k * 4, none⟩ = some (.int .u16 y.r) := (hbb.cell (p := ⟨pb, off + k * 4, none⟩) hpw).trans c0; have kc1 : w3.cell? ⟨pb, off + k * 4 + 1, none⟩ = some (.int .u16 y.g) := (hbb.cell (p := ⟨pb, off + k * 4 + 1, none⟩) hpw).trans c1; have kc2 : w3.cell? ⟨pb, off + k * 4 + 2, none⟩ = some (.int .u16 y.b) := (hbb.cell (p := ⟨pb, off + k * 4 + 2, none⟩) hpw).trans c2; have kc3 : w3.cell? ⟨pb, off + k * 4 + 3, none⟩ = some (.int .u16 y.a) := (hbb.cell (p := ⟨pb, off + k * 4 + 3, none⟩) hpw).trans c3; have kd0 : w3.cell? ⟨pb, off + j * 4, none⟩ = some (.int .u16 u.r) := (hbb.cell (p := ⟨pb, off + j * 4, none⟩) hpw).trans d0; have kd1 : w3.cell? ⟨pb, off + j * 4 + 1, none⟩ = some (.int .u16 u.g) := (hbb.cell (p := ⟨pb, off + j * 4 + 1, none⟩) hpw).trans d1; have kd2 : w3.cell? ⟨pb, off + j * 4 + 2, none⟩ = some (.int .u16 u.b) := (hbb.cell (p := ⟨pb, off + j * 4 + 2, none⟩) hpw).trans d2; have kd3 : w3.cell? ⟨pb, off + j * 4 + 3, none⟩ = some (.int .u16 u.a) := (hbb.cell (p := ⟨pb, off + j * 4 + 3, none⟩) hpw).trans d3; have kx0 : w3.cell? ⟨w.heap.size, 0, none⟩ = some (.int .u16 c.r) := (hbb.cell (p := ⟨w.heap.size, 0, none⟩) hsz).trans x0; have kx1 : w3.cell? ⟨w.heap.size, 1, none⟩ = some (.int .u16 c.g) := (hbb.cell (p := ⟨w.heap.size, 1, none⟩) hsz).trans x1; have kx2 : w3.cell? ⟨w.heap.size, 2, none⟩ = some (.int .u16 c.b) := (hbb.cell (p := ⟨w.heap.size, 2, none⟩) hsz).trans x2; have kx3 : w3.cell? ⟨w.heap.size, 3, none⟩ = some (.int .u16 c.a) := (hbb.cell (p := ⟨w.heap.size, 3, none⟩) hsz).trans x3; clear hb3))
          have HBB := Lib.hid (HBR.out.trans (hbb.mono HBR.out.size))
          clear kc0 kc1 kc2 kc3 kd0 kd1 kd2 kd3 kx0 kx1 kx2 kx3 hbb
          go_wp2_with fail
          go_roundw
          case rel => exact ⟨k + 1, by omega, by go_num, _, _, rfl, Lib.hid (HNTT.out (by rw [HFA.out, HFJ.out]; exact hfb)), HBB⟩
          case measure => simp [intOf]; omega
        · go_wp2_with fail
          go_region_held3 (fun w' => w'.cell? ⟨pb, off + k * 4, none⟩ = some (.int .u16 y.r) ∧ w'.cell? ⟨pb, off + k * 4 + 1, none⟩ = some (.int .u16 y.g) ∧ w'.cell? ⟨pb, off + k * 4 + 2, none⟩ = some (.int .u16 y.b) ∧ w'.cell? ⟨pb, off + k * 4 + 3, none⟩ = some (.int .u16 y.a) ∧ w'.cell? ⟨pb, off + j * 4, none⟩ = some (.int .u16 u.r) ∧ w'.cell? ⟨pb, off + j * 4 + 1, none⟩ = some (.int .u16 u.g) ∧ w'.cell? ⟨pb, off + j * 4 + 2, none⟩ = some (.int .u16 u.b) ∧ w'.cell? ⟨pb, off + j * 4 + 3, none⟩ = some (.int .u16 u.a) ∧ w'.cell? ⟨w.heap.size, 0, none⟩ = some (.int .u16 c.r) ∧ w'.cell? ⟨w.heap.size, 1, none⟩ = some (.int .u16 c.g) ∧ w'.cell? ⟨w.heap.size, 2, none⟩ = some (.int .u16 c.b) ∧ w'.cell? ⟨w.heap.size, 3, none⟩ = some (.int .u16 c.a))
            (go_keep)
            ((go_at_call 23; refine (far_any _ _ _).mono ?_; rintro e w3 ⟨rfl, hb3⟩; have hbb : Below wr.heap.size wr w3 := (by first | exact of_drewN (n := 1) hb3 | exact hbb.trans (hb3.mono hbb.size)); have kc0 : w3.cell? ⟨pb, off + k * 4, none⟩ = some (.int .u16 y.r) := (hbb.cell (p := ⟨pb, off + k * 4, none⟩) hpw).trans c0; have kc1 : w3.cell? ⟨pb, off + k * 4 + 1, none⟩ = some (.int .u16 y.g) := (hbb.cell (p := ⟨pb, off + k * 4 + 1, none⟩) hpw).trans c1; have kc2 : w3.cell? ⟨pb, off + k * 4 + 2, none⟩ = some (.int .u16 y.b) := (hbb.cell (p := ⟨pb, off + k * 4 + 2, none⟩) hpw).trans c2; have kc3 : w3.cell? ⟨pb, off + k * 4 + 3, none⟩ = some (.int .u16 y.a) := (hbb.cell (p := ⟨pb, off + k * 4 + 3, none⟩) hpw).trans c3; have kd0 : w3.cell? ⟨pb, off + j * 4, none⟩ = some (.int .u16 u.r) := (hbb.cell (p := ⟨pb, off + j * 4, none⟩) hpw).trans d0; have kd1 : w3.cell? ⟨pb, off + j * 4 + 1, none⟩ = some (.int .u16 u.g) := (hbb.cell (p := ⟨pb, off + j * 4 + 1, none⟩) hpw).trans d1; have kd2 : w3.cell? ⟨pb, off + j * 4 + 2, none⟩ = some (.int .u16 u.b) := (hbb.cell (p := ⟨pb, off + j * 4 + 2, none⟩) hpw).trans d2; have kd3 : w3.cell? ⟨pb, off + j * 4 + 3, none⟩ = some (.int .u16 u.a) := (hbb.cell (p := ⟨pb, off + j * 4 + 3, none⟩) hpw).trans d3; have kx0 : w3.cell? ⟨w.heap.size, 0, none⟩ = some (.int .u16 c.r) := (hbb.cell (p := ⟨w.heap.size, 0, none⟩) hsz).trans x0; have kx1 : w3.cell? ⟨w.heap.size, 1, none⟩ = some (.int .u16 c.g) := (hbb.cell (p := ⟨w.heap.size, 1, none⟩) hsz).trans x1; have kx2 : w3.cell? ⟨w.heap.size, 2, none⟩ = some (.int .u16 c.b) := (hbb.cell (p := ⟨w.heap.size, 2, none⟩) hsz).trans x2; have kx3 : w3.cell? ⟨w.heap.size, 3, none⟩ = some (.int .u16 c.a) := (hbb.cell (p := ⟨w.heap.size, 3, none⟩) hsz).trans x3; clear hb3))
          have HBB := Lib.hid (HBR.out.trans (hbb.mono HBR.out.size))
          clear kc0 kc1 kc2 kc3 kd0 kd1 kd2 kd3 kx0 kx1 kx2 kx3 hbb
          go_wp2_with fail
          go_roundw
          case rel => exact ⟨k + 1, by omega, by go_num, _, _, rfl, Lib.hid (HNT.out.stay hk0 (by rw [HFA.out, HFJ.out]; omega)), HBB⟩
          case measure => simp [intOf]; omega
    · obtain rfl : k = n := by omega
      go_wp2_with fail
      go_ret
      exact ⟨z, b, rfl, HNT.out, HB.out.trans (HBR.out.mono HB.out.size)⟩
end Go.Proofs.Ytibgjklfbfahfaa
