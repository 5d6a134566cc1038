/- Distinct, the document's. -/
import Derived.Test.YtpioocnojpocmaaQr
namespace Go.Proofs.Ytpioocnojpocmaa
open Go.ChangeShapes Go.WideShapes Go.ChangeAt Go.RowKit

/-- The list that is made, behind k pixels. -/
def DrI (w1 : World) (l : List Int) (k : Nat) (A : Option Addr) (n c : Nat) (wr : World) : Prop := (distL l k).length = n ∧ wr.ownsRow w1.heap.size 30 4 (.slice A n c) n (colsV (distL l k)) ∧ Below w1.heap.size w1 wr
theorem Cs.row {w : World} {base : Nat} {e : TypeId} {A : Option Addr} {n c : Nat} {l : List Col} (h : w.ownsRow base e 4 (.slice A n c) n (colsV l)) (hn : l.length = n) : Cs w w.heap.size A l := fun hp => by
  obtain ⟨g, rfl, _, _, _, hg⟩ := crow_form h (by omega)
  exact (Cs.of_own (r := []) (by rw [List.append_nil]; exact h) hg) hp
set_option maxRecDepth 100000 in
set_option maxHeartbeats 4000000 in
theorem refDistinct_any (W H : Int) (A : Option Addr) (n c : Nat) (l : List Int) (hn : l.length = n) (B : Nat) (w : World) (h : Us w B A l) (hB : B ≤ w.heap.size) :
    Calls Try.prog 32 #[imgV W H A n c] w (DisR w (disL W H l)) := by
  obtain ⟨w1, hw1, hi, hb⟩ := newImg W H A n c w
  have HW1 := Lib.hid hw1
  have HI := Lib.hid hi
  have HB := Lib.hid hb
  have HV := Lib.hid (Vs.below h (hb.mono hB))
  clear hw1 hi hb h
  go_enter Try.func32, Try.ntmps32
  go_upto_region 1 with (fail)
  rw [HW1.out]
  clear HW1
  have q0 := HI.out.c0; have q1 := HI.out.c1; have q2 := HI.out.c2
  go_wp2_with fail
  refine (refGood_any W H A n c w1).mono ?_
  rintro e w2 ⟨rfl, hb2⟩
  have HI2 := Lib.hid (HI.out.call hb2)
  have HB2 := Lib.hid (HB.out.trans (hb2.mono HB.out.size))
  have HV2 := Lib.hid (Vs.below HV.out (hb2.mono (by have := HB.out.size; omega)))
  clear HI HB HV hb2 q0 q1 q2
  cases hg : goodB W H n with
  | false =>
    have HE : Hid (disL W H l = []) := Lib.hid (by unfold disL; rw [hn, if_neg (by rw [hg]; simp)])
    clear hg
    go_wp2_with fail
    go_ret
    rw [HE.out]
    exact ⟨none, 0, rfl, ⟨rfl, .inl ⟨rfl, rfl⟩⟩, HB2.out⟩
  | true =>
    obtain ⟨W, H, rfl, rfl, hn4, hf, hw1, hw2, hh1, hh2⟩ := goodB_nat hg
    have HE : Hid (disL W H l = distL l (W * H)) := Lib.hid (by unfold disL; rw [hn, if_pos hg, ← Int.natCast_mul, Int.toNat_natCast])
    obtain ⟨r, o, rfl, hrB, hsm⟩ := Us.smp HV2.out (by have := Nat.mul_pos hw1 hh1; omega)
    have HSM := Lib.hid hsm
    have HN4 := Lib.hid hn4
    have HFW := Lib.hid hf
    clear hg hsm HV2 hn4 hf
    have HFI : Hid (∀ wr, Below w2.heap.size w2 wr → IB wr w.heap.size (.int .i64 (W : Int)) (.int .i64 (H : Int)) (.slice (some ⟨r, o, none⟩) n c)) := Lib.hid (fun wr hb => HI2.out.call hb)
    have q0 := HI2.out.c0; have q1 := HI2.out.c1
    have hs2 := HB2.out.size
    go_wp2_with fail
    go_loopw [3, 4] (fun v i wr => ∃ (Y : Nat) (A : Option Addr) (m cr : Nat), Y ≤ H ∧ i = .int .i64 (Y : Int) ∧ v = .slice A m cr ∧ Hid (DrI w2 l (Y * W) A m cr wr)) (fun _ i _ => H - (intOf i).toNat)
    case atStart => exact ⟨0, none, 0, 0, Nat.zero_le _, rfl, rfl, Lib.hid (by rw [Nat.zero_mul]; exact ⟨rfl, ⟨rfl, .inl ⟨rfl, rfl⟩⟩, Below.refl _ _⟩)⟩
    case round =>
      obtain ⟨Y, A, m, cr, hY, rfl, rfl, HD⟩ := hrel
      obtain ⟨_, q0, q1, q2, _, _, _⟩ := HFI.out _ HD.out.2.2
      by_cases hlt : Y < H
      · go_wp2_with fail
        obtain ⟨wo, hwo⟩ : ∃ wo : World, wo = wr := ⟨_, rfl⟩
        subst hwo
        clear q0 q1 q2
        go_loopw [3, 5] (fun v i wr => ∃ (X : Nat) (A : Option Addr) (m cr : Nat), X ≤ W ∧ i = .int .i64 (X : Int) ∧ v = .slice A m cr ∧ Hid (DrI w2 l (Y * W + X) A m cr wr)) (fun _ i _ => W - (intOf i).toNat)
        case atStart => exact ⟨0, A, m, cr, Nat.zero_le _, rfl, rfl, Lib.hid (by rw [Nat.add_zero]; exact HD.out)⟩
        case round =>
          clear HD
          obtain ⟨X, A, m, cr, hX, rfl, rfl, HD⟩ := hrel
          obtain ⟨_, q0, q1, q2, _, _, _⟩ := HFI.out _ HD.out.2.2
          by_cases hlx : X < W
          · have HPx := Lib.hid (pixel_any (c := c) hn HN4.out HFW.out (HSM.out.below HD.out.2.2 (by omega)) X Y hlx hlt)
            have hpl := place_lt (W := W) (H := H) (X := X) (Y := Y) (n := 1) (by omega) hlt
            have hdl := distL_length l (Y * W + X)
            have hm : m ≤ 65536 := by have := HD.out.1; have := HFW.out; omega
            have HDN : Hid (distL l (Y * W + (X + 1)) = addC (distL l (Y * W + X)) (pxAt l (4 * (Y * W + X)))) := Lib.hid rfl
            clear hpl hdl
            obtain ⟨K, hK⟩ : ∃ K, Y * W + X = K := ⟨_, rfl⟩
            rw [hK] at HD HPx HDN
            have HKK := Lib.hid hK
            clear hK
            generalize pxAt l (4 * K) = x at HPx HDN
            obtain ⟨hd1, hd2, hd3⟩ := HD.out
            have HD1 := Lib.hid hd1; have HD2 := Lib.hid hd2; have HD3 := Lib.hid hd3
            clear HD hd1 hd2 hd3
            go_wp2_with fail
            refine HPx.out.mono ?_
            rintro e w5 ⟨rfl, hb5⟩
            have hbx := (Below.refl w5.heap.size w5).alloc (Nat.le_refl _) (.cells #[.int .u16 x.r, .int .u16 x.g, .int .u16 x.b, .int .u16 x.a] 30)
            have hcx := CB.of (x := x) (Blk.new w5 30 #[.int .u16 x.r, .int .u16 x.g, .int .u16 x.b, .int .u16 x.a])
            obtain ⟨w6, hw6⟩ : ∃ w6, w5.alloc (.cells #[.int .u16 x.r, .int .u16 x.g, .int .u16 x.b, .int .u16 x.a] 30) = w6 := ⟨_, rfl⟩
            rw [hw6] at hbx hcx
            have hb56 := hb5.trans (hbx.mono hb5.size)
            have HW6 := Lib.hid hw6
            have HR6 := Lib.hid (own_upd HD2.out (Upd.of_fresh hb56) (fun _ _ => id))
            have HB6 := Lib.hid (HD3.out.trans (hb56.mono HD3.out.size))
            have HC6 := Lib.hid hcx
            clear hw6 hbx hcx hb5 hb56 q0 q1 q2 HPx HD2 HD3
            obtain ⟨_, x0, x1, x2, x3, _, _, _, _⟩ := HC6.out
            have HPl := Lib.hid (place_any A m cr (distL l K) HD1.out (by omega) x w6.heap.size w6 (Cs.row HR6.out HD1.out) (Nat.le_refl _))
            go_upto_region 11 with (fail)
            rw [HW6.out]
            clear HW6
            go_wp2_with fail
            refine HPl.out.mono ?_
            rintro e w7 ⟨z, rfl, hz, hz1, hz2, hb7⟩
            have HR7 := Lib.hid (own_upd HR6.out (Upd.of_fresh hb7) (fun _ _ => id))
            have HB7 := Lib.hid (HB6.out.trans (hb7.mono HB6.out.size))
            have HC7 := Lib.hid (HC6.out.call hb7)
            have HZ := Lib.hid hz
            clear hb7 HR6 HB6 HC6 HPl hz x0 x1 x2 x3
            obtain ⟨_, x0, x1, x2, x3, _, _, _, _⟩ := HC7.out
            by_cases hx : x ∈ distL l K
            · have hz0 : ¬ z < 0 := fun h => HZ.out.1 h hx
              have HG : Hid (DrI w2 l (Y * W + (X + 1)) A m cr w7) := Lib.hid (by
                unfold DrI
                rw [HDN.out, show addC (distL l K) x = distL l K from if_pos hx]
                exact ⟨HD1.out, HR7.out, HB7.out⟩)
              clear hx
              go_wp2_with fail
              go_roundw
              case rel => exact ⟨X + 1, A, m, cr, by omega, by go_num, rfl, HG⟩
              case measure => simp [intOf]; omega
            · have hz0 : z < 0 := HZ.out.2 hx
              obtain ⟨A9, c9, w9, hrun, o9, hg9⟩ := append_cols w2.heap.size (w7.alloc (.cells #[.int .u16 x.r, .int .u16 x.g, .int .u16 x.b, .int .u16 x.a] 30)) (.slice A m cr) m (colsV (distL l K)) (HR7.out.alloc _) (by rw [World.size_alloc]; have := HB7.out.size; omega) _ _ 1 1 [x] rfl (cs_lit w7 x) (by omega) 55
              have hb9 := (HB7.out.alloc HB7.out.size (.cells #[.int .u16 x.r, .int .u16 x.g, .int .u16 x.b, .int .u16 x.a] 30)).grown hg9 (by rw [World.size_alloc]; have := HB7.out.size; omega) (fun q hq => (HR7.out.lt q hq).1)
              have HG : Hid (DrI w2 l (Y * W + (X + 1)) A9 (m + 1) c9 w9) := Lib.hid (by
                unfold DrI
                rw [HDN.out, show addC (distL l K) x = distL l K ++ [x] from if_neg hx, colsV_append]
                exact ⟨by rw [List.length_append, HD1.out]; rfl, o9, hb9⟩)
              have HRN := Lib.hid hrun
              clear hx hrun o9 hg9 hb9
              go_wp2_with (at_builtin; refine wpList_append_run rfl (.tmp 30) (.tmp 32) _ rfl rfl rfl HRN.out ?_)
              go_roundw
              case rel => exact ⟨X + 1, A9, m + 1, c9, by omega, by go_num, rfl, HG⟩
              case measure => simp [intOf]; omega
          · obtain rfl : X = W := by omega
            go_wp2_with fail
            go_roundw
            case rel => exact ⟨Y + 1, A, m, cr, by omega, by go_num, rfl, Lib.hid (by rw [Nat.add_mul, Nat.one_mul]; exact HD.out)⟩
            case measure => simp [intOf]; omega
      · obtain rfl : Y = H := by omega
        go_wp2_with fail
        go_ret
        obtain ⟨hd1, hd2, hd3⟩ := HD.out
        rw [Nat.mul_comm, ← HE.out] at hd1 hd2
        subst hd1
        exact ⟨A, cr, rfl, own_low hd2 hs2, HB2.out.trans (hd3.mono hs2)⟩
end Go.Proofs.Ytpioocnojpocmaa
