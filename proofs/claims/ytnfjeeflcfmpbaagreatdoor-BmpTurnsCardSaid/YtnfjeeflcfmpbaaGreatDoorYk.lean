/- The document's Encode. -/
import Derived.Test.YtnfjeeflcfmpbaaGreatDoorYj
import Derived.Test.YtnfjeeflcfmpbaaGreatDoorYh
import Derived.Test.YtnfjeeflcfmpbaaGreatDoorRo
set_option linter.unusedVariables false
set_option linter.unusedSimpArgs false
namespace Go.Proofs.YtnfjeeflcfmpbaaGreatDoor
open Go.ChangeShapes Go.WideShapes Go.ChangeAt Go.RowKit

theorem setr_any (w : World) (B n : Nat) (A : Option Addr) (c : Nat) (l : List UInt8) (hl : l.length = n) (h : Bs w B A l) (hB : B ≤ w.heap.size) (hn : n ≤ 4096) (a s v : Int) (at_ s' v' : Nat) (ha : a = (at_ : Int)) (hs : s = (s' : Int)) (hv : v = (v' : Int)) (h1 : 1 ≤ s') (h4 : s' ≤ 4) (hat : at_ + s' ≤ n) (hv2 : v' < 4294967296) :
    Calls Tryz.prog 41 #[.slice A n c, .int .i64 a, .int .i64 s, .int .i64 v] w fun e w' => ∃ A' c', e = .returned (.slice A' n c') ∧ w'.ownsRow w.heap.size 5 1 (.slice A' n c') n (bytesV (setB l at_ s' false v' s')) ∧ Below w.heap.size w w' := by
  subst ha hs hv
  have HS := Lib.hid (refSet_ok A c l at_ s' v' false B w h hB (by omega) h1 h4 (by omega))
  rw [hl] at HS
  have HL := Lib.hid hl
  clear h hl
  go_enter Tryz.func41, Tryz.ntmps41
  go_wp2_with fail
  refine HS.out.mono ?_
  rintro e w1 ⟨A1, c1, rfl, o1, hb1⟩
  rw [HL.out] at o1 ⊢
  have HO := Lib.hid (And.intro o1 hb1)
  clear o1 hb1 HS
  go_wp2_with fail
  go_ret
  exact ⟨_, _, rfl, HO.out⟩
theorem rdown_any (s : Int) (hs : 0 ≤ s ∧ s ≤ 65535) (w : World) : Calls Tryz.prog 43 #[.int .u16 s] w fun e w' => e = .returned (.int .u8 ((dn8 s).toNat : Nat)) ∧ w' = w := by
  have HD := Lib.hid (refDown_any s 255 hs (by omega) w)
  have h1 := dn8_nat hs
  have h2 := down_bd hs
  obtain ⟨d, hd⟩ : ∃ d, downN s 255 = d := ⟨_, rfl⟩
  have HH := Lib.hid h1
  rw [hd] at h2 HH
  go_enter Tryz.func43, Tryz.ntmps43
  go_wp2_with fail
  refine HD.out.mono ?_
  rintro e w1 ⟨rfl, ⟨_, rfl⟩ | ⟨h, _⟩⟩
  · rw [hd]
    clear hd h1
    go_wp2_with fail
    go_ret
    exact ⟨by rw [HH.out]; rfl, rfl⟩
  · omega
/-- The image's box, the bytes that are made. -/
structure DcS (w : World) (W H : Int) (sl : Value) (n : Nat) (l : List UInt8) (A : Option Addr) (c : Nat) (wr : World) : Prop where
  ib : IB wr w.heap.size (.int .i64 W) (.int .i64 H) sl
  own : wr.ownsRow (w.heap.size + 1) 5 1 (.slice A n c) n (bytesV l)
  len : l.length = n
  bel : Below w.heap.size w wr
theorem DcS.lt {w wr : World} {W H : Int} {sl : Value} {n : Nat} {l : List UInt8} {A : Option Addr} {c : Nat} (h : DcS w W H sl n l A c wr) : w.heap.size + 1 ≤ wr.heap.size := h.ib.blk.lt
theorem DcS.next {w wr w' : World} {W H : Int} {sl : Value} {n : Nat} {l l' : List UInt8} {A A' : Option Addr} {c c' : Nat} (h : DcS w W H sl n l A c wr) (ho : w'.ownsRow wr.heap.size 5 1 (.slice A' n c') n (bytesV l')) (hl : l'.length = n) (hb : Below wr.heap.size wr w') : DcS w W H sl n l' A' c' w' :=
  ⟨h.ib.call hb, own_low ho h.lt, hl, h.bel.trans (hb.mono h.bel.size)⟩
theorem DcS.upd {w wr w' : World} {W H : Int} {sl : Value} {n : Nat} {l : List UInt8} {A : Option Addr} {c : Nat} (h : DcS w W H sl n l A c wr) (u : Upd No wr w') : DcS w W H sl n l A c w' :=
  ⟨IB.of (h.ib.blk.upd u id), own_upd h.own u (fun _ _ => id), h.len, h.bel.trans (u.fresh.mono h.bel.size)⟩
theorem DcS.bs {w wr : World} {W H : Int} {sl : Value} {n : Nat} {l : List UInt8} {A : Option Addr} {c : Nat} (h : DcS w W H sl n l A c wr) : Bs wr wr.heap.size A l := by
  have := h.own
  rw [← h.len] at this
  exact Bs.of_own this
theorem own_keep_base {w w' : World} {S : Nat → Prop} {base b : Nat} {e : TypeId} {s n : Nat} {v : Value} {xs : List Value} (h : w.ownsRow base e s v n xs) (hlt : ∀ k, v.ownBlock = some k → k < b) (u : Upd S w w') (hS : ∀ k, S k → b ≤ k) : w'.ownsRow base e s v n xs := own_upd h u (fun k hk e => by have := hlt k hk; have := hS k e; omega)
def slLen : Value → Nat
  | .slice _ n _ => n
  | _ => 0
theorem wp_region_T {P : Program} {id : Nat} {Q : Exit → Act → World → Prop} {a : Act} {w : World} {l : List Oper} (S : World → Prop) (z : Nat) (hm : P.follows .mixedOrders = true) (fuel : Nat) (hfu : l.toArray.size = fuel)
    (h : wpAnyT P .any l.toArray Q S z fuel (Array.replicate fuel false) a w.drew) : (Code.region id l.toArray true).wp P Q a w := by
  subst hfu
  exact wp_region_any hm (wpAny_of_T _ _ _ _ h)
theorem nb_one {R k H T N n0 : Nat} (h1 : N = n0 + R * k) (h2 : R * H = T) (hk : k ≤ H) (hT : T ≤ 278528) (hn : n0 ≤ 122) : N ≤ 557056 := by
  have := Nat.mul_le_mul_left R hk
  omega
theorem nb_two {al : Bool} {j W N : Nat} (h1 : N = pxN al * j) (hj : j ≤ W) (hW : W ≤ 4096) : N ≤ 16384 := by
  have e2 : pxN al ≤ 4 := by cases al <;> simp [pxN]
  have e3 : pxN al * j ≤ 4 * 4096 := Nat.mul_le_mul e2 (by omega)
  omega
theorem bs_lits (w : World) (t : TypeId) (l : List UInt8) : Bs (w.alloc (.cells (bytesV l).toArray t)) (w.heap.size + 1) (some ⟨w.heap.size, 0, none⟩) l := by
  refine fun _ => ⟨_, rfl, Nat.lt_succ_self _, fun j hj => ?_⟩
  have h := (Blk.new w t (bytesV l).toArray).cell j
  have e : (⟨w.heap.size, 0, none⟩ : Addr).add j = ⟨w.heap.size, j, none⟩ := by unfold Addr.add; split <;> simp_all
  rw [e, h]
  simpa using bytesV_get l j hj
/-- The last k rows, the last one first. -/
def rvB (al : Bool) (W H : Nat) (L : List Col) (k : Nat) : List UInt8 := ((encR al W L H).reverse.take k).flatten
theorem rvB_zero (al : Bool) (W H : Nat) (L : List Col) : rvB al W H L 0 = [] := by simp [rvB]
theorem rvB_all (al : Bool) (W H : Nat) (L : List Col) : rvB al W H L H = (encR al W L H).reverse.flatten := by
  unfold rvB
  rw [List.take_of_length_le (by simp [encR])]
theorem rvB_step (al : Bool) (W H : Nat) (L : List Col) (k : Nat) (hk : k < H) : rvB al W H L (k + 1) = rvB al W H L k ++ rowB al W (rowL W L (H - 1 - k)) := by
  unfold rvB
  have hl : k < (encR al W L H).reverse.length := by simpa [encR] using hk
  rw [List.take_succ_eq_append_getElem hl, List.flatten_append]
  simp [encR]
theorem rvB_length (al : Bool) (W H : Nat) (L : List Col) (hl : L.length = W * H) : ∀ k, k ≤ H → (rvB al W H L k).length = rowN al W * k
  | 0, _ => by simp [rvB]
  | k + 1, hk => by
    rw [rvB_step al W H L k (by omega), List.length_append, rvB_length al W H L hl k (by omega), rowB_length _ _ _ (rowL_length hl (show H - 1 - k < H by omega)), Nat.mul_succ]
set_option maxRecDepth 100000 in
set_option maxHeartbeats 8000000 in
theorem rencF_any (W H : Int) (A : Option Addr) (n c : Nat) (l : List Int) (hn : l.length = n) (hlb : ∀ v ∈ l, 0 ≤ v ∧ v ≤ 65535) (B : Nat) (w : World) (h : Us w B A l) (hB : B ≤ w.heap.size) :
    Calls Tryz.prog 15 #[imgV W H A n c, .bool false] w (EncP false w W H l) := by
  obtain ⟨w1, hw1, hi, hb⟩ := newImg W H A n c w
  have HW1 := Lib.hid hw1
  have HI := Lib.hid hi
  have HB := Lib.hid hb
  have HV := Lib.hid (Vs.below h (hb.mono hB))
  obtain ⟨i0, hti, hz0, hz1, hz2⟩ := info_parts info_u8
  have H0 := Lib.hid h
  clear hw1 hi hb h
  go_enter Tryz.func15, Tryz.ntmps15
  go_upto_region 1 with (fail)
  rw [HW1.out]
  clear HW1
  have q0 := HI.out.c0; have q1 := HI.out.c1; have q2 := HI.out.c2
  go_wp2_with fail
  refine (refGood_any W H A n c w1).mono ?_
  rintro e w2 ⟨rfl, hb2⟩
  have HI2 := Lib.hid (HI.out.call hb2)
  have HB2 := Lib.hid (HB.out.trans (hb2.mono HB.out.size))
  have HV2 := Lib.hid (Vs.below HV.out (hb2.mono (by have := HB.out.size; omega)))
  clear hb2 HI HB HV q0 q1 q2
  cases hg : goodB W H n with
  | false =>
    have HG := Lib.hid hg
    clear hg
    go_wp2_with fail
    go_ret2
    exact .inl ⟨by rw [hn]; exact HG.out, rfl, HB2.out⟩
  | true =>
  obtain ⟨W, H, rfl, rfl, hn4, hf, hw1, hw2, hh1, hh2⟩ := goodB_nat hg
  obtain ⟨L, hL⟩ : ∃ L, pxL l (W * H) = L := ⟨_, rfl⟩
  have HR : Hid (∀ e w' N, (encB false W H L).length = N → (∃ A c, e = .returned (.tuple #[.slice A N c, .int .i64 0]) ∧ w'.ownsRow w.heap.size 5 1 (.slice A N c) N (bytesV (encB false W H L)) ∧ Below w.heap.size w w') → EncP false w W H l e w') := Lib.hid (fun e w' N hN k => .inr ⟨by rw [hn]; exact hg, by simpa only [Int.toNat_natCast, hL, hN] using k⟩)
  have HLN : Hid (L.length = W * H) := Lib.hid (by rw [← hL, pxL_length])
  have HPX : Hid (∀ y x, y < H → x < W → ∃ h : x < (rowL W L y).length, (rowL W L y)[x] = pxAt l (4 * (y * W + x))) := Lib.hid (by
    intro y x hy hx
    have h1 := rowL_length (k := y) (show L.length = W * H by rw [← hL, pxL_length]) hy
    refine ⟨by omega, ?_⟩
    unfold rowL
    rw [List.getElem_take, List.getElem_drop]
    have hm := Nat.mul_le_mul_right W (show y + 1 ≤ H by omega)
    rw [Nat.succ_mul, Nat.mul_comm H W] at hm
    have h2 := pxL_get l (W * H) (y * W + x) (by omega)
    rw [List.getD_eq_getElem?_getD, List.getElem?_eq_getElem (by rw [pxL_length]; omega), Option.getD_some] at h2
    subst hL
    exact h2)
  have HPD : Hid (∀ k, (0 ≤ (pxAt l k).r ∧ (pxAt l k).r ≤ 65535) ∧ (0 ≤ (pxAt l k).g ∧ (pxAt l k).g ≤ 65535) ∧ (0 ≤ (pxAt l k).b ∧ (pxAt l k).b ≤ 65535) ∧ (0 ≤ (pxAt l k).a ∧ (pxAt l k).a ≤ 65535)) := Lib.hid (by
    have hd : ∀ j, 0 ≤ l.getD j 0 ∧ l.getD j 0 ≤ 65535 := fun j => by
      by_cases hj : j < l.length
      · rw [List.getD_eq_getElem?_getD, List.getElem?_eq_getElem hj]; exact hlb _ (List.getElem_mem hj)
      · rw [List.getD_eq_getElem?_getD, List.getElem?_eq_none (by omega)]; simp
    exact fun k => ⟨hd _, hd _, hd _, hd _⟩)
  obtain ⟨r, o, rfl, hrB, hsm⟩ := Us.smp HV2.out (by have := Nat.mul_pos hw1 hh1; omega)
  have HSM0 : Hid (Smp w r o l) := Lib.hid (by
    obtain ⟨r', o', e, _, hs⟩ := Us.smp H0.out (by have := Nat.mul_pos hw1 hh1; omega)
    injection e with e
    injection e with e1 e2
    subst e1 e2
    exact hs)
  have HN4 := Lib.hid hn4
  have HNL := Lib.hid hn
  have q0 := HI2.out.c0; have q1 := HI2.out.c1; have q2 := HI2.out.c2
  have hrf := row_fits false W
  obtain ⟨R, hR⟩ : ∃ R, rowN false W = R := ⟨_, rfl⟩
  have hMR : (W * 24 + 31) / 32 * 4 = R := by rw [← hR]; rfl
  have HMR : Hid (((W : Int) * 24 + 31) / 32 * 4 = (R : Int)) := Lib.hid (by omega)
  rw [hR] at hrf
  obtain ⟨T, hT⟩ : ∃ T, R * H = T := ⟨_, rfl⟩
  have hTb : T ≤ 278528 := by
    have e2 : R * H ≤ (4 * W + 4) * H := Nat.mul_le_mul_right H hrf.2
    rw [Nat.add_mul, Nat.mul_assoc] at e2
    omega
  have m2 : wrap64 ((R : Int) * (H : Int)) = (T : Int) := by rw [← Int.natCast_mul, hT]; exact IntWalk.wrap64_in _ (by omega)
  have HRR := Lib.hid hR; have HTT := Lib.hid hT; have HF := Lib.hid hf; have HRF := Lib.hid hrf
  clear hf hrf hg hL hsm hn4 hn hlb HV2 hR hMR hT
  have hs2 := HB2.out.size
  go_upto_region 7 with (fail)
  rw [HMR.out]
  go_upto_region 8 with (at_make; refine wpList_make_full _ rfl (.tmp 26) (.tmp 26) 22 rfl w2.heap.size 5 i0 (.int .u8 0) 1 Tryz.underlying22 hti hz0 hz1 .i64 .i64 54 54 54 rfl rfl rfl rfl (by rw [hz2]; omega) (by unfold maxLen; omega) (Nat.le_refl _) ?_; intro w3 hown3 hg3)
  rw [make_u8] at hown3
  have hu3 : Upd No w2 w3 := (Upd.of_grown hg3).mono (fun k _ h => by simp at h)
  have f0 := hown3.frozenAt 0; have f1 := hown3.frozenAt 1
  have d0 := hown3.cellAt 0 (by omega); have d1 := hown3.cellAt 1 (by omega)
  have hd0 : w3.cell? ⟨w2.heap.size, 0, none⟩ = some (.int .u8 0) := d0
  have hd1 : w3.cell? ⟨w2.heap.size, 1, none⟩ = some (.int .u8 0) := d1
  obtain ⟨l0, hl0⟩ : ∃ x, x = ((List.replicate 54 (0 : UInt8)).set 0 66).set 1 77 := ⟨_, rfl⟩
  have hown4 : ((w3.setCell ⟨w2.heap.size, 0, none⟩ (.int .u8 66)).setCell ⟨w2.heap.size, 1, none⟩ (.int .u8 77)).ownsRow w2.heap.size 5 1 (.slice (some ⟨w2.heap.size, 0, none⟩) 54 54) 54 (bytesV l0) := by
    have h9 := ((hown3.stored 0 (.int .u8 66)).1.stored 1 (.int .u8 77)).1
    rw [hl0]
    exact h9
  have HI3 := HI2.out.call (show Below w2.heap.size w2 w3 from hu3.fresh)
  have HS0 : Hid (DcS w W H (.slice (some ⟨r, o, none⟩) n c) 54 l0 (some ⟨w2.heap.size, 0, none⟩) 54 ((w3.setCell ⟨w2.heap.size, 0, none⟩ (.int .u8 66)).setCell ⟨w2.heap.size, 1, none⟩ (.int .u8 77))) := Lib.hid (by
    have hs3 := hu3.size
    have hil := HI2.out.blk.lt
    have u4 : Upd (· = w2.heap.size) w3 ((w3.setCell ⟨w2.heap.size, 0, none⟩ (.int .u8 66)).setCell ⟨w2.heap.size, 1, none⟩ (.int .u8 77)) := ((Upd.refl (· = w2.heap.size) w3).setCell (fun _ => rfl) _).setCell (fun _ => rfl) _
    have hbel3 : Below w.heap.size w w3 := HB2.out.trans (hu3.fresh.mono hs2)
    exact ⟨IB.of (HI3.blk.upd u4 (by omega)), own_low hown4 (by omega), by rw [hl0]; simp, hbel3.trans (u4.below hbel3.size (fun j hj e => by omega))⟩)
  have HE0 := Lib.hid hl0
  clear hown3 hg3 hu3 hown4 HI3 hl0 HI2 q0 q1 q2 d0 d1 hti hz0 hz1 hz2
  go_upto_region 9 with (fail)
  clear f0 f1 hd0 hd1
  generalize (w3.setCell ⟨w2.heap.size, 0, none⟩ (.int .u8 66)).setCell ⟨w2.heap.size, 1, none⟩ (.int .u8 77) = p0 at *
  obtain ⟨A0, hA0⟩ : ∃ A, A = some (⟨w2.heap.size, 0, none⟩ : Addr) := ⟨_, rfl⟩
  rw [← hA0] at HS0 ⊢
  clear hA0
  have v1 := HS0.out.ib.c1
  have HC := Lib.hid (setr_any p0 p0.heap.size 54 A0 54 l0 HS0.out.len HS0.out.bs (Nat.le_refl _) (by omega) 2 4 (54 + (T : Int)) 2 4 (54 + T) rfl rfl (by omega) (by omega) (by omega) (by omega) (by omega))
  go_wp2_with fail
  refine HC.out.mono ?_
  rintro e p1 ⟨A1, c1, rfl, ho, hbx⟩
  obtain ⟨l1, hl⟩ : ∃ l, l = setB l0 2 4 false (54 + T) 4 := ⟨_, rfl⟩
  rw [← hl] at ho
  have HS1 := Lib.hid (HS0.out.next ho (by rw [hl, setB_length]; exact HS0.out.len) hbx)
  have HE1 := Lib.hid hl
  clear hl ho hbx HC HS0 v1
  have HC := Lib.hid (setr_any p1 p1.heap.size 54 A1 c1 l1 HS1.out.len HS1.out.bs (Nat.le_refl _) (by omega) 10 4 54 10 4 54 rfl rfl (by rfl) (by omega) (by omega) (by omega) (by omega))
  go_wp2_with fail
  refine HC.out.mono ?_
  rintro e p2 ⟨A2, c2, rfl, ho, hbx⟩
  obtain ⟨l2, hl⟩ : ∃ l, l = setB l1 10 4 false 54 4 := ⟨_, rfl⟩
  rw [← hl] at ho
  have HS2 := Lib.hid (HS1.out.next ho (by rw [hl, setB_length]; exact HS1.out.len) hbx)
  have HE2 := Lib.hid hl
  clear hl ho hbx HC HS1
  have HC := Lib.hid (setr_any p2 p2.heap.size 54 A2 c2 l2 HS2.out.len HS2.out.bs (Nat.le_refl _) (by omega) 14 4 40 14 4 40 rfl rfl (by rfl) (by omega) (by omega) (by omega) (by omega))
  go_wp2_with fail
  refine HC.out.mono ?_
  rintro e p3 ⟨A3, c3, rfl, ho, hbx⟩
  obtain ⟨l3, hl⟩ : ∃ l, l = setB l2 14 4 false 40 4 := ⟨_, rfl⟩
  rw [← hl] at ho
  have HS3 := Lib.hid (HS2.out.next ho (by rw [hl, setB_length]; exact HS2.out.len) hbx)
  have HE3 := Lib.hid hl
  clear hl ho hbx HC HS2
  have v0 := HS3.out.ib.c0
  have HC := Lib.hid (setr_any p3 p3.heap.size 54 A3 c3 l3 HS3.out.len HS3.out.bs (Nat.le_refl _) (by omega) 18 4 (W : Int) 18 4 W rfl rfl (by omega) (by omega) (by omega) (by omega) (by omega))
  go_wp2_with fail
  refine HC.out.mono ?_
  rintro e p4 ⟨A4, c4, rfl, ho, hbx⟩
  obtain ⟨l4, hl⟩ : ∃ l, l = setB l3 18 4 false W 4 := ⟨_, rfl⟩
  rw [← hl] at ho
  have HS4 := Lib.hid (HS3.out.next ho (by rw [hl, setB_length]; exact HS3.out.len) hbx)
  have HE4 := Lib.hid hl
  clear hl ho hbx HC HS3 v0
  have v1 := HS4.out.ib.c1
  have HC := Lib.hid (setr_any p4 p4.heap.size 54 A4 c4 l4 HS4.out.len HS4.out.bs (Nat.le_refl _) (by omega) 22 4 (H : Int) 22 4 H rfl rfl (by omega) (by omega) (by omega) (by omega) (by omega))
  go_wp2_with fail
  refine HC.out.mono ?_
  rintro e p5 ⟨A5, c5, rfl, ho, hbx⟩
  obtain ⟨l5, hl⟩ : ∃ l, l = setB l4 22 4 false H 4 := ⟨_, rfl⟩
  rw [← hl] at ho
  have HS5 := Lib.hid (HS4.out.next ho (by rw [hl, setB_length]; exact HS4.out.len) hbx)
  have HE5 := Lib.hid hl
  clear hl ho hbx HC HS4 v1
  have HC := Lib.hid (setr_any p5 p5.heap.size 54 A5 c5 l5 HS5.out.len HS5.out.bs (Nat.le_refl _) (by omega) 26 2 1 26 2 1 rfl rfl (by rfl) (by omega) (by omega) (by omega) (by omega))
  go_wp2_with fail
  refine HC.out.mono ?_
  rintro e p6 ⟨A6, c6, rfl, ho, hbx⟩
  obtain ⟨l6, hl⟩ : ∃ l, l = setB l5 26 2 false 1 2 := ⟨_, rfl⟩
  rw [← hl] at ho
  have HS6 := Lib.hid (HS5.out.next ho (by rw [hl, setB_length]; exact HS5.out.len) hbx)
  have HE6 := Lib.hid hl
  clear hl ho hbx HC HS5
  have HC := Lib.hid (setr_any p6 p6.heap.size 54 A6 c6 l6 HS6.out.len HS6.out.bs (Nat.le_refl _) (by omega) 28 2 24 28 2 24 rfl rfl (by rfl) (by omega) (by omega) (by omega) (by omega))
  go_wp2_with fail
  refine HC.out.mono ?_
  rintro e p7 ⟨A7, c7, rfl, ho, hbx⟩
  obtain ⟨l7, hl⟩ : ∃ l, l = setB l6 28 2 false 24 2 := ⟨_, rfl⟩
  rw [← hl] at ho
  have HS7 := Lib.hid (HS6.out.next ho (by rw [hl, setB_length]; exact HS6.out.len) hbx)
  have HE7 := Lib.hid hl
  clear hl ho hbx HC HS6
  have v1 := HS7.out.ib.c1
  have HC := Lib.hid (setr_any p7 p7.heap.size 54 A7 c7 l7 HS7.out.len HS7.out.bs (Nat.le_refl _) (by omega) 34 4 (T : Int) 34 4 T rfl rfl (by omega) (by omega) (by omega) (by omega) (by omega))
  go_wp2_with fail
  refine HC.out.mono ?_
  rintro e p8 ⟨A8, c8, rfl, ho, hbx⟩
  obtain ⟨l8, hl⟩ : ∃ l, l = setB l7 34 4 false T 4 := ⟨_, rfl⟩
  rw [← hl] at ho
  have HS8 := Lib.hid (HS7.out.next ho (by rw [hl, setB_length]; exact HS7.out.len) hbx)
  have HE8 := Lib.hid hl
  clear hl ho hbx HC HS7 v1
  have HHd : Hid (headB false W H T = l8) := Lib.hid (by rw [HE8.out, HE7.out, HE6.out, HE5.out, HE4.out, HE3.out, HE2.out, HE1.out, HE0.out]; kernel_rfl)
  clear HE0 HE1 HE2 HE3 HE4 HE5 HE6 HE7 HE8
  have v1 := HS8.out.ib.c1
  clear H0 m2
  go_wp2_with fail
  obtain ⟨pz, hpz⟩ : ∃ x, x = p8 := ⟨_, rfl⟩
  subst hpz
  go_loopw [9, 10] (fun v y wr => ∃ k : Nat, k ≤ H ∧ y = .int .i64 ((H : Int) - 1 - (k : Int)) ∧ ∃ A c' N, v = .slice A N c' ∧ Hid (N = 54 + R * k) ∧ Hid (DcS w W H (.slice (some ⟨r, o, none⟩) n c) N (l8 ++ rvB false W H L k) A c' wr)) (fun _ y _ => (intOf y + 1).toNat)
  case atStart => exact ⟨0, Nat.zero_le _, by simp, A8, c8, 54, rfl, Lib.hid (by simp), by rw [rvB_zero, List.append_nil]; exact HS8⟩
  case round =>
    clear HS8 v1
    obtain ⟨k, hk, rfl, Ao, co, N, rfl, HN, HSo⟩ := hrel
    by_cases hkH : k < H
    · obtain ⟨Y, hY⟩ : ∃ Y : Nat, (H : Int) - 1 - (k : Int) = (Y : Int) := ⟨H - 1 - k, by omega⟩
      have HY2 : Hid (H - 1 - k = Y) := Lib.hid (by omega)
      have hYH : Y < H := by omega
      have HYk : Hid ((Y : Int) - 1 = (H : Int) - 1 - ((k + 1 : Nat) : Int)) := Lib.hid (by omega)
      have hNb : N ≤ 557056 := nb_one HN.out HTT.out hk hTb (by omega)
      rw [hY]
      clear hY
      obtain ⟨wo, hwo⟩ : ∃ x, x = wr := ⟨_, rfl⟩
      subst hwo
      have hol := HSo.out.lt
      have hrowlt : ∀ q, (Value.slice Ao N co).ownBlock = some q → q < wo.heap.size := fun q hq => (HSo.out.own.lt q hq).2
      have HRL := Lib.hid hrowlt
      clear hrowlt
      go_wp2_with fail
      go_loopw [11, 12] (fun v x wr => ∃ j : Nat, j ≤ W ∧ x = .int .i64 (j : Int) ∧ ∃ A1 c1 N1, v = .slice A1 N1 c1 ∧ Hid (N1 = pxN false * j) ∧ Hid (wr.ownsRow wo.heap.size 5 1 (.slice A1 N1 c1) N1 (bytesV (pxsB false ((rowL W L Y).take j))) ∧ Below wo.heap.size wo wr)) (fun _ x _ => W - (intOf x).toNat)
      case atStart => exact ⟨0, Nat.zero_le _, rfl, none, 0, 0, rfl, Lib.hid (by simp), Lib.hid ⟨by simpa [pxsB, bytesV] using World.ownsRow_nil wo wo.heap.size 5 1, Below.refl _ _⟩⟩
      case round =>
        obtain ⟨j, hj, rfl, A1, c1, N1, rfl, HN1, HL⟩ := hrel
        have hib : IB wr w.heap.size (.int .i64 (W : Int)) (.int .i64 (H : Int)) (.slice (some ⟨r, o, none⟩) n c) := IB.of (HSo.out.ib.blk.upd (Upd.of_below HL.out.2) (by omega))
        have q0 := hib.c0; have q1 := hib.c1; have q2 := hib.c2
        have hN1b : N1 ≤ 16384 := nb_two HN1.out hj hw2
        by_cases hjW : j < W
        · have hsm1 : Smp wr r o l := HSM0.out.below (HSo.out.bel.trans (HL.out.2.mono (by omega))) (by omega)
          have HPx := Lib.hid (pixel_any (w := wr) (c := c) HNL.out HN4.out HF.out hsm1 j Y hjW hYH)
          obtain ⟨hxl, hxe⟩ := HPX.out Y j hYH hjW
          obtain ⟨b0, b1, b2, b3⟩ := HPD.out (4 * (Y * W + j))
          have HSt : Hid (pxsB false ((rowL W L Y).take (j + 1)) = pxsB false ((rowL W L Y).take j) ++ pxB false (pxAt l (4 * (Y * W + j))).r (pxAt l (4 * (Y * W + j))).g (pxAt l (4 * (Y * W + j))).b (pxAt l (4 * (Y * W + j))).a) := Lib.hid (by rw [pxsB_step false _ j hxl, hxe])
          generalize pxAt l (4 * (Y * W + j)) = x at *
          have i1 : (j : Int) < (W : Int) := by omega
          clear hxe hxl hsm1 hib
          go_wp2_with fail
          refine HPx.out.mono ?_
          rintro e w4 ⟨rfl, hb4⟩
          have hs4 := hb4.size
          have hws := HL.out.2.size
          have HL4 : Hid (w4.ownsRow wo.heap.size 5 1 (.slice A1 N1 c1) N1 (bytesV (pxsB false ((rowL W L Y).take j))) ∧ Below wo.heap.size wo w4) := Lib.hid ⟨own_upd HL.out.1 (Upd.of_fresh hb4) (fun _ _ => id), HL.out.2.trans (hb4.mono hws)⟩
          clear hb4 HPx q0 q1 q2 HL
          generalize pxsB false ((rowL W L Y).take j) = P at *
          go_upto_region 31 with (fail)
          have hcb := Blk.new w4 49 (colC x)
          have HC5 := Lib.hid hcb
          have HL5 : Hid ((w4.alloc (.cells (colC x) 49)).ownsRow wo.heap.size 5 1 (.slice A1 N1 c1) N1 (bytesV P) ∧ Below wo.heap.size wo (w4.alloc (.cells (colC x) 49))) := Lib.hid ⟨own_upd HL4.out.1 ((Upd.refl No w4).alloc _) (fun _ _ => id), HL4.out.2.alloc (by omega) _⟩
          obtain ⟨bc, hbc⟩ : ∃ bc, w4.heap.size = bc := ⟨_, rfl⟩
          rw [hbc] at HC5 ⊢
          clear hcb HL4 hbc
          generalize w4.alloc (.cells (colC x) 49) = w5 at *
          have hL6 : w5.drew.ownsRow wo.heap.size 5 1 (.slice A1 N1 c1) N1 (bytesV P) := HL5.out.1
          have hb6 : Below wo.heap.size wo w5.drew := HL5.out.2.drew
          have hc6 : Blk w5.drew bc 49 (colC x) := HC5.out
          clear HC5 HL5
          have HC6 := Lib.hid hc6
          refine wp_region_T (fun W' => Blk W' bc 49 (colC x)) 12 (by kernel_rfl) 13 rfl ?_
          generalize w5.drew = w6 at *
          refine wpAnyT_take (i := 0) (v := .slice A1 N1 c1) rfl (by kernel_rfl) (by kernel_rfl) (by kernel_rfl) (by kernel_rfl) (fun _ _ _ h => h) (Or.inl ⟨by rfl, ?_⟩) HC6.out ?_
          · intro wz hz
            go_simp
          try simp only [Act.put, List.getElem_toArray, List.getElem_cons_succ, List.getElem_cons_zero, List.setIfInBounds_toArray, List.set_cons_zero, List.set_cons_succ]
          refine wpAnyT_take (i := 1) (v := .pointer (some ⟨bc, 2, none⟩)) rfl (by kernel_rfl) (by kernel_rfl) (by kernel_rfl) (by kernel_rfl) (fun _ _ _ h => h) (Or.inl ⟨by rfl, ?_⟩) HC6.out ?_
          · intro wz hz
            go_simp
          try simp only [Act.put, List.getElem_toArray, List.getElem_cons_succ, List.getElem_cons_zero, List.setIfInBounds_toArray, List.set_cons_zero, List.set_cons_succ]
          refine wpAnyT_take (i := 2) (v := .int .u16 x.b) rfl (by kernel_rfl) (by kernel_rfl) (by kernel_rfl) (by kernel_rfl) (fun _ _ _ h => h) (Or.inl ⟨by rfl, ?_⟩) HC6.out ?_
          · intro wz hz
            have yz : wz.cell? ⟨bc, 2, none⟩ = some (.int .u16 x.b) := hz.cell 2
            go_simp
          try simp only [Act.put, List.getElem_toArray, List.getElem_cons_succ, List.getElem_cons_zero, List.setIfInBounds_toArray, List.set_cons_zero, List.set_cons_succ]
          refine wpAnyT_take (i := 4) (v := .pointer (some ⟨bc, 1, none⟩)) rfl (by kernel_rfl) (by kernel_rfl) (by kernel_rfl) (by kernel_rfl) (fun _ _ _ h => h) (Or.inl ⟨by rfl, ?_⟩) HC6.out ?_
          · intro wz hz
            go_simp
          try simp only [Act.put, List.getElem_toArray, List.getElem_cons_succ, List.getElem_cons_zero, List.setIfInBounds_toArray, List.set_cons_zero, List.set_cons_succ]
          refine wpAnyT_take (i := 5) (v := .int .u16 x.g) rfl (by kernel_rfl) (by kernel_rfl) (by kernel_rfl) (by kernel_rfl) (fun _ _ _ h => h) (Or.inl ⟨by rfl, ?_⟩) HC6.out ?_
          · intro wz hz
            have yz : wz.cell? ⟨bc, 1, none⟩ = some (.int .u16 x.g) := hz.cell 1
            go_simp
          try simp only [Act.put, List.getElem_toArray, List.getElem_cons_succ, List.getElem_cons_zero, List.setIfInBounds_toArray, List.set_cons_zero, List.set_cons_succ]
          refine wpAnyT_take (i := 7) (v := .pointer (some ⟨bc, 0, none⟩)) rfl (by kernel_rfl) (by kernel_rfl) (by kernel_rfl) (by kernel_rfl) (fun _ _ _ h => h) (Or.inl ⟨by rfl, ?_⟩) HC6.out ?_
          · intro wz hz
            go_simp
          try simp only [Act.put, List.getElem_toArray, List.getElem_cons_succ, List.getElem_cons_zero, List.setIfInBounds_toArray, List.set_cons_zero, List.set_cons_succ]
          refine wpAnyT_take (i := 8) (v := .int .u16 x.r) rfl (by kernel_rfl) (by kernel_rfl) (by kernel_rfl) (by kernel_rfl) (fun _ _ _ h => h) (Or.inl ⟨by rfl, ?_⟩) HC6.out ?_
          · intro wz hz
            have yz : wz.cell? ⟨bc, 0, none⟩ = some (.int .u16 x.r) := hz.cell 0
            go_simp
          try simp only [Act.put, List.getElem_toArray, List.getElem_cons_succ, List.getElem_cons_zero, List.setIfInBounds_toArray, List.set_cons_zero, List.set_cons_succ]
          refine wpAnyT_one (i := 3) rfl (by kernel_rfl) (by rfl) ?_
          go_simp
          refine (rdown_any x.b b2 _).mono ?_
          rintro e wa ⟨rfl, rfl⟩
          refine ⟨HC6.out, ?_⟩
          try simp only [Act.put, List.getElem_toArray, List.getElem_cons_succ, List.getElem_cons_zero, List.setIfInBounds_toArray, List.set_cons_zero, List.set_cons_succ]
          refine wpAnyT_one (i := 6) rfl (by kernel_rfl) (by rfl) ?_
          go_simp
          refine (rdown_any x.g b1 _).mono ?_
          rintro e wb ⟨rfl, rfl⟩
          refine ⟨HC6.out, ?_⟩
          try simp only [Act.put, List.getElem_toArray, List.getElem_cons_succ, List.getElem_cons_zero, List.setIfInBounds_toArray, List.set_cons_zero, List.set_cons_succ]
          refine wpAnyT_one (i := 9) rfl (by kernel_rfl) (by rfl) ?_
          go_simp
          refine (rdown_any x.r b0 _).mono ?_
          rintro e w6 ⟨rfl, rfl⟩
          refine ⟨HC6.out, ?_⟩
          try simp only [Act.put, List.getElem_toArray, List.getElem_cons_succ, List.getElem_cons_zero, List.setIfInBounds_toArray, List.set_cons_zero, List.set_cons_succ]
          obtain ⟨A7, c7, w7, hrun, o7, hg7⟩ := append8 wo.heap.size (w6.alloc (.cells #[.int .u8 ((dn8 x.b).toNat : Nat), .int .u8 ((dn8 x.g).toNat : Nat), .int .u8 ((dn8 x.r).toNat : Nat)] 5)) _ _ _ (hL6.alloc _) (by rw [World.size_alloc]; have := hb6.size; omega) (w6.heap.size + 1) (some ⟨w6.heap.size, 0, none⟩) 3 3 [dn8 x.b, dn8 x.g, dn8 x.r] rfl (bs_lits w6 5 _) (by omega) 22
          rw [← bytesV_append] at o7
          have hb7 := (hb6.alloc (by have := hb6.size; omega) (.cells #[.int .u8 ((dn8 x.b).toNat : Nat), .int .u8 ((dn8 x.g).toNat : Nat), .int .u8 ((dn8 x.r).toNat : Nat)] 5)).grown hg7 (by rw [World.size_alloc]; have := hb6.size; omega) (fun q hq => (hL6.lt q hq).1)
          have hc7 := (hc6.alloc (.cells #[.int .u8 ((dn8 x.b).toNat : Nat), .int .u8 ((dn8 x.g).toNat : Nat), .int .u8 ((dn8 x.r).toNat : Nat)] 5)).upd (Upd.of_grown hg7) (fun e => own_blk_ne hL6 hc6 (by decide) e.symm)
          have HC7 := Lib.hid hc7
          have HRN := Lib.hid hrun; have HO7 := Lib.hid o7; have HB7 := Lib.hid hb7
          clear hrun o7 hg7 hb7 hL6 hb6 hc6 hc7
          refine wpAnyT_one (i := 10) rfl (by kernel_rfl) (by rfl) ?_
          go_simp
          refine ⟨HC6.out.alloc _, ?_⟩
          try simp only [Act.put, List.getElem_toArray, List.getElem_cons_succ, List.getElem_cons_zero, List.setIfInBounds_toArray, List.set_cons_zero, List.set_cons_succ]
          refine wpAnyT_one (i := 11) rfl (by kernel_rfl) (by rfl) ?_
          refine wp_append_run (.tmp 95) (.tmp 105) _ rfl rfl rfl HRN.out ⟨fun _ => HC7.out, ?_⟩
          try simp only [Act.put, List.getElem_toArray, List.getElem_cons_succ, List.getElem_cons_zero, List.setIfInBounds_toArray, List.set_cons_zero, List.set_cons_succ]
          refine wpAnyT_one (i := 12) rfl (by kernel_rfl) (by rfl) ?_
          go_simp
          refine wpAnyT_done (by kernel_rfl) ?_
          go_wp2_with fail
          go_roundw
          case rel => exact ⟨j + 1, by omega, by go_num, A7, c7, N1 + 3, rfl, Lib.hid (by have := HN1.out; simp [pxN] at this ⊢; omega), Lib.hid ⟨by rw [HSt.out]; exact HO7.out, HB7.out⟩⟩
          case measure => simp [intOf]; omega
        · obtain rfl : W = j := by omega
          have hlen : (rowL W L Y).length = W := rowL_length HLN.out hYH
          have HL2 : Hid (wr.ownsRow wo.heap.size 5 1 (.slice A1 N1 c1) N1 (bytesV (pxsB false (rowL W L Y))) ∧ Below wo.heap.size wo wr) := Lib.hid (by
            have e1 : (rowL W L Y).take W = rowL W L Y := List.take_of_length_le (by rw [hlen]; exact Nat.le_refl _)
            have e2 := HL.out
            rw [e1] at e2
            exact e2)
          have hPl : (pxsB false (rowL W L Y)).length = N1 := by rw [pxsB_length, hlen, HN1.out]
          have hRb : R ≤ 16388 := by have := HRF.out.2; omega
          have hNR : N1 ≤ R := by rw [HN1.out]; exact HRF.out.1
          have HRow : Hid (rowB false W (rowL W L Y) = pxsB false (rowL W L Y) ++ List.replicate (R - N1) 0) := Lib.hid (by rw [rowB, HRR.out, hPl])
          have HRST : Hid (rvB false W H L (k + 1) = rvB false W H L k ++ rowB false W (rowL W L Y)) := Lib.hid (by rw [rvB_step false W H L k hkH, HY2.out])
          have HPl := Lib.hid hPl
          clear HL hib hlen hPl
          generalize pxsB false (rowL W L Y) = P at *
          have i1 : ¬ (W : Int) < (W : Int) := by omega
          clear q1 q2
          go_wp2_with fail
          clear q0
          obtain ⟨wv, hwv⟩ : ∃ x, x = wr := ⟨_, rfl⟩
          subst hwv
          go_loopw [11] (fun v wr => ∃ p A2 c2 N2, v = .slice A2 N2 c2 ∧ Hid (N2 = N1 + p) ∧ N2 ≤ R ∧ Hid (wr.ownsRow wo.heap.size 5 1 (.slice A2 N2 c2) N2 (bytesV (P ++ List.replicate p 0)) ∧ Below wo.heap.size wo wr)) (fun v _ => R - slLen v)
          case atStart => exact ⟨0, A1, c1, N1, rfl, Lib.hid rfl, hNR, by simpa using HL2⟩
          case round =>
            clear HL2
            obtain ⟨p, A2, c2, N2, rfl, HN2, hN2, HL⟩ := hrel
            by_cases hlt : N2 < R
            · have i2 : (N2 : Int) < (R : Int) := by omega
              obtain ⟨A7, c7, w7, hrun, o7, hg7⟩ := append8 wo.heap.size (wr.alloc (.cells #[.int .u8 0] 5)) _ _ _ (HL.out.1.alloc _) (by rw [World.size_alloc]; have := HL.out.2.size; omega) (wr.heap.size + 1) (some ⟨wr.heap.size, 0, none⟩) 1 1 [0] rfl (bs_lits wr 5 _) (by omega) 22
              rw [← bytesV_append] at o7
              have hb7 := (HL.out.2.alloc (by have := HL.out.2.size; omega) (.cells #[.int .u8 0] 5)).grown hg7 (by rw [World.size_alloc]; have := HL.out.2.size; omega) (fun q hq => (HL.out.1.lt q hq).1)
              have HRN := Lib.hid hrun
              have HL7 : Hid (w7.ownsRow wo.heap.size 5 1 (.slice A7 (N2 + 1) c7) (N2 + 1) (bytesV (P ++ List.replicate (p + 1) 0)) ∧ Below wo.heap.size wo w7) := Lib.hid ⟨by rw [List.replicate_succ', ← List.append_assoc]; exact o7, hb7⟩
              clear hrun o7 hg7 hb7 HL
              go_wp2_with (at_builtin; refine wpList_append_run rfl (.tmp 118) (.tmp 119) _ rfl rfl rfl HRN.out ?_)
              go_roundw
              case rel => exact ⟨p + 1, A7, c7, N2 + 1, rfl, Lib.hid (by have := HN2.out; omega), by omega, HL7⟩
              case measure => simp [slLen]; omega
            · obtain rfl : R = N2 := by omega
              have i2 : ¬ (R : Int) < (R : Int) := by omega
              have hP : P ++ List.replicate p 0 = rowB false W (rowL W L Y) := by rw [HRow.out, show p = R - N1 from by have := HN2.out; omega]
              have ho : wr.ownsRow (w.heap.size + 1) 5 1 (.slice Ao N co) N (bytesV (l8 ++ rvB false W H L k)) := own_keep_base HSo.out.own (fun q hq => HRL.out q hq) (Upd.of_below HL.out.2) (fun _ h => h)
              have hbs : Bs wr wr.heap.size A2 (rowB false W (rowL W L Y)) := by
                have hh := HL.out.1
                rw [hP] at hh
                refine Bs.of_own (base := wo.heap.size) (e := 5) (c := c2) ?_
                rw [show (rowB false W (rowL W L Y)).length = R from by rw [← HRR.out]; exact rowB_length _ _ _ (rowL_length HLN.out hYH)]
                exact hh
              have hrlen : (rowB false W (rowL W L Y)).length = R := by rw [← HRR.out]; exact rowB_length _ _ _ (rowL_length HLN.out hYH)
              have hsz := HL.out.2.size
              obtain ⟨A7, c7, w7, hrun, o7, hg7⟩ := append8 (w.heap.size + 1) wr _ _ _ ho (by omega) wr.heap.size A2 R c2 _ hrlen hbs (by omega) 22
              rw [← bytesV_append, List.append_assoc, ← HRST.out] at o7
              have hbw : Below w.heap.size w wr := HSo.out.bel.trans (HL.out.2.mono (by omega))
              have HS7 : Hid (DcS w W H (.slice (some ⟨r, o, none⟩) n c) (N + R) (l8 ++ rvB false W H L (k + 1)) A7 c7 w7) := Lib.hid (by
                have hib : IB wr w.heap.size (.int .i64 (W : Int)) (.int .i64 (H : Int)) (.slice (some ⟨r, o, none⟩) n c) := IB.of (HSo.out.ib.blk.upd (Upd.of_below HL.out.2) (by omega))
                refine ⟨IB.of (hib.blk.upd (Upd.of_grown hg7) (fun e => by have := (ho.lt _ e.symm).1; omega)), o7, ?_, hbw.grown hg7 (by omega) (fun q hq => by have := (ho.lt q hq).1; omega)⟩
                have e1 := own_len o7
                rw [bytesV_length] at e1
                exact e1)
              have HRN := Lib.hid hrun
              clear hP ho hbs hrlen hrun o7 hg7 hbw
              go_wp2_with (at_builtin; refine wpList_append_run rfl (.tmp 121) (.tmp 122) _ rfl rfl rfl HRN.out ?_)
              go_roundw
              case rel => exact ⟨k + 1, by omega, by rw [← HYk.out], A7, c7, N + R, rfl, Lib.hid (by rw [HN.out, Nat.mul_succ, Nat.add_assoc]), HS7⟩
              case measure => first | (simp [intOf]; done) | (simp [intOf]; omega)
    · obtain rfl : H = k := by omega
      have i1 : (H : Int) - 1 - (H : Int) = -1 := by omega
      rw [i1]
      clear i1
      have hN : N = 54 + T := by rw [HN.out, HTT.out]
      subst hN
      have HO := Lib.hid (And.intro (own_low HSo.out.own (show w.heap.size ≤ w.heap.size + 1 by omega)) HSo.out.bel)
      go_wp2_with fail
      go_ret2
      refine HR.out _ _ (54 + T) (by rw [encB_length false W H L HLN.out, HRR.out, HTT.out]; rfl) ⟨Ao, co, rfl, ?_, HO.out.2⟩
      rw [encB, HRR.out, HTT.out, HHd.out, ← rvB_all]
      exact HO.out.1

set_option maxRecDepth 100000 in
set_option maxHeartbeats 8000000 in
theorem rencT_any (W H : Int) (A : Option Addr) (n c : Nat) (l : List Int) (hn : l.length = n) (hlb : ∀ v ∈ l, 0 ≤ v ∧ v ≤ 65535) (B : Nat) (w : World) (h : Us w B A l) (hB : B ≤ w.heap.size) :
    Calls Tryz.prog 15 #[imgV W H A n c, .bool true] w (EncP true w W H l) := by
  obtain ⟨w1, hw1, hi, hb⟩ := newImg W H A n c w
  have HW1 := Lib.hid hw1
  have HI := Lib.hid hi
  have HB := Lib.hid hb
  have HV := Lib.hid (Vs.below h (hb.mono hB))
  obtain ⟨i0, hti, hz0, hz1, hz2⟩ := info_parts info_u8
  have H0 := Lib.hid h
  clear hw1 hi hb h
  go_enter Tryz.func15, Tryz.ntmps15
  go_upto_region 1 with (fail)
  rw [HW1.out]
  clear HW1
  have q0 := HI.out.c0; have q1 := HI.out.c1; have q2 := HI.out.c2
  go_wp2_with fail
  refine (refGood_any W H A n c w1).mono ?_
  rintro e w2 ⟨rfl, hb2⟩
  have HI2 := Lib.hid (HI.out.call hb2)
  have HB2 := Lib.hid (HB.out.trans (hb2.mono HB.out.size))
  have HV2 := Lib.hid (Vs.below HV.out (hb2.mono (by have := HB.out.size; omega)))
  clear hb2 HI HB HV q0 q1 q2
  cases hg : goodB W H n with
  | false =>
    have HG := Lib.hid hg
    clear hg
    go_wp2_with fail
    go_ret2
    exact .inl ⟨by rw [hn]; exact HG.out, rfl, HB2.out⟩
  | true =>
  obtain ⟨W, H, rfl, rfl, hn4, hf, hw1, hw2, hh1, hh2⟩ := goodB_nat hg
  obtain ⟨L, hL⟩ : ∃ L, pxL l (W * H) = L := ⟨_, rfl⟩
  have HR : Hid (∀ e w' N, (encB true W H L).length = N → (∃ A c, e = .returned (.tuple #[.slice A N c, .int .i64 0]) ∧ w'.ownsRow w.heap.size 5 1 (.slice A N c) N (bytesV (encB true W H L)) ∧ Below w.heap.size w w') → EncP true w W H l e w') := Lib.hid (fun e w' N hN k => .inr ⟨by rw [hn]; exact hg, by simpa only [Int.toNat_natCast, hL, hN] using k⟩)
  have HLN : Hid (L.length = W * H) := Lib.hid (by rw [← hL, pxL_length])
  have HPX : Hid (∀ y x, y < H → x < W → ∃ h : x < (rowL W L y).length, (rowL W L y)[x] = pxAt l (4 * (y * W + x))) := Lib.hid (by
    intro y x hy hx
    have h1 := rowL_length (k := y) (show L.length = W * H by rw [← hL, pxL_length]) hy
    refine ⟨by omega, ?_⟩
    unfold rowL
    rw [List.getElem_take, List.getElem_drop]
    have hm := Nat.mul_le_mul_right W (show y + 1 ≤ H by omega)
    rw [Nat.succ_mul, Nat.mul_comm H W] at hm
    have h2 := pxL_get l (W * H) (y * W + x) (by omega)
    rw [List.getD_eq_getElem?_getD, List.getElem?_eq_getElem (by rw [pxL_length]; omega), Option.getD_some] at h2
    subst hL
    exact h2)
  have HPD : Hid (∀ k, (0 ≤ (pxAt l k).r ∧ (pxAt l k).r ≤ 65535) ∧ (0 ≤ (pxAt l k).g ∧ (pxAt l k).g ≤ 65535) ∧ (0 ≤ (pxAt l k).b ∧ (pxAt l k).b ≤ 65535) ∧ (0 ≤ (pxAt l k).a ∧ (pxAt l k).a ≤ 65535)) := Lib.hid (by
    have hd : ∀ j, 0 ≤ l.getD j 0 ∧ l.getD j 0 ≤ 65535 := fun j => by
      by_cases hj : j < l.length
      · rw [List.getD_eq_getElem?_getD, List.getElem?_eq_getElem hj]; exact hlb _ (List.getElem_mem hj)
      · rw [List.getD_eq_getElem?_getD, List.getElem?_eq_none (by omega)]; simp
    exact fun k => ⟨hd _, hd _, hd _, hd _⟩)
  obtain ⟨r, o, rfl, hrB, hsm⟩ := Us.smp HV2.out (by have := Nat.mul_pos hw1 hh1; omega)
  have HSM0 : Hid (Smp w r o l) := Lib.hid (by
    obtain ⟨r', o', e, _, hs⟩ := Us.smp H0.out (by have := Nat.mul_pos hw1 hh1; omega)
    injection e with e
    injection e with e1 e2
    subst e1 e2
    exact hs)
  have HN4 := Lib.hid hn4
  have HNL := Lib.hid hn
  have q0 := HI2.out.c0; have q1 := HI2.out.c1; have q2 := HI2.out.c2
  have hrf := row_fits true W
  obtain ⟨R, hR⟩ : ∃ R, rowN true W = R := ⟨_, rfl⟩
  have hMR : (W * 32 + 31) / 32 * 4 = R := by rw [← hR]; rfl
  have HMR : Hid (((W : Int) * 32 + 31) / 32 * 4 = (R : Int)) := Lib.hid (by omega)
  rw [hR] at hrf
  obtain ⟨T, hT⟩ : ∃ T, R * H = T := ⟨_, rfl⟩
  have hTb : T ≤ 278528 := by
    have e2 : R * H ≤ (4 * W + 4) * H := Nat.mul_le_mul_right H hrf.2
    rw [Nat.add_mul, Nat.mul_assoc] at e2
    omega
  have m2 : wrap64 ((R : Int) * (H : Int)) = (T : Int) := by rw [← Int.natCast_mul, hT]; exact IntWalk.wrap64_in _ (by omega)
  have HRR := Lib.hid hR; have HTT := Lib.hid hT; have HF := Lib.hid hf; have HRF := Lib.hid hrf
  clear hf hrf hg hL hsm hn4 hn hlb HV2 hR hMR hT
  have hs2 := HB2.out.size
  go_upto_region 7 with (fail)
  rw [HMR.out]
  go_upto_region 8 with (at_make; refine wpList_make_full _ rfl (.tmp 26) (.tmp 26) 22 rfl w2.heap.size 5 i0 (.int .u8 0) 1 Tryz.underlying22 hti hz0 hz1 .i64 .i64 122 122 122 rfl rfl rfl rfl (by rw [hz2]; omega) (by unfold maxLen; omega) (Nat.le_refl _) ?_; intro w3 hown3 hg3)
  rw [make_u8] at hown3
  have hu3 : Upd No w2 w3 := (Upd.of_grown hg3).mono (fun k _ h => by simp at h)
  have f0 := hown3.frozenAt 0; have f1 := hown3.frozenAt 1
  have d0 := hown3.cellAt 0 (by omega); have d1 := hown3.cellAt 1 (by omega)
  have hd0 : w3.cell? ⟨w2.heap.size, 0, none⟩ = some (.int .u8 0) := d0
  have hd1 : w3.cell? ⟨w2.heap.size, 1, none⟩ = some (.int .u8 0) := d1
  obtain ⟨l0, hl0⟩ : ∃ x, x = ((List.replicate 122 (0 : UInt8)).set 0 66).set 1 77 := ⟨_, rfl⟩
  have hown4 : ((w3.setCell ⟨w2.heap.size, 0, none⟩ (.int .u8 66)).setCell ⟨w2.heap.size, 1, none⟩ (.int .u8 77)).ownsRow w2.heap.size 5 1 (.slice (some ⟨w2.heap.size, 0, none⟩) 122 122) 122 (bytesV l0) := by
    have h9 := ((hown3.stored 0 (.int .u8 66)).1.stored 1 (.int .u8 77)).1
    rw [hl0]
    exact h9
  have HI3 := HI2.out.call (show Below w2.heap.size w2 w3 from hu3.fresh)
  have HS0 : Hid (DcS w W H (.slice (some ⟨r, o, none⟩) n c) 122 l0 (some ⟨w2.heap.size, 0, none⟩) 122 ((w3.setCell ⟨w2.heap.size, 0, none⟩ (.int .u8 66)).setCell ⟨w2.heap.size, 1, none⟩ (.int .u8 77))) := Lib.hid (by
    have hs3 := hu3.size
    have hil := HI2.out.blk.lt
    have u4 : Upd (· = w2.heap.size) w3 ((w3.setCell ⟨w2.heap.size, 0, none⟩ (.int .u8 66)).setCell ⟨w2.heap.size, 1, none⟩ (.int .u8 77)) := ((Upd.refl (· = w2.heap.size) w3).setCell (fun _ => rfl) _).setCell (fun _ => rfl) _
    have hbel3 : Below w.heap.size w w3 := HB2.out.trans (hu3.fresh.mono hs2)
    exact ⟨IB.of (HI3.blk.upd u4 (by omega)), own_low hown4 (by omega), by rw [hl0]; simp, hbel3.trans (u4.below hbel3.size (fun j hj e => by omega))⟩)
  have HE0 := Lib.hid hl0
  clear hown3 hg3 hu3 hown4 HI3 hl0 HI2 q0 q1 q2 d0 d1 hti hz0 hz1 hz2
  go_upto_region 9 with (fail)
  clear f0 f1 hd0 hd1
  generalize (w3.setCell ⟨w2.heap.size, 0, none⟩ (.int .u8 66)).setCell ⟨w2.heap.size, 1, none⟩ (.int .u8 77) = p0 at *
  obtain ⟨A0, hA0⟩ : ∃ A, A = some (⟨w2.heap.size, 0, none⟩ : Addr) := ⟨_, rfl⟩
  rw [← hA0] at HS0 ⊢
  clear hA0
  have v1 := HS0.out.ib.c1
  have HC := Lib.hid (setr_any p0 p0.heap.size 122 A0 122 l0 HS0.out.len HS0.out.bs (Nat.le_refl _) (by omega) 2 4 (122 + (T : Int)) 2 4 (122 + T) rfl rfl (by omega) (by omega) (by omega) (by omega) (by omega))
  go_wp2_with fail
  refine HC.out.mono ?_
  rintro e p1 ⟨A1, c1, rfl, ho, hbx⟩
  obtain ⟨l1, hl⟩ : ∃ l, l = setB l0 2 4 false (122 + T) 4 := ⟨_, rfl⟩
  rw [← hl] at ho
  have HS1 := Lib.hid (HS0.out.next ho (by rw [hl, setB_length]; exact HS0.out.len) hbx)
  have HE1 := Lib.hid hl
  clear hl ho hbx HC HS0 v1
  have HC := Lib.hid (setr_any p1 p1.heap.size 122 A1 c1 l1 HS1.out.len HS1.out.bs (Nat.le_refl _) (by omega) 10 4 122 10 4 122 rfl rfl (by rfl) (by omega) (by omega) (by omega) (by omega))
  go_wp2_with fail
  refine HC.out.mono ?_
  rintro e p2 ⟨A2, c2, rfl, ho, hbx⟩
  obtain ⟨l2, hl⟩ : ∃ l, l = setB l1 10 4 false 122 4 := ⟨_, rfl⟩
  rw [← hl] at ho
  have HS2 := Lib.hid (HS1.out.next ho (by rw [hl, setB_length]; exact HS1.out.len) hbx)
  have HE2 := Lib.hid hl
  clear hl ho hbx HC HS1
  have HC := Lib.hid (setr_any p2 p2.heap.size 122 A2 c2 l2 HS2.out.len HS2.out.bs (Nat.le_refl _) (by omega) 14 4 108 14 4 108 rfl rfl (by rfl) (by omega) (by omega) (by omega) (by omega))
  go_wp2_with fail
  refine HC.out.mono ?_
  rintro e p3 ⟨A3, c3, rfl, ho, hbx⟩
  obtain ⟨l3, hl⟩ : ∃ l, l = setB l2 14 4 false 108 4 := ⟨_, rfl⟩
  rw [← hl] at ho
  have HS3 := Lib.hid (HS2.out.next ho (by rw [hl, setB_length]; exact HS2.out.len) hbx)
  have HE3 := Lib.hid hl
  clear hl ho hbx HC HS2
  have v0 := HS3.out.ib.c0
  have HC := Lib.hid (setr_any p3 p3.heap.size 122 A3 c3 l3 HS3.out.len HS3.out.bs (Nat.le_refl _) (by omega) 18 4 (W : Int) 18 4 W rfl rfl (by omega) (by omega) (by omega) (by omega) (by omega))
  go_wp2_with fail
  refine HC.out.mono ?_
  rintro e p4 ⟨A4, c4, rfl, ho, hbx⟩
  obtain ⟨l4, hl⟩ : ∃ l, l = setB l3 18 4 false W 4 := ⟨_, rfl⟩
  rw [← hl] at ho
  have HS4 := Lib.hid (HS3.out.next ho (by rw [hl, setB_length]; exact HS3.out.len) hbx)
  have HE4 := Lib.hid hl
  clear hl ho hbx HC HS3 v0
  have v1 := HS4.out.ib.c1
  have HC := Lib.hid (setr_any p4 p4.heap.size 122 A4 c4 l4 HS4.out.len HS4.out.bs (Nat.le_refl _) (by omega) 22 4 (H : Int) 22 4 H rfl rfl (by omega) (by omega) (by omega) (by omega) (by omega))
  go_wp2_with fail
  refine HC.out.mono ?_
  rintro e p5 ⟨A5, c5, rfl, ho, hbx⟩
  obtain ⟨l5, hl⟩ : ∃ l, l = setB l4 22 4 false H 4 := ⟨_, rfl⟩
  rw [← hl] at ho
  have HS5 := Lib.hid (HS4.out.next ho (by rw [hl, setB_length]; exact HS4.out.len) hbx)
  have HE5 := Lib.hid hl
  clear hl ho hbx HC HS4 v1
  have HC := Lib.hid (setr_any p5 p5.heap.size 122 A5 c5 l5 HS5.out.len HS5.out.bs (Nat.le_refl _) (by omega) 26 2 1 26 2 1 rfl rfl (by rfl) (by omega) (by omega) (by omega) (by omega))
  go_wp2_with fail
  refine HC.out.mono ?_
  rintro e p6 ⟨A6, c6, rfl, ho, hbx⟩
  obtain ⟨l6, hl⟩ : ∃ l, l = setB l5 26 2 false 1 2 := ⟨_, rfl⟩
  rw [← hl] at ho
  have HS6 := Lib.hid (HS5.out.next ho (by rw [hl, setB_length]; exact HS5.out.len) hbx)
  have HE6 := Lib.hid hl
  clear hl ho hbx HC HS5
  have HC := Lib.hid (setr_any p6 p6.heap.size 122 A6 c6 l6 HS6.out.len HS6.out.bs (Nat.le_refl _) (by omega) 28 2 32 28 2 32 rfl rfl (by rfl) (by omega) (by omega) (by omega) (by omega))
  go_wp2_with fail
  refine HC.out.mono ?_
  rintro e p7 ⟨A7, c7, rfl, ho, hbx⟩
  obtain ⟨l7, hl⟩ : ∃ l, l = setB l6 28 2 false 32 2 := ⟨_, rfl⟩
  rw [← hl] at ho
  have HS7 := Lib.hid (HS6.out.next ho (by rw [hl, setB_length]; exact HS6.out.len) hbx)
  have HE7 := Lib.hid hl
  clear hl ho hbx HC HS6
  have v1 := HS7.out.ib.c1
  have HC := Lib.hid (setr_any p7 p7.heap.size 122 A7 c7 l7 HS7.out.len HS7.out.bs (Nat.le_refl _) (by omega) 34 4 (T : Int) 34 4 T rfl rfl (by omega) (by omega) (by omega) (by omega) (by omega))
  go_wp2_with fail
  refine HC.out.mono ?_
  rintro e p8 ⟨A8, c8, rfl, ho, hbx⟩
  obtain ⟨l8, hl⟩ : ∃ l, l = setB l7 34 4 false T 4 := ⟨_, rfl⟩
  rw [← hl] at ho
  have HS8 := Lib.hid (HS7.out.next ho (by rw [hl, setB_length]; exact HS7.out.len) hbx)
  have HE8 := Lib.hid hl
  clear hl ho hbx HC HS7 v1
  have HC := Lib.hid (setr_any p8 p8.heap.size 122 A8 c8 l8 HS8.out.len HS8.out.bs (Nat.le_refl _) (by omega) 30 4 3 30 4 3 rfl rfl (by rfl) (by omega) (by omega) (by omega) (by omega))
  go_wp2_with fail
  refine HC.out.mono ?_
  rintro e p9 ⟨A9, c9, rfl, ho, hbx⟩
  obtain ⟨l9, hl⟩ : ∃ l, l = setB l8 30 4 false 3 4 := ⟨_, rfl⟩
  rw [← hl] at ho
  have HS9 := Lib.hid (HS8.out.next ho (by rw [hl, setB_length]; exact HS8.out.len) hbx)
  have HE9 := Lib.hid hl
  clear hl ho hbx HC HS8
  have HC := Lib.hid (setr_any p9 p9.heap.size 122 A9 c9 l9 HS9.out.len HS9.out.bs (Nat.le_refl _) (by omega) 54 4 16711680 54 4 16711680 rfl rfl (by rfl) (by omega) (by omega) (by omega) (by omega))
  go_wp2_with fail
  refine HC.out.mono ?_
  rintro e p10 ⟨A10, c10, rfl, ho, hbx⟩
  obtain ⟨l10, hl⟩ : ∃ l, l = setB l9 54 4 false 16711680 4 := ⟨_, rfl⟩
  rw [← hl] at ho
  have HS10 := Lib.hid (HS9.out.next ho (by rw [hl, setB_length]; exact HS9.out.len) hbx)
  have HE10 := Lib.hid hl
  clear hl ho hbx HC HS9
  have HC := Lib.hid (setr_any p10 p10.heap.size 122 A10 c10 l10 HS10.out.len HS10.out.bs (Nat.le_refl _) (by omega) 58 4 65280 58 4 65280 rfl rfl (by rfl) (by omega) (by omega) (by omega) (by omega))
  go_wp2_with fail
  refine HC.out.mono ?_
  rintro e p11 ⟨A11, c11, rfl, ho, hbx⟩
  obtain ⟨l11, hl⟩ : ∃ l, l = setB l10 58 4 false 65280 4 := ⟨_, rfl⟩
  rw [← hl] at ho
  have HS11 := Lib.hid (HS10.out.next ho (by rw [hl, setB_length]; exact HS10.out.len) hbx)
  have HE11 := Lib.hid hl
  clear hl ho hbx HC HS10
  have HC := Lib.hid (setr_any p11 p11.heap.size 122 A11 c11 l11 HS11.out.len HS11.out.bs (Nat.le_refl _) (by omega) 62 4 255 62 4 255 rfl rfl (by rfl) (by omega) (by omega) (by omega) (by omega))
  go_wp2_with fail
  refine HC.out.mono ?_
  rintro e p12 ⟨A12, c12, rfl, ho, hbx⟩
  obtain ⟨l12, hl⟩ : ∃ l, l = setB l11 62 4 false 255 4 := ⟨_, rfl⟩
  rw [← hl] at ho
  have HS12 := Lib.hid (HS11.out.next ho (by rw [hl, setB_length]; exact HS11.out.len) hbx)
  have HE12 := Lib.hid hl
  clear hl ho hbx HC HS11
  have HC := Lib.hid (setr_any p12 p12.heap.size 122 A12 c12 l12 HS12.out.len HS12.out.bs (Nat.le_refl _) (by omega) 66 4 4278190080 66 4 4278190080 rfl rfl (by rfl) (by omega) (by omega) (by omega) (by omega))
  go_wp2_with fail
  refine HC.out.mono ?_
  rintro e p13 ⟨A13, c13, rfl, ho, hbx⟩
  obtain ⟨l13, hl⟩ : ∃ l, l = setB l12 66 4 false 4278190080 4 := ⟨_, rfl⟩
  rw [← hl] at ho
  have HS13 := Lib.hid (HS12.out.next ho (by rw [hl, setB_length]; exact HS12.out.len) hbx)
  have HE13 := Lib.hid hl
  clear hl ho hbx HC HS12
  have HHd : Hid (headB true W H T = l13) := Lib.hid (by rw [HE13.out, HE12.out, HE11.out, HE10.out, HE9.out, HE8.out, HE7.out, HE6.out, HE5.out, HE4.out, HE3.out, HE2.out, HE1.out, HE0.out]; kernel_rfl)
  clear HE0 HE1 HE2 HE3 HE4 HE5 HE6 HE7 HE8 HE9 HE10 HE11 HE12 HE13
  have v1 := HS13.out.ib.c1
  clear H0 m2
  go_wp2_with fail
  obtain ⟨pz, hpz⟩ : ∃ x, x = p13 := ⟨_, rfl⟩
  subst hpz
  go_loopw [9, 10] (fun v y wr => ∃ k : Nat, k ≤ H ∧ y = .int .i64 ((H : Int) - 1 - (k : Int)) ∧ ∃ A c' N, v = .slice A N c' ∧ Hid (N = 122 + R * k) ∧ Hid (DcS w W H (.slice (some ⟨r, o, none⟩) n c) N (l13 ++ rvB true W H L k) A c' wr)) (fun _ y _ => (intOf y + 1).toNat)
  case atStart => exact ⟨0, Nat.zero_le _, by simp, A13, c13, 122, rfl, Lib.hid (by simp), by rw [rvB_zero, List.append_nil]; exact HS13⟩
  case round =>
    clear HS13 v1
    obtain ⟨k, hk, rfl, Ao, co, N, rfl, HN, HSo⟩ := hrel
    by_cases hkH : k < H
    · obtain ⟨Y, hY⟩ : ∃ Y : Nat, (H : Int) - 1 - (k : Int) = (Y : Int) := ⟨H - 1 - k, by omega⟩
      have HY2 : Hid (H - 1 - k = Y) := Lib.hid (by omega)
      have hYH : Y < H := by omega
      have HYk : Hid ((Y : Int) - 1 = (H : Int) - 1 - ((k + 1 : Nat) : Int)) := Lib.hid (by omega)
      have hNb : N ≤ 557056 := nb_one HN.out HTT.out hk hTb (by omega)
      rw [hY]
      clear hY
      obtain ⟨wo, hwo⟩ : ∃ x, x = wr := ⟨_, rfl⟩
      subst hwo
      have hol := HSo.out.lt
      have hrowlt : ∀ q, (Value.slice Ao N co).ownBlock = some q → q < wo.heap.size := fun q hq => (HSo.out.own.lt q hq).2
      have HRL := Lib.hid hrowlt
      clear hrowlt
      go_wp2_with fail
      go_loopw [11, 12] (fun v x wr => ∃ j : Nat, j ≤ W ∧ x = .int .i64 (j : Int) ∧ ∃ A1 c1 N1, v = .slice A1 N1 c1 ∧ Hid (N1 = pxN true * j) ∧ Hid (wr.ownsRow wo.heap.size 5 1 (.slice A1 N1 c1) N1 (bytesV (pxsB true ((rowL W L Y).take j))) ∧ Below wo.heap.size wo wr)) (fun _ x _ => W - (intOf x).toNat)
      case atStart => exact ⟨0, Nat.zero_le _, rfl, none, 0, 0, rfl, Lib.hid (by simp), Lib.hid ⟨by simpa [pxsB, bytesV] using World.ownsRow_nil wo wo.heap.size 5 1, Below.refl _ _⟩⟩
      case round =>
        obtain ⟨j, hj, rfl, A1, c1, N1, rfl, HN1, HL⟩ := hrel
        have hib : IB wr w.heap.size (.int .i64 (W : Int)) (.int .i64 (H : Int)) (.slice (some ⟨r, o, none⟩) n c) := IB.of (HSo.out.ib.blk.upd (Upd.of_below HL.out.2) (by omega))
        have q0 := hib.c0; have q1 := hib.c1; have q2 := hib.c2
        have hN1b : N1 ≤ 16384 := nb_two HN1.out hj hw2
        by_cases hjW : j < W
        · have hsm1 : Smp wr r o l := HSM0.out.below (HSo.out.bel.trans (HL.out.2.mono (by omega))) (by omega)
          have HPx := Lib.hid (pixel_any (w := wr) (c := c) HNL.out HN4.out HF.out hsm1 j Y hjW hYH)
          obtain ⟨hxl, hxe⟩ := HPX.out Y j hYH hjW
          obtain ⟨b0, b1, b2, b3⟩ := HPD.out (4 * (Y * W + j))
          have HSt : Hid (pxsB true ((rowL W L Y).take (j + 1)) = pxsB true ((rowL W L Y).take j) ++ pxB true (pxAt l (4 * (Y * W + j))).r (pxAt l (4 * (Y * W + j))).g (pxAt l (4 * (Y * W + j))).b (pxAt l (4 * (Y * W + j))).a) := Lib.hid (by rw [pxsB_step true _ j hxl, hxe])
          generalize pxAt l (4 * (Y * W + j)) = x at *
          have i1 : (j : Int) < (W : Int) := by omega
          clear hxe hxl hsm1 hib
          go_wp2_with fail
          refine HPx.out.mono ?_
          rintro e w4 ⟨rfl, hb4⟩
          have hs4 := hb4.size
          have hws := HL.out.2.size
          have HL4 : Hid (w4.ownsRow wo.heap.size 5 1 (.slice A1 N1 c1) N1 (bytesV (pxsB true ((rowL W L Y).take j))) ∧ Below wo.heap.size wo w4) := Lib.hid ⟨own_upd HL.out.1 (Upd.of_fresh hb4) (fun _ _ => id), HL.out.2.trans (hb4.mono hws)⟩
          clear hb4 HPx q0 q1 q2 HL
          generalize pxsB true ((rowL W L Y).take j) = P at *
          go_upto_region 31 with (fail)
          have hcb := Blk.new w4 49 (colC x)
          have HC5 := Lib.hid hcb
          have HL5 : Hid ((w4.alloc (.cells (colC x) 49)).ownsRow wo.heap.size 5 1 (.slice A1 N1 c1) N1 (bytesV P) ∧ Below wo.heap.size wo (w4.alloc (.cells (colC x) 49))) := Lib.hid ⟨own_upd HL4.out.1 ((Upd.refl No w4).alloc _) (fun _ _ => id), HL4.out.2.alloc (by omega) _⟩
          obtain ⟨bc, hbc⟩ : ∃ bc, w4.heap.size = bc := ⟨_, rfl⟩
          rw [hbc] at HC5 ⊢
          clear hcb HL4 hbc
          generalize w4.alloc (.cells (colC x) 49) = w5 at *
          have hL6 : w5.drew.ownsRow wo.heap.size 5 1 (.slice A1 N1 c1) N1 (bytesV P) := HL5.out.1
          have hb6 : Below wo.heap.size wo w5.drew := HL5.out.2.drew
          have hc6 : Blk w5.drew bc 49 (colC x) := HC5.out
          clear HC5 HL5
          have HC6 := Lib.hid hc6
          refine wp_region_T (fun W' => Blk W' bc 49 (colC x)) 12 (by kernel_rfl) 13 rfl ?_
          generalize w5.drew = w6 at *
          refine wpAnyT_take (i := 0) (v := .slice A1 N1 c1) rfl (by kernel_rfl) (by kernel_rfl) (by kernel_rfl) (by kernel_rfl) (fun _ _ _ h => h) (Or.inl ⟨by rfl, ?_⟩) HC6.out ?_
          · intro wz hz
            go_simp
          try simp only [Act.put, List.getElem_toArray, List.getElem_cons_succ, List.getElem_cons_zero, List.setIfInBounds_toArray, List.set_cons_zero, List.set_cons_succ]
          refine wpAnyT_take (i := 1) (v := .pointer (some ⟨bc, 2, none⟩)) rfl (by kernel_rfl) (by kernel_rfl) (by kernel_rfl) (by kernel_rfl) (fun _ _ _ h => h) (Or.inl ⟨by rfl, ?_⟩) HC6.out ?_
          · intro wz hz
            go_simp
          try simp only [Act.put, List.getElem_toArray, List.getElem_cons_succ, List.getElem_cons_zero, List.setIfInBounds_toArray, List.set_cons_zero, List.set_cons_succ]
          refine wpAnyT_take (i := 2) (v := .int .u16 x.b) rfl (by kernel_rfl) (by kernel_rfl) (by kernel_rfl) (by kernel_rfl) (fun _ _ _ h => h) (Or.inl ⟨by rfl, ?_⟩) HC6.out ?_
          · intro wz hz
            have yz : wz.cell? ⟨bc, 2, none⟩ = some (.int .u16 x.b) := hz.cell 2
            go_simp
          try simp only [Act.put, List.getElem_toArray, List.getElem_cons_succ, List.getElem_cons_zero, List.setIfInBounds_toArray, List.set_cons_zero, List.set_cons_succ]
          refine wpAnyT_take (i := 4) (v := .pointer (some ⟨bc, 1, none⟩)) rfl (by kernel_rfl) (by kernel_rfl) (by kernel_rfl) (by kernel_rfl) (fun _ _ _ h => h) (Or.inl ⟨by rfl, ?_⟩) HC6.out ?_
          · intro wz hz
            go_simp
          try simp only [Act.put, List.getElem_toArray, List.getElem_cons_succ, List.getElem_cons_zero, List.setIfInBounds_toArray, List.set_cons_zero, List.set_cons_succ]
          refine wpAnyT_take (i := 5) (v := .int .u16 x.g) rfl (by kernel_rfl) (by kernel_rfl) (by kernel_rfl) (by kernel_rfl) (fun _ _ _ h => h) (Or.inl ⟨by rfl, ?_⟩) HC6.out ?_
          · intro wz hz
            have yz : wz.cell? ⟨bc, 1, none⟩ = some (.int .u16 x.g) := hz.cell 1
            go_simp
          try simp only [Act.put, List.getElem_toArray, List.getElem_cons_succ, List.getElem_cons_zero, List.setIfInBounds_toArray, List.set_cons_zero, List.set_cons_succ]
          refine wpAnyT_take (i := 7) (v := .pointer (some ⟨bc, 0, none⟩)) rfl (by kernel_rfl) (by kernel_rfl) (by kernel_rfl) (by kernel_rfl) (fun _ _ _ h => h) (Or.inl ⟨by rfl, ?_⟩) HC6.out ?_
          · intro wz hz
            go_simp
          try simp only [Act.put, List.getElem_toArray, List.getElem_cons_succ, List.getElem_cons_zero, List.setIfInBounds_toArray, List.set_cons_zero, List.set_cons_succ]
          refine wpAnyT_take (i := 8) (v := .int .u16 x.r) rfl (by kernel_rfl) (by kernel_rfl) (by kernel_rfl) (by kernel_rfl) (fun _ _ _ h => h) (Or.inl ⟨by rfl, ?_⟩) HC6.out ?_
          · intro wz hz
            have yz : wz.cell? ⟨bc, 0, none⟩ = some (.int .u16 x.r) := hz.cell 0
            go_simp
          try simp only [Act.put, List.getElem_toArray, List.getElem_cons_succ, List.getElem_cons_zero, List.setIfInBounds_toArray, List.set_cons_zero, List.set_cons_succ]
          refine wpAnyT_one (i := 3) rfl (by kernel_rfl) (by rfl) ?_
          go_simp
          refine (rdown_any x.b b2 _).mono ?_
          rintro e wa ⟨rfl, rfl⟩
          refine ⟨HC6.out, ?_⟩
          try simp only [Act.put, List.getElem_toArray, List.getElem_cons_succ, List.getElem_cons_zero, List.setIfInBounds_toArray, List.set_cons_zero, List.set_cons_succ]
          refine wpAnyT_one (i := 6) rfl (by kernel_rfl) (by rfl) ?_
          go_simp
          refine (rdown_any x.g b1 _).mono ?_
          rintro e wb ⟨rfl, rfl⟩
          refine ⟨HC6.out, ?_⟩
          try simp only [Act.put, List.getElem_toArray, List.getElem_cons_succ, List.getElem_cons_zero, List.setIfInBounds_toArray, List.set_cons_zero, List.set_cons_succ]
          refine wpAnyT_one (i := 9) rfl (by kernel_rfl) (by rfl) ?_
          go_simp
          refine (rdown_any x.r b0 _).mono ?_
          rintro e w6 ⟨rfl, rfl⟩
          refine ⟨HC6.out, ?_⟩
          try simp only [Act.put, List.getElem_toArray, List.getElem_cons_succ, List.getElem_cons_zero, List.setIfInBounds_toArray, List.set_cons_zero, List.set_cons_succ]
          obtain ⟨A7, c7, w7, hrun, o7, hg7⟩ := append8 wo.heap.size (w6.alloc (.cells #[.int .u8 ((dn8 x.b).toNat : Nat), .int .u8 ((dn8 x.g).toNat : Nat), .int .u8 ((dn8 x.r).toNat : Nat)] 5)) _ _ _ (hL6.alloc _) (by rw [World.size_alloc]; have := hb6.size; omega) (w6.heap.size + 1) (some ⟨w6.heap.size, 0, none⟩) 3 3 [dn8 x.b, dn8 x.g, dn8 x.r] rfl (bs_lits w6 5 _) (by omega) 22
          rw [← bytesV_append] at o7
          have hb7 := (hb6.alloc (by have := hb6.size; omega) (.cells #[.int .u8 ((dn8 x.b).toNat : Nat), .int .u8 ((dn8 x.g).toNat : Nat), .int .u8 ((dn8 x.r).toNat : Nat)] 5)).grown hg7 (by rw [World.size_alloc]; have := hb6.size; omega) (fun q hq => (hL6.lt q hq).1)
          have hc7 := (hc6.alloc (.cells #[.int .u8 ((dn8 x.b).toNat : Nat), .int .u8 ((dn8 x.g).toNat : Nat), .int .u8 ((dn8 x.r).toNat : Nat)] 5)).upd (Upd.of_grown hg7) (fun e => own_blk_ne hL6 hc6 (by decide) e.symm)
          have HC7 := Lib.hid hc7
          have y3 : w7.cell? ⟨bc, 3, none⟩ = some (.int .u16 x.a) := hc7.cell 3
          have HRN := Lib.hid hrun; have HO7 := Lib.hid o7; have HB7 := Lib.hid hb7
          clear hrun o7 hg7 hb7 hL6 hb6 hc6 hc7
          refine wpAnyT_one (i := 10) rfl (by kernel_rfl) (by rfl) ?_
          go_simp
          refine ⟨HC6.out.alloc _, ?_⟩
          try simp only [Act.put, List.getElem_toArray, List.getElem_cons_succ, List.getElem_cons_zero, List.setIfInBounds_toArray, List.set_cons_zero, List.set_cons_succ]
          refine wpAnyT_one (i := 11) rfl (by kernel_rfl) (by rfl) ?_
          refine wp_append_run (.tmp 95) (.tmp 105) _ rfl rfl rfl HRN.out ⟨fun _ => HC7.out, ?_⟩
          try simp only [Act.put, List.getElem_toArray, List.getElem_cons_succ, List.getElem_cons_zero, List.setIfInBounds_toArray, List.set_cons_zero, List.set_cons_succ]
          refine wpAnyT_one (i := 12) rfl (by kernel_rfl) (by rfl) ?_
          go_simp
          refine wpAnyT_done (by kernel_rfl) ?_
          go_wp2_with fail
          refine (rdown_any x.a b3 w7).mono ?_
          rintro e w8 ⟨rfl, rfl⟩
          obtain ⟨A9, c9, w9, hrun, o9, hg9⟩ := append8 wo.heap.size (w8.alloc (.cells #[.int .u8 ((dn8 x.a).toNat : Nat)] 5)) _ _ _ (HO7.out.alloc _) (by rw [World.size_alloc]; have := HB7.out.size; omega) (w8.heap.size + 1) (some ⟨w8.heap.size, 0, none⟩) 1 1 [dn8 x.a] rfl (bs_lits w8 5 _) (by omega) 22
          rw [← bytesV_append] at o9
          have hb9 := (HB7.out.alloc (by have := HB7.out.size; omega) (.cells #[.int .u8 ((dn8 x.a).toNat : Nat)] 5)).grown hg9 (by rw [World.size_alloc]; have := HB7.out.size; omega) (fun q hq => (HO7.out.lt q hq).1)
          have HRN9 := Lib.hid hrun; have HO9 := Lib.hid o9; have HB9 := Lib.hid hb9
          clear hrun o9 hg9 hb9 y3
          go_wp2_with (at_builtin; refine wpList_append_run rfl (.tmp 108) (.tmp 112) _ rfl rfl rfl HRN9.out ?_)
          go_roundw
          case rel => exact ⟨j + 1, by omega, by go_num, A9, c9, N1 + 3 + 1, rfl, Lib.hid (by have := HN1.out; simp [pxN] at this ⊢; omega), Lib.hid ⟨by rw [HSt.out]; simpa [pxB, List.append_assoc] using HO9.out, HB9.out⟩⟩
          case measure => simp [intOf]; omega
        · obtain rfl : W = j := by omega
          have hlen : (rowL W L Y).length = W := rowL_length HLN.out hYH
          have HL2 : Hid (wr.ownsRow wo.heap.size 5 1 (.slice A1 N1 c1) N1 (bytesV (pxsB true (rowL W L Y))) ∧ Below wo.heap.size wo wr) := Lib.hid (by
            have e1 : (rowL W L Y).take W = rowL W L Y := List.take_of_length_le (by rw [hlen]; exact Nat.le_refl _)
            have e2 := HL.out
            rw [e1] at e2
            exact e2)
          have hPl : (pxsB true (rowL W L Y)).length = N1 := by rw [pxsB_length, hlen, HN1.out]
          have hRb : R ≤ 16388 := by have := HRF.out.2; omega
          have hNR : N1 ≤ R := by rw [HN1.out]; exact HRF.out.1
          have HRow : Hid (rowB true W (rowL W L Y) = pxsB true (rowL W L Y) ++ List.replicate (R - N1) 0) := Lib.hid (by rw [rowB, HRR.out, hPl])
          have HRST : Hid (rvB true W H L (k + 1) = rvB true W H L k ++ rowB true W (rowL W L Y)) := Lib.hid (by rw [rvB_step true W H L k hkH, HY2.out])
          have HPl := Lib.hid hPl
          clear HL hib hlen hPl
          generalize pxsB true (rowL W L Y) = P at *
          have i1 : ¬ (W : Int) < (W : Int) := by omega
          clear q1 q2
          go_wp2_with fail
          clear q0
          obtain ⟨wv, hwv⟩ : ∃ x, x = wr := ⟨_, rfl⟩
          subst hwv
          go_loopw [11] (fun v wr => ∃ p A2 c2 N2, v = .slice A2 N2 c2 ∧ Hid (N2 = N1 + p) ∧ N2 ≤ R ∧ Hid (wr.ownsRow wo.heap.size 5 1 (.slice A2 N2 c2) N2 (bytesV (P ++ List.replicate p 0)) ∧ Below wo.heap.size wo wr)) (fun v _ => R - slLen v)
          case atStart => exact ⟨0, A1, c1, N1, rfl, Lib.hid rfl, hNR, by simpa using HL2⟩
          case round =>
            clear HL2
            obtain ⟨p, A2, c2, N2, rfl, HN2, hN2, HL⟩ := hrel
            by_cases hlt : N2 < R
            · have i2 : (N2 : Int) < (R : Int) := by omega
              obtain ⟨A7, c7, w7, hrun, o7, hg7⟩ := append8 wo.heap.size (wr.alloc (.cells #[.int .u8 0] 5)) _ _ _ (HL.out.1.alloc _) (by rw [World.size_alloc]; have := HL.out.2.size; omega) (wr.heap.size + 1) (some ⟨wr.heap.size, 0, none⟩) 1 1 [0] rfl (bs_lits wr 5 _) (by omega) 22
              rw [← bytesV_append] at o7
              have hb7 := (HL.out.2.alloc (by have := HL.out.2.size; omega) (.cells #[.int .u8 0] 5)).grown hg7 (by rw [World.size_alloc]; have := HL.out.2.size; omega) (fun q hq => (HL.out.1.lt q hq).1)
              have HRN := Lib.hid hrun
              have HL7 : Hid (w7.ownsRow wo.heap.size 5 1 (.slice A7 (N2 + 1) c7) (N2 + 1) (bytesV (P ++ List.replicate (p + 1) 0)) ∧ Below wo.heap.size wo w7) := Lib.hid ⟨by rw [List.replicate_succ', ← List.append_assoc]; exact o7, hb7⟩
              clear hrun o7 hg7 hb7 HL
              go_wp2_with (at_builtin; refine wpList_append_run rfl (.tmp 118) (.tmp 119) _ rfl rfl rfl HRN.out ?_)
              go_roundw
              case rel => exact ⟨p + 1, A7, c7, N2 + 1, rfl, Lib.hid (by have := HN2.out; omega), by omega, HL7⟩
              case measure => simp [slLen]; omega
            · obtain rfl : R = N2 := by omega
              have i2 : ¬ (R : Int) < (R : Int) := by omega
              have hP : P ++ List.replicate p 0 = rowB true W (rowL W L Y) := by rw [HRow.out, show p = R - N1 from by have := HN2.out; omega]
              have ho : wr.ownsRow (w.heap.size + 1) 5 1 (.slice Ao N co) N (bytesV (l13 ++ rvB true W H L k)) := own_keep_base HSo.out.own (fun q hq => HRL.out q hq) (Upd.of_below HL.out.2) (fun _ h => h)
              have hbs : Bs wr wr.heap.size A2 (rowB true W (rowL W L Y)) := by
                have hh := HL.out.1
                rw [hP] at hh
                refine Bs.of_own (base := wo.heap.size) (e := 5) (c := c2) ?_
                rw [show (rowB true W (rowL W L Y)).length = R from by rw [← HRR.out]; exact rowB_length _ _ _ (rowL_length HLN.out hYH)]
                exact hh
              have hrlen : (rowB true W (rowL W L Y)).length = R := by rw [← HRR.out]; exact rowB_length _ _ _ (rowL_length HLN.out hYH)
              have hsz := HL.out.2.size
              obtain ⟨A7, c7, w7, hrun, o7, hg7⟩ := append8 (w.heap.size + 1) wr _ _ _ ho (by omega) wr.heap.size A2 R c2 _ hrlen hbs (by omega) 22
              rw [← bytesV_append, List.append_assoc, ← HRST.out] at o7
              have hbw : Below w.heap.size w wr := HSo.out.bel.trans (HL.out.2.mono (by omega))
              have HS7 : Hid (DcS w W H (.slice (some ⟨r, o, none⟩) n c) (N + R) (l13 ++ rvB true W H L (k + 1)) A7 c7 w7) := Lib.hid (by
                have hib : IB wr w.heap.size (.int .i64 (W : Int)) (.int .i64 (H : Int)) (.slice (some ⟨r, o, none⟩) n c) := IB.of (HSo.out.ib.blk.upd (Upd.of_below HL.out.2) (by omega))
                refine ⟨IB.of (hib.blk.upd (Upd.of_grown hg7) (fun e => by have := (ho.lt _ e.symm).1; omega)), o7, ?_, hbw.grown hg7 (by omega) (fun q hq => by have := (ho.lt q hq).1; omega)⟩
                have e1 := own_len o7
                rw [bytesV_length] at e1
                exact e1)
              have HRN := Lib.hid hrun
              clear hP ho hbs hrlen hrun o7 hg7 hbw
              go_wp2_with (at_builtin; refine wpList_append_run rfl (.tmp 121) (.tmp 122) _ rfl rfl rfl HRN.out ?_)
              go_roundw
              case rel => exact ⟨k + 1, by omega, by rw [← HYk.out], A7, c7, N + R, rfl, Lib.hid (by rw [HN.out, Nat.mul_succ, Nat.add_assoc]), HS7⟩
              case measure => first | (simp [intOf]; done) | (simp [intOf]; omega)
    · obtain rfl : H = k := by omega
      have i1 : (H : Int) - 1 - (H : Int) = -1 := by omega
      rw [i1]
      clear i1
      have hN : N = 122 + T := by rw [HN.out, HTT.out]
      subst hN
      have HO := Lib.hid (And.intro (own_low HSo.out.own (show w.heap.size ≤ w.heap.size + 1 by omega)) HSo.out.bel)
      go_wp2_with fail
      go_ret2
      refine HR.out _ _ (122 + T) (by rw [encB_length true W H L HLN.out, HRR.out, HTT.out]; rfl) ⟨Ao, co, rfl, ?_, HO.out.2⟩
      rw [encB, HRR.out, HTT.out, HHd.out, ← rvB_all]
      exact HO.out.1

end Go.Proofs.YtnfjeeflcfmpbaaGreatDoor
