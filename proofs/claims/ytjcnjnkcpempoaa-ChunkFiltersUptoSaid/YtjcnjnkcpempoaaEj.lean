/- The document's Unfilter. -/
import Derived.Test.YtjcnjnkcpempoaaEi
import Derived.Test.YtjcnjnkcpempoaaEh
set_option linter.unusedVariables false
set_option linter.unusedSimpArgs false
namespace Go.Proofs.Ytjcnjnkcpempoaa
open Go.ChangeShapes Go.WideShapes Go.ChangeAt Go.RowKit

section
variable {P : Program} (w : World)
/-- append of one byte to a row of the call's own. -/
theorem wpList_append_byte {ops : Array Oper} {rest : List Oper} {o : Oper} {a : Act} {Q : Exit → Act → World → Prop} (hgd : o.guard = none) (s x : Operand) (t : TypeId)
    (ho : o.op = .call { callee := .builtin .append, args := #[s, x], argTypes := #[t, t] })
    (base : Nat) (e : TypeId) (i : TypeInfo) (ht : P.underlying t = some (.slice e)) (hi : P.info? e = some i) (hz : i.zero = some (.int .u8 0))
    (hsize : i.size = 1) (hby : i.bytes = 1) (A : Option Addr) (n c : Nat) (out : List UInt8) (hs : a.eval s = .slice A n c) (hown : w.ownsRow base e 1 (.slice A n c) n (bytesV out))
    (b : UInt8) (g cx : Nat) (hx : a.eval x = .slice (some ⟨g, 0, none⟩) 1 cx) (hcell : w.cell? ⟨g, 0, none⟩ = some (.int .u8 (b.toNat : Int))) (h47 : n + 1 ≤ 140737488355328) (hbase : base ≤ w.heap.size)
    (h : ∀ gd c' w', w'.ownsRow base e 1 (.slice (some ⟨gd, 0, none⟩) (n + 1) c') (n + 1) (bytesV (out ++ [b])) → Below base w w' → w.grownBy w' (Value.slice A n c).ownBlock → wpList P ops Q rest (a.put o.dst (.slice (some ⟨gd, 0, none⟩) (n + 1) c')) w') : wpList P ops Q (o :: rest) a w := by
  refine wpList_append_lies w hgd s x t ho base e i (.int .u8 0) 1 1 ht hi hz hsize hby rfl (by omega) (.slice A n c) n (bytesV out) hs hown ⟨g, 0, none⟩ 1 cx [.int .u8 (b.toNat : Int)] hx rfl ?_ (by simp [Value.oneCell']) (by omega) (by unfold maxLen; omega) (by omega) hbase w.heap.size rfl ?_
  · intro j u hu
    match j, hu with
    | 0, hu => simp at hu; subst hu; simpa [Addr.add] using hcell
  · intro gd c' w' hown' hg _ _
    have e : bytesV (out ++ [b]) = bytesV out ++ [.int .u8 (b.toNat : Int)] := by simp [bytesV, bv]
    refine h gd c' w' (by rw [e]; exact hown') ((Below.refl base w).grown hg hbase (fun k hk => ?_)) hg
    exact (hown.lt k hk).1
end
theorem at_left {W bpp k j : Nat} {lb r : List UInt8} (hr : r.length = j) : atM (outU W bpp lb k ++ r) W ((j : Int) - (bpp : Int)) (k : Int) = if bpp ≤ j then byteAt r (j - bpp) else 0 := by
  unfold atM
  by_cases h : bpp ≤ j
  · rw [if_neg (by omega), if_pos h, show ((k : Int)).toNat * W + ((j : Int) - (bpp : Int)).toNat = W * k + (j - bpp) from by rw [Int.toNat_natCast, Nat.mul_comm]; omega,
      byteAt_app_r (by rw [outU_length]; omega), outU_length]
    congr 1
    omega
  · rw [if_pos (by omega), if_neg h]
theorem at_up {W bpp k : Nat} {lb r : List UInt8} (x : Nat) (hx : x < W) : atM (outU W bpp lb k ++ r) W (x : Int) ((k : Int) - 1) = byteAt (rowU W bpp lb k) x := by
  unfold atM
  rcases k with _ | k
  · rw [if_pos (by omega)]
    exact (byteAt_zeros W x).symm
  · rw [if_neg (by omega), show (((k + 1 : Nat) : Int) - 1).toNat * W + ((x : Int)).toNat = W * k + x from by rw [Int.toNat_natCast, show (((k + 1 : Nat) : Int) - 1).toNat = k by omega, Nat.mul_comm],
      byteAt_app_l (by rw [outU_length, Nat.mul_succ]; omega), outU, byteAt_app_r (by rw [outU_length]; omega), outU_length]
    congr 1
    omega
theorem at_corner {W bpp k j : Nat} {lb r : List UInt8} (hj : j < W) : atM (outU W bpp lb k ++ r) W ((j : Int) - (bpp : Int)) ((k : Int) - 1) = if bpp ≤ j then byteAt (rowU W bpp lb k) (j - bpp) else 0 := by
  by_cases h : bpp ≤ j
  · rw [if_pos h, ← at_up (r := r) (j - bpp) (by omega)]
    congr 1
    omega
  · unfold atM
    rw [if_pos (by omega), if_neg h]
theorem at_in {W k j : Nat} {x y : Int} (hx : x ≤ j) (hy : y ≤ k) (hj : j < W) (h : x < j ∨ y < k) : 0 ≤ x → 0 ≤ y → y.toNat * W + x.toNat < W * k + j := by
  intro h1 h2
  by_cases hyk : y < k
  · have := Nat.mul_le_mul_right W (show y.toNat + 1 ≤ k by omega)
    rw [Nat.add_mul, Nat.one_mul, Nat.mul_comm k W] at this
    omega
  · have e : y.toNat = k := by omega
    rw [e, Nat.mul_comm]
    omega
/-- What a byte of the row is, as the document's three bytes tell it. -/
theorem at_gs {W bpp k j KD : Nat} {lb r : List UInt8} (hr : r.length = j) (hj : j < W) : gsN KD (atM (outU W bpp lb k ++ r) W ((j : Int) - (bpp : Int)) (k : Int)) (atM (outU W bpp lb k ++ r) W (j : Int) ((k : Int) - 1)) (atM (outU W bpp lb k ++ r) W ((j : Int) - (bpp : Int)) ((k : Int) - 1)) = gsB KD bpp j r (rowU W bpp lb k) := by
  rw [at_left hr, at_up j hj, at_corner hj]
  rfl
set_option maxRecDepth 100000 in
set_option maxHeartbeats 4000000 in
theorem refUnf_rows (W bpp N m c : Nat) (A : Option Addr) (lb : List UInt8) (hW1 : 1 ≤ W) (hW : W ≤ 1048576) (hb1 : 1 ≤ bpp) (hb8 : bpp ≤ 8) (hm : lb.length = m) (hN : (W + 1) * N = m) (hmb : m ≤ 140737488355328) (B : Nat) (w : World) (hbs : Bs w B A lb) (hB : B ≤ w.heap.size) :
    Calls Try.prog 22 #[.slice A m c, .int .i64 (W : Nat), .int .i64 (bpp : Nat)] w fun e w' => Below w.heap.size w w' ∧ ((e = .returned (.tuple #[.slice none 0 0, .int .i64 9]) ∧ ∃ k, k < N ∧ 4 < byteAt (pcU W lb k) 0) ∨
      (∃ A' c', e = .returned (.tuple #[.slice A' (W * N) c', .int .i64 0]) ∧ w'.ownsRow w.heap.size 5 1 (.slice A' (W * N) c') (W * N) (bytesV (outU W bpp lb N)) ∧ ∀ k, k < N → byteAt (pcU W lb k) 0 ≤ 4)) := by
  obtain ⟨i0, hti, hz0, hz1, hz2⟩ := info_parts info_u8
  have hWN : W * N ≤ m := by rw [Nat.add_mul] at hN; omega
  have hNm : N ≤ m := by have := Nat.mul_le_mul_right N (show 1 ≤ W + 1 by omega); omega
  have HNN := Lib.hid hN; have HLB := Lib.hid hm; have HWN := Lib.hid hWN
  have hrem : ((m : Int) % ((W : Int) + 1)) = 0 := by
    rw [← hN, show ((((W + 1) * N : Nat)) : Int) = ((W : Int) + 1) * (N : Int) by push_cast; rfl]
    exact Int.mul_emod_right _ _
  have hquo : ((m : Int) / ((W : Int) + 1)) = (N : Int) := by
    rw [← hN, show ((((W + 1) * N : Nat)) : Int) = ((W : Int) + 1) * (N : Int) by push_cast; rfl]
    exact Int.mul_ediv_cancel_left _ (by omega)
  have hmay : mayC (W : Int) (bpp : Int) = true := by simp [mayC]; omega
  have HMB := Lib.hid (refBad_any (W : Int) (bpp : Int) w)
  rw [hmay] at HMB
  clear hm hN hmay hWN
  go_enter Try.func22, Try.ntmps22
  go_wp2_with fail
  refine HMB.out.mono ?_
  rintro e w2 ⟨rfl, rfl⟩
  simp only [Bool.not_true]
  go_wp2_with fail
  clear hrem
  go_loopw [8, 9] (fun o y wr => ∃ k A1 c1, k ≤ N ∧ y = .int .i64 (k : Int) ∧ o = .slice A1 (Nat.mul W k) c1 ∧ Hid (wr.ownsRow w2.heap.size 5 1 (.slice A1 (Nat.mul W k) c1) (Nat.mul W k) (bytesV (outU W bpp lb k)) ∧ Below w2.heap.size w2 wr ∧ ∀ j, j < k → byteAt (pcU W lb j) 0 ≤ 4)) (fun _ y _ => N - (intOf y).toNat)
  case atStart => exact ⟨0, none, 0, Nat.zero_le _, rfl, by rw [show Nat.mul W 0 = 0 from rfl], Lib.hid ⟨by rw [show Nat.mul W 0 = 0 from rfl]; exact World.ownsRow_nil _ _ _ _, Below.refl _ _, fun j hj => by omega⟩⟩
  case round =>
    obtain ⟨k, A1, c1, hk, rfl, rfl, HR⟩ := hrel
    by_cases hlt : k < N
    · have hZm : W * k + W ≤ m := by
        have e1 := Nat.mul_le_mul_left W (show k + 1 ≤ N by omega)
        rw [Nat.mul_succ] at e1
        exact Nat.le_trans e1 HWN.out
      have hFm : (W + 1) * k + (W + 1) ≤ m := by
        have e1 := Nat.mul_le_mul_left (W + 1) (show k + 1 ≤ N by omega)
        rw [Nat.mul_succ, HNN.out] at e1
        exact e1
      have hbr : Bs wr B A lb := hbs.below (HR.out.2.1.mono hB)
      have hcell : ∀ i, i < W + 1 → byteAt lb ((W + 1) * k + i) = byteAt (pcU W lb k) i := fun i hi => by
        rw [pcU, byteAt_take hi, byteAt_drop]
      obtain ⟨ad, rfl, hadB, hkd⟩ := hbr.at_ (k := (W + 1) * k) (by rw [HLB.out]; omega)
      rw [byteAt_get _ _ (by rw [HLB.out]; omega), show (W + 1) * k = (W + 1) * k + 0 from rfl, hcell 0 (by omega)] at hkd
      simp only [Nat.add_zero] at hkd
      have HCELL : Hid (∀ w9, Below w2.heap.size w2 w9 → ∀ j, j < W → w9.cell? (ad.add ((W + 1) * k + 1 + j)) = some (.int .u8 (byteAt ((pcU W lb k).drop 1) j : Nat))) := Lib.hid (fun w9 hb j hj => by
        obtain ⟨ad', e, _, hc⟩ := (hbs.below (hb.mono hB)).at_ (k := (W + 1) * k + (1 + j)) (by rw [HLB.out]; omega)
        injection e with e
        subst e
        rw [byteAt_get _ _ (by rw [HLB.out]; omega), hcell (1 + j) (by omega), ← byteAt_drop] at hc
        rw [Nat.add_assoc]
        exact hc)
      have hkl := byteAt_lt (pcU W lb k) 0
      have HBAD : Hid (4 < byteAt (pcU W lb k) 0 → ∃ k, k < N ∧ 4 < byteAt (pcU W lb k) 0) := Lib.hid (fun h => ⟨k, hlt, h⟩)
      have HGOOD : Hid (byteAt (pcU W lb k) 0 ≤ 4 → ∀ j, j < k + 1 → byteAt (pcU W lb j) 0 ≤ 4) := Lib.hid (fun h j hj => by
        rcases Nat.lt_or_ge j k with h5 | h5
        · exact HR.out.2.2 j h5
        · obtain rfl : j = k := by omega
          exact h)
      have HROW : Hid (outU W bpp lb k ++ uRow (byteAt (pcU W lb k) 0) bpp ((pcU W lb k).drop 1) (rowU W bpp lb k) W = outU W bpp lb (k + 1)) := Lib.hid rfl
      have HAT : Hid (∀ (KD : Nat) (f : List UInt8) (j : Nat) (A2 : Option Addr) (c2 : Nat) (w9 : World), j < W → w9.ownsRow w2.heap.size 5 1 (.slice A2 (W * k + j) c2) (W * k + j) (bytesV (outU W bpp lb k ++ uRow KD bpp f (rowU W bpp lb k) j)) → ∀ x y : Int, x ≤ (j : Int) → y ≤ (k : Int) → (x < (j : Int) ∨ y < (k : Int)) →
          Calls Try.prog 43 #[.slice A2 (W * k + j) c2, .int .i64 (W : Nat), .int .i64 x, .int .i64 y] w9 (fun e w' => e = .returned (.int .i64 (atM (outU W bpp lb k ++ uRow KD bpp f (rowU W bpp lb k) j) W x y : Nat)) ∧ w' = w9) ∧
          Calls Try.prog 44 #[.slice A2 (W * k + j) c2, .int .i64 (W : Nat), .int .i64 x, .int .i64 y] w9 (fun e w' => e = .returned (.int .i64 (atM (outU W bpp lb k ++ uRow KD bpp f (rowU W bpp lb k) j) W x y : Nat)) ∧ w' = w9)) := Lib.hid (fun KD f j A2 c2 w9 hj ho x y hx hy hxy => by
        have hb := bs_own ho
        exact ⟨refAt_any A2 _ c2 W _ hb.2 x y (at_in hx hy hj hxy) (by omega) _ w9 hb.1, refCorner_any A2 _ c2 W _ hb.2 x y (at_in hx hy hj hxy) (by omega) _ w9 hb.1⟩)
      have HP : Hid ((k : Int) * ((W : Int) + 1) = (((W + 1) * k : Nat) : Int)) := Lib.hid (by push_cast; rw [Int.mul_comm])
      have HMS : Hid (W * (k + 1) = W * k + W) := Lib.hid (Nat.mul_succ W k)
      have HR2 : Hid (wr.ownsRow w2.heap.size 5 1 (.slice A1 (W * k) c1) (W * k) (bytesV (outU W bpp lb k)) ∧ Below w2.heap.size w2 wr) := Lib.hid ⟨HR.out.1, HR.out.2.1⟩
      rw [show Nat.mul W k = W * k from rfl]
      clear HR hcell hbr hk
      generalize byteAt (pcU W lb k) 0 = KD at *
      generalize (pcU W lb k).drop 1 = f at *
      generalize W * k = Z at *
      generalize (W + 1) * k = F at *
      have hp := HP.out
      clear HP
      by_cases hk4 : KD ≤ 4
      · have j4 : ¬ ((4 : Int) < (KD : Int)) := by omega
        go_wp2_with fail
        obtain ⟨wo, hwo⟩ : ∃ wo : World, wo = wr := ⟨_, rfl⟩
        subst hwo
        go_loopw [8, 11] (fun o x wr => ∃ j A1 c1, j ≤ W ∧ x = .int .i64 (j : Int) ∧ o = .slice A1 (Z + j) c1 ∧ Hid (wr.ownsRow w2.heap.size 5 1 (.slice A1 (Z + j) c1) (Z + j) (bytesV (outU W bpp lb k ++ uRow KD bpp f (rowU W bpp lb k) j)) ∧ Below w2.heap.size w2 wr)) (fun _ x _ => W - (intOf x).toNat)
        case atStart => exact ⟨0, A1, c1, Nat.zero_le _, rfl, rfl, Lib.hid ⟨by simpa [uRow] using HR2.out.1, HR2.out.2⟩⟩
        case round =>
          obtain ⟨j, A3, c3, hj, rfl, rfl, HJ⟩ := hrel
          clear HR2
          by_cases hjW : j < W
          · have HG := Lib.hid (at_gs (W := W) (bpp := bpp) (k := k) (j := j) (KD := KD) (lb := lb) (uRow_length KD bpp f (rowU W bpp lb k) j) hjW)
            have HAl := Lib.hid ((HAT.out KD f j A3 c3 wr hjW HJ.out.1 ((j : Int) - (bpp : Int)) (k : Int) (by omega) (by omega) (by omega)).1)
            have HAu := Lib.hid ((HAT.out KD f j A3 c3 wr hjW HJ.out.1 (j : Int) ((k : Int) - 1) (by omega) (by omega) (by omega)).1)
            have HAc := Lib.hid ((HAT.out KD f j A3 c3 wr hjW HJ.out.1 ((j : Int) - (bpp : Int)) ((k : Int) - 1) (by omega) (by omega) (by omega)).2)
            have l1 := atM_lt (outU W bpp lb k ++ uRow KD bpp f (rowU W bpp lb k) j) W ((j : Int) - (bpp : Int)) (k : Int)
            have l2 := atM_lt (outU W bpp lb k ++ uRow KD bpp f (rowU W bpp lb k) j) W (j : Int) ((k : Int) - 1)
            have l3 := atM_lt (outU W bpp lb k ++ uRow KD bpp f (rowU W bpp lb k) j) W ((j : Int) - (bpp : Int)) ((k : Int) - 1)
            have HX : Hid (uRow KD bpp f (rowU W bpp lb k) (j + 1) = uRow KD bpp f (rowU W bpp lb k) j ++ [UInt8.ofNat (byteAt f j + gsB KD bpp j (uRow KD bpp f (rowU W bpp lb k) j) (rowU W bpp lb k))]) := Lib.hid rfl
            rw [← HG.out] at HX
            clear HG
            have hx := HCELL.out wr HJ.out.2 j hjW
            have hxl := byteAt_lt f j
            generalize atM (outU W bpp lb k ++ uRow KD bpp f (rowU W bpp lb k) j) W ((j : Int) - (bpp : Int)) (k : Int) = a at *
            generalize atM (outU W bpp lb k ++ uRow KD bpp f (rowU W bpp lb k) j) W (j : Int) ((k : Int) - 1) = b at *
            generalize atM (outU W bpp lb k ++ uRow KD bpp f (rowU W bpp lb k) j) W ((j : Int) - (bpp : Int)) ((k : Int) - 1) = d at *
            have hgl := gsN_lt KD l1 l2 l3
            have HGU := Lib.hid (refGuess_any KD a b d hk4 l1 l2 l3 wr)
            generalize gsN KD a b d = g at *
            generalize byteAt f j = x at *
            have HV : Hid (((x : Int) + (g : Int)) % 256 = ((UInt8.ofNat (x + g)).toNat : Int)) := Lib.hid (by rw [u8_val]; omega)
            have hsz := HJ.out.2.size
            go_wp2_with fail
            refine HAl.out.mono ?_
            rintro e w5 ⟨rfl, rfl⟩
            go_wp2_with fail
            refine HAu.out.mono ?_
            rintro e w6 ⟨rfl, rfl⟩
            go_wp2_with fail
            refine HAc.out.mono ?_
            rintro e w7 ⟨rfl, rfl⟩
            go_wp2_with fail
            refine HGU.out.mono ?_
            rintro e w8 ⟨rfl, rfl⟩
            go_wp2_with (at_builtin; refine wpList_append_byte _ rfl (.tmp 69) (.tmp 84) _ rfl w2.heap.size 5 i0 Try.underlying22 hti hz0 hz1 hz2 A3 (Z + j) c3 _ rfl (HJ.out.1.alloc _) (UInt8.ofNat (x + g)) w8.heap.size 1 rfl (by rw [← HV.out]; exact (Blk.new _ _ _).cell 0) (by omega) (by simp; omega) ?_; intro gd c9 w9 hO9 hB9 _)
            go_roundw
            case rel => exact ⟨j + 1, some ⟨gd, 0, none⟩, c9, by omega, by go_num, rfl, Lib.hid ⟨by rw [HX.out, ← List.append_assoc]; exact hO9, (HJ.out.2.alloc hsz _).trans hB9⟩⟩
            case measure => simp [intOf]; omega
          · obtain rfl : W = j := by omega
            have HE := HJ.out
            rw [HROW.out] at HE
            have HE2 := Lib.hid HE
            clear HE HJ HAT
            go_wp2_with fail
            go_roundw
            case rel => exact ⟨k + 1, A3, c3, by omega, by go_num, by rw [show Nat.mul W (k + 1) = Z + W from HMS.out], by rw [show Nat.mul W (k + 1) = Z + W from HMS.out]; exact Lib.hid ⟨HE2.out.1, HE2.out.2, HGOOD.out hk4⟩⟩
            case measure => simp [intOf]; omega
      · have j4 : (4 : Int) < (KD : Int) := by omega
        go_wp2_with fail
        go_ret2
        exact ⟨HR2.out.2, .inl ⟨rfl, HBAD.out (by omega)⟩⟩
    · obtain rfl : k = N := by omega
      go_wp2_with fail
      go_ret2
      exact ⟨HR.out.2.1, .inr ⟨A1, c1, rfl, HR.out.1, HR.out.2.2⟩⟩
theorem refUnf_any (width bpp : Int) (A : Option Addr) (m c : Nat) (lb : List UInt8) (hm : lb.length = m) (hmb : m ≤ 140737488355328) (B : Nat) (w : World) (hbs : Bs w B A lb) (hB : B ≤ w.heap.size) :
    Calls Try.prog 22 #[.slice A m c, .int .i64 width, .int .i64 bpp] w (OutB w (ufM width bpp lb)) := by
  by_cases h1 : mayC width bpp = true
  · obtain ⟨W, b, rfl, rfl, w1, w2, b1, b2⟩ := mayC_ok h1
    by_cases h2 : m % (W + 1) = 0
    · have hN : (W + 1) * (m / (W + 1)) = m := by have := Nat.div_add_mod m (W + 1); omega
      refine (refUnf_rows W b (m / (W + 1)) m c A lb w1 w2 b1 b2 hm hN hmb B w hbs hB).mono ?_
      intro e w' he
      unfold ufM OutB
      rw [if_neg (by rw [h1]; simp), if_neg (by rw [hm]; simpa using h2), hm]
      simp only [Int.toNat_natCast]
      rcases he with ⟨hb, ⟨rfl, hx⟩ | ⟨A', c', rfl, ho, hx⟩⟩
      · rw [if_pos hx]
        exact ⟨hb, rfl⟩
      · rw [if_neg (fun ⟨k, hk, h4⟩ => by have := hx k hk; omega)]
        refine ⟨hb, A', c', ?_⟩
        rw [outU_length]
        exact ⟨rfl, ho⟩
    · have hrem : ¬ ((m : Int) % ((W : Int) + 1)) = 0 := by
        intro e
        apply h2
        have : ((m % (W + 1) : Nat) : Int) = 0 := by push_cast; exact e
        omega
      have HE : Hid (OutB w (ufM (W : Int) (b : Int) lb) (.returned (.tuple #[.slice none 0 0, .int .i64 9])) w) := Lib.hid (by
        unfold ufM OutB
        rw [if_neg (by rw [h1]; simp), if_pos (by rw [hm]; simpa using h2)]
        exact ⟨Below.refl _ _, rfl⟩)
      have HMB := Lib.hid (refBad_any (W : Int) (b : Int) w)
      rw [h1] at HMB
      clear h1 h2
      go_enter Try.func22, Try.ntmps22
      go_wp2_with fail
      refine HMB.out.mono ?_
      rintro e w2 ⟨rfl, rfl⟩
      simp only [Bool.not_true]
      go_wp2_with fail
      go_ret2
      exact HE.out
  · have h1' : mayC width bpp = false := by simpa using h1
    have HE : Hid (OutB w (ufM width bpp lb) (.returned (.tuple #[.slice none 0 0, .int .i64 190])) w) := Lib.hid (by
      unfold ufM OutB
      rw [if_pos h1']
      exact ⟨Below.refl _ _, rfl⟩)
    have HMB := Lib.hid (refBad_any width bpp w)
    rw [h1'] at HMB
    clear h1 h1'
    go_enter Try.func22, Try.ntmps22
    go_wp2_with fail
    refine HMB.out.mono ?_
    rintro e w2 ⟨rfl, rfl⟩
    simp only [Bool.not_false]
    go_wp2_with fail
    go_ret2
    exact HE.out
end Go.Proofs.Ytjcnjnkcpempoaa
