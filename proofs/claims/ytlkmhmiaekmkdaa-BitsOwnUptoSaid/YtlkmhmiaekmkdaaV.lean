/- Contracts of unstuffing, the program's and the document's. -/
import Derived.Test.YtlkmhmiaekmkdaaQ
namespace Go.Proofs.Ytlkmhmiaekmkdaa
open Go.ChangeShapes Go.WideShapes Go.ChangeAt Go.RowKit

/-- What is gone through up to the first marker, and the place where it ended. -/
def unst : List UInt8 → List UInt8 × Nat
  | [] => ([], 0)
  | [x] => if x = 255 then ([], 0) else ([x], 1)
  | x :: y :: r => if x = 255 then (if y = 0 then (255 :: (unst r).1, (unst r).2 + 2) else ([], 0)) else (x :: (unst (y :: r)).1, (unst (y :: r)).2 + 1)
theorem unst_ne (x : UInt8) (r : List UInt8) (h : ¬ x = 255) : unst (x :: r) = (x :: (unst r).1, (unst r).2 + 1) := by
  cases r with
  | nil => simp [unst, h]
  | cons y r => rw [unst, if_neg h]
theorem unst_pair (r : List UInt8) : unst (255 :: 0 :: r) = (255 :: (unst r).1, (unst r).2 + 2) := by rw [unst, if_pos rfl, if_pos rfl]
theorem unst_stuffL (l : List UInt8) : unst (stuffL l) = (l, (stuffL l).length) := by
  induction l with
  | nil => simp [stuffL, unst]
  | cons x r ih =>
    have e : stuffL (x :: r) = (if x = 255 then [255, 0] else [x]) ++ stuffL r := by simp [stuffL]
    rw [e]
    by_cases h : x = 255
    · subst h
      rw [if_pos rfl]
      show unst (255 :: 0 :: stuffL r) = _
      rw [unst_pair, ih]
      simp
    · rw [if_neg h]
      show unst (x :: stuffL r) = _
      rw [unst_ne x _ h, ih]
      simp
theorem unst_len : ∀ l : List UInt8, (unst l).1.length ≤ l.length
  | [] => by simp [unst]
  | [x] => by by_cases h : x = 255 <;> simp [unst, h]
  | x :: y :: r => by
    have h1 := unst_len r
    have h2 := unst_len (y :: r)
    by_cases h : x = 255
    · by_cases hy : y = 0
      · simp [unst, h, hy]; omega
      · simp [unst, h, hy]
    · simp only [List.length_cons] at h2
      simp [unst, h]; omega
theorem drop_at (l : List UInt8) (k : Nat) (h : k < l.length) : l.drop k = l[k] :: l.drop (k + 1) := List.drop_eq_getElem_cons h
/-- After k bytes 'out' was gathered: what is still to come makes the whole. -/
def Half (l : List UInt8) (k : Nat) (out : List UInt8) : Prop := k ≤ l.length ∧ out.length ≤ k ∧ out ++ (unst (l.drop k)).1 = (unst l).1 ∧ k + (unst (l.drop k)).2 = (unst l).2
theorem Half.start (l : List UInt8) : Half l 0 [] := ⟨by omega, by simp, by simp, by simp⟩
theorem Half.one {l : List UInt8} {k : Nat} {out : List UInt8} (h : Half l k out) (hk : k < l.length) (hx : ¬ l[k] = 255) : Half l (k + 1) (out ++ [l[k]]) := by
  obtain ⟨h1, h2, h3, h4⟩ := h
  rw [drop_at l k hk, unst_ne _ _ hx] at h3 h4
  exact ⟨by omega, by simp; omega, by rw [← h3]; simp, by rw [← h4]; simp only []; omega⟩
theorem Half.two {l : List UInt8} {k : Nat} {out : List UInt8} (h : Half l k out) (hk : k + 1 < l.length) (hx : l[k] = 255) (hy : l[k + 1] = 0) : Half l (k + 2) (out ++ [255]) := by
  obtain ⟨h1, h2, h3, h4⟩ := h
  have e2 : l.drop (k + 1 + 1) = l.drop (k + 2) := rfl
  rw [drop_at l k (by omega), drop_at l (k + 1) hk, hx, hy, unst_pair, e2] at h3 h4
  exact ⟨by omega, by simp; omega, by rw [← h3]; simp, by rw [← h4]; simp only []; omega⟩
theorem Half.stop_end {l : List UInt8} {k : Nat} {out : List UInt8} (h : Half l k out) (hk : k + 1 = l.length) (hx : l[k] = 255) : (unst l).1 = out ∧ (unst l).2 = k := by
  obtain ⟨h1, h2, h3, h4⟩ := h
  have e : l.drop (k + 1) = [] := List.drop_of_length_le (by omega)
  rw [drop_at l k (by omega), hx, e] at h3 h4
  simp [unst] at h3 h4
  exact ⟨h3.symm, h4.symm⟩
theorem Half.stop_mark {l : List UInt8} {k : Nat} {out : List UInt8} (h : Half l k out) (hk : k + 1 < l.length) (hx : l[k] = 255) (hy : ¬ l[k + 1] = 0) : (unst l).1 = out ∧ (unst l).2 = k := by
  obtain ⟨h1, h2, h3, h4⟩ := h
  rw [drop_at l k (by omega), drop_at l (k + 1) hk, hx, unst, if_pos rfl, if_neg hy] at h3 h4
  simp at h3 h4
  exact ⟨h3.symm, h4.symm⟩
theorem Half.stop_all {l : List UInt8} {out : List UInt8} (h : Half l l.length out) : (unst l).1 = out ∧ (unst l).2 = l.length := by
  obtain ⟨h1, h2, h3, h4⟩ := h
  rw [List.drop_length] at h3 h4
  simp [unst] at h3 h4
  exact ⟨h3.symm, h4.symm⟩
theorem ne_0_of (x : UInt8) (h : x = 0) : ((x.toNat : Int) != 0) = false := by subst h; rfl
theorem ne_0_not (x : UInt8) (h : ¬ x = 0) : ((x.toNat : Int) != 0) = true := by
  have : x.toNat ≠ 0 := fun e => h (UInt8.toNat_inj.mp (by simpa using e))
  simp; omega

def UnRes (w : World) (l : List UInt8) (e : Ending) (w' : World) : Prop :=
  ∃ A' n c', e = .returned (.tuple #[.slice A' n c', .int .i64 ((unst l).2 : Int)]) ∧ w'.ownsRow w.heap.size 5 1 (.slice A' n c') n (bytesV (unst l).1) ∧ Below w.heap.size w w'
def UnAt (w : World) (l : List UInt8) (k : Nat) (v : Value) (wr : World) : Prop :=
  ∃ A n c out, v = .slice A n c ∧ wr.ownsRow w.heap.size 5 1 (.slice A n c) n (bytesV out) ∧ Below w.heap.size w wr ∧ Half l k out

set_option maxHeartbeats 2000000 in
set_option maxRecDepth 100000 in
theorem unstuff_any (A : Option Addr) (c : Nat) (l : List UInt8) (w : World) (h : Bs w w.heap.size A l) (hl : l.length ≤ 140737488355328) :
    Calls Try.prog 35 #[.slice A l.length c] w (UnRes w l) := by
  obtain ⟨i0, hi, hz0, hz1, hz2⟩ := info_parts info_u8
  go_enter Try.func35, Try.ntmps35
  go_wp2_with fail
  go_loopw [4, 5] (fun v i wr => ∃ k : Nat, k ≤ l.length ∧ i = .int .i64 k ∧ UnAt w l k v wr) (fun _ i _ => l.length - (intOf i).toNat)
  case atStart => exact ⟨0, by omega, rfl, none, 0, 0, [], rfl, by simpa [bytesV] using World.ownsRow_nil w w.heap.size 5 1, Below.refl _ _, Half.start l⟩
  case round =>
    obtain ⟨k, hk, rfl, A1, n1, c1, out, rfl, hO, hB, hH⟩ := hrel
    have hn1 : n1 ≤ k := by have h1 := hO.1; have h2 := hH.2.1; rw [bytesV_length] at h1; omega
    have HO := Lib.hid hO; clear hO
    have HB := Lib.hid hB; clear hB
    have HH := Lib.hid hH; clear hH
    have hBs := HB.out.size
    by_cases hlt : k < l.length
    · obtain ⟨ad, rfl, hadb, hcb⟩ := (h.below HB.out).at_ hlt
      have hx := byte_lt l[k]
      by_cases h255 : l[k] = 255
      · have d1 := beq_255 _ h255
        have H255 := Lib.hid h255; clear h255
        by_cases hend : k + 1 = l.length
        · have d2 : (((k : Int) + 1) == (l.length : Int)) = true := by simp; omega
          have HE := Lib.hid hend; clear hend
          have HS := Lib.hid (HH.out.stop_end HE.out H255.out)
          have HR : Hid (UnRes w l (.returned (.tuple #[.slice A1 n1 c1, .int .i64 (k : Int)])) wr) := Lib.hid ⟨A1, n1, c1, by rw [HS.out.2], by rw [HS.out.1]; exact HO.out, HB.out⟩
          go_wp2_with fail
          go_ret2
          exact HR.out
        · have d2 : (((k : Int) + 1) == (l.length : Int)) = false := by simp; omega
          have hk1 : k + 1 < l.length := by omega
          obtain ⟨ad', he', _, hcb1⟩ := (h.below HB.out).at_ hk1
          injection he' with he'
          subst he'
          have hcb2 : wr.cell? ⟨ad.block, ad.off + (k + 1), none⟩ = some (.int .u8 (l[k + 1].toNat : Int)) := by
            have e : ad.add (k + 1) = ⟨ad.block, ad.off + (k + 1), none⟩ := by simp [Addr.add]
            rw [← e]; exact hcb1
          have hx1 := byte_lt l[k + 1]
          by_cases hy : l[k + 1] = 0
          · have d3 := ne_0_of _ hy
            have HY := Lib.hid hy; clear hy
            go_wp2_with (at_builtin; refine wpList_append_byte _ rfl (.tmp 29) (.tmp 34) _ rfl w.heap.size 5 i0 Try.underlying22 hi hz0 hz1 hz2 A1 n1 c1 _ rfl (HO.out.alloc _) l[k] wr.heap.size 1 rfl ((Blk.new _ _ _).cell 0) (by omega) (by simp; omega) ?_; intro gd c2 w2 hO2 hB2 _)
            go_roundw
            case rel => exact ⟨k + 2, by omega, by go_num, _, _, _, _, rfl, hO2, (HB.out.alloc hBs _).trans hB2, by rw [H255.out]; exact HH.out.two hk1 H255.out HY.out⟩
            case measure => simp [intOf]; omega
          · have d3 := ne_0_not _ hy
            have HS := Lib.hid (HH.out.stop_mark hk1 H255.out hy)
            clear hy
            have HR : Hid (UnRes w l (.returned (.tuple #[.slice A1 n1 c1, .int .i64 (k : Int)])) wr) := Lib.hid ⟨A1, n1, c1, by rw [HS.out.2], by rw [HS.out.1]; exact HO.out, HB.out⟩
            go_wp2_with fail
            go_ret2
            exact HR.out
      · have d1 := bne_255 _ h255
        have H255 := Lib.hid h255; clear h255
        go_wp2_with (at_builtin; refine wpList_append_byte _ rfl (.tmp 29) (.tmp 34) _ rfl w.heap.size 5 i0 Try.underlying22 hi hz0 hz1 hz2 A1 n1 c1 _ rfl (HO.out.alloc _) l[k] wr.heap.size 1 rfl ((Blk.new _ _ _).cell 0) (by omega) (by simp; omega) ?_; intro gd c2 w2 hO2 hB2 _)
        go_roundw
        case rel => exact ⟨k + 1, by omega, by go_num, _, _, _, _, rfl, hO2, (HB.out.alloc hBs _).trans hB2, HH.out.one hlt H255.out⟩
        case measure => simp [intOf]; omega
    · have hkn : k = l.length := by omega
      subst hkn
      have HS := Lib.hid (HH.out.stop_all)
      have HR : Hid (UnRes w l (.returned (.tuple #[.slice A1 n1 c1, .int .i64 (l.length : Int)])) wr) := Lib.hid ⟨A1, n1, c1, by rw [HS.out.2], by rw [HS.out.1]; exact HO.out, HB.out⟩
      go_wp2_with fail
      go_ret2
      exact HR.out
set_option maxHeartbeats 2000000 in
set_option maxRecDepth 100000 in
theorem refUnstuff_any (A : Option Addr) (c : Nat) (l : List UInt8) (w : World) (h : Bs w w.heap.size A l) (hl : l.length ≤ 140737488355328) :
    Calls Try.prog 36 #[.slice A l.length c] w (UnRes w l) := by
  obtain ⟨i0, hi, hz0, hz1, hz2⟩ := info_parts info_u8
  go_enter Try.func36, Try.ntmps36
  go_wp2_with fail
  go_loopw [4, 5] (fun v i wr => ∃ k : Nat, k ≤ l.length ∧ i = .int .i64 k ∧ UnAt w l k v wr) (fun _ i _ => l.length - (intOf i).toNat)
  case atStart => exact ⟨0, by omega, rfl, none, 0, 0, [], rfl, by simpa [bytesV] using World.ownsRow_nil w w.heap.size 5 1, Below.refl _ _, Half.start l⟩
  case round =>
    obtain ⟨k, hk, rfl, A1, n1, c1, out, rfl, hO, hB, hH⟩ := hrel
    have hn1 : n1 ≤ k := by have h1 := hO.1; have h2 := hH.2.1; rw [bytesV_length] at h1; omega
    have HO := Lib.hid hO; clear hO
    have HB := Lib.hid hB; clear hB
    have HH := Lib.hid hH; clear hH
    have hBs := HB.out.size
    by_cases hlt : k < l.length
    · obtain ⟨ad, rfl, hadb, hcb⟩ := (h.below HB.out).at_ hlt
      have hx := byte_lt l[k]
      by_cases h255 : l[k] = 255
      · have d1 := beq_255 _ h255
        have H255 := Lib.hid h255; clear h255
        by_cases hend : k + 1 = l.length
        · have d2 : decide ((l.length : Int) ≤ (k : Int) + 1) = true := by simp; omega
          have HE := Lib.hid hend; clear hend
          have HS := Lib.hid (HH.out.stop_end HE.out H255.out)
          have HR : Hid (UnRes w l (.returned (.tuple #[.slice A1 n1 c1, .int .i64 (k : Int)])) wr) := Lib.hid ⟨A1, n1, c1, by rw [HS.out.2], by rw [HS.out.1]; exact HO.out, HB.out⟩
          go_wp2_with fail
          go_ret2
          exact HR.out
        · have d2 : decide ((l.length : Int) ≤ (k : Int) + 1) = false := by simp; omega
          have hk1 : k + 1 < l.length := by omega
          obtain ⟨ad', he', _, hcb1⟩ := (h.below HB.out).at_ hk1
          injection he' with he'
          subst he'
          have hcb2 : wr.cell? ⟨ad.block, ad.off + (k + 1), none⟩ = some (.int .u8 (l[k + 1].toNat : Int)) := by
            have e : ad.add (k + 1) = ⟨ad.block, ad.off + (k + 1), none⟩ := by simp [Addr.add]
            rw [← e]; exact hcb1
          have hx1 := byte_lt l[k + 1]
          by_cases hy : l[k + 1] = 0
          · have d3 := ne_0_of _ hy
            have HY := Lib.hid hy; clear hy
            go_wp2_with (at_builtin; refine wpList_append_byte _ rfl (.tmp 32) (.tmp 33) _ rfl w.heap.size 5 i0 Try.underlying22 hi hz0 hz1 hz2 A1 n1 c1 _ rfl (HO.out.alloc _) 255 wr.heap.size 1 rfl ((Blk.new _ _ _).cell 0) (by omega) (by simp; omega) ?_; intro gd c2 w2 hO2 hB2 _)
            go_roundw
            case rel => exact ⟨k + 2, by omega, by go_num, _, _, _, _, rfl, hO2, (HB.out.alloc hBs _).trans hB2, HH.out.two hk1 H255.out HY.out⟩
            case measure => simp [intOf]; omega
          · have d3 := ne_0_not _ hy
            have HS := Lib.hid (HH.out.stop_mark hk1 H255.out hy)
            clear hy
            have HR : Hid (UnRes w l (.returned (.tuple #[.slice A1 n1 c1, .int .i64 (k : Int)])) wr) := Lib.hid ⟨A1, n1, c1, by rw [HS.out.2], by rw [HS.out.1]; exact HO.out, HB.out⟩
            go_wp2_with fail
            go_ret2
            exact HR.out
      · have d1 := bne_255 _ h255
        have H255 := Lib.hid h255; clear h255
        go_wp2_with (at_builtin; refine wpList_append_byte _ rfl (.tmp 37) (.tmp 42) _ rfl w.heap.size 5 i0 Try.underlying22 hi hz0 hz1 hz2 A1 n1 c1 _ rfl (HO.out.alloc _) l[k] wr.heap.size 1 rfl ((Blk.new _ _ _).cell 0) (by omega) (by simp; omega) ?_; intro gd c2 w2 hO2 hB2 _)
        go_roundw
        case rel => exact ⟨k + 1, by omega, by go_num, _, _, _, _, rfl, hO2, (HB.out.alloc hBs _).trans hB2, HH.out.one hlt H255.out⟩
        case measure => simp [intOf]; omega
    · have hkn : k = l.length := by omega
      subst hkn
      have HS := Lib.hid (HH.out.stop_all)
      have HR : Hid (UnRes w l (.returned (.tuple #[.slice A1 n1 c1, .int .i64 (l.length : Int)])) wr) := Lib.hid ⟨A1, n1, c1, by rw [HS.out.2], by rw [HS.out.1]; exact HO.out, HB.out⟩
      go_wp2_with fail
      go_ret2
      exact HR.out
end Go.Proofs.Ytlkmhmiaekmkdaa
