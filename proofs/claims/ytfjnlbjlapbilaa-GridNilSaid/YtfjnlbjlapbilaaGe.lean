/- Crop: a part of a grid, row by row. -/
import Derived.Test.YtfjnlbjlapbilaaGd
namespace Go.Proofs.Ytfjnlbjlapbilaa
open Go.ChangeShapes Go.WideShapes Go.ChangeAt Go.RowKit

/-- The first k rows of a part. -/
def partL (l : List Int) (W X Y p : Nat) (k : Nat) : List Int := (List.range k).flatMap fun i => (l.drop ((Y + i) * W + X)).take p
theorem partL_succ (l : List Int) (W X Y p k : Nat) : partL l W X Y p (k + 1) = partL l W X Y p k ++ (l.drop ((Y + k) * W + X)).take p := by
  unfold partL
  rw [List.range_succ, List.flatMap_append]
  simp
theorem partL_length (l : List Int) (W H X Y p q : Nat) (hl : l.length = W * H) (hx : X + p ≤ W) (hy : Y + q ≤ H) : ∀ k, k ≤ q → (partL l W X Y p k).length = p * k := by
  intro k
  induction k with
  | zero => intro _; simp [partL]
  | succ k ih =>
    intro hk
    have hp := place_lt (W := W) (H := H) (X := X) (Y := Y + k) (n := p) hx (by omega)
    rw [partL_succ, List.length_append, ih (by omega), List.length_take, List.length_drop, hl, Nat.mul_succ, Nat.min_eq_left (by omega)]

theorem GridAt.part {w : World} {base : Nat} {tg e : TypeId} {g r c W H : Nat} {xs : List Value} (h : GridAt w base tg e g r c W H xs) {F P : Nat} (hF : F + P ≤ xs.length) : Vs w w.heap.size (some ⟨r, F, none⟩) ((xs.drop F).take P) := fun hn => by
  refine ⟨⟨r, F, none⟩, rfl, h.form.2.2.2, fun j hj => ?_⟩
  have h1 : j < P := by rw [List.length_take] at hj; omega
  have e2 : (⟨r, F, none⟩ : Addr).add j = ⟨r, F + j, none⟩ := by unfold Addr.add; split <;> simp_all
  rw [e2, h.at_ (k := F + j) (by omega)]
  simp [List.getElem_take, List.getElem_drop]
theorem intsV_part (l : List Int) (F P : Nat) : ((intsV l).drop F).take P = intsV ((l.drop F).take P) := by simp [intsV, List.map_drop, List.map_take]

/-- What Crop answers. -/
def CropR (w : World) (l : List Int) (W H : Nat) (x y p q : Int) (e : Ending) (w' : World) : Prop :=
  if inB x y p q W H = false then e = .returned (.tuple #[.pointer none, .int .i64 2]) ∧ Below w.heap.size w w'
  else ∃ g r c', e = .returned (.tuple #[.pointer (some ⟨g, 0, none⟩), .int .i64 0]) ∧ GridAt w' w.heap.size 87 3 g r c' p.toNat q.toNat (intsV (partL l W x.toNat y.toNat p.toNat q.toNat)) ∧ Below w.heap.size w w'

set_option maxRecDepth 100000 in
set_option maxHeartbeats 2000000 in
theorem crop_any {w : World} {base g r c W H : Nat} {l : List Int} (h : GridAt w base 87 3 g r c W H (intsV l)) (x y p q : Int) (hp : p ≤ 9223372036854775807) (hq : q ≤ 9223372036854775807) :
    Calls Try.prog 17 #[.pointer (some ⟨g, 0, none⟩), .int .i64 x, .int .i64 y, .int .i64 p, .int .i64 q] w (CropR w l W H x y p q) := by
  go_enter Try.func17, Try.ntmps17
  go_wp2_with fail
  refine (holds_any h x y p q hp hq).mono ?_
  rintro e w1 ⟨rfl, hb1⟩
  replace h := h.below hb1
  have HB1 := Lib.hid hb1
  clear hb1
  cases hi : inB x y p q W H with
  | false =>
    have HI := Lib.hid hi
    go_wp2_with fail
    go_ret2
    unfold CropR
    rw [if_pos HI.out]
    exact ⟨rfl, HB1.out⟩
  | true =>
    obtain ⟨i1, i2, i3, i4, i5, i6⟩ := inB_bd hi
    have HR : Hid (∀ e w', (∃ g r c', e = .returned (.tuple #[.pointer (some ⟨g, 0, none⟩), .int .i64 0]) ∧ GridAt w' w1.heap.size 87 3 g r c' p.toNat q.toNat (intsV (partL l W x.toNat y.toNat p.toNat q.toNat)) ∧ Below w1.heap.size w1 w') → CropR w l W H x y p q e w') := Lib.hid (by
      intro e w' ⟨g, r, c', k1, k2, k3⟩
      unfold CropR
      rw [if_neg (by rw [hi]; simp)]
      exact ⟨g, r, c', k1, k2.low HB1.out.size, HB1.out.trans (k3.mono HB1.out.size)⟩)
    clear hi hp hq
    obtain ⟨X, rfl⟩ : ∃ X : Nat, x = (X : Int) := ⟨x.toNat, by omega⟩
    obtain ⟨Y, rfl⟩ : ∃ Y : Nat, y = (Y : Int) := ⟨y.toNat, by omega⟩
    obtain ⟨P, rfl⟩ : ∃ P : Nat, p = (P : Int) := ⟨p.toNat, by omega⟩
    obtain ⟨Q, rfl⟩ : ∃ Q : Nat, q = (Q : Int) := ⟨q.toNat, by omega⟩
    have hP : 1 ≤ P := by omega
    have hQ : 1 ≤ Q := by omega
    have hx : X + P ≤ W := by omega
    have hy : Y + Q ≤ H := by omega
    have hfew := h.few
    have hw2 := h.w2
    have hh2 := h.h2
    have hPQ : P * Q ≤ W * H := Nat.mul_le_mul (by omega) (by omega)
    have hPQ2 : P * Q ≤ 65536 := Nat.le_trans hPQ hfew
    have hlen := h.len
    rw [intsV_length] at hlen
    have HPL := Lib.hid (partL_length l W H X Y P Q hlen hx hy)
    clear i1 i2 i3 i4 i5 i6 hPQ hfew
    have hmul : (P : Int) * (Q : Int) = ((P * Q : Nat) : Int) := by simp
    obtain ⟨M, hM⟩ : ∃ M, P * Q = M := ⟨_, rfl⟩
    rw [hM] at hmul hPQ2
    have HM := Lib.hid hM
    have r1 : wrap64 ((P : Int) * (Q : Int)) = (M : Int) := by rw [hmul]; exact IntWalk.wrap64_in _ (by omega)
    clear hmul hM
    obtain ⟨i0, hi, hz0, hz1, hz2⟩ := info_parts info_int
    simp only [Int.toNat_natCast] at HR
    go_wp2_with (at_make; refine wpList_make_own _ rfl (.const (.int .i64 0)) (.tmp 25) 22 rfl w1.heap.size 3 i0 (.int .i64 0) 1 Try.underlying22 hi hz0 hz1 .i64 .i64 _ M rfl rfl (by simp [r1]) (by rw [hz2]; omega) (by unfold maxLen; omega) (Nat.le_refl _) ?_; intro w2 hown2 hg2; have HB2 := Lib.hid ((Below.refl w1.heap.size w1).grown hg2 (by simp) (by simp)); have O2 := Lib.hid hown2; clear hown2 hg2)
    clear r1
    go_loopw [12, 28] (fun v i wr => ∃ (k n cr : Nat) (A : Option Addr), k ≤ Q ∧ i = .int .i64 (k : Int) ∧ v = .slice A n cr ∧ Hid (n = P * k) ∧ n ≤ 65536 ∧ Hid (wr.ownsRow w1.heap.size 3 1 (.slice A n cr) n (intsV (partL l W X Y P k))) ∧ Hid (Below w1.heap.size w1 wr)) (fun _ i _ => Q - (intOf i).toNat)
    case atStart => exact ⟨0, 0, M, _, by omega, rfl, rfl, Lib.hid (by simp), by omega, O2, HB2⟩
    case round =>
      obtain ⟨k, n, cr, A, hk, rfl, rfl, HN, hn, HO, HB⟩ := hrel
      have hs := HB.out.size
      by_cases hlt : k < Q
      · obtain ⟨Z, hZ⟩ : ∃ Z, Y + k = Z := ⟨_, rfl⟩
        have hZ' : (Y : Int) + (k : Int) = (Z : Int) := by omega
        have hG := h.below HB.out
        have hZH : Z < H := by omega
        have HRun := Lib.hid (run_at hG X Z P _ hZ' hP hx hZH)
        have hpl := place_lt hx hZH
        have HV := Lib.hid (hG.part (F := Z * W + X) (P := P) (by rw [intsV_length, hlen]; exact hpl))
        have HE : Hid (((intsV l).drop (Z * W + X)).take P = intsV ((l.drop (Z * W + X)).take P)) := Lib.hid (intsV_part l _ _)
        have HS : Hid (partL l W X Y P (k + 1) = partL l W X Y P k ++ (l.drop (Z * W + X)).take P) := Lib.hid (by rw [partL_succ, hZ])
        have HLn : Hid ((((intsV l).drop (Z * W + X)).take P).length = P) := Lib.hid (by rw [List.length_take, List.length_drop, intsV_length, hlen, Nat.min_eq_left (by omega)])
        have HN2 : Hid (n + P = P * (k + 1)) := Lib.hid (by rw [HN.out, Nat.mul_succ])
        have hn2 : n + P ≤ 65536 := by
          have h1 : P * (k + 1) ≤ P * Q := Nat.mul_le_mul_left P hlt
          have h2 := HN2.out
          have h3 := HM.out
          omega
        clear hpl hG hZ'
        generalize Z * W + X = F at *
        go_wp2_with fail
        refine HRun.out.mono ?_
        rintro e w3 ⟨rfl, rfl⟩
        go_wp2_with (at_builtin; refine wpList_append_vs _ rfl (.tmp 31) (.tmp 38) _ rfl w1.heap.size 3 i0 (.int .i64 0) 8 Try.underlying22 hi hz0 hz1 hz2 rfl (.slice A n cr) n _ rfl HO.out w3.heap.size (some ⟨r, F, none⟩) P (c - F) _ HLn.out rfl HV.out (by rw [HE.out]; exact intsV_one _) (by unfold maxLen; omega) (by omega) hs ?_; intro A4 c4 w4 o4 hg4 _; have HO4 : Hid (w4.ownsRow w1.heap.size 3 1 (.slice A4 (n + P) c4) (n + P) (intsV (partL l W X Y P (k + 1)))) := Lib.hid (by rw [HS.out, intsV_append, ← HE.out]; exact o4); have HB4 := Lib.hid (HB.out.grown hg4 hs (fun q hq => (HO.out.lt q hq).1)); clear o4 hg4)
        go_roundw
        case rel => exact ⟨k + 1, n + P, c4, A4, by omega, by go_num, rfl, HN2, hn2, HO4, HB4⟩
        case measure => simp [intOf]; omega
      · obtain rfl : k = Q := by omega
        go_wp2_with fail
        go_ret2
        have en : n = P * k := HN.out
        have ep : 0 < P * k := Nat.mul_pos hP hQ
        have ho := HO.out
        obtain ⟨r5, rfl, _⟩ := row_form ho (by omega)
        refine HR.out _ _ ⟨wr.heap.size, r5, cr, rfl, ⟨?_, ?_, hs, hP, by omega, hQ, by omega, by omega⟩, HB.out.alloc hs _⟩
        · rw [← en]
          exact Blk.new wr _ _
        · rw [← en]
          exact own_upd ho ((Upd.refl No wr).alloc _) (fun _ _ => id)
end Go.Proofs.Ytfjnlbjlapbilaa
