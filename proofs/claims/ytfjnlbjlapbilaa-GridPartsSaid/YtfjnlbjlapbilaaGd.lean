/- The document's comparing of lists; Set; grids of strings. -/
import Derived.Test.YtfjnlbjlapbilaaGc
namespace Go.Proofs.Ytfjnlbjlapbilaa
open Go.ChangeShapes Go.WideShapes Go.ChangeAt Go.RowKit

theorem take_eq_nextI (a b : List Int) (k : Nat) (h : a.take k = b.take k) (ha : k < a.length) (hb : k < b.length) (e : a[k] = b[k]) : a.take (k + 1) = b.take (k + 1) := by
  rw [List.take_succ_eq_append_getElem ha, List.take_succ_eq_append_getElem hb, h, e]

set_option maxHeartbeats 400000 in
theorem sameInts_n (A1 A2 : Option Addr) (n1 n2 c1 c2 : Nat) (a b : List Int) (hn1 : a.length = n1) (hn2 : b.length = n2) (B : Nat) (w : World) (h1 : Is w B A1 a) (h2 : Is w B A2 b) (hl : n1 ≤ maxLen) :
    Calls Try.prog 22 #[.slice A1 n1 c1, .slice A2 n2 c2] w fun e w' => e = .returned (.bool (a == b)) ∧ ∃ n, w' = w.drewN n := by
  subst hn1 hn2
  unfold maxLen at hl
  by_cases hlen : a.length = b.length
  · have hne : ((a.length : Int) != b.length) = false := by simp [hlen]
    have H := Lib.hid hlen; clear hlen
    go_enter Try.func22, Try.ntmps22
    go_wp2_with fail
    go_loopw [5] (fun i wr => ∃ k : Nat, k ≤ a.length ∧ i = .int .i64 k ∧ a.take k = b.take k ∧ ∃ n, wr = w.drewN n) (fun i _ => a.length - (intOf i).toNat)
    case atStart => exact ⟨0, by omega, rfl, by simp, 0, rfl⟩
    case round =>
      obtain ⟨k, hk, rfl, hE, n, rfl⟩ := hrel
      have HE := Lib.hid hE; clear hE
      by_cases hlt : k < a.length
      · have hb : k < b.length := by have := H.out; omega
        obtain ⟨ad1, rfl, _, hc1⟩ := h1.at_ hlt
        obtain ⟨ad2, rfl, _, hc2⟩ := h2.at_ hb
        have HN := Lib.hid (take_eq_nextI a b k HE.out hlt hb)
        have HD : Hid (a[k] ≠ b[k] → a ≠ b) := Lib.hid fun h e => by subst e; exact h rfl
        generalize a[k] = x at *
        generalize b[k] = y at *
        by_cases hxy : x = y
        · have d1 : (x != y) = false := by simp [hxy]
          have HXY := Lib.hid hxy; clear hxy
          go_wp2_with fail
          go_quiet (fail)
          go_wp2_with fail
          go_roundw
          case rel => exact ⟨k + 1, by omega, by go_num, HN.out HXY.out, n + nq, rfl⟩
          case measure => simp [intOf]; omega
        · have d1 : (x != y) = true := by simp [hxy]
          have HXY := Lib.hid hxy; clear hxy
          go_wp2_with fail
          go_quiet (fail)
          go_wp2_with fail
          go_ret
          exact ⟨ret_bl (by simp [HD.out HXY.out]), n + nq, by simp⟩
      · go_wp2_with fail
        go_ret
        have h0 : k = a.length := by omega
        subst h0
        have h3 := HE.out
        rw [List.take_length, H.out, List.take_length] at h3
        exact ⟨ret_bl (by simp [h3]), n, rfl⟩
  · have hne : ((a.length : Int) != b.length) = true := by simp; omega
    have H : Hid (a ≠ b) := Lib.hid (fun e => hlen (by rw [e]))
    clear hlen
    go_enter Try.func22, Try.ntmps22
    go_wp2_with fail
    go_ret
    have h3 := H.out
    exact ⟨ret_bl (by simp [h3]), 0, rfl⟩

set_option maxRecDepth 100000 in
set_option maxHeartbeats 1000000 in
/-- Set: one cell of the row is another one, if there is that place. -/
theorem set_any {w : World} {base g r c W H : Nat} {l : List Int} (h : GridAt w base 87 3 g r c W H (intsV l)) (x y v : Int) :
    Calls Try.prog 15 #[.pointer (some ⟨g, 0, none⟩), .int .i64 x, .int .i64 y, .int .i64 v] w fun e w' =>
      e = .returned (.bool (inB x y 1 1 W H)) ∧ ∃ w1, Below w.heap.size w w1 ∧ ((inB x y 1 1 W H = false → w' = w1) ∧ (inB x y 1 1 W H = true → w' = w1.setCell ⟨r, y.toNat * W + x.toNat, none⟩ (.int .i64 v))) := by
  go_enter Try.func15, Try.ntmps15
  go_wp2_with fail
  refine (holds_any h x y 1 1 (by omega) (by omega)).mono ?_
  rintro e w1 ⟨rfl, hb1⟩
  replace h := h.below hb1
  have HB1 := Lib.hid hb1
  clear hb1
  cases hi : inB x y 1 1 W H with
  | false =>
    have HI := Lib.hid hi
    go_wp2_with fail
    go_ret
    exact ⟨ret_bl HI.out.symm, _, HB1.out, fun _ => rfl, fun k => absurd (HI.out.symm.trans k) (by decide)⟩
  | true =>
    have HI := Lib.hid hi
    obtain ⟨_, _, i1, i2, i3, i4⟩ := inB_bd hi
    obtain ⟨X, rfl⟩ : ∃ X : Nat, x = (X : Int) := ⟨x.toNat, by omega⟩
    obtain ⟨Y, rfl⟩ : ∃ Y : Nat, y = (Y : Int) := ⟨y.toNat, by omega⟩
    have hx : X + 1 ≤ W := by omega
    have hy : Y < H := by omega
    have hpl := place_lt hx hy
    have hlen := h.len
    rw [intsV_length] at hlen
    have hF : Y * W + X < l.length := by rw [hlen]; exact hpl
    have hc := h.at_ (k := Y * W + X) (by rw [intsV_length]; exact hF)
    rw [intsV_get] at hc
    obtain ⟨hfm, _, hrb, hrl⟩ := h.form
    have hfn := Nat.le_trans hpl hfm
    have hfz : w1.frozen? ⟨r, Y * W + X, none⟩ = false := h.row.frozenAt _
    have HRun := run_any h X Y 1 (Nat.le_refl _) hx hy
    have HR2 := Lib.hid HRun
    have e2 : ((Y : Int).toNat * W + (X : Int).toNat) = Y * W + X := by simp
    have HE2 := Lib.hid e2
    clear HRun hpl hfm hlen hi e2 h
    generalize l[Y * W + X] = u at *
    generalize Y * W + X = F at *
    clear i1 i2 i3 i4
    go_wp2_with fail
    refine HR2.out.mono ?_
    rintro e w2 ⟨rfl, rfl⟩
    go_wp2_with fail
    go_ret
    exact ⟨ret_bl HI.out.symm, _, HB1.out, fun k => absurd (HI.out.symm.trans k) (by decide), fun _ => by rw [HE2.out]⟩

set_option maxRecDepth 100000 in
set_option maxHeartbeats 1000000 in
/-- A new grid of empty strings, three wide and one high. -/
theorem newS_any (w : World) : Calls Try.prog 39 #[.int .i64 3, .int .i64 1] w fun e w' => ∃ g r c, e = .returned (.tuple #[.pointer (some ⟨g, 0, none⟩), .int .i64 0]) ∧
    GridAt w' w.heap.size 92 9 g r c 3 1 [.string ⟨#[]⟩, .string ⟨#[]⟩, .string ⟨#[]⟩] ∧ Below w.heap.size w w' := by
  go_enter Try.func39, Try.ntmps39
  go_wp2_with fail
  refine (mayBe_any 3 1 w).mono ?_
  rintro e w1 ⟨rfl, rfl⟩
  have e1 : mayB 3 1 = true := by decide
  rw [e1]
  obtain ⟨i0, hi, hz0, hz1, hz2⟩ := info_parts info_str
  go_wp2_with (at_make; refine wpList_make_full _ rfl (.tmp 14) (.tmp 14) 60 rfl w1.heap.size 9 i0 (.string ⟨#[]⟩) 1 Try.underlying60 hi hz0 hz1 .i64 .i64 3 3 3 rfl rfl rfl rfl (by rw [hz2]; decide) (by decide) (Nat.le_refl _) ?_; intro w2 hown2 hg2; have hb2 := (Below.refl w1.heap.size w1).grown hg2 (by simp) (by simp); have O2 := Lib.hid hown2; have HB2 := Lib.hid hb2; clear hown2 hg2 hb2)
  go_ret2
  have e3 : (madeCells (Value.string ⟨#[]⟩).cells (3 * 1)).toList = [.string ⟨#[]⟩, .string ⟨#[]⟩, .string ⟨#[]⟩] := by
    rw [show (Value.string ⟨#[]⟩).cells = #[.string ⟨#[]⟩] from rfl, Nat.mul_one, toList_madeCells_one]
    rfl
  have o2 := O2.out
  rw [e3] at o2
  have hs := HB2.out.size
  exact ⟨w2.heap.size, w1.heap.size, 3, rfl, ⟨Blk.new w2 _ _, own_upd o2 ((Upd.refl No w2).alloc _) (fun _ _ => id), hs, by omega, by omega, by omega, by omega, by omega⟩, HB2.out.alloc hs _⟩

section
variable {w : World} {base g r c W H : Nat} {xs : List Value}
theorem wS_any (h : GridAt w base 92 9 g r c W H xs) : Calls Try.prog 26 #[.pointer (some ⟨g, 0, none⟩)] w fun e w' => e = .returned (.int .i64 (W : Int)) ∧ w' = w := by
  go_enter Try.func26, Try.ntmps26
  have k0 := h.c0
  go_wp2_with fail
  go_ret
  exact ⟨rfl, rfl⟩
theorem hS_any (h : GridAt w base 92 9 g r c W H xs) : Calls Try.prog 27 #[.pointer (some ⟨g, 0, none⟩)] w fun e w' => e = .returned (.int .i64 (H : Int)) ∧ w' = w := by
  go_enter Try.func27, Try.ntmps27
  have k1 := h.c1
  go_wp2_with fail
  go_ret
  exact ⟨rfl, rfl⟩
theorem cellsS_any (h : GridAt w base 92 9 g r c W H xs) (hu : ∀ u ∈ xs, u.oneCell' = true) : Calls Try.prog 28 #[.pointer (some ⟨g, 0, none⟩)] w fun e w' => ∃ r' c', e = .returned (.slice (some ⟨r', 0, none⟩) (W * H) c') ∧
      w'.ownsRow w.heap.size 9 1 (.slice (some ⟨r', 0, none⟩) (W * H) c') (W * H) xs ∧ Below w.heap.size w w' := by
  go_enter Try.func28, Try.ntmps28
  have k2 := h.c2
  have hp := h.pos
  have hf := h.few
  obtain ⟨n, hn⟩ : ∃ n, W * H = n := ⟨_, rfl⟩
  rw [hn] at k2 hp hf ⊢
  go_wp2_with fail
  refine (clonestr_n ⟨r, 0, none⟩ c n xs (by have := h.len; omega) hu w.heap.size w h.vs (Nat.le_refl _) hp (by omega)).mono ?_
  rintro e w2 ⟨r2, c2, rfl, o2, hb2⟩
  go_wp2_with fail
  go_ret
  exact ⟨r2, c2, rfl, o2, hb2⟩
end
end Go.Proofs.Ytfjnlbjlapbilaa
