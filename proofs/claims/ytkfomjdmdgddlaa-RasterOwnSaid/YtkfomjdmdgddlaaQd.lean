/- Two images compared: the program's way and the document's. -/
import Derived.Test.YtkfomjdmdgddlaaQc
namespace Go.Proofs.Ytkfomjdmdgddlaa
open Go.ChangeShapes Go.WideShapes Go.ChangeAt Go.RowKit

theorem take_eq_nextI (a b : List Int) (k : Nat) (h : a.take k = b.take k) (ha : k < a.length) (hb : k < b.length) (e : a[k] = b[k]) : a.take (k + 1) = b.take (k + 1) := by
  rw [List.take_succ_eq_append_getElem ha, List.take_succ_eq_append_getElem hb, h, e]
set_option maxHeartbeats 400000 in
theorem equal_n (A1 A2 : Option Addr) (n1 n2 c1 c2 : Nat) (a b : List Int) (hn1 : a.length = n1) (hn2 : b.length = n2) (B : Nat) (w : World) (h1 : Us w B A1 a) (h2 : Us w B A2 b) (hl : n1 ≤ maxLen) :
    Calls Try.prog 41 #[.slice A1 n1 c1, .slice A2 n2 c2] w fun e w' => e = .returned (.bool (a == b)) ∧ ∃ n, w' = w.drewN n := by
  subst hn1 hn2
  unfold maxLen at hl
  by_cases hlen : a.length = b.length
  · have hne : ((a.length : Int) != b.length) = false := by simp [hlen]
    have H := Lib.hid hlen; clear hlen
    go_enter Try.func41, Try.ntmps41
    go_wp2_with fail
    go_loopw [13] (fun i wr => ∃ k : Nat, k ≤ a.length ∧ i = .int .i64 k ∧ a.take k = b.take k ∧ ∃ n, wr = w.drewN n) (fun i _ => a.length - (intOf i).toNat)
    case atStart => exact ⟨0, by omega, rfl, by simp, 0, rfl⟩
    case round =>
      obtain ⟨k, hk, rfl, hE, n, rfl⟩ := hrel
      have HE := Lib.hid hE; clear hE
      by_cases hlt : k < a.length
      · have hb : k < b.length := by have := H.out; omega
        obtain ⟨ad1, rfl, _, hc1⟩ := h1.at_ hlt
        obtain ⟨ad2, rfl, _, hc2⟩ := h2.at_ hb
        have HN := Lib.hid (take_eq_nextI a b k HE.out hlt hb)
        have HD : Hid (a[k] ≠ b[k] → a ≠ b) := Lib.hid fun h e => by subst e; exact h rfl
        generalize a[k] = x at *
        generalize b[k] = y at *
        by_cases hxy : x = y
        · have d1 : (x != y) = false := by simp [hxy]
          have HXY := Lib.hid hxy; clear hxy
          go_wp2_with fail
          go_quiet (fail)
          go_wp2_with fail
          go_roundw
          case rel => exact ⟨k + 1, by omega, by go_num, HN.out HXY.out, n + nq, rfl⟩
          case measure => simp [intOf]; omega
        · have d1 : (x != y) = true := by simp [hxy]
          have HXY := Lib.hid hxy; clear hxy
          go_wp2_with fail
          go_quiet (fail)
          go_wp2_with fail
          go_ret
          exact ⟨ret_bl (by simp [HD.out HXY.out]), n + nq, by simp⟩
      · go_wp2_with fail
        go_ret
        have h0 : k = a.length := by omega
        subst h0
        have h3 := HE.out
        rw [List.take_length, H.out, List.take_length] at h3
        exact ⟨ret_bl (by simp [h3]), n, rfl⟩
  · have hne : ((a.length : Int) != b.length) = true := by simp; omega
    have H : Hid (a ≠ b) := Lib.hid (fun e => hlen (by rw [e]))
    clear hlen
    go_enter Try.func41, Try.ntmps41
    go_wp2_with fail
    go_ret
    have h3 := H.out
    exact ⟨ret_bl (by simp [h3]), 0, rfl⟩
/-- Are two images alike? -/
def sameB (W H : Int) (a : List Int) (W' H' : Int) (b : List Int) : Bool := decide (W = W') && decide (H = H') && (a == b)
theorem sameB_self (W H : Int) (a : List Int) : sameB W H a W H a = true := by simp [sameB]
theorem boxes2 (w : World) (a b : Array Value) (t u : TypeId) : Below w.heap.size w ((w.alloc (.cells a t)).alloc (.cells b u)) ∧ ((w.alloc (.cells a t)).alloc (.cells b u)).heap.size = w.heap.size + 1 + 1 ∧
    Blk ((w.alloc (.cells a t)).alloc (.cells b u)) w.heap.size t a ∧ Blk ((w.alloc (.cells a t)).alloc (.cells b u)) (w.heap.size + 1) u b := by
  have h1 := Blk.new w t a
  have h2 := Blk.new (w.alloc (.cells a t)) u b
  simp only [World.size_alloc] at h2
  exact ⟨((Below.refl _ w).alloc (Nat.le_refl _) _).alloc (by simp) _, by simp, h1.alloc _, h2⟩
theorem same_start (W H : Int) (A : Option Addr) (n c : Nat) (W' H' : Int) (A' : Option Addr) (n' c' : Nat) (w : World) : ∃ W1, (w.alloc (.cells #[.int .i64 W, .int .i64 H, .slice A n c] 24)).alloc (.cells #[.int .i64 W', .int .i64 H', .slice A' n' c'] 24) = W1 ∧
    IB W1 w.heap.size (.int .i64 W) (.int .i64 H) (.slice A n c) ∧ IB W1 (w.heap.size + 1) (.int .i64 W') (.int .i64 H') (.slice A' n' c') ∧ Below w.heap.size w W1 := by
  obtain ⟨h1, _, h2, h3⟩ := boxes2 w (imgC W H A n c) (imgC W' H' A' n' c') 24 24
  exact ⟨_, rfl, IB.of h2, IB.of h3, h1⟩
theorem below_drewN {B : Nat} {w w' : World} (h : Below B w w') (n : Nat) : Below B w (w'.drewN n) := ⟨h.os, h.tape, h.output, h.size, h.block⟩
set_option maxRecDepth 100000 in
set_option maxHeartbeats 1000000 in
theorem same_any (W H : Int) (A : Option Addr) (n c : Nat) (a : List Int) (W' H' : Int) (A' : Option Addr) (n' c' : Nat) (b : List Int) (hn : a.length = n) (hn' : b.length = n') (B : Nat) (w : World) (h : Us w B A a) (h' : Us w B A' b) (hB : B ≤ w.heap.size) (hl : n ≤ maxLen) :
    Calls Try.prog 16 #[imgV W H A n c, imgV W' H' A' n' c'] w fun e w' => e = .returned (.bool (sameB W H a W' H' b)) ∧ Below w.heap.size w w' := by
  obtain ⟨W1, hW1, ⟨_, x0, x1, x2, _, _, _⟩, ⟨_, y0, y1, y2, _, _, _⟩, hb⟩ := same_start W H A n c W' H' A' n' c' w
  go_enter Try.func16, Try.ntmps16
  have HW1 := Lib.hid hW1
  clear hW1
  go_upto_region 1 with (fail)
  rw [HW1.out]
  clear HW1
  have HB := Lib.hid hb
  have HQ := Lib.hid (equal_n A A' n n' c c' a b hn hn' B W1 (Vs.below h (hb.mono hB)) (Vs.below h' (hb.mono hB)) hl)
  clear hb h h'
  by_cases h1 : W = W'
  case neg =>
    have HE : Hid (sameB W H a W' H' b = false) := Lib.hid (by simp [sameB, h1])
    have d1 : (W == W') = false := by simp [h1]
    go_wp2_with fail
    go_ret
    exact ⟨ret_bl HE.out.symm, HB.out⟩
  subst h1
  by_cases h2 : H = H'
  case neg =>
    have HE : Hid (sameB W H a W H' b = false) := Lib.hid (by simp [sameB, h2])
    have d1 : (H == H') = false := by simp [h2]
    go_wp2_with fail
    go_ret
    exact ⟨ret_bl HE.out.symm, HB.out⟩
  subst h2
  have HE : Hid (sameB W H a W H b = (a == b)) := Lib.hid (by simp [sameB])
  go_wp2_with fail
  refine HQ.out.mono ?_
  rintro e w2 ⟨rfl, k, rfl⟩
  go_wp2_with fail
  go_ret
  exact ⟨ret_bl HE.out.symm, below_drewN HB.out k⟩
set_option maxRecDepth 100000 in
set_option maxHeartbeats 1000000 in
theorem refSame_any (W H : Int) (A : Option Addr) (n c : Nat) (a : List Int) (W' H' : Int) (A' : Option Addr) (n' c' : Nat) (b : List Int) (hn : a.length = n) (hn' : b.length = n') (B : Nat) (w : World) (h : Us w B A a) (h' : Us w B A' b) (hB : B ≤ w.heap.size) (hl : n ≤ maxLen) :
    Calls Try.prog 17 #[imgV W H A n c, imgV W' H' A' n' c'] w fun e w' => e = .returned (.bool (sameB W H a W' H' b)) ∧ Below w.heap.size w w' := by
  unfold maxLen at hl
  obtain ⟨W1, hW1, ⟨_, x0, x1, x2, _, _, _⟩, ⟨_, y0, y1, y2, _, _, _⟩, hb⟩ := same_start W H A n c W' H' A' n' c' w
  go_enter Try.func17, Try.ntmps17
  have HW1 := Lib.hid hW1
  clear hW1
  go_upto_region 1 with (fail)
  rw [HW1.out]
  clear HW1
  have HB := Lib.hid hb
  have h1v := Vs.below h (hb.mono hB)
  have h2v := Vs.below h' (hb.mono hB)
  clear hb h h'
  by_cases h1 : W = W'
  case neg =>
    have HE : Hid (sameB W H a W' H' b = false) := Lib.hid (by simp [sameB, h1])
    have d1 : (W != W') = true := by simp [h1]
    go_wp2_with fail
    go_ret
    exact ⟨ret_bl HE.out.symm, HB.out⟩
  subst h1
  by_cases h2 : H = H'
  case neg =>
    have HE : Hid (sameB W H a W H' b = false) := Lib.hid (by simp [sameB, h2])
    have d1 : (H != H') = true := by simp [h2]
    go_wp2_with fail
    go_ret
    exact ⟨ret_bl HE.out.symm, HB.out⟩
  subst h2
  have HE : Hid (sameB W H a W H b = (a == b)) := Lib.hid (by simp [sameB])
  by_cases hlen : n = n'
  case neg =>
    have hne : ((n : Int) != n') = true := by simp; omega
    have HD : Hid ((a == b) = false) := Lib.hid (by simp; intro e; subst e; omega)
    clear hlen
    go_wp2_with fail
    go_ret
    exact ⟨ret_bl (by rw [HE.out, HD.out]), HB.out⟩
  subst hlen
  go_wp2_with fail
  go_loopw [5] (fun i wr => ∃ k : Nat, k ≤ n ∧ i = .int .i64 k ∧ Hid (a.take k = b.take k) ∧ ∃ m, wr = W1.drewN m) (fun i _ => n - (intOf i).toNat)
  case atStart => exact ⟨0, by omega, rfl, Lib.hid (by simp), 0, rfl⟩
  case round =>
    obtain ⟨k, hk, rfl, HK, m, rfl⟩ := hrel
    by_cases hlt : k < n
    · have ha : k < a.length := by omega
      have hb : k < b.length := by omega
      obtain ⟨ad1, rfl, _, hc1⟩ := Us.at_ h1v ha
      obtain ⟨ad2, rfl, _, hc2⟩ := Us.at_ h2v hb
      have HN := Lib.hid (take_eq_nextI a b k HK.out ha hb)
      have HD : Hid (a[k] ≠ b[k] → a ≠ b) := Lib.hid fun h e => by subst e; exact h rfl
      generalize a[k] = x at hc1 HN HD
      generalize b[k] = y at hc2 HN HD
      clear ha hb hn hn' HK h1v h2v
      by_cases hxy : x = y
      · have d1 : (x != y) = false := by simp [hxy]
        have HXY := Lib.hid hxy; clear hxy
        go_wp2_with fail
        go_quiet (fail)
        go_wp2_with fail
        go_roundw
        case rel => exact ⟨k + 1, by omega, by go_num, Lib.hid (HN.out HXY.out), m + nq, rfl⟩
        case measure => simp [intOf]; omega
      · have d1 : (x != y) = true := by simp [hxy]
        have HXY := Lib.hid hxy; clear hxy
        go_wp2_with fail
        go_quiet (fail)
        go_wp2_with fail
        go_ret
        exact ⟨ret_bl (by rw [HE.out]; simp [HD.out HXY.out]), below_drewN (below_drewN HB.out m) nq⟩
    · obtain rfl : k = n := by omega
      go_wp2_with fail
      go_ret
      have h3 := HK.out
      rw [List.take_of_length_le (by omega), List.take_of_length_le (by omega)] at h3
      exact ⟨ret_bl (by rw [HE.out]; simp [h3]), below_drewN HB.out m⟩
end Go.Proofs.Ytkfomjdmdgddlaa
