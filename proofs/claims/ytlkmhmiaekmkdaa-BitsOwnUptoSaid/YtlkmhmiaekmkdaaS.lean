/- Contracts of comparing and copying bytes. -/
import Derived.Test.YtlkmhmiaekmkdaaL
import Derived.Test.YtlkmhmiaekmkdaaRows
import Derived.WalkKit
import Derived.ProofKit
import Derived.OpenShut
import Derived.ChangeOld
import Derived.Below
import Derived.Lib.Hide
import Derived.Outline
import Derived.BigQuiet
import Derived.Deep.QuietTactic
namespace Go.Proofs.Ytlkmhmiaekmkdaa
open Go.ChangeShapes Go.WideShapes Go.ChangeAt Go.RowKit

theorem take_eq_next (a b : List UInt8) (k : Nat) (h : a.take k = b.take k) (ha : k < a.length) (hb : k < b.length) (e : a[k] = b[k]) : a.take (k + 1) = b.take (k + 1) := by
  rw [List.take_succ_eq_append_getElem ha, List.take_succ_eq_append_getElem hb, h, e]

theorem ret_bool {a b : Bool} (h : a = b) : Ending.returned (.bool a) = .returned (.bool b) := by rw [h]

set_option maxHeartbeats 400000 in
theorem same_any (A1 A2 : Option Addr) (c1 c2 : Nat) (a b : List UInt8) (B : Nat) (w : World) (h1 : Bs w B A1 a) (h2 : Bs w B A2 b) (hl : a.length ≤ maxLen) :
    Calls Try.prog 19 #[.slice A1 a.length c1, .slice A2 b.length c2] w fun e w' => e = .returned (.bool (a == b)) ∧ ∃ n, w' = w.drewN n := by
  unfold maxLen at hl
  by_cases hlen : a.length = b.length
  · have hne : ((a.length : Int) != b.length) = false := by simp [hlen]
    have H := Lib.hid hlen; clear hlen
    go_enter Try.func19, Try.ntmps19
    go_wp2
    go_loopw [5] (fun i wr => ∃ k : Nat, k ≤ a.length ∧ i = .int .i64 k ∧ a.take k = b.take k ∧ ∃ n, wr = w.drewN n) (fun i _ => a.length - (intOf i).toNat)
    case atStart => exact ⟨0, by omega, rfl, by simp, 0, rfl⟩
    case round =>
      obtain ⟨k, hk, rfl, hE, n, rfl⟩ := hrel
      have HE := Lib.hid hE; clear hE
      by_cases hlt : k < a.length
      · have hb : k < b.length := by have := H.out; omega
        obtain ⟨ad1, rfl, _, hc1⟩ := h1.at_ hlt
        obtain ⟨ad2, rfl, _, hc2⟩ := h2.at_ hb
        go_wp2
        go_quiet (fail)
        go_wp2
        · go_ret
          have hd : ((a[k].toNat : Int) != (b[k].toNat : Int)) = true := by assumption
          refine ⟨ret_bool ?_, n + nq, by simp⟩
          have hn : a ≠ b := fun e => by subst e; simp at hd
          simp [hn]
        · go_roundw
          case rel =>
            have hd : ((a[k].toNat : Int) != (b[k].toNat : Int)) = false := by assumption
            have hd' : a[k] = b[k] := by
              have : a[k].toNat = b[k].toNat := by simp at hd; omega
              exact UInt8.toNat_inj.mp this
            exact ⟨k + 1, by omega, by go_num, take_eq_next a b k HE.out hlt hb hd', n + nq, rfl⟩
          case measure => simp [intOf]; omega
      · go_wp2
        go_ret
        have h0 : k = a.length := by omega
        subst h0
        have h3 := HE.out
        rw [List.take_length, H.out, List.take_length] at h3
        exact ⟨ret_bool (by simp [h3]), n, rfl⟩
  · have hne : ((a.length : Int) != b.length) = true := by simp; omega
    have H : Hid (a ≠ b) := Lib.hid (fun e => hlen (by rw [e]))
    clear hlen
    go_enter Try.func19, Try.ntmps19
    go_wp2
    go_ret
    have h3 := H.out
    exact ⟨ret_bool (by simp [h3]), 0, rfl⟩

theorem info_u8 : (Try.prog.info? 5).map (fun i => (i.zero, i.size, i.bytes)) = some (some (.int .u8 0), 1, 1) := by kernel_rfl
theorem info_u8_size : (Try.prog.info? 5).map (·.size) = some 1 := by kernel_rfl

set_option maxHeartbeats 400000 in
theorem own_any (A : Option Addr) (c : Nat) (l : List UInt8) (B : Nat) (w : World) (h : Bs w B A l) (hB : B ≤ w.heap.size) (hl : l.length ≤ 140737488355328) :
    Calls Try.prog 12 #[.slice A l.length c] w fun e w' => ∃ A' c', e = .returned (.slice A' l.length c') ∧
      w'.ownsRow w.heap.size 5 1 (.slice A' l.length c') l.length (bytesV l) ∧ Below w.heap.size w w' := by
  obtain ⟨i0, hi, hz0, hz1, hz2⟩ := info_parts info_u8
  go_enter Try.func12, Try.ntmps12
  go_wp2_with (at_builtin; refine wpList_append_bs _ rfl (.tmp 3) (.tmp 4) _ rfl w.heap.size 5 i0 Try.underlying22 hi hz0 hz1 hz2 (.slice (some ⟨w.heap.size, 0, none⟩) 0 0) 0 [] rfl (World.ownsRow_made w #[] 0 (Nat.le_refl _) (by omega) rfl) B A c l rfl (h.alloc hB _) (by omega) (by simp) ?_; intro A1 c1 w1 hown1 hg1 hat1; simp only [Nat.zero_add, List.nil_append] at hown1 hat1 ⊢)
  go_ret
  exact ⟨A1, c1, rfl, hown1, ((Below.refl _ _).alloc (Nat.le_refl _) _).grown hg1 (by simp) (by simp [Value.ownBlock])⟩
set_option maxHeartbeats 400000 in
theorem copyOf_any (A : Option Addr) (c : Nat) (l : List UInt8) (B : Nat) (w : World) (h : Bs w B A l) (hB : B ≤ w.heap.size) (hl : l.length ≤ 140737488355328) :
    Calls Try.prog 39 #[.slice A l.length c] w fun e w' => ∃ A' c', e = .returned (.slice A' l.length c') ∧
      w'.ownsRow w.heap.size 5 1 (.slice A' l.length c') l.length (bytesV l) ∧ Below w.heap.size w w' := by
  obtain ⟨i0, hi, hz0, hz1, hz2⟩ := info_parts info_u8
  have hmin : (bytesV l).length = Nat.min l.length l.length := by rw [bytesV_length]; exact (Nat.min_self _).symm
  go_enter Try.func39, Try.ntmps39
  go_wp2_with (first | (at_make; refine wpList_make_full _ rfl (.tmp 5) (.tmp 5) 22 rfl w.heap.size 5 i0 (.int .u8 0) 1 Try.underlying22 hi hz0 hz1 .i64 .i64 l.length l.length l.length rfl rfl rfl rfl (by rw [hz2]; omega) (by unfold maxLen; omega) (Nat.le_refl _) ?_; intro w1 hown1 hg1; obtain ⟨cur1, hcur1, hlen1⟩ := own_block hown1; have hb1 := (Below.refl w.heap.size w).grown hg1 (Nat.le_refl _) (by simp)) | (with_reducible refine wpList_copy_splice rfl (.tmp 7) (.tmp 8) 22 22 rfl 5 Try.underlying22 info_u8_size _ A l.length l.length l.length c rfl rfl w.heap.size 0 cur1 5 hcur1 (bytesV l) hmin (fun hp => ⟨rfl, copy_src h hb1 hB hp⟩) (by rw [bytesV_length, hlen1]; omega) (bytesV_oneCell l) w.heap.size w hb1 (Nat.le_refl _) ?_; intro w2 hw2 hb2))
  go_ret
  exact ⟨_, _, rfl, own_of_splice hw2.out hlen1 (Nat.le_refl _) (by unfold maxLen; omega), hb2⟩
theorem copyOf_n (A : Option Addr) (c n : Nat) (l : List UInt8) (hn : l.length = n) (B : Nat) (w : World) (h : Bs w B A l) (hB : B ≤ w.heap.size) (hl : n ≤ 140737488355328) :
    Calls Try.prog 39 #[.slice A n c] w fun e w' => ∃ A' c', e = .returned (.slice A' n c') ∧
      w'.ownsRow w.heap.size 5 1 (.slice A' n c') n (bytesV l) ∧ Below w.heap.size w w' := by
  subst hn
  exact copyOf_any A c l B w h hB hl
theorem Bs.cutN {w : World} {B : Nat} {A : Option Addr} {l : List UInt8} {k n cap : Nat} (h : Bs w B A l) (hk : k ≤ l.length) (hc : l.length ≤ cap) : Bs w B (if cap = k then A else A.map (·.add k)) ((l.drop k).take n) := (h.drop hk hc).take n
end Go.Proofs.Ytlkmhmiaekmkdaa
