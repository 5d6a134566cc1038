/- Contract of copying bytes. -/
import Derived.Test.YtaloieeemibblaaL
import Derived.Test.YtaloieeemibblaaRows
import Derived.WalkKit
import Derived.ProofKit
import Derived.OpenShut
import Derived.ChangeOld
import Derived.Below
import Derived.Lib.Hide
import Derived.Outline
import Derived.BigQuiet
import Derived.Deep.QuietTactic
namespace Go.Proofs.Ytaloieeemibblaa
open Go.ChangeShapes Go.WideShapes Go.ChangeAt Go.RowKit

theorem take_eq_next (a b : List UInt8) (k : Nat) (h : a.take k = b.take k) (ha : k < a.length) (hb : k < b.length) (e : a[k] = b[k]) : a.take (k + 1) = b.take (k + 1) := by
  rw [List.take_succ_eq_append_getElem ha, List.take_succ_eq_append_getElem hb, h, e]

theorem ret_bool {a b : Bool} (h : a = b) : Ending.returned (.bool a) = .returned (.bool b) := by rw [h]

theorem info_u8 : (Try.prog.info? 5).map (fun i => (i.zero, i.size, i.bytes)) = some (some (.int .u8 0), 1, 1) := by kernel_rfl
theorem info_u8_size : (Try.prog.info? 5).map (·.size) = some 1 := by kernel_rfl

set_option maxHeartbeats 400000 in
theorem copyOf_any (A : Option Addr) (c : Nat) (l : List UInt8) (B : Nat) (w : World) (h : Bs w B A l) (hB : B ≤ w.heap.size) (hl : l.length ≤ 140737488355328) :
    Calls Try.prog 63 #[.slice A l.length c] w fun e w' => ∃ A' c', e = .returned (.slice A' l.length c') ∧
      w'.ownsRow w.heap.size 5 1 (.slice A' l.length c') l.length (bytesV l) ∧ Below w.heap.size w w' := by
  obtain ⟨i0, hi, hz0, hz1, hz2⟩ := info_parts info_u8
  have hmin : (bytesV l).length = Nat.min l.length l.length := by rw [bytesV_length]; exact (Nat.min_self _).symm
  go_enter Try.func63, Try.ntmps63
  go_wp2_with (first | (at_make; refine wpList_make_full _ rfl (.tmp 5) (.tmp 5) 22 rfl w.heap.size 5 i0 (.int .u8 0) 1 Try.underlying22 hi hz0 hz1 .i64 .i64 l.length l.length l.length rfl rfl rfl rfl (by rw [hz2]; omega) (by unfold maxLen; omega) (Nat.le_refl _) ?_; intro w1 hown1 hg1; obtain ⟨cur1, hcur1, hlen1⟩ := own_block hown1; have hb1 := (Below.refl w.heap.size w).grown hg1 (Nat.le_refl _) (by simp)) | (with_reducible refine wpList_copy_splice rfl (.tmp 7) (.tmp 8) 22 22 rfl 5 Try.underlying22 info_u8_size _ A l.length l.length l.length c rfl rfl w.heap.size 0 cur1 5 hcur1 (bytesV l) hmin (fun hp => ⟨rfl, copy_src h hb1 hB hp⟩) (by rw [bytesV_length, hlen1]; omega) (bytesV_oneCell l) w.heap.size w hb1 (Nat.le_refl _) ?_; intro w2 hw2 hb2))
  go_ret
  exact ⟨_, _, rfl, own_of_splice hw2.out hlen1 (Nat.le_refl _) (by unfold maxLen; omega), hb2⟩
theorem copyOf_n (A : Option Addr) (c n : Nat) (l : List UInt8) (hn : l.length = n) (B : Nat) (w : World) (h : Bs w B A l) (hB : B ≤ w.heap.size) (hl : n ≤ 140737488355328) :
    Calls Try.prog 63 #[.slice A n c] w fun e w' => ∃ A' c', e = .returned (.slice A' n c') ∧
      w'.ownsRow w.heap.size 5 1 (.slice A' n c') n (bytesV l) ∧ Below w.heap.size w w' := by
  subst hn
  exact copyOf_any A c l B w h hB hl
theorem Bs.cutN {w : World} {B : Nat} {A : Option Addr} {l : List UInt8} {k n cap : Nat} (h : Bs w B A l) (hk : k ≤ l.length) (hc : l.length ≤ cap) : Bs w B (if cap = k then A else A.map (·.add k)) ((l.drop k).take n) := (h.drop hk hc).take n
end Go.Proofs.Ytaloieeemibblaa
