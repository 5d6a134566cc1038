/- The document's comparing of bytes (as wip/bits S, cut), for seats of later layers. -/
import Derived.Test.YtaloieeemibblaaCo
import Derived.Test.YtaloieeemibblaaL
import Derived.Test.YtaloieeemibblaaRows
import Derived.WalkKit
import Derived.ProofKit
import Derived.OpenShut
import Derived.ChangeOld
import Derived.Below
import Derived.Lib.Hide
import Derived.Outline
import Derived.BigQuiet
import Derived.Deep.QuietTactic
namespace Go.Proofs.Ytaloieeemibblaa
open Go.ChangeShapes Go.WideShapes Go.ChangeAt Go.RowKit

theorem ret_sameb {a b : Bool} (h : a = b) : Ending.returned (.bool a) = .returned (.bool b) := by rw [h]

set_option maxHeartbeats 400000 in
theorem same_any (A1 A2 : Option Addr) (c1 c2 : Nat) (a b : List UInt8) (B : Nat) (w : World) (h1 : Bs w B A1 a) (h2 : Bs w B A2 b) (hl : a.length ≤ maxLen) :
    Calls Try.prog 18 #[.slice A1 a.length c1, .slice A2 b.length c2] w fun e w' => e = .returned (.bool (a == b)) ∧ ∃ n, w' = w.drewN n := by
  unfold maxLen at hl
  by_cases hlen : a.length = b.length
  · have hne : ((a.length : Int) != b.length) = false := by simp [hlen]
    have H := Lib.hid hlen; clear hlen
    go_enter Try.func18, Try.ntmps18
    go_wp2
    go_loopw [5] (fun i wr => ∃ k : Nat, k ≤ a.length ∧ i = .int .i64 k ∧ a.take k = b.take k ∧ ∃ n, wr = w.drewN n) (fun i _ => a.length - (intOf i).toNat)
    case atStart => exact ⟨0, by omega, rfl, by simp, 0, rfl⟩
    case round =>
      obtain ⟨k, hk, rfl, hE, n, rfl⟩ := hrel
      have HE := Lib.hid hE; clear hE
      by_cases hlt : k < a.length
      · have hb : k < b.length := by have := H.out; omega
        obtain ⟨ad1, rfl, _, hc1⟩ := h1.at_ hlt
        obtain ⟨ad2, rfl, _, hc2⟩ := h2.at_ hb
        go_wp2
        go_quiet (fail)
        go_wp2
        · go_ret
          have hd : ((a[k].toNat : Int) != (b[k].toNat : Int)) = true := by assumption
          refine ⟨ret_sameb ?_, n + nq, by simp⟩
          have hn : a ≠ b := fun e => by subst e; simp at hd
          simp [hn]
        · go_roundw
          case rel =>
            have hd : ((a[k].toNat : Int) != (b[k].toNat : Int)) = false := by assumption
            have hd' : a[k] = b[k] := by
              have : a[k].toNat = b[k].toNat := by simp at hd; omega
              exact UInt8.toNat_inj.mp this
            exact ⟨k + 1, by omega, by go_num, take_eq_next a b k HE.out hlt hb hd', n + nq, rfl⟩
          case measure => simp [intOf]; omega
      · go_wp2
        go_ret
        have h0 : k = a.length := by omega
        subst h0
        have h3 := HE.out
        rw [List.take_length, H.out, List.take_length] at h3
        exact ⟨ret_sameb (by simp [h3]), n, rfl⟩
  · have hne : ((a.length : Int) != b.length) = true := by simp; omega
    have H : Hid (a ≠ b) := Lib.hid (fun e => hlen (by rw [e]))
    clear hlen
    go_enter Try.func18, Try.ntmps18
    go_wp2
    go_ret
    have h3 := H.out
    exact ⟨ret_sameb (by simp [h3]), 0, rfl⟩

end Go.Proofs.Ytaloieeemibblaa
