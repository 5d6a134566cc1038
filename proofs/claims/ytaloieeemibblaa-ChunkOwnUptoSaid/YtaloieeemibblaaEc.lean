/- What a byte of a row in memory is held against. -/
import Derived.Test.YtaloieeemibblaaEb
set_option linter.unusedVariables false
set_option linter.unusedSimpArgs false
namespace Go.Proofs.Ytaloieeemibblaa
open Go.ChangeShapes Go.WideShapes Go.ChangeAt Go.RowKit

theorem gs_cases {k : Nat} (h : k ≤ 4) : k = 0 ∨ k = 1 ∨ k = 2 ∨ k = 3 ∨ k = 4 := by omega
theorem half_w (a b : Nat) (ha : a < 256) (hb : b < 256) : (((a : Int) + b) / 2) = (((a + b) / 2 : Nat) : Int) := by omega
set_option maxRecDepth 100000 in
set_option maxHeartbeats 2000000 in
theorem guess_any (kind bpp i n W cr cb : Nat) (Ar Ab : Option Addr) (r ab : List UInt8) (hk : kind ≤ 4) (hb1 : 1 ≤ bpp) (hb8 : bpp ≤ 8) (hi : i < W) (hir : i < n) (hn : r.length = n) (hW : ab.length = W) (hm : W ≤ 140737488355328)
    (B1 B2 : Nat) (w : World) (h1 : Bs w B1 Ar r) (h2 : Bs w B2 Ab ab) :
    Calls Try.prog 40 #[.int .i64 (kind : Int), .slice Ar n cr, .slice Ab W cb, .int .i64 (i : Int), .int .i64 (bpp : Int)] w fun e w' => e = .returned (.int .u8 (gsB kind bpp i r ab : Nat)) ∧ ∃ m, w' = w.drewN m := by
  have HN := Lib.hid hn; have HW := Lib.hid hW
  obtain ⟨ad2, rfl, _, c2⟩ := h2.at_ (k := i) (by omega)
  rw [byteAt_get _ _ (by omega)] at c2
  have bb := byteAt_lt ab i
  by_cases hge : bpp ≤ i
  · obtain ⟨ad1, rfl, _, c1⟩ := h1.at_ (k := i - bpp) (by omega)
    obtain ⟨_, hx, _, c3⟩ := h2.at_ (k := i - bpp) (by omega)
    injection hx with hx
    subst hx
    rw [byteAt_get _ _ (by omega)] at c1 c3
    have ba := byteAt_lt r (i - bpp)
    have bc := byteAt_lt ab (i - bpp)
    have HG : Hid (gsB kind bpp i r ab = gsN kind (byteAt r (i - bpp)) (byteAt ab i) (byteAt ab (i - bpp))) := Lib.hid (by unfold gsB; rw [if_pos hge, if_pos hge])
    generalize byteAt r (i - bpp) = a at *
    generalize byteAt ab (i - bpp) = c at *
    generalize byteAt ab i = b at *
    have i1 : 0 ≤ (i : Int) - (bpp : Int) := by omega
    have i2 : ((i : Int) - (bpp : Int)).toNat = i - bpp := by omega
    have i3 : ((i : Int) - (bpp : Int)) < (n : Int) := by omega
    have i4 : ((i : Int) - (bpp : Int)) < (W : Int) := by omega
    clear hn hW h1 h2
    rcases gs_cases hk with rfl | rfl | rfl | rfl | rfl
    · go_enter Try.func40, Try.ntmps40
      go_wp2_with fail
      go_quiet (fail)
      go_wp2_with fail
      go_ret
      exact ⟨ret_ik (by rw [HG.out]; rfl), nq, rfl⟩
    · go_enter Try.func40, Try.ntmps40
      go_wp2_with fail
      go_quiet (fail)
      go_wp2_with fail
      go_ret
      exact ⟨ret_ik (by rw [HG.out]; rfl), nq, rfl⟩
    · go_enter Try.func40, Try.ntmps40
      go_wp2_with fail
      go_quiet (fail)
      go_wp2_with fail
      go_ret
      exact ⟨ret_ik (by rw [HG.out]; rfl), nq, rfl⟩
    · go_enter Try.func40, Try.ntmps40
      go_wp2_with fail
      go_quiet (fail)
      go_wp2_with fail
      go_ret
      exact ⟨ret_ik (by rw [HG.out]; unfold gsN; simp; try omega), nq, rfl⟩
    · go_enter Try.func40, Try.ntmps40
      go_wp2_with fail
      go_quiet (fail)
      go_wp2_with fail
      refine (nearest_any a b c ba bb bc _).mono ?_
      rintro e w1 ⟨rfl, rfl⟩
      go_wp2_with fail
      go_ret
      exact ⟨ret_ik (by rw [HG.out]; rfl), nq, rfl⟩
  · have HG : Hid (gsB kind bpp i r ab = gsN kind 0 (byteAt ab i) 0) := Lib.hid (by unfold gsB; rw [if_neg hge, if_neg hge])
    generalize byteAt ab i = b at *
    clear hn hW h1 h2
    have HN0 := Lib.hid (nearest_any 0 b 0 (by omega) bb (by omega))
    rcases gs_cases hk with rfl | rfl | rfl | rfl | rfl
    · go_enter Try.func40, Try.ntmps40
      go_wp2_with fail
      go_ret
      exact ⟨ret_ik (by rw [HG.out]; rfl), 0, rfl⟩
    · go_enter Try.func40, Try.ntmps40
      go_wp2_with fail
      go_ret
      exact ⟨ret_ik (by rw [HG.out]; rfl), 0, rfl⟩
    · go_enter Try.func40, Try.ntmps40
      go_wp2_with fail
      go_ret
      exact ⟨ret_ik (by rw [HG.out]; rfl), 0, rfl⟩
    · go_enter Try.func40, Try.ntmps40
      go_wp2_with fail
      go_ret
      exact ⟨ret_ik (by rw [HG.out]; unfold gsN; simp; try omega), 0, rfl⟩
    · go_enter Try.func40, Try.ntmps40
      go_wp2_with fail
      refine (HN0.out _).mono ?_
      rintro e w1 ⟨rfl, rfl⟩
      go_wp2_with fail
      go_ret
      exact ⟨ret_ik (by rw [HG.out]; rfl), 0, rfl⟩
end Go.Proofs.Ytaloieeemibblaa
