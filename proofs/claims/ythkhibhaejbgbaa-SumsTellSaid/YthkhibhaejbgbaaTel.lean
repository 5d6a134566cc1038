/- A byte that is turned is told by both sums: for every list of bytes, every place and every byte to turn by, no condition. -/
import Derived.Test.YthkhibhaejbgbaaSe
import Derived.Test.YthkhibhaejbgbaaO
import Derived.Deep.CondSized
namespace Go.Proofs.Ythkhibhaejbgbaa
open Go.ChangeShapes Go.WideShapes Go.ChangeAt Go.RowKit
namespace SumsTell

theorem place (at_ : Int) (n : Nat) (hn : 0 < n) (hl : n ≤ 140737488355328) :
    ∃ k : Nat, k < n ∧ wrap64 ((IntKind.u64.wrap at_).tmod (n : Int)) = (k : Int) := by
  have e : IntKind.u64.wrap at_ = at_ % 18446744073709551616 := by rw [IntKind.wrap_u64]
  obtain ⟨m, hm⟩ : ∃ m : Nat, IntKind.u64.wrap at_ = (m : Int) := ⟨(at_ % 18446744073709551616).toNat, by rw [e]; omega⟩
  rw [hm]
  have hk : m % n < n := Nat.mod_lt _ hn
  refine ⟨m % n, hk, ?_⟩
  have e2 : ((m : Int).tmod (n : Int)) = ((m % n : Nat) : Int) := by rw [Int.tmod_eq_emod_of_nonneg (by omega)]; rfl
  rw [e2]
  generalize m % n = q at hk
  exact IntWalk.wrap64_in _ (by omega)
theorem crc_none : crcOn 0 [] = 0 := by decide +kernel
theorem ne_int {a b : Nat} (h : a ≠ b) : ((a : Int) != (b : Int)) = true := by rw [bne_iff_ne]; omega
theorem set_parts (l : List UInt8) (k : Nat) (hk : k < l.length) (z : UInt8) : l = l.take k ++ l[k] :: l.drop (k + 1) ∧ l.set k z = l.take k ++ z :: l.drop (k + 1) := by
  refine ⟨?_, ?_⟩
  · rw [← List.drop_eq_getElem_cons hk, List.take_append_drop]
  · rw [List.set_eq_take_append_cons_drop, if_pos hk]
theorem told_crc (l : List UInt8) (k : Nat) (hk : k < l.length) (z : UInt8) (hz : z ≠ l[k]) : (((crcOn 0 (l.set k z) : Nat) : Int) != ((crcOn 0 l : Nat) : Int)) = true := by
  obtain ⟨q1, q2⟩ := set_parts l k hk z
  have h := crcOn_tell 0 (by omega) (l.take k) (l.drop (k + 1)) z l[k] hz
  rw [← q1, ← q2] at h
  exact ne_int h
theorem told_ad (l : List UInt8) (k : Nat) (hk : k < l.length) (z : UInt8) (hz : z ≠ l[k]) : (((adOn 1 (l.set k z) : Nat) : Int) != ((adOn 1 l : Nat) : Int)) = true := by
  obtain ⟨q1, q2⟩ := set_parts l k hk z
  have h := adOn_tell 1 (l.take k) (l.drop (k + 1)) z l[k] hz
  rw [← q1, ← q2] at h
  exact ne_int h
theorem bytesV_set (l : List UInt8) (k : Nat) (z : UInt8) : (bytesV l).set k (.int .u8 (z.toNat : Int)) = bytesV (l.set k z) := by
  simp [bytesV, bv, List.map_set]
theorem turned (a : UInt8) (y : Nat) (hy : y < 256) (h0 : 0 < y) : ∃ z : UInt8, z ≠ a ∧ bits .xor .u8 (a.toNat : Int) (y : Int) = (z.toNat : Int) := by
  have ha := a.toNat_lt
  have hx : a.toNat ^^^ y < 2 ^ 8 := Nat.xor_lt_two_pow ha hy
  have e : (UInt8.ofNat (a.toNat ^^^ y)).toNat = a.toNat ^^^ y := by rw [UInt8.toNat_ofNat']; omega
  refine ⟨UInt8.ofNat (a.toNat ^^^ y), fun h => ?_, by rw [e]; exact xor_u8 _ _ ha hy⟩
  rw [h] at e
  have h2 := congrArg (a.toNat ^^^ ·) e
  simp only [xor_self_left, Nat.xor_self] at h2
  omega

set_option maxHeartbeats 1000000 in
set_option maxRecDepth 100000 in
theorem walk (A : Option Addr) (c : Nat) (l : List UInt8) (at_ : Int) (by_ : Int) (w : World) (hbs : Bs w w.heap.size A l) (hl : l.length ≤ 140737488355328) (_hat : -9223372036854775808 ≤ at_ ∧ at_ ≤ 9223372036854775807) (hby : 0 ≤ by_ ∧ by_ ≤ 255) :
    Calls Try.prog 6 #[.slice A l.length c, .int .i64 at_, .int .u8 by_] w fun e w' => e = .returned (.bool true) ∧ Below w.heap.size w w' := by
  have hm : l.length ≤ maxLen := by unfold maxLen; omega
  obtain ⟨y, hy, hy1⟩ : ∃ y : Nat, by_ = (y : Int) ∧ y < 256 := ⟨by_.toNat, by omega, by omega⟩
  subst hy
  clear hby
  by_cases h0 : l.length = 0
  · have d0 : ((l.length : Int) == 0) = true := by rw [beq_iff_eq]; omega
    clear h0
    go_enter Try.func6, Try.ntmps6
    go_wp2_with fail
    refine (wakes_any w).mono ?_
    rintro e w1 ⟨rfl, hb1⟩
    go_wp2_with fail
    refine (crc_any none 0 [] 0 w1 Bs.nil_ (Nat.zero_le _) (by simp [maxLen])).mono ?_
    rw [crc_none]
    rintro e w2 ⟨rfl, hb2⟩
    go_wp2_with fail
    go_ret
    exact ⟨rfl, hb1.trans (hb2.mono hb1.size)⟩
  · by_cases hy0 : y = 0
    · have d0 : ((l.length : Int) == 0) = false := by rw [beq_eq_false_iff_ne]; omega
      subst hy0
      clear h0
      go_enter Try.func6, Try.ntmps6
      go_wp2_with fail
      refine (wakes_any w).mono ?_
      rintro e w1 ⟨rfl, hb1⟩
      go_wp2_with fail
      refine (crc_any none 0 [] 0 w1 Bs.nil_ (Nat.zero_le _) (by simp [maxLen])).mono ?_
      rw [crc_none]
      rintro e w2 ⟨rfl, hb2⟩
      go_wp2_with fail
      go_ret
      exact ⟨rfl, hb1.trans (hb2.mono hb1.size)⟩
    · have d0 : ((l.length : Int) == 0) = false := by rw [beq_eq_false_iff_ne]; omega
      have d1 : ((y : Int) == 0) = false := by simp; omega
      have hp : 0 < l.length := by omega
      have hy0' : 0 < y := by omega
      clear h0 hy0
      obtain ⟨k, hk, hwk⟩ := place at_ l.length hp hl
      obtain ⟨z, hz, hxor⟩ := turned l[k] y hy1 hy0'
      have HZ := Lib.hid hz; clear hz
      go_enter Try.func6, Try.ntmps6
      go_wp2_with fail
      refine (wakes_any w).mono ?_
      rintro e w1 ⟨rfl, hb1⟩
      have b1 := hbs.below hb1
      go_wp2_with fail
      refine (own_any A c l _ w1 b1 hb1.size (by omega)).mono ?_
      rintro e w2 ⟨A2, c2, rfl, o2, hb2⟩
      have hb2' := hb1.trans (hb2.mono hb1.size)
      obtain ⟨g, cap2, hA2, _, hlt2⟩ := o2.form hp
      obtain ⟨rfl, rfl⟩ : A2 = some ⟨g, 0, none⟩ ∧ c2 = cap2 := by injection hA2 with h1 _ h2; exact ⟨h1, h2⟩
      clear hA2
      have hcell := o2.cellAt k (by omega)
      rw [bytesV_get l k hk] at hcell
      have hfz := o2.frozenAt k
      have O2 := Lib.hid o2; clear o2
      have hst := (O2.out.stored k (.int .u8 (z.toNat : Int))).1
      rw [bytesV_set] at hst
      have HST := Lib.hid hst; clear hst
      have hls : (l.set k z).length = l.length := List.length_set
      have HLS := Lib.hid hls; clear hls
      have hge := (O2.out.lt g rfl).1
      have HC := Lib.hid (told_crc l k hk z HZ.out)
      have HA := Lib.hid (told_ad l k hk z HZ.out)
      have bs2 : Bs (w2.setCell ⟨g, k, none⟩ (.int .u8 (z.toNat : Int))) w2.heap.size (some ⟨g, 0, none⟩) (l.set k z) := by
        have h := HST.out
        rw [← HLS.out] at h
        have := Bs.of_own h
        simpa using this
      have hb3' : Below w.heap.size w (w2.setCell ⟨g, k, none⟩ (.int .u8 (z.toNat : Int))) := hb2'.setCell (by have := hb1.size; simp; omega) _
      go_wp2_with fail
      refine (crc_n (some ⟨g, 0, none⟩) c2 l.length (l.set k z) HLS.out w2.heap.size _ bs2 hl (by simp)).mono ?_
      rintro e w4 ⟨rfl, hb4⟩
      have hb4' := hb3'.trans (hb4.mono hb3'.size)
      have bs4 := bs2.below (hb4.mono (by simp))
      go_wp2_with fail
      refine (own_any A c l w.heap.size w4 (hbs.below hb4') hb4'.size (by omega)).mono ?_
      rintro e w5 ⟨A5, c5, rfl, o5, hb5⟩
      have hb5' := hb4'.trans (hb5.mono hb4'.size)
      have hs4 : w2.heap.size ≤ w4.heap.size := by have := hb4.size; simpa using this
      have bs5 := bs4.below (hb5.mono hs4)
      go_wp2_with fail
      refine (crc_any A5 c5 l _ w5 (Bs.of_own o5) (Nat.le_refl _) hm).mono ?_
      rintro e w6 ⟨rfl, hb6⟩
      have hb6' := hb5'.trans (hb6.mono hb5'.size)
      have hs5 : w2.heap.size ≤ w5.heap.size := Nat.le_trans hs4 hb5.size
      have bs6 := bs5.below (hb6.mono hs5)
      have hcr := HC.out
      go_wp2_with fail
      refine (adler_n (some ⟨g, 0, none⟩) c2 l.length (l.set k z) HLS.out w2.heap.size w6 bs6 hl).mono ?_
      rintro e w7 ⟨rfl, hw7⟩
      obtain rfl := hw7
      go_wp2_with fail
      refine (own_any A c l w.heap.size w6 (hbs.below hb6') hb6'.size (by omega)).mono ?_
      rintro e w8 ⟨A8, c8, rfl, o8, hb8⟩
      have hb8' := hb6'.trans (hb8.mono hb6'.size)
      go_wp2_with fail
      refine (adler_any A8 c8 l _ w8 (Bs.of_own o8) hm).mono ?_
      rintro e w9 ⟨rfl, hw9⟩
      obtain rfl := hw9
      have had := HA.out
      go_wp2_with fail
      go_ret
      exact ⟨rfl, hb8'⟩

set_option maxRecDepth 100000 in
theorem lifted (os : Os) (started : os.Started) (H : Type) (enc : TypeId × Value → H) :
    ReturnsInHanded {} Try.checked os 6 .any (Rows.sumsTellSpec.pre6 enc Try.prog Try.f6 Rows.sumsTellRow.domain false) (Rows.sumsTellSpec.post enc Try.prog Try.f6 false true false false) := by
  refine returnsInHanded_of_change_sized (C := Try.checked) prog_own started (by kernel_rfl) Try.func6
    (ChangeSpec.witness6 (enc := enc) (C := Try.checked) false ⟨#[], #[.slice none 0 0, .int .i64 0, .int .u8 0], []⟩ 8 (by kernel_rfl) (by kernel_rfl) (by kernel_rfl) (by kernel_rfl)) ?_
  intro W base args ds gs before hval0 hW hcnd hsz _
  have hval : ∀ (j : Nat) t v, Try.f6.params[j]? = some t → args[j]? = some v → Value.okWide Try.prog W .any base t v := hval0
  have hW' := hW
  obtain ⟨p, q, hA0, hV, rfl, hfz, hnd⟩ := hW
  have hA : DataW.TrodAll enc Try.prog W 0 (fun _ => true) true Try.f6.params.toList args.toList ds p := hA0
  rw [Try.params6] at hA hval
  obtain ⟨v0, vs0, d0, ds0, p0, q0, hargs, rfl, rfl, h0, r0⟩ := trodAll_cons hA
  obtain ⟨v1, vs1, d1, ds1, p1, q1, rfl, rfl, rfl, h1, r1⟩ := trodAll_cons r0
  obtain ⟨v2, vs2, d2, ds2, p2, q2, rfl, rfl, rfl, h2, r2⟩ := trodAll_cons r1
  obtain ⟨rfl, rfl, rfl⟩ := trodAll_nil r2
  obtain rfl : args = #[v0, v1, v2] := by cases args; simp_all
  obtain ⟨rfl, rfl⟩ := trodVars_none hV
  obtain ⟨A0, l0, c0, rfl, hb0, hd0⟩ := open_bytes (hval 0 22 v0 rfl rfl) h0
  obtain ⟨a1, rfl, rfl, rfl, w1⟩ := open_int Try.underlying3 (hval 1 3 v1 rfl rfl) h1
  obtain ⟨a2, rfl, rfl, rfl, w2⟩ := open_int Try.underlying5 (hval 2 5 v2 rfl rfl) h2
  have hl0 : l0.length ≤ 140737488355328 := by
    rcases hd0 with ⟨_, rfl⟩ | ⟨e, s, rfl, hle⟩
    · simp
    · have this : (e.length + s.length) * Try.prog.bytesOf 5 ≤ reachBytes := sized_slice hsz (j := 0) (t := 22) (e := 5) rfl rfl Try.underlying22
      rw [bytes_u8] at this
      unfold reachBytes at this
      omega
  have lt0 : ∀ x ∈ p0, x.block < W.heap.size := by obtain ⟨m, hm⟩ := h0; exact DataW.trod_lt m _ _ _ hm
  clear hA0 hval0
  refine (walk A0 c0 l0 a1 a2 W hb0 hl0 (bounds_i64 w1) (bounds_u8 w2)).mono fun e W' ⟨he, bel⟩ => ?_
  subst he
  exact ⟨_, rfl, _, _, _, [], _, [], hW', trodAll_mk1 (shut_bool Try.underlying4 _), (trodAll_cons_mk (Below.trod prog_laid (by kernel_rfl) (of_decide_eq_true (by kernel_rfl)) h0 bel lt0) (trodAll_cons_mk (shut_int Try.underlying3 w1) (trodAll_cons_mk (shut_int Try.underlying5 w2) trodAll_mk0))), rfl, bel.frame _, fun h => by cases h⟩

theorem over : Rows.sumsTellRow.holds Try.pinned (OpenSpec.ofChange Rows.sumsTellSpec) :=
  OpenClaim.holds_of_wide 6 Try.f6 rfl rfl rfl rfl rfl rfl rfl ⟨rfl, rfl, rfl, rfl, rfl⟩ rfl rfl rfl rfl rfl (by kernel_rfl) Try.func6 (by kernel_rfl)
    (of_decide_eq_true (by kernel_rfl)) (by unfold Func.isWrapper; first | (rw [if_pos (by decide +kernel)]; kernel_rfl) | (rw [if_neg (by decide +kernel)]; exact ⟨rfl, rfl⟩))
    (fun os started H enc _ => lifted os started H enc)
end SumsTell

theorem sumsTell_holds : Rows.SumsTellSaid := SumsTell.over
#print axioms sumsTell_holds
end Go.Proofs.Ythkhibhaejbgbaa
