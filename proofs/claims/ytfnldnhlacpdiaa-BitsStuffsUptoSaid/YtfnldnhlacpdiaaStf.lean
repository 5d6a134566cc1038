/- Bytes are stuffed and come back, and any bytes are unstuffed up to the first marker: for every list of bytes whose reading is of bulk at most 1048576 (the second form). -/
import Derived.Test.YtfnldnhlacpdiaaK
import Derived.Test.YtfnldnhlacpdiaaV
import Derived.Test.YtfnldnhlacpdiaaBulk
import Derived.JoinedCond
namespace Go.Proofs.Ytfnldnhlacpdiaa
open Go.ChangeShapes Go.WideShapes Go.ChangeAt Go.RowKit
namespace BitsStuffs

theorem own_n (A : Option Addr) (c n : Nat) (l : List UInt8) (hn : l.length = n) (B : Nat) (w : World) (h : Bs w B A l) (hB : B ≤ w.heap.size) (hl : n ≤ 140737488355328) :
    Calls Try.prog 12 #[.slice A n c] w fun e w' => ∃ A' c', e = .returned (.slice A' n c') ∧
      w'.ownsRow w.heap.size 5 1 (.slice A' n c') n (bytesV l) ∧ Below w.heap.size w w' := by
  subst hn
  exact own_any A c l B w h hB hl
theorem same_n (A1 A2 : Option Addr) (c1 c2 n m : Nat) (a b : List UInt8) (hn : a.length = n) (hm : b.length = m) (B : Nat) (w : World) (h1 : Bs w B A1 a) (h2 : Bs w B A2 b) (hl : n ≤ maxLen) :
    Calls Try.prog 19 #[.slice A1 n c1, .slice A2 m c2] w fun e w' => e = .returned (.bool (a == b)) ∧ ∃ n, w' = w.drewN n := by
  subst hn hm
  exact same_any A1 A2 c1 c2 a b B w h1 h2 hl
theorem own_len {w : World} {base : Nat} {e : TypeId} {A : Option Addr} {n c : Nat} {l : List UInt8} (h : w.ownsRow base e 1 (.slice A n c) n (bytesV l)) : l.length = n := by
  have := h.1; rw [bytesV_length] at this; omega
theorem own_bs {w : World} {base : Nat} {e : TypeId} {A : Option Addr} {n c : Nat} {l : List UInt8} (h : w.ownsRow base e 1 (.slice A n c) n (bytesV l)) : Bs w w.heap.size A l := by
  have hn := own_len h
  subst hn
  exact Bs.of_own h

set_option maxHeartbeats 1000000 in
set_option maxRecDepth 100000 in
theorem walk (A : Option Addr) (c : Nat) (l : List UInt8) (w : World) (h : Bs w w.heap.size A l) (hl : l.length ≤ 1048576) :
    Calls Try.prog 7 #[.slice A l.length c] w fun e w' => e = .returned (.bool true) ∧ Below w.heap.size w w' := by
  have hsl := stuffL_len l
  go_enter Try.func7, Try.ntmps7
  go_wp2_with fail
  refine (wakes_any w).mono ?_
  rintro e w1 ⟨rfl, hb1⟩
  have u1 := (Up.refl w).fresh hb1
  have b1 := h.below hb1
  go_wp2_with fail
  refine (own_any A c l _ w1 b1 u1.size (by omega)).mono ?_
  rintro e w2 ⟨A2, c2, rfl, o2, hb2⟩
  have u2 := u1.fresh hb2
  have b2 := b1.upd (Upd.of_fresh hb2) u1.size (fun _ _ _ => id)
  clear u1 b1 hb1
  go_wp2_with fail
  refine (stuff_any A2 c2 l w2 (Bs.of_own o2) (by omega)).mono ?_
  rintro e w3 ⟨A3, n3, c3, rfl, o3, hb3⟩
  have hn3 := own_len o3
  have HN3 := Lib.hid hn3; clear hn3
  have u3 := u2.fresh hb3
  have b3 := b2.upd (Upd.of_fresh hb3) u2.size (fun _ _ _ => id)
  clear o2 hb2 u2 b2 hb3
  go_wp2_with fail
  refine (own_any A c l _ w3 b3 u3.size (by omega)).mono ?_
  rintro e w4 ⟨A4, c4, rfl, o4, hb4⟩
  have u4 := u3.fresh hb4
  have b4 := b3.upd (Upd.of_fresh hb4) u3.size (fun _ _ _ => id)
  have p4 := own_upd o3 (Upd.of_fresh hb4) (fun _ _ => id)
  clear o3 hb4 u3 b3
  go_wp2_with fail
  refine (unstuff_any A4 c4 l w4 (Bs.of_own o4) (by omega)).mono ?_
  rintro e w5 ⟨A5, n5, c5, rfl, o5, hb5⟩
  have HN5 := Lib.hid (own_len o5)
  have u5 := u4.fresh hb5
  have b5 := b4.upd (Upd.of_fresh hb5) u4.size (fun _ _ _ => id)
  have p5 := own_upd p4 (Upd.of_fresh hb5) (fun _ _ => id)
  clear o4 hb5 u4 b4 p4
  go_wp2_with fail
  refine (refUnstuff_any A c l w5 (b5.more u5.size) (by omega)).mono ?_
  rintro e w6 ⟨A6, n6, c6, rfl, o6, hb6⟩
  have HN6 := Lib.hid (own_len o6)
  have u6 := u5.fresh hb6
  have b6 := b5.upd (Upd.of_fresh hb6) u5.size (fun _ _ _ => id)
  have p6 := own_upd p5 (Upd.of_fresh hb6) (fun _ _ => id)
  have q6 := own_upd o5 (Upd.of_fresh hb6) (fun _ _ => id)
  clear o5 hb6 u5 b5 p5
  go_wp2_with fail
  refine (own_n A3 c3 n3 (stuffL l) HN3.out _ w6 (own_bs p6) (Nat.le_refl _) (by have := HN3.out; omega)).mono ?_
  rintro e w7 ⟨A7, c7, rfl, o7, hb7⟩
  have u7 := u6.fresh hb7
  have b7 := b6.upd (Upd.of_fresh hb7) u6.size (fun _ _ _ => id)
  have p7 := own_upd p6 (Upd.of_fresh hb7) (fun _ _ => id)
  have q7 := own_upd q6 (Upd.of_fresh hb7) (fun _ _ => id)
  have r7 := own_upd o6 (Upd.of_fresh hb7) (fun _ _ => id)
  clear o6 hb7 u6 b6 p6 q6
  obtain rfl := HN3.out
  clear HN3
  go_wp2_with fail
  refine (unstuff_any A7 c7 (stuffL l) w7 (Bs.of_own o7) (by omega)).mono ?_
  rintro e w8 ⟨A8, n8, c8, rfl, o8, hb8⟩
  rw [unst_stuffL] at o8 ⊢
  have HN8 := Lib.hid (own_len o8)
  have u8 := u7.fresh hb8
  have b8 := b7.upd (Upd.of_fresh hb8) u7.size (fun _ _ _ => id)
  have p8 := own_upd p7 (Upd.of_fresh hb8) (fun _ _ => id)
  have q8 := own_upd q7 (Upd.of_fresh hb8) (fun _ _ => id)
  have r8 := own_upd r7 (Upd.of_fresh hb8) (fun _ _ => id)
  clear o7 hb8 u7 b7 p7 q7 r7
  go_wp2_with fail
  refine (refStuff_any A c l w8 (b8.more u8.size) (by omega)).mono ?_
  rintro e w9 ⟨A9, n9, c9, rfl, o9, hb9⟩
  have HN9 := Lib.hid (own_len o9)
  have u9 := u8.fresh hb9
  have b9 := (b8.upd (Upd.of_fresh hb9) u8.size (fun _ _ _ => id)).more u9.size
  have p9 := own_bs (own_upd p8 (Upd.of_fresh hb9) (fun _ _ => id))
  have q9 := own_bs (own_upd q8 (Upd.of_fresh hb9) (fun _ _ => id))
  have r9 := own_bs (own_upd r8 (Upd.of_fresh hb9) (fun _ _ => id))
  have s9 := own_bs (own_upd o8 (Upd.of_fresh hb9) (fun _ _ => id))
  have t9 := own_bs o9
  clear o8 o9 hb9 u8 b8 p8 q8 r8
  go_wp2_with fail
  refine (same_n A3 A9 c3 c9 _ n9 (stuffL l) (stuffL l) rfl HN9.out _ w9 p9 t9 (by unfold maxLen; omega)).mono ?_
  rintro e w' ⟨rfl, m1, rfl⟩
  rw [beq_self_eq_true]
  go_wp2_with fail
  refine (same_n A5 A6 c5 c6 n5 n6 (unst l).1 (unst l).1 HN5.out HN6.out w9.heap.size (w9.drewN m1) (q9.drewN m1) (r9.drewN m1) (by have := unst_len l; have := HN5.out; unfold maxLen; omega)).mono ?_
  rintro e w' ⟨rfl, m2, rfl⟩
  rw [beq_self_eq_true]
  go_wp2_with fail
  refine (same_n A8 A c8 c n8 _ l l HN8.out rfl w9.heap.size (w9.drewN (m1 + m2)) (s9.drewN (m1 + m2)) (b9.drewN (m1 + m2)) (by have := HN8.out; unfold maxLen; omega)).mono ?_
  rintro e w' ⟨rfl, m3, rfl⟩
  rw [beq_self_eq_true]
  go_wp2_with fail
  go_ret
  exact ⟨ret_bool (by simp), Up.below (u9.drewN (m1 + m2 + m3))⟩

theorem contract (H : Type) (enc : TypeId × Value → H) (W : World) (base : Nat) (args : Array Value) (ds gs : List (DataW H)) (before : List MemPlace)
    (hval : ∀ (j : Nat) t v, Try.f7.params[j]? = some t → args[j]? = some v → Value.okWide Try.prog W .any base t v)
    (hW : DataW.Whole enc Try.prog Try.f7.params.toList Rows.bitsStuffsSpec.vars false W args.toList ds gs before) (hk : Rows.uptoSmall H (ds ++ gs) = true) :
    Calls Try.prog 7 args W fun e W' => ∃ v, e = .returned v ∧ Rows.bitsStuffsSpec.post enc Try.prog Try.f7 false true false false W args v W' := by
  have hW' := hW
  obtain ⟨p, q, hA0, hV, rfl, hfz, hnd⟩ := hW
  have hA : DataW.TrodAll enc Try.prog W 0 (fun _ => true) true Try.f7.params.toList args.toList ds p := hA0
  rw [Try.params7] at hA hval
  obtain ⟨v0, vs0, d0, ds0, p0, q0, hargs, rfl, rfl, h0, r0⟩ := trodAll_cons hA
  obtain ⟨rfl, rfl, rfl⟩ := trodAll_nil r0
  obtain rfl : args = #[v0] := by cases args; simp_all
  obtain ⟨rfl, rfl⟩ := trodVars_none hV
  obtain ⟨A0, l0, c0, rfl, hb0, hd0⟩ := open_bytes (hval 0 22 v0 rfl rfl) h0
  have hl0 : l0.length ≤ 1048576 := by
    rcases hd0 with ⟨_, rfl⟩ | ⟨e, s, rfl, hle⟩
    · simp
    · have h1 := bulk_le hk
      have h2 := bulk_slice e s []
      simp only [List.cons_append, List.nil_append] at h1
      omega
  have lt0 : ∀ x ∈ p0, x.block < W.heap.size := by obtain ⟨m, hm⟩ := h0; exact DataW.trod_lt m _ _ _ hm
  clear hA0
  refine (walk A0 c0 l0 W hb0 hl0).mono fun e W' ⟨he, bel⟩ => ?_
  subst he
  exact ⟨_, rfl, _, _, _, [], _, [], hW', trodAll_mk1 (shut_bool Try.underlying4 _), (trodAll_cons_mk (Below.trod prog_laid (by kernel_rfl) (of_decide_eq_true (by kernel_rfl)) h0 bel lt0) trodAll_mk0), rfl, bel.frame _, fun h => by cases h⟩

set_option maxRecDepth 100000 in
theorem lifted (os : Os) (started : os.Started) (H : Type) (enc : TypeId × Value → H) (F : Stop.Interp) :
    ReturnsInHanded {} Try.checked os 7 .any ((Rows.OpenSpec.upto Rows.bitsStuffsSpec).pre6 enc Try.prog Try.f7 Rows.bitsStuffsUptoRow.domain false) (((Rows.OpenSpec.upto Rows.bitsStuffsSpec).at F).post enc Try.prog Try.f7 false true false false) := by
  refine returnsInHanded_of_cond (C := Try.checked) (s := Rows.OpenSpec.upto Rows.bitsStuffsSpec) (k := Rows.uptoSmall) rfl prog_own started (by kernel_rfl) Try.func7
    (OpenSpec.witness (enc := enc) (C := Try.checked) (s := Rows.OpenSpec.upto Rows.bitsStuffsSpec) (k := Rows.uptoSmall) rfl false ⟨#[], #[.slice none 0 0], []⟩ 8 (by kernel_rfl) (by kernel_rfl) (by kernel_rfl)
      (x := ([.nil], [], [])) (by kernel_rfl) rfl (by kernel_rfl)) ?_
  intro W base args ds gs before hval hW _ hk _
  exact contract H enc W base args ds gs before hval hW hk

theorem over : Rows.bitsStuffsUptoRow.holds Try.pinned (Rows.OpenSpec.upto Rows.bitsStuffsSpec) :=
  OpenClaim.holds_of_cond 7 Try.f7 rfl rfl rfl rfl rfl rfl rfl ⟨rfl, rfl, rfl, rfl, rfl⟩ rfl rfl rfl rfl rfl (by kernel_rfl) Try.func7 (by kernel_rfl)
    (of_decide_eq_true (by kernel_rfl)) (by unfold Func.isWrapper; first | (rw [if_pos (by decide +kernel)]; kernel_rfl) | (rw [if_neg (by decide +kernel)]; exact ⟨rfl, rfl⟩))
    (fun os started H enc _ F => lifted os started H enc F)
end BitsStuffs

theorem bitsStuffs_holds : Rows.BitsStuffsUptoSaid := BitsStuffs.over
#print axioms bitsStuffs_holds
end Go.Proofs.Ytfnldnhlacpdiaa
