/- Numbers of one to four bytes are read and written, the first byte the highest or the lowest, for every list of bytes, place, size, order and number: no condition. -/
import Derived.Test.YtfnldnhlacpdiaaK
import Derived.Test.YtfnldnhlacpdiaaO
namespace Go.Proofs.Ytfnldnhlacpdiaa
open Go.ChangeShapes Go.WideShapes Go.ChangeAt Go.RowKit
namespace BitsNumbers

theorem bool_or_false {p q : Bool} (h1 : p = false) (h2 : q = false) : (p || q) = false := by rw [h1, h2]; rfl

theorem pow_wrap (s : Nat) (hs : s ≤ 4) : IntKind.u64.wrap ((2 : Int) ^ (8 * s)) = ((2 ^ (8 * s) : Nat) : Int) := by
  have h : 2 ^ (8 * s) ≤ 2 ^ 32 := Nat.pow_le_pow_right (by omega) (by omega)
  have e : (2 : Int) ^ (8 * s) = ((2 ^ (8 * s) : Nat) : Int) := by simp
  rw [e, IntKind.wrap_u64]
  generalize 2 ^ (8 * s) = m at h ⊢
  omega
theorem pow_ne (s : Nat) (hs : s ≤ 4) : ¬ IntKind.u64.wrap ((2 : Int) ^ (8 * s)) = 0 := by
  rw [pow_wrap s hs]
  have := Nat.two_pow_pos (8 * s)
  omega
theorem pow_eq (v s : Nat) (hv : v < 4294967296) (hs : s ≤ 4) : (IntKind.u64.wrap ((v : Int) % 2 ^ (8 * s)) == (v : Int) % IntKind.u64.wrap ((2 : Int) ^ (8 * s))) = true := by
  have e : (2 : Int) ^ (8 * s) = ((2 ^ (8 * s) : Nat) : Int) := by simp
  rw [pow_wrap s hs, e, beq_iff_eq, IntKind.wrap_u64]
  have h0 := Nat.two_pow_pos (8 * s)
  generalize 2 ^ (8 * s) = m at h0 ⊢
  have h1 : ((v : Int) % (m : Int)) = ((v % m : Nat) : Int) := by simp
  rw [h1]
  have := Nat.mod_le v m
  omega
set_option maxHeartbeats 4000000 in
set_option maxRecDepth 100000 in
theorem walk_err (A : Option Addr) (c : Nat) (l : List UInt8) (at_ size x : Int) (big : Bool) (w : World) (h : Bs w w.heap.size A l) (hl : l.length ≤ 140737488355328)
    (ha : -9223372036854775808 ≤ at_ ∧ at_ ≤ 9223372036854775807) (he : spanErr l.length at_ size ≠ 0) :
    Calls Try.prog 6 #[.slice A l.length c, .agg #[.int .i64 at_, .int .i64 size, .int .i64 x], .bool big] w fun e w' => e = .returned (.bool true) ∧ Below w.heap.size w w' := by
  have hne : (spanErr l.length at_ size != 0) = true := by simpa using he
  have hee : (spanErr l.length at_ size != spanErr l.length at_ size) = false := by simp
  have HEr := fun (W : World) (A1 : Option Addr) (c1 : Nat) => Lib.hid (refGet_err A1 l.length c1 at_ size big W hl ha he)
  have HG := fun (W : World) (A1 : Option Addr) (c1 : Nat) => Lib.hid (get_err A1 l.length c1 at_ size big W hl he)
  have HS := fun (W : World) (A1 : Option Addr) (c1 : Nat) (v : Int) => Lib.hid (set_err A1 l.length c1 at_ size v big W hl he)
  have HSr := fun (W : World) (A1 : Option Addr) (c1 : Nat) (v : Int) => Lib.hid (refSet_err A1 l.length c1 at_ size v big W hl ha he)
  generalize spanErr l.length at_ size = E at *
  clear he
  go_enter Try.func6, Try.ntmps6
  go_wp2_with fail
  have hbox := Blk.new w 59 #[.int .i64 at_, .int .i64 size, .int .i64 x]
  have hbs0 := h.alloc (Nat.le_refl _) (.cells #[.int .i64 at_, .int .i64 size, .int .i64 x] 59)
  have hup0 : Up w (w.alloc (.cells #[.int .i64 at_, .int .i64 size, .int .i64 x] 59)) := (Up.refl w).alloc _
  generalize w.alloc (.cells #[.int .i64 at_, .int .i64 size, .int .i64 x] 59) = W0 at *
  refine (wakes_any W0).mono ?_
  rintro e w1 ⟨rfl, hb1⟩
  have hbox1 := hbox.upd (Upd.of_fresh hb1) id
  have hbs1 := hbs0.upd (Upd.of_fresh hb1) hup0.size (fun _ _ _ => id)
  have hup1 : Up w w1 := hup0.fresh hb1
  have hc0 : w1.cell? ⟨w.heap.size, 0, none⟩ = some (.int .i64 at_) := by rw [hbox1.cell]; rfl
  have hc1 : w1.cell? ⟨w.heap.size, 1, none⟩ = some (.int .i64 size) := by rw [hbox1.cell]; rfl
  have hc2 : w1.cell? ⟨w.heap.size, 2, none⟩ = some (.int .i64 x) := by rw [hbox1.cell]; rfl
  clear hbox hbox1 hbs0 hb1
  go_wp2_with fail
  go_quiet (fail)
  clear hc0 hc1 hc2
  have hup2 : Up w (w1.drewN nq) := hup1.drewN nq
  have hbs2 : Bs (w1.drewN nq) w.heap.size A l := hbs1
  clear hup1 hbs1
  generalize w1.drewN nq = w2 at *
  go_wp2_with fail
  refine (own_any A c l _ w2 hbs2 hup2.size hl).mono ?_
  rintro e w3 ⟨A3, c3, rfl, hown3, hb3⟩
  have hbs3 := hbs2.upd (Upd.of_fresh hb3) hup2.size (fun _ _ _ => id)
  have hup3 : Up w w3 := hup2.fresh hb3
  clear hown3 hb3 hup2 hbs2
  go_wp2_with fail
  refine ((HG _ _ _).out).mono ?_
  rintro e w' ⟨rfl, rfl⟩
  go_wp2_with fail
  refine ((HEr _ _ _).out).mono ?_
  rintro e w' ⟨rfl, rfl⟩
  go_wp2_with fail
  refine (own_any A c l _ w3 hbs3 hup3.size hl).mono ?_
  rintro e w4 ⟨A4, c4, rfl, hown4, hb4⟩
  have hup4 : Up w w4 := hup3.fresh hb4
  clear hown4 hb4 hup3 hbs3
  go_wp2_with fail
  refine ((HS _ _ _ _).out).mono ?_
  rintro e w' ⟨rfl, rfl⟩
  go_wp2_with fail
  refine ((HSr _ _ _ _).out).mono ?_
  rintro e w' ⟨rfl, rfl⟩
  go_wp2_with fail
  refine (same_any none none 0 0 [] [] 0 _ Bs.nil_ Bs.nil_ (by simp [maxLen])).mono ?_
  rintro e w5 ⟨rfl, n5, rfl⟩
  go_wp2_with fail
  go_ret
  exact ⟨rfl, Up.below (hup4.drewN _)⟩

set_option maxHeartbeats 4000000 in
set_option maxRecDepth 100000 in
theorem walk_ok (A : Option Addr) (c : Nat) (l : List UInt8) (at_ s : Nat) (x : Int) (big : Bool) (w : World) (h : Bs w w.heap.size A l) (hl : l.length ≤ 140737488355328)
    (hs : 1 ≤ s) (hs4 : s ≤ 4) (ha : at_ + s ≤ l.length) :
    Calls Try.prog 6 #[.slice A l.length c, .agg #[.int .i64 (at_ : Int), .int .i64 (s : Int), .int .i64 x], .bool big] w fun e w' => e = .returned (.bool true) ∧ Below w.heap.size w w' := by
  have hxv : ∃ v : Nat, x % 4294967296 = (v : Int) ∧ v < 4294967296 := ⟨(x % 4294967296).toNat, by omega, by omega⟩
  obtain ⟨v, hxv, hv⟩ := hxv
  have HX := Lib.hid hxv; clear hxv
  go_enter Try.func6, Try.ntmps6
  go_wp2_with fail
  have hbox := Blk.new w 59 #[.int .i64 (at_ : Int), .int .i64 (s : Int), .int .i64 x]
  have hbs0 := h.alloc (Nat.le_refl _) (.cells #[.int .i64 (at_ : Int), .int .i64 (s : Int), .int .i64 x] 59)
  have hup0 : Up w (w.alloc (.cells #[.int .i64 (at_ : Int), .int .i64 (s : Int), .int .i64 x] 59)) := (Up.refl w).alloc _
  generalize w.alloc (.cells #[.int .i64 (at_ : Int), .int .i64 (s : Int), .int .i64 x] 59) = W0 at *
  refine (wakes_any W0).mono ?_
  rintro e w1 ⟨rfl, hb1⟩
  have hbox1 := hbox.upd (Upd.of_fresh hb1) id
  have hbs1 := hbs0.upd (Upd.of_fresh hb1) hup0.size (fun _ _ _ => id)
  have hup1 : Up w w1 := hup0.fresh hb1
  have hc0 : w1.cell? ⟨w.heap.size, 0, none⟩ = some (.int .i64 (at_ : Int)) := by rw [hbox1.cell]; rfl
  have hc1 : w1.cell? ⟨w.heap.size, 1, none⟩ = some (.int .i64 (s : Int)) := by rw [hbox1.cell]; rfl
  have hc2 : w1.cell? ⟨w.heap.size, 2, none⟩ = some (.int .i64 x) := by rw [hbox1.cell]; rfl
  clear hbox hbox1 hbs0 hb1
  go_wp2_with fail
  go_quiet (fail)
  clear hc0 hc1 hc2
  have hup2 : Up w (w1.drewN nq) := hup1.drewN nq
  have hbs2 : Bs (w1.drewN nq) w.heap.size A l := hbs1
  clear hup1 hbs1
  generalize w1.drewN nq = w2 at *
  rw [HX.out]
  go_wp2_with fail
  refine (own_any A c l _ w2 hbs2 hup2.size hl).mono ?_
  rintro e w3 ⟨A3, c3, rfl, hown3, hb3⟩
  have hbs3 := hbs2.upd (Upd.of_fresh hb3) hup2.size (fun _ _ _ => id)
  have hup3 : Up w w3 := hup2.fresh hb3
  have hbx := Bs.of_own hown3
  clear hown3 hb3 hup2 hbs2
  go_wp2_with fail
  refine (get_ok A3 c3 l at_ s big _ w3 hbx hl hs hs4 ha).mono ?_
  rintro e w' ⟨rfl, n3, rfl⟩
  go_wp2_with fail
  have hup4 : Up w (w3.drewN n3) := hup3.drewN n3
  have hbs4 : Bs (w3.drewN n3) w.heap.size A l := hbs3
  clear hup3 hbs3 hbx
  generalize w3.drewN n3 = w4 at *
  refine (refGet_ok A c l at_ s big _ w4 hbs4 hl hs hs4 ha).mono ?_
  rintro e w' ⟨rfl, n4, rfl⟩
  go_wp2_with fail
  have hup5 : Up w (w4.drewN n4) := hup4.drewN n4
  have hbs5 : Bs (w4.drewN n4) w.heap.size A l := hbs4
  clear hup4 hbs4
  generalize w4.drewN n4 = w5 at *
  refine (own_any A c l _ w5 hbs5 hup5.size hl).mono ?_
  rintro e w6 ⟨A6, c6, rfl, hown6, hb6⟩
  have hbs6 := hbs5.upd (Upd.of_fresh hb6) hup5.size (fun _ _ _ => id)
  have hup6 : Up w w6 := hup5.fresh hb6
  have hby := Bs.of_own hown6
  clear hown6 hb6 hup5 hbs5
  go_wp2_with fail
  refine (set_ok A6 c6 l at_ s v big _ w6 hby (Nat.le_refl _) hl hs hs4 ha).mono ?_
  rintro e w7 ⟨A7, c7, rfl, hown7, hb7⟩
  have hbs7 := hbs6.upd (Upd.of_fresh hb7) hup6.size (fun _ _ _ => id)
  have hup7 : Up w w7 := hup6.fresh hb7
  clear hby hup6 hbs6 hb7
  go_wp2_with fail
  refine (refSet_ok A c l at_ s v big _ w7 hbs7 hup7.size hl hs hs4 ha).mono ?_
  rintro e w8 ⟨A8, c8, rfl, hown8, hb8⟩
  have hown7' := own_upd hown7 (Upd.of_fresh hb8) (fun _ _ => id)
  have hup8 : Up w w8 := hup7.fresh hb8
  have hL := setB_length l at_ s big v s
  have HN := Lib.hid (numB_setB l at_ s big v ha)
  generalize hl' : setB l at_ s big v s = l' at *
  rw [← hL] at hown7' hown8 hl ha
  rw [← hL]
  clear hL hup7 hbs7 hown7 hb8 hl'
  have hb7 := Bs.of_own hown7'
  have hb8 := Bs.of_own hown8
  clear hown7' hown8
  go_wp2_with fail
  refine (same_any A7 A8 c7 c8 l' l' _ w8 hb7 hb8 (by unfold maxLen; omega)).mono ?_
  rintro e w' ⟨rfl, n8, rfl⟩
  have hup9 : Up w (w8.drewN n8) := hup8.drewN n8
  have hb9 : Bs (w8.drewN n8) w8.heap.size A7 l' := hb7
  clear hup8 hb8 hb7
  generalize w8.drewN n8 = w9 at *
  go_wp2_with fail
  refine (get_ok A7 c7 l' at_ s big _ w9 hb9 hl hs hs4 ha).mono ?_
  rw [HN.out]
  rintro e w' ⟨rfl, n9, rfl⟩
  have hz := pow_ne s hs4
  go_wp2_with fail
  go_ret
  exact ⟨ret_bool (pow_eq v s hv hs4), Up.below (hup9.drewN _)⟩
theorem walk (A : Option Addr) (c : Nat) (l : List UInt8) (at_ size x : Int) (big : Bool) (w : World) (h : Bs w w.heap.size A l) (hl : l.length ≤ 140737488355328) (ha : -9223372036854775808 ≤ at_ ∧ at_ ≤ 9223372036854775807) :
    Calls Try.prog 6 #[.slice A l.length c, .agg #[.int .i64 at_, .int .i64 size, .int .i64 x], .bool big] w fun e w' => e = .returned (.bool true) ∧ Below w.heap.size w w' := by
  by_cases he : spanErr l.length at_ size = 0
  · have hs : 1 ≤ size ∧ size ≤ 4 := by
      by_cases h1 : size < 1 ∨ 4 < size
      · rw [spanErr_size h1] at he; cases he
      · omega
    have hb : 0 ≤ at_ ∧ at_ ≤ (l.length : Int) - size := by
      by_cases h2 : at_ < 0 ∨ (l.length : Int) - size < at_
      · rw [spanErr_end (by omega) h2] at he; cases he
      · omega
    obtain ⟨a', rfl⟩ := Int.eq_ofNat_of_zero_le hb.1
    obtain ⟨s', rfl⟩ := Int.eq_ofNat_of_zero_le (show 0 ≤ size by omega)
    exact walk_ok A c l a' s' x big w h hl (by omega) (by omega) (by omega)
  · exact walk_err A c l at_ size x big w h hl ha he

set_option maxRecDepth 100000 in
theorem lifted (os : Os) (started : os.Started) (H : Type) (enc : TypeId × Value → H) :
    ReturnsInHanded {} Try.checked os 6 .any (Rows.bitsNumbersSpec.pre6 enc Try.prog Try.f6 Rows.bitsNumbersRow.domain false) (Rows.bitsNumbersSpec.post enc Try.prog Try.f6 false true false false) := by
  refine returnsInHanded_of_change_sized (C := Try.checked) prog_own started (by kernel_rfl) Try.func6
    (ChangeSpec.witness6 (enc := enc) (C := Try.checked) false ⟨#[], #[.slice none 0 0, .agg #[.int .i64 0, .int .i64 0, .int .i64 0], .bool false], []⟩ 8 (by kernel_rfl) (by kernel_rfl) (by kernel_rfl) (by kernel_rfl)) ?_
  intro W base args ds gs before hval0 hW hcnd hsz _
  have hval : ∀ (j : Nat) t v, Try.f6.params[j]? = some t → args[j]? = some v → Value.okWide Try.prog W .any base t v := hval0
  have hW' := hW
  obtain ⟨p, q, hA0, hV, rfl, hfz, hnd⟩ := hW
  have hA : DataW.TrodAll enc Try.prog W 0 (fun _ => true) true Try.f6.params.toList args.toList ds p := hA0
  rw [Try.params6] at hA hval
  obtain ⟨v0, vs0, d0, ds0, p0, q0, hargs, rfl, rfl, h0, r0⟩ := trodAll_cons hA
  obtain ⟨v1, vs1, d1, ds1, p1, q1, rfl, rfl, rfl, h1, r1⟩ := trodAll_cons r0
  obtain ⟨v2, vs2, d2, ds2, p2, q2, rfl, rfl, rfl, h2, r2⟩ := trodAll_cons r1
  obtain ⟨rfl, rfl, rfl⟩ := trodAll_nil r2
  obtain rfl : args = #[v0, v1, v2] := by cases args; simp_all
  obtain ⟨rfl, rfl⟩ := trodVars_none hV
  obtain ⟨A0, l0, c0, rfl, hb0, hd0⟩ := open_bytes (hval 0 22 v0 rfl rfl) h0
  obtain ⟨a, b, c, rfl, wa, _, _⟩ := open_three (hval 1 59 v1 rfl rfl) h1
  obtain ⟨big, rfl, rfl, rfl⟩ := open_bool Try.underlying4 (hval 2 4 v2 rfl rfl) h2
  have hl0 : l0.length ≤ 140737488355328 := by
    rcases hd0 with ⟨_, rfl⟩ | ⟨e, s, rfl, hle⟩
    · simp
    · have this : (e.length + s.length) * Try.prog.bytesOf 5 ≤ reachBytes := sized_slice hsz (j := 0) (t := 22) (e := 5) rfl rfl Try.underlying22
      rw [bytes_u8] at this
      unfold reachBytes at this
      omega
  have lt0 : ∀ x ∈ p0, x.block < W.heap.size := by obtain ⟨m, hm⟩ := h0; exact DataW.trod_lt m _ _ _ hm
  have lt1 : ∀ x ∈ p1, x.block < W.heap.size := by obtain ⟨m, hm⟩ := h1; exact DataW.trod_lt m _ _ _ hm
  clear hA0 hval0
  refine (walk A0 c0 l0 a b c big W hb0 hl0 wa).mono fun e W' ⟨he, bel⟩ => ?_
  subst he
  exact ⟨_, rfl, _, _, _, [], _, [], hW', trodAll_mk1 (shut_bool Try.underlying4 _), (trodAll_cons_mk (Below.trod prog_laid (by kernel_rfl) (of_decide_eq_true (by kernel_rfl)) h0 bel lt0) (trodAll_cons_mk (Below.trod prog_laid (by kernel_rfl) (of_decide_eq_true (by kernel_rfl)) h1 bel lt1) (trodAll_cons_mk (shut_bool Try.underlying4 _) trodAll_mk0))), rfl, bel.frame _, fun h => by cases h⟩

theorem over : Rows.bitsNumbersRow.holds Try.pinned (OpenSpec.ofChange Rows.bitsNumbersSpec) :=
  OpenClaim.holds_of_wide 6 Try.f6 rfl rfl rfl rfl rfl rfl rfl ⟨rfl, rfl, rfl, rfl, rfl⟩ rfl rfl rfl rfl rfl (by kernel_rfl) Try.func6 (by kernel_rfl)
    (of_decide_eq_true (by kernel_rfl)) (by unfold Func.isWrapper; first | (rw [if_pos (by decide +kernel)]; kernel_rfl) | (rw [if_neg (by decide +kernel)]; exact ⟨rfl, rfl⟩))
    (fun os started H enc _ => lifted os started H enc)
end BitsNumbers

theorem bitsNumbers_holds : Rows.BitsNumbersSaid := BitsNumbers.over
#print axioms bitsNumbers_holds
end Go.Proofs.Ytfnldnhlacpdiaa
