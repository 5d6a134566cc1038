/- A grid of another kind is made cell by cell: for every size and every list of cells. -/
import Derived.Test.YtfjnlbjlapbilaaGmp
import Derived.Deep.CondSized
namespace Go.Proofs.Ytfjnlbjlapbilaa
open Go.ChangeShapes Go.WideShapes Go.ChangeAt Go.RowKit

theorem GridAt.drewN {w : World} {base : Nat} {tg e : TypeId} {g r c W H : Nat} {xs : List Value} (h : GridAt w base tg e g r c W H xs) (n : Nat) : GridAt (w.drewN n) base tg e g r c W H xs := h.upd ((Upd.refl No w).drewN n) id id
namespace GridMaps

set_option maxHeartbeats 4000000 in
set_option maxRecDepth 100000 in
theorem walk (x y : Int) (A : Option Addr) (c : Nat) (l : List Int) (w : World) (hx : -9223372036854775808 ≤ x ∧ x ≤ 9223372036854775807) (hy : -9223372036854775808 ≤ y ∧ y ≤ 9223372036854775807) (hbs : Is w w.heap.size A l) (hkk : ∀ x ∈ l, -9223372036854775808 ≤ x ∧ x ≤ 9223372036854775807) (hl : l.length ≤ 17592186043904) :
    Calls Try.prog 7 #[.agg #[.int .i64 x, .int .i64 y, .slice A l.length c]] w fun e w' => e = .returned (.bool true) ∧ Below w.heap.size w w' := by
  obtain ⟨n, hn⟩ : ∃ n, l.length = n := ⟨_, rfl⟩
  rw [hn] at hl ⊢
  have HKK := Lib.hid hkk
  clear hkk
  go_enter Try.func7, Try.ntmps7
  go_wp2_with fail
  have HC0 := Lib.hid (CSt.new (x := x) (y := y) (c := c) (n := n) hbs)
  generalize w.alloc (.cells #[.int .i64 x, .int .i64 y, .slice A n c] 24) = W0 at *
  refine (wakes_any W0).mono ?_
  rintro e w1 ⟨rfl, hb1⟩
  have hc1 := HC0.out.next hb1
  have k0 := hc1.c0; have k1 := hc1.c1; have k2 := hc1.c2
  have HC1 := Lib.hid hc1
  clear hb1 HC0 hc1 hbs
  go_wp2_with fail
  refine (both_any x y A c n l hn (by omega) w.heap.size w1 HC1.out.is_ (by have := HC1.out.lt; omega)).mono ?_
  intro e w2 hB
  unfold BothR at hB
  by_cases hg : Good x y n
  case neg =>
    rw [if_neg hg] at hB
    obtain ⟨rfl, hb2⟩ := hB
    have HC2 := Lib.hid (HC1.out.next hb2)
    clear hb2 k0 k1 k2 hg
    go_wp2_with fail
    go_ret
    exact ⟨rfl, (HC2.out.bel.alloc HC2.out.bel.size _)⟩
  rw [if_pos hg] at hB
  obtain ⟨g, r, c', rfl, hga, hrg, hb2⟩ := hB
  obtain ⟨hm, hnm⟩ := hg
  obtain ⟨b1, b2, b3, b4, b5⟩ := mayB_bd hm
  obtain ⟨X, rfl⟩ : ∃ X : Nat, x = (X : Int) := ⟨x.toNat, by omega⟩
  obtain ⟨Y, rfl⟩ : ∃ Y : Nat, y = (Y : Int) := ⟨y.toNat, by omega⟩
  simp only [Int.toNat_natCast] at hga
  have HNM : Hid (X * Y = n) := Lib.hid (by rw [← Int.natCast_mul] at hnm; omega)
  have hn64 : n ≤ 65536 := by have := hga.few; rw [HNM.out] at this; exact this
  have hn0 : 0 < n := by have := hga.pos; rw [HNM.out] at this; exact this
  have HC2 := Lib.hid (HC1.out.next hb2)
  have HGA := Lib.hid hga
  clear hm hnm b5 hga hb2 k0 k1 k2 HC1
  go_wp2_with fail
  have hb3 := (Below.refl w2.heap.size w2).alloc (Nat.le_refl _) (.cells #[.int .i64 (X : Int), .int .i64 (Y : Int), .slice A n c] 27)
  have hbx := Blk.new w2 27 #[.int .i64 (X : Int), .int .i64 (Y : Int), .slice A n c]
  have HC3 := Lib.hid (HC2.out.next hb3)
  have HGA3 := Lib.hid (HGA.out.below hb3)
  obtain ⟨W3, hW3⟩ : ∃ W3 : World, w2.alloc (.cells #[.int .i64 (X : Int), .int .i64 (Y : Int), .slice A n c] 27) = W3 := ⟨_, rfl⟩
  rw [hW3] at hbx HC3 HGA3 ⊢
  clear hW3 hb3 HC2 HGA
  have HBX := Lib.hid hbx
  clear hbx
  refine (map_any HGA3.out HKK.out).mono ?_
  rintro e w4 ⟨g4, r4, c4, rfl, hg4, hb4⟩
  have HC4 := Lib.hid (HC3.out.next hb4)
  have HG4 := Lib.hid (HGA3.out.below hb4)
  have HBX4 := Lib.hid (HBX.out.upd (Upd.of_fresh hb4) id)
  have HS4 := Lib.hid hg4
  clear hb4 HC3 HGA3 HBX hg4
  have k0 := HC4.out.c0; have k1 := HC4.out.c1
  go_wp2_with fail
  go_quiet (first
    | (go_at_call 26; exact Calls.quiet_of_same (wS_any (HS4.out.drewN _)))
    | (go_at_call 27; exact Calls.quiet_of_same (hS_any (HS4.out.drewN _))))
  have hb5 := below_drewN (Below.refl w4.heap.size w4) nq
  obtain ⟨w5, hw5⟩ : ∃ w5 : World, w4.drewN nq = w5 := ⟨_, rfl⟩
  rw [hw5] at hb5 ⊢
  have HC5 := Lib.hid (HC4.out.next hb5)
  have HG5 := Lib.hid (HG4.out.below hb5)
  have HBX5 := Lib.hid (HBX4.out.upd (Upd.of_fresh hb5) id)
  have HS5 := Lib.hid (HS4.out.below hb5)
  clear hw5 hb5 HC4 HG4 HBX4 HS4 k0 k1
  go_wp2_with fail
  refine (cellsS_any HS5.out (by intro v hv; obtain ⟨z, _, rfl⟩ := List.mem_map.1 hv; exact twV_one z)).mono ?_
  rintro e w6 ⟨r6, c6, rfl, o6, hb6⟩
  rw [HNM.out] at o6 ⊢
  have hf6 := row_form o6 hn0
  have HC6 := Lib.hid (HC5.out.next hb6)
  have HG6 := Lib.hid (HG5.out.below hb6)
  have hx6 := blk3 HBX5.out hb6
  have m2 := hx6.2.2.2
  have HBX6 := Lib.hid hx6.1
  have HV6 := Lib.hid (Vs.of_own o6)
  clear hb6 o6 hx6 HC5 HG5 HBX5 HS5 hf6
  go_wp2_with fail
  clear m2
  go_loopw [50] (fun i wr => ∃ k : Nat, k ≤ n ∧ i = .int .i64 (k : Int) ∧ Hid (Below w6.heap.size w6 wr)) (fun i _ => n - (intOf i).toNat)
  case atStart => exact ⟨0, Nat.zero_le _, rfl, Lib.hid (Below.refl _ _)⟩
  case round =>
    obtain ⟨k, hk, rfl, HB⟩ := hrel
    have hx7 := blk3 HBX6.out HB.out
    have m0 := hx7.2.1; have m1 := hx7.2.2.1; have m2 := hx7.2.2.2
    have hc7 := HC6.out.next HB.out
    by_cases hlt : k < n
    · have hkl : k < l.length := by rw [hn]; exact hlt
      obtain ⟨ad, rfl, _, hcl⟩ := Is.at_ hc7.is_ hkl
      obtain ⟨ad2, e2, _, hcs⟩ := (HV6.out.below HB.out).at_ (k := k) (by rw [List.length_map]; exact hkl)
      injection e2 with e2
      subst e2
      rw [List.getElem_map, show (⟨r6, 0, none⟩ : Addr).add k = ⟨r6, k, none⟩ by unfold Addr.add; split <;> simp_all] at hcs
      have hvb := HKK.out _ (List.getElem_mem hkl)
      generalize l[k] = v at hcl hcs hvb
      have HTW := Lib.hid (fun W => twice_any v W hvb)
      obtain ⟨s, hs⟩ := twV_str v
      rw [hs] at hcs HTW
      have hs7 := HB.out.size
      clear hs hvb hkl hx7 hc7
      go_wp2_with fail
      go_quiet ((go_at_call 25; exact Calls.quiet_of_same (HTW.out _)))
      go_wp2_with fail
      go_roundw
      case rel => exact ⟨k + 1, by omega, by go_num, Lib.hid (below_drewN HB.out nq)⟩
      case measure => simp [intOf]; omega
    · obtain rfl : k = n := by omega
      have HC7 := Lib.hid hc7
      have HG7 := Lib.hid (HG6.out.below HB.out)
      clear hx7 hc7
      go_wp2_with fail
      refine (same_true HG7.out A c k HNM.out w.heap.size HC7.out.is_ (by have := HC7.out.lt; omega) (X : Int) (Y : Int) rfl rfl).mono ?_
      rintro e w8 ⟨rfl, hb8⟩
      have HC8 := Lib.hid (HC7.out.next hb8)
      clear hb8
      go_wp2_with fail
      go_ret
      exact ⟨rfl, HC8.out.bel⟩
set_option maxRecDepth 100000 in
theorem lifted (os : Os) (started : os.Started) (H : Type) (enc : TypeId × Value → H) :
    ReturnsInHanded {} Try.checked os 7 .any (Rows.gridMapsSpec.pre6 enc Try.prog Try.f7 Rows.gridMapsRow.domain false) (Rows.gridMapsSpec.post enc Try.prog Try.f7 false true false false) := by
  refine returnsInHanded_of_change_sized (C := Try.checked) prog_own started (by kernel_rfl) Try.func7
    (ChangeSpec.witness6 (enc := enc) (C := Try.checked) false ⟨#[], #[.agg #[.int .i64 0, .int .i64 0, .slice none 0 0]], []⟩ 8 (by kernel_rfl) (by kernel_rfl) (by kernel_rfl) (by kernel_rfl)) ?_
  intro W base args ds gs before hval0 hW hcnd hsz _
  have hval : ∀ (j : Nat) t v, Try.f7.params[j]? = some t → args[j]? = some v → Value.okWide Try.prog W .any base t v := hval0
  have hW' := hW
  obtain ⟨p, q, hA0, hV, rfl, hfz, hnd⟩ := hW
  have hA : DataW.TrodAll enc Try.prog W 0 (fun _ => true) true Try.f7.params.toList args.toList ds p := hA0
  rw [Try.params7] at hA hval
  obtain ⟨v0, vs0, d0, ds0, p0, q0, hargs, rfl, rfl, h0, r0⟩ := trodAll_cons hA
  obtain ⟨rfl, rfl, rfl⟩ := trodAll_nil r0
  obtain rfl : args = #[v0] := by cases args; simp_all
  obtain ⟨rfl, rfl⟩ := trodVars_none hV
  obtain ⟨x0, y0, A0, l0, c0, rfl, bx0, by0, hb0, hk0, hd0⟩ := open_cells (hval 0 24 v0 rfl rfl) h0
  have hl0 : l0.length ≤ 17592186043904 := by
    obtain ⟨_, _, _, rfl, hdd⟩ := hd0
    rcases hdd with ⟨_, rfl⟩ | ⟨e, s, rfl, hle⟩
    · simp
    · have hpz := sized_part hsz (j := 0) (t := 24) rfl rfl Try.underlying24
      have this : (e.length + s.length) * Try.prog.bytesOf 3 ≤ reachBytes := sized_slice hpz (j := 2) (t := 22) (e := 3) rfl rfl Try.underlying22
      rw [bytes_int] at this
      unfold reachBytes at this
      omega
  have lt0 : ∀ x ∈ p0, x.block < W.heap.size := by obtain ⟨m, hm⟩ := h0; exact DataW.trod_lt m _ _ _ hm
  clear hA0 hval0
  refine (walk x0 y0 A0 c0 l0 W bx0 by0 hb0 hk0 hl0).mono fun e W' ⟨he, bel⟩ => ?_
  subst he
  exact ⟨_, rfl, _, _, _, [], _, [], hW', trodAll_mk1 (shut_bool Try.underlying4 _), (trodAll_cons_mk (Below.trod prog_laid (by kernel_rfl) (of_decide_eq_true (by kernel_rfl)) h0 bel lt0) trodAll_mk0), rfl, bel.frame _, fun h => by cases h⟩

theorem over : Rows.gridMapsRow.holds Try.pinned (OpenSpec.ofChange Rows.gridMapsSpec) :=
  OpenClaim.holds_of_wide 7 Try.f7 rfl rfl rfl rfl rfl rfl rfl ⟨rfl, rfl, rfl, rfl, rfl⟩ rfl rfl rfl rfl rfl (by kernel_rfl) Try.func7 (by kernel_rfl)
    (of_decide_eq_true (by kernel_rfl)) (by unfold Func.isWrapper; first | (rw [if_pos (by decide +kernel)]; kernel_rfl) | (rw [if_neg (by decide +kernel)]; exact ⟨rfl, rfl⟩))
    (fun os started H enc _ => lifted os started H enc)
end GridMaps

theorem gridMaps_holds : Rows.GridMapsSaid := GridMaps.over
#print axioms gridMaps_holds
end Go.Proofs.Ytfjnlbjlapbilaa
