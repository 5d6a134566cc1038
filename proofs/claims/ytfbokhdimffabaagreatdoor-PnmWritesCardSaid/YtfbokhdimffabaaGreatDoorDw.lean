/- Joined texts (a claim has at most 60 files): Dl Dw. -/
import Derived.Test.YtfbokhdimffabaaGreatDoorNm
import Derived.Test.YtfbokhdimffabaaGreatDoorNw
import Derived.Test.YtfbokhdimffabaaGreatDoorQq
import Derived.Test.YtfbokhdimffabaaGreatDoorAs
import Derived.Test.YtfbokhdimffabaaGreatDoorQp
import Derived.Test.YtfbokhdimffabaaGreatDoorTie
import Derived.Test.YtfbokhdimffabaaGreatDoorCards
import Derived.ProofKit
import Derived.OpenShut
import Derived.ChangeOld
import Derived.SizedLaws
import Derived.LaidMore
import Derived.Lay
import Derived.SevenTiedAt
import Derived.JoinedCond
import Derived.Deep.CondSized
/- The base of the tied cards of layer 10: the listed table of powers; both Encodes side by side. -/
set_option linter.unusedVariables false
set_option linter.unusedSimpArgs false
namespace Go.Proofs.YtfbokhdimffabaaGreatDoor
open Go.ChangeShapes Go.WideShapes Go.ChangeAt Go.RowKit

def laidL : List (String × DataW Unit) := [("math/bits.deBruijn32tab", Rows.laid_math_bits_deBruijn32tab), ("math/bits.deBruijn64tab", Rows.laid_math_bits_deBruijn64tab), ("internal/strconv.uint64pow10", Rows.laid_internal_strconv_uint64pow10), ("unicode/utf8.acceptRanges", Rows.laid_unicode_utf8_acceptRanges), ("unicode/utf8.first", Rows.laid_unicode_utf8_first)]
theorem pow_data : (Rows.laid_internal_strconv_uint64pow10 : DataW Unit) = Lib.tabData .u64 Lib.pow10Tab := by rfl
theorem tab_of_laid {W : World} (h : laidMetH Tryz.prog laidL W) : Pow10 W := by
  rw [MakeChecks.laidMetH_plain _ _ _ (by kernel_rfl)] at h
  obtain ⟨ps, ⟨_, _, _, _, _, _, _, _, _, _, ⟨_, _, _, _, _, _, _, _, _, _, ⟨g, t, cs, fuel, p, q, hg, ht, hv, hd, _, _⟩, _⟩, _⟩, _⟩ := h
  obtain rfl := Option.some.inj ((show Tryz.prog.globalNamed "internal/strconv.uint64pow10" = some 1 by kernel_rfl).symm.trans hg)
  obtain rfl := Option.some.inj ((show (Tryz.prog.globals[1]?).map (·.type) = some 166 by kernel_rfl).symm.trans ht)
  rw [pow_data] at hd
  unfold Pow10 Lib.TabIs
  rw [hv, ← Lib.cells_of_tab Tryz.underlying166 Tryz.underlying152 (by kernel_rfl) (by kernel_rfl) hd]
theorem laid_shaped (os : Os) (args : Array Value) : ((World.laidAll Tryz.prog os laidL).forCall (fun _ _ => 0) ⟨#[], args, []⟩).Shaped Tryz.prog := World.shaped_of_ZipB (by kernel_rfl) (by kernel_rfl)
theorem laid_met (os : Os) (args : Array Value) : laidMetH Tryz.prog laidL ((World.laidAll Tryz.prog os laidL).forCall (fun _ _ => 0) ⟨#[], args, []⟩).memory := by
  rw [MakeChecks.laidMetH_plain _ _ _ (by kernel_rfl)]
  exact laidMet_laidAll _ (by kernel_rfl) (by kernel_rfl)
/-- What is written, whatever is asked. -/
theorem fileN_unique {k top W H : Nat} {L : List Col} {a b : List UInt8} (ha : FileN k top W H L a) (hb : FileN k top W H L b) : a = b := by
  rcases ha with ⟨h1, h2⟩ | ⟨h1, p, hp, h2⟩
  · rcases hb with ⟨_, h4⟩ | ⟨h3, _⟩
    · rw [h2, h4]
    · rw [h1] at h3; cases h3
  · rcases hb with ⟨h3, _⟩ | ⟨_, q, hq, h4⟩
    · rw [h1] at h3; cases h3
    · rw [h2, h4, packed_unique hp hq]
theorem pxL_ok {l : List Int} (hlb : ∀ v ∈ l, 0 ≤ v ∧ v ≤ 65535) (m : Nat) : ∀ x ∈ pxL l m, ColK x := by
  intro x hx
  obtain ⟨i, hi, rfl⟩ := List.mem_iff_getElem.1 hx
  rw [pxL_length] at hi
  have := pxL_get l m i hi
  rw [List.getD_eq_getElem?_getD, List.getElem?_eq_getElem (by rw [pxL_length]; exact hi), Option.getD_some] at this
  rw [this]
  have hd : ∀ j, 0 ≤ l.getD j 0 ∧ l.getD j 0 ≤ 65535 := fun j => by
    by_cases hj : j < l.length
    · rw [List.getD_eq_getElem?_getD, List.getElem?_eq_getElem hj]; exact hlb _ (List.getElem_mem hj)
    · rw [List.getD_eq_getElem?_getD, List.getElem?_eq_none (by omega)]; simp
  exact ⟨hd _, hd _, hd _⟩
theorem fileN_len {k top W H : Nat} {L : List Col} {b : List UInt8} (h : FileN k top W H L b) (hk6 : k ≤ 6) (h1 : 1 ≤ top) (h2 : top ≤ 65535) (hW : W ≤ 4096) (hH : H ≤ 4096) (hok : ∀ x ∈ L, ColK x) : b.length ≤ 140737488355328 := by
  have hT : 1 ≤ topN k top ∧ topN k top ≤ 65535 := by unfold topN; split <;> omega
  have hl := lnS_size k k W H (topN k top : Nat) ⟨by omega, by omega⟩ ⟨by omega, by omega⟩ ⟨by omega, by omega⟩ ⟨by omega, by omega⟩
  have hl2 : (lnS k k W H (topN k top : Nat)).data.toList.length = (lnS k k W H (topN k top : Nat)).size := by rw [Array.length_toList]; rfl
  rcases h with ⟨_, rfl⟩ | ⟨_, p, hp, rfl⟩
  · have h3 := txtD_len k top W hT.1 hT.2 L hok H
    have h4 : H * (63 * W + 1) ≤ 4096 * 258049 := Nat.mul_le_mul hH (by omega)
    rw [List.length_append]
    omega
  · have h3 := bitT_len k top W L H
    have h4 : H * (48 * W + 7) ≤ 4096 * 196615 := Nat.mul_le_mul hH (by omega)
    have h5 := hp.1
    rw [List.length_append]
    omega
/-- One way to say either side's answer. -/
theorem EncQ.out {w : World} {W H : Int} {l : List Int} {kind top : Int} {e : Ending} {w' : World} (hlb : ∀ v ∈ l, 0 ≤ v ∧ v ≤ 65535) (h : EncQ w W H l kind top e w') : ∃ A c b er, e = .returned (.tuple #[.slice A (List.length (α := UInt8) b) c, .int .i64 er]) ∧ Bs w' w'.heap.size A b ∧ Below w.heap.size w w' ∧ b.length ≤ 140737488355328 ∧
    ((goodB W H l.length = false ∧ b = [] ∧ er = 6) ∨ (goodB W H l.length = true ∧ ¬ (1 ≤ kind ∧ kind ≤ 6 ∧ 1 ≤ top ∧ top ≤ 65535) ∧ b = [] ∧ er = 2) ∨ (goodB W H l.length = true ∧ (1 ≤ kind ∧ kind ≤ 6 ∧ 1 ≤ top ∧ top ≤ 65535) ∧ er = 0 ∧ FileN kind.toNat top.toNat W.toNat H.toNat (pxL l (W.toNat * H.toNat)) b)) := by
  rcases h with ⟨h1, rfl, h3⟩ | ⟨h1, h2, rfl, h3⟩ | ⟨h1, h2, A, n, c, b, rfl, hf, hr, hb⟩
  · exact ⟨none, 0, [], 6, rfl, Bs.nil_, h3, by simp, .inl ⟨h1, rfl, rfl⟩⟩
  · exact ⟨none, 0, [], 2, rfl, Bs.nil_, h3, by simp, .inr (.inl ⟨h1, h2, rfl, rfl⟩)⟩
  · have hn := hr.len
    rw [Lib.byteCells_length] at hn
    subst hn
    by_cases h0 : b = []
    · subst h0
      exact ⟨A, c, [], 0, rfl, Bs.nil_, hb, by simp, .inr (.inr ⟨h1, h2, rfl, hf⟩)⟩
    · refine ⟨A, c, b, 0, rfl, hr.bs (List.length_pos_iff.2 h0), hb, ?_, .inr (.inr ⟨h1, h2, rfl, hf⟩)⟩
      obtain ⟨w1, h1', rfl, rfl, _, _, _, q2, _, q4⟩ := goodB_nat h1
      exact fileN_len hf (by omega) (by omega) (by omega) q2 q4 (pxL_ok hlb _)
end Go.Proofs.YtfbokhdimffabaaGreatDoor

/- Any image, good or not, of any kind and top value, is written byte by byte as the document says, or refused with the same error: the program's Encode is the document's, for every image. The card ties the listed tables (the powers of ten among them) to the library's own text. Condition: the form's own reach of memory. -/
set_option linter.unusedVariables false
set_option linter.unusedSimpArgs false
namespace Go.Proofs.YtfbokhdimffabaaGreatDoor
open Go.ChangeShapes Go.WideShapes Go.ChangeAt Go.RowKit
namespace PnmWrites

set_option maxHeartbeats 4000000 in
set_option maxRecDepth 100000 in
theorem walk (x y : Int) (A : Option Addr) (c : Nat) (l : List Int) (kind top : Int) (w : World) (hT : Pow10 w) (_ : -9223372036854775808 ≤ x ∧ x ≤ 9223372036854775807) (_ : -9223372036854775808 ≤ y ∧ y ≤ 9223372036854775807) (hu : Us w w.heap.size A l) (hlb : ∀ v ∈ l, 0 ≤ v ∧ v ≤ 65535) (hl : l.length * 2 ≤ 140737488351232) (hk : -9223372036854775808 ≤ kind ∧ kind ≤ 9223372036854775807) (htp : -9223372036854775808 ≤ top ∧ top ≤ 9223372036854775807) :
    Calls Tryz.prog 4 #[imgV x y A l.length c, .int .i64 kind, .int .i64 top] w fun e w' => e = .returned (.bool true) ∧ Below w.heap.size w w' := by
  obtain ⟨w1, hw1, hi, hb⟩ := newImg x y A l.length c w
  have HW1 := Lib.hid hw1; have HI := Lib.hid hi; have HB := Lib.hid hb
  have HU := Lib.hid (Vs.below hu hb); have HTB := Lib.hid (Lib.tabBelow_of_tabIs hT)
  have hs1 := hb.size
  obtain ⟨n, hn⟩ : ∃ n, l.length = n := ⟨_, rfl⟩
  have HN := Lib.hid hn
  rw [hn] at hl HW1 HI ⊢
  have HKT := Lib.hid (And.intro hk htp)
  clear hw1 hi hb hu hT hn hk htp
  go_enter Tryz.func4, Tryz.ntmps4
  go_upto_region 1 with (fail)
  rw [HW1.out]
  clear HW1
  go_wp2_with fail
  refine (wakes_any w1 (HTB.out w1 HB.out)).mono ?_
  rintro e w2 ⟨rfl, hb2⟩
  have hs2 := hb2.size
  have HB2 := Lib.hid (HB.out.trans (hb2.mono HB.out.size)); have HI2 := Lib.hid (HI.out.call hb2)
  have HU2 := Lib.hid (Vs.below HU.out (hb2.mono (by omega)))
  clear HB HI HU hb2
  have q0 := HI2.out.c0; have q1 := HI2.out.c1; have q2 := HI2.out.c2
  go_wp2_with fail
  refine (copy_any x y A n c l HN.out w.heap.size w2 HU2.out (by omega) (by omega)).mono ?_
  rintro e w3 ⟨A3, c3, rfl, o3, hb3⟩
  have hs3 := hb3.size
  have HB3 := Lib.hid (HB2.out.trans (hb3.mono HB2.out.size)); have HI3 := Lib.hid (HI2.out.call hb3)
  have HU3 := Lib.hid (Vs.below HU2.out (hb3.mono (by omega)))
  have hr3 := (row_room o3).1
  have HC3 := Lib.hid (Vs.of_own o3)
  clear HB2 HI2 HU2 hb3 o3 q0 q1 q2
  go_wp2_with fail
  refine (encode_any x y kind top A3 n c3 l HN.out hr3 hlb HKT.out.1 HKT.out.2 w3.heap.size w3 (HTB.out w3 HB3.out) HC3.out (Nat.le_refl _)).mono ?_
  intro e w4 he
  obtain ⟨A4, c4, b4, er4, rfl, o4, hb4, hl4, hc4⟩ := EncQ.out hlb he
  have hs4 := hb4.size
  have HB4 := Lib.hid (HB3.out.trans (hb4.mono HB3.out.size)); have HI4 := Lib.hid (HI3.out.call hb4)
  have HU4 := Lib.hid (Vs.below HU3.out (hb4.mono (by omega)))
  have HO4 := Lib.hid o4
  have HC4 := Lib.hid (And.intro hl4 hc4)
  clear HB3 HI3 HU3 HC3 hb4 o4 he hl4 hc4
  have q0 := HI4.out.c0; have q1 := HI4.out.c1; have q2 := HI4.out.c2
  go_wp2_with fail
  refine (refEncode_any x y kind top A n c l HN.out hlb HKT.out.1 HKT.out.2 w.heap.size w4 (HTB.out w4 HB4.out) HU4.out (by omega)).mono ?_
  intro e w5 he
  obtain ⟨A5, c5, b5, er5, rfl, o5, hb5, hl5, hc5⟩ := EncQ.out hlb he
  have hee : b4 = b5 ∧ er4 = er5 := by
    rcases HC4.out.2 with ⟨g, h1, h2⟩ | ⟨g, g2, h1, h2⟩ | ⟨g, g2, h2, h1⟩
    · rcases hc5 with ⟨k, h3, h4⟩ | ⟨k, k2, h3, h4⟩ | ⟨k, k2, h4, h3⟩
      · exact ⟨h1.trans h3.symm, h2.trans h4.symm⟩
      · rw [g] at k; cases k
      · rw [g] at k; cases k
    · rcases hc5 with ⟨k, h3, h4⟩ | ⟨k, k2, h3, h4⟩ | ⟨k, k2, h4, h3⟩
      · rw [g] at k; cases k
      · exact ⟨h1.trans h3.symm, h2.trans h4.symm⟩
      · exact absurd k2 g2
    · rcases hc5 with ⟨k, h3, h4⟩ | ⟨k, k2, h3, h4⟩ | ⟨k, k2, h4, h3⟩
      · rw [g] at k; cases k
      · exact absurd g2 k2
      · exact ⟨fileN_unique h1 h3, h2.trans h4.symm⟩
  obtain ⟨rfl, rfl⟩ := hee
  have HB5 := Lib.hid (HB4.out.trans (hb5.mono HB4.out.size))
  have HO5 := Lib.hid ((HO4.out.below hb5).more hb5.size)
  have HP5 := Lib.hid o5
  have HL5 := Lib.hid hl5
  clear HB4 HI4 HU4 HO4 hb5 o5 he q0 q1 q2 hl5 hc5 HC4
  obtain ⟨N, hN⟩ : ∃ N, b4.length = N := ⟨_, rfl⟩
  have HNN := Lib.hid hN
  rw [hN] at HL5 ⊢
  clear hN
  go_wp2_with fail
  have hsm := same_any A4 A5 c4 c5 b4 b4 w5.heap.size w5 HO5.out HP5.out (by rw [HNN.out]; have := HL5.out; unfold maxLen; omega)
  rw [HNN.out, beq_self_eq_true] at hsm
  refine hsm.mono ?_
  rintro e w6 ⟨rfl, k, rfl⟩
  have HB6 := Lib.hid (below_drewN HB5.out k)
  clear HO5 HP5 hsm
  go_wp2_with fail
  go_ret
  exact ⟨by simp, HB6.out⟩
set_option maxRecDepth 100000 in
theorem lifted (os : Os) (started : os.Started) (H : Type) (enc : TypeId × Value → H) :
    ReturnsInHanded {} Tryz.checked os 4 .any (fun w args => (Rows.pnmWritesSpec.pre enc Tryz.prog Tryz.f4 Rows.pnmWritesRow.domain false w args ∧ laidMetH Tryz.prog laidL w) ∧ sizedMet enc Tryz.prog Tryz.f4 (OpenSpec.ofChange Rows.pnmWritesSpec) false w args)
      (Rows.pnmWritesSpec.post enc Tryz.prog Tryz.f4 false true false false) := by
  refine returnsInHanded_of_change_and (C := Tryz.checked) (X := fun w _ => laidMetH Tryz.prog laidL w) (fun _ _ _ hh h => h.of_heap hh) prog_own started (by kernel_rfl) Tryz.func4
    (ChangeSpec.witness_shaped (enc := enc) (C := Tryz.checked) (os := os) (X := fun w _ => laidMetH Tryz.prog laidL w) false (World.laidAll Tryz.prog os laidL) #[.agg #[.int .i64 0, .int .i64 0, .slice none 0 0], .int .i64 0, .int .i64 0] 8 (World.laidAll_os _ _ _)
      (laid_shaped os _) (by kernel_rfl) (by kernel_rfl) (by kernel_rfl) (laid_met os _)) ?_
  intro W base args ds gs before hval0 hW hcnd hsz hL _
  have hval : ∀ (j : Nat) t v, Tryz.f4.params[j]? = some t → args[j]? = some v → Value.okWide Tryz.prog W .any base t v := hval0
  have hW' := hW
  obtain ⟨p, q, hA0, hV, rfl, hfz, hnd⟩ := hW
  have hA : DataW.TrodAll enc Tryz.prog W 0 (fun _ => true) true Tryz.f4.params.toList args.toList ds p := hA0
  rw [Tryz.params4] at hA hval
  obtain ⟨v0, vs0, d0, ds0, p0, q0, hargs, rfl, rfl, h0, r0⟩ := trodAll_cons hA
  obtain ⟨v1, vs1, d1, ds1, p1, q1, rfl, rfl, rfl, h1, r1⟩ := trodAll_cons r0
  obtain ⟨v2, vs2, d2, ds2, p2, q2, rfl, rfl, rfl, h2, r2⟩ := trodAll_cons r1
  obtain ⟨rfl, rfl, rfl⟩ := trodAll_nil r2
  obtain rfl : args = #[v0, v1, v2] := by cases args; simp_all
  obtain ⟨rfl, rfl⟩ := trodVars_none hV
  obtain ⟨x0, y0, A0, l0, c0, rfl, bx0, by0, hb0, hk0, hd0⟩ := open_image (hval 0 26 v0 rfl rfl) h0
  obtain ⟨a1, rfl, rfl, rfl, w1⟩ := open_int Tryz.underlying3 (hval 1 3 v1 rfl rfl) h1
  obtain ⟨a2, rfl, rfl, rfl, w2⟩ := open_int Tryz.underlying3 (hval 2 3 v2 rfl rfl) h2
  have hl0 : l0.length * 2 ≤ 140737488351232 := by
    obtain ⟨_, _, _, rfl, hdd⟩ := hd0
    rcases hdd with ⟨_, rfl⟩ | ⟨e, s, rfl, hle⟩
    · simp
    · have hpz := sized_part hsz (j := 0) (t := 26) rfl rfl Tryz.underlying26
      have this : (e.length + s.length) * Tryz.prog.bytesOf 42 ≤ reachBytes := sized_slice hpz (j := 2) (t := 24) (e := 42) rfl rfl Tryz.underlying24
      rw [bytes_u16] at this
      unfold reachBytes at this
      omega
  have lt0 : ∀ x ∈ p0, x.block < W.heap.size := by obtain ⟨m, hm⟩ := h0; exact DataW.trod_lt m _ _ _ hm
  clear hA0 hval0
  refine (walk x0 y0 A0 c0 l0 a1 a2 W (tab_of_laid hL) bx0 by0 hb0 hk0 hl0 (bounds_i64 w1) (bounds_i64 w2)).mono fun e W' ⟨he, bel⟩ => ?_
  subst he
  exact ⟨_, rfl, _, _, _, [], _, [], hW', trodAll_mk1 (shut_bool Tryz.underlying4 _), (trodAll_cons_mk (Below.trod prog_laid (by kernel_rfl) (of_decide_eq_true (by kernel_rfl)) h0 bel lt0) (trodAll_cons_mk (shut_int Tryz.underlying3 w1) (trodAll_cons_mk (shut_int Tryz.underlying3 w2) trodAll_mk0))), rfl, bel.frame _, fun h => by cases h⟩

theorem over : Rows.pnmWritesRow.holds Tryz.pinned (OpenSpec.ofChange Rows.pnmWritesSpec) :=
  OpenClaim.holds_of_wide 4 Tryz.f4 rfl rfl rfl rfl rfl rfl rfl ⟨rfl, rfl, rfl, rfl, rfl⟩ rfl rfl rfl rfl rfl (by kernel_rfl) Tryz.func4 (by kernel_rfl)
    (of_decide_eq_true (by kernel_rfl)) (by unfold Func.isWrapper; first | (rw [if_pos (by decide +kernel)]; kernel_rfl) | (rw [if_neg (by decide +kernel)]; exact ⟨rfl, rfl⟩))
    (fun os started H enc _ => lifted os started H enc)
end PnmWrites

theorem pnmWrites_holds : Rows.PnmWritesSaid := PnmWrites.over
theorem pnmWrites_card : Rows.PnmWritesCardSaid :=
  Claim7.holds_tied_plain_at .later [] [.data, .data, .data, .data, .pinned] true Rows.pnmWritesCard.stood.harness false pnmWrites_holds (fun _ h => by cases h) (by kernel_rfl) (fun _ h => by cases h) pnmWrites_row_tie rfl ⟨rfl, rfl⟩ (by kernel_rfl) rfl
    (fun f fn hf hfn => by
      obtain rfl : f = 4 := Option.some.inj ((show Tryz.prog.funcNamed "darkroom/darkroomlaw10.PnmWrites" = some 4 by kernel_rfl).symm.trans hf) |>.symm
      obtain rfl : fn = Tryz.f4 := (Option.some.inj (Tryz.func4.symm.trans hfn)).symm
      exact ⟨by kernel_rfl, fun j t ht => by
        rw [Tryz.params4] at ht
        have hm : t ∈ [26, 3, 3] := by simpa using Array.mem_of_getElem? ht
        have hall : ([26, 3, 3].all fun u => !Tryz.prog.wantsStandIn u) = true := by kernel_rfl
        exact (show Tryz.prog.wantsStandIn t = false by simpa using List.all_eq_true.1 hall t hm)⟩)
    (by kernel_rfl)
#print axioms pnmWrites_card
end Go.Proofs.YtfbokhdimffabaaGreatDoor

