/- Many bytes alike are summed without a slip: for every byte and every number, no condition. -/
import Derived.Test.YthkhibhaejbgbaaSe
import Derived.Test.YthkhibhaejbgbaaO
import Derived.Deep.CondSized
import Derived.Handy
import Derived.Deep.LoopGhost
import Derived.Deep.AppendLies
namespace Go.Proofs.Ythkhibhaejbgbaa
open Go.ChangeShapes Go.WideShapes Go.ChangeAt Go.RowKit
namespace SumsLong

section
variable {P : Program} (w : World)
/-- append of one byte to a row of the call's own. -/
theorem wpList_append_byte {ops : Array Oper} {rest : List Oper} {o : Oper} {a : Act} {Q : Exit → Act → World → Prop} (hgd : o.guard = none) (s x : Operand) (t : TypeId)
    (ho : o.op = .call { callee := .builtin .append, args := #[s, x], argTypes := #[t, t] })
    (base : Nat) (e : TypeId) (i : TypeInfo) (ht : P.underlying t = some (.slice e)) (hi : P.info? e = some i) (hz : i.zero = some (.int .u8 0))
    (hsize : i.size = 1) (hby : i.bytes = 1) (A : Option Addr) (n c : Nat) (out : List UInt8) (hs : a.eval s = .slice A n c) (hown : w.ownsRow base e 1 (.slice A n c) n (bytesV out))
    (b : UInt8) (g cx : Nat) (hx : a.eval x = .slice (some ⟨g, 0, none⟩) 1 cx) (hcell : w.cell? ⟨g, 0, none⟩ = some (.int .u8 (b.toNat : Int))) (h47 : n + 1 ≤ 140737488355328) (hbase : base ≤ w.heap.size)
    (h : ∀ gd c' w', w'.ownsRow base e 1 (.slice (some ⟨gd, 0, none⟩) (n + 1) c') (n + 1) (bytesV (out ++ [b])) → Below base w w' → w.grownBy w' (Value.slice A n c).ownBlock → wpList P ops Q rest (a.put o.dst (.slice (some ⟨gd, 0, none⟩) (n + 1) c')) w') : wpList P ops Q (o :: rest) a w := by
  refine wpList_append_lies w hgd s x t ho base e i (.int .u8 0) 1 1 ht hi hz hsize hby rfl (by omega) (.slice A n c) n (bytesV out) hs hown ⟨g, 0, none⟩ 1 cx [.int .u8 (b.toNat : Int)] hx rfl ?_ (by simp [Value.oneCell']) (by omega) (by unfold maxLen; omega) (by omega) hbase w.heap.size rfl ?_
  · intro j u hu
    match j, hu with
    | 0, hu => simp at hu; subst hu; simpa [Addr.add] using hcell
  · intro gd c' w' hown' hg _ _
    have e : bytesV (out ++ [b]) = bytesV out ++ [.int .u8 (b.toNat : Int)] := by simp [bytesV, bv]
    refine h gd c' w' (by rw [e]; exact hown') ((Below.refl base w).grown hg hbase (fun k hk => ?_)) hg
    exact (hown.lt k hk).1
end
theorem byte_of (x : Int) (h : 0 ≤ x ∧ x ≤ 255) : ∃ b : UInt8, x = (b.toNat : Int) := by
  refine ⟨UInt8.ofNat x.toNat, ?_⟩
  rw [UInt8.toNat_ofNat']
  omega

def LongAt (w w1 : World) (b : UInt8) (k : Nat) (v : Value) (wr : World) : Prop :=
  ∃ A n c, v = .slice A n c ∧ wr.ownsRow w1.heap.size 5 1 (.slice A n c) n (bytesV (List.replicate k b)) ∧ Below w.heap.size w wr ∧ w1.heap.size ≤ wr.heap.size

set_option maxHeartbeats 1000000 in
set_option maxRecDepth 100000 in
theorem walk (x n0 : Int) (w : World) (hx : 0 ≤ x ∧ x ≤ 255) (hn0 : -9223372036854775808 ≤ n0 ∧ n0 ≤ 9223372036854775807) :
    Calls Try.prog 7 #[.int .u8 x, .int .i64 n0] w fun e w' => e = .returned (.bool true) ∧ Below w.heap.size w w' := by
  obtain ⟨i0, hi, hz0, hz1, hz2⟩ := info_parts info_u8
  obtain ⟨b, rfl⟩ := byte_of x hx
  by_cases h1 : n0 < 0
  · have d1 : decide (n0 < 0) = true := by simp; omega
    go_enter Try.func7, Try.ntmps7
    go_wp2_with fail
    refine (wakes_any w).mono ?_
    rintro e w1 ⟨rfl, hb1⟩
    go_wp2_with fail
    go_ret
    exact ⟨rfl, hb1⟩
  · have d1 : decide (n0 < 0) = false := by simp; omega
    by_cases h2 : 20000 < n0
    · have d2 : decide (20000 < n0) = true := by simp; omega
      go_enter Try.func7, Try.ntmps7
      go_wp2_with fail
      refine (wakes_any w).mono ?_
      rintro e w1 ⟨rfl, hb1⟩
      go_wp2_with fail
      go_ret
      exact ⟨rfl, hb1⟩
    · have d2 : decide (20000 < n0) = false := by simp; omega
      obtain ⟨n, hn, hn2⟩ : ∃ n : Nat, n0 = (n : Int) ∧ n ≤ 20000 := ⟨n0.toNat, by omega, by omega⟩
      subst hn
      clear hn0 h1 h2
      go_enter Try.func7, Try.ntmps7
      go_wp2_with fail
      refine (wakes_any w).mono ?_
      rintro e w1 ⟨rfl, hb1⟩
      go_wp2_with fail
      go_loopw [5, 6] (fun v i wr => ∃ k : Nat, k ≤ n ∧ i = .int .i64 k ∧ LongAt w w1 b k v wr) (fun _ i _ => n - (intOf i).toNat)
      case atStart => exact ⟨0, by omega, rfl, none, 0, 0, rfl, by simpa [bytesV] using World.ownsRow_nil w1 w1.heap.size 5 1, hb1, Nat.le_refl _⟩
      case round =>
        obtain ⟨k, hk, rfl, A1, n1, c1, rfl, hO, hB, hS⟩ := hrel
        have hn1 : n1 = k := by have := hO.1; rw [bytesV_length] at this; simp at this; omega
        subst hn1
        have HO := Lib.hid hO; clear hO
        have HB := Lib.hid hB; clear hB
        by_cases hlt : n1 < n
        · go_wp2_with (at_builtin; refine wpList_append_byte _ rfl (.tmp 20) (.tmp 22) _ rfl w1.heap.size 5 i0 Try.underlying22 hi hz0 hz1 hz2 A1 n1 c1 _ rfl (HO.out.alloc _) b wr.heap.size 1 rfl ((Blk.new _ _ _).cell 0) (by omega) (by simp; omega) ?_; intro gd c2 w2 hO2 hB2 _)
          go_roundw
          case rel =>
            have hs2 := hB2.size
            have hs1 := hb1.size
            have hbs := HB.out.size
            simp only [World.size_alloc] at hs2
            exact ⟨n1 + 1, by omega, by go_num, _, _, _, rfl, by rw [List.replicate_succ']; exact hO2, (HB.out.alloc hbs _).trans (hB2.mono hs1), by omega⟩
          case measure => simp [intOf]; omega
        · obtain rfl : n1 = n := by omega
          have HL : Hid ((List.replicate n1 b).length = n1) := Lib.hid List.length_replicate
          have bsr := own_bs HO.out
          go_wp2_with fail
          refine (own_n A1 c1 n1 _ HL.out _ wr bsr (by omega) (Nat.le_refl _)).mono ?_
          rintro e w2 ⟨A2, c2, rfl, o2, hb2⟩
          have hb2' := HB.out.trans (hb2.mono HB.out.size)
          go_wp2_with fail
          refine (adler_n A2 c2 n1 _ HL.out _ w2 (own_bs o2) (by omega)).mono ?_
          rintro e w3 ⟨rfl, hw3⟩
          obtain rfl := hw3
          go_wp2_with fail
          refine (refAdler_n A1 c1 n1 _ HL.out _ w2 (bsr.below hb2) (by omega)).mono ?_
          rintro e w3 ⟨rfl, hw3⟩
          obtain rfl := hw3
          go_wp2_with fail
          refine (own_n A1 c1 n1 _ HL.out _ w2 (bsr.below hb2) (by omega) hb2.size).mono ?_
          rintro e w4 ⟨A4, c4, rfl, o4, hb4⟩
          have hb4' := hb2'.trans (hb4.mono hb2'.size)
          have bs4 := (bsr.below hb2).below (hb4.mono hb2.size)
          go_wp2_with fail
          refine (crc_n A4 c4 n1 _ HL.out _ w4 (own_bs o4) (by omega) (Nat.le_refl _)).mono ?_
          rintro e w5 ⟨rfl, hb5⟩
          have hb5' := hb4'.trans (hb5.mono hb4'.size)
          have bs5 := bs4.below (hb5.mono (Nat.le_trans hb2.size hb4.size))
          go_wp2_with fail
          refine (refCrc_n A1 c1 n1 _ HL.out _ w5 bs5 (by omega)).mono ?_
          rintro e w6 ⟨rfl, hw6⟩
          obtain rfl := hw6
          go_wp2_with fail
          go_ret
          exact ⟨ret_bool (by simp), hb5'⟩

set_option maxRecDepth 100000 in
theorem lifted (os : Os) (started : os.Started) (H : Type) (enc : TypeId × Value → H) :
    ReturnsInHanded {} Try.checked os 7 .any (Rows.sumsLongSpec.pre6 enc Try.prog Try.f7 Rows.sumsLongRow.domain false) (Rows.sumsLongSpec.post enc Try.prog Try.f7 false true false false) := by
  refine returnsInHanded_of_change (C := Try.checked) prog_own started (by kernel_rfl) Try.func7
    (ChangeSpec.witness6 (enc := enc) (C := Try.checked) false ⟨#[], #[.int .u8 0, .int .i64 0], []⟩ 8 (by kernel_rfl) (by kernel_rfl) (by kernel_rfl) (by kernel_rfl)) ?_
  intro W base args ds gs before hval0 hW hcnd _
  have hval : ∀ (j : Nat) t v, Try.f7.params[j]? = some t → args[j]? = some v → Value.okWide Try.prog W .any base t v := hval0
  have hW' := hW
  obtain ⟨p, q, hA0, hV, rfl, hfz, hnd⟩ := hW
  have hA : DataW.TrodAll enc Try.prog W 0 (fun _ => true) true Try.f7.params.toList args.toList ds p := hA0
  rw [Try.params7] at hA hval
  obtain ⟨v0, vs0, d0, ds0, p0, q0, hargs, rfl, rfl, h0, r0⟩ := trodAll_cons hA
  obtain ⟨v1, vs1, d1, ds1, p1, q1, rfl, rfl, rfl, h1, r1⟩ := trodAll_cons r0
  obtain ⟨rfl, rfl, rfl⟩ := trodAll_nil r1
  obtain rfl : args = #[v0, v1] := by cases args; simp_all
  obtain ⟨rfl, rfl⟩ := trodVars_none hV
  obtain ⟨a0, rfl, rfl, rfl, w0⟩ := open_int Try.underlying5 (hval 0 5 v0 rfl rfl) h0
  obtain ⟨a1, rfl, rfl, rfl, w1⟩ := open_int Try.underlying3 (hval 1 3 v1 rfl rfl) h1
  clear hA0 hval0
  refine (walk a0 a1 W (bounds_u8 w0) (bounds_i64 w1)).mono fun e W' ⟨he, bel⟩ => ?_
  subst he
  exact ⟨_, rfl, _, _, _, [], _, [], hW', trodAll_mk1 (shut_bool Try.underlying4 _), (trodAll_cons_mk (shut_int Try.underlying5 w0) (trodAll_cons_mk (shut_int Try.underlying3 w1) trodAll_mk0)), rfl, bel.frame _, fun h => by cases h⟩

theorem over : Rows.sumsLongRow.holds Try.pinned (OpenSpec.ofChange Rows.sumsLongSpec) :=
  OpenClaim.holds_of_wide 7 Try.f7 rfl rfl rfl rfl rfl rfl rfl ⟨rfl, rfl, rfl, rfl, rfl⟩ rfl rfl rfl rfl rfl (by kernel_rfl) Try.func7 (by kernel_rfl)
    (of_decide_eq_true (by kernel_rfl)) (by unfold Func.isWrapper; first | (rw [if_pos (by decide +kernel)]; kernel_rfl) | (rw [if_neg (by decide +kernel)]; exact ⟨rfl, rfl⟩))
    (fun os started H enc _ => lifted os started H enc)
end SumsLong

theorem sumsLong_holds : Rows.SumsLongSaid := SumsLong.over
#print axioms sumsLong_holds
end Go.Proofs.Ythkhibhaejbgbaa
