/- Map: a grid of another kind, cell by cell. -/
import Derived.Test.YtfjnlbjlapbilaaGl
import Derived.Test.YtfjnlbjlapbilaaAr
import Derived.Defers
import Derived.Recover
import Derived.Deep.RegionHeld3
namespace Go.Proofs.Ytfjnlbjlapbilaa
open Go.ChangeShapes Go.WideShapes Go.ChangeAt Go.RowKit

/-- What the statement's function says of a number. -/
def twV (v : Int) : Value := if v.tmod 2 = 0 then .string ⟨#[101, 118, 101, 110]⟩ else .string ⟨#[111, 100, 100]⟩
theorem twV_one (v : Int) : (twV v).oneCell' = true := by unfold twV; split <;> rfl
theorem twV_str (v : Int) : ∃ s, twV v = .string s := by unfold twV; split <;> exact ⟨_, rfl⟩
theorem twice_any (v : Int) (w : World) (_ : -9223372036854775808 ≤ v ∧ v ≤ 9223372036854775807) : Calls Try.prog 25 #[.int .i64 v] w fun e w' => e = .returned (twV v) ∧ w' = w := by
  go_enter Try.func25, Try.ntmps25
  by_cases h : v.tmod 2 = 0
  · have hE : Hid (twV v = .string ⟨#[101, 118, 101, 110]⟩) := Lib.hid (by unfold twV; rw [if_pos h])
    have d : (v.tmod 2 == 0) = true := by simp [h]
    go_wp2_with fail
    go_ret
    rw [hE.out]
    exact ⟨rfl, rfl⟩
  · have hE : Hid (twV v = .string ⟨#[111, 100, 100]⟩) := Lib.hid (by unfold twV; rw [if_neg h])
    have d : (v.tmod 2 == 0) = false := by simp [h]
    go_wp2_with fail
    go_ret
    rw [hE.out]
    exact ⟨rfl, rfl⟩
theorem map_idle (w : World) : CallsD Try.prog 49 #[] .returning w fun e u' w' => e = .returned (.tuple #[]) ∧ u' = .returning ∧ w' = w := by
  refine callsD_of_wpS Try.func49 rfl fun c₀ cs hu => ?_
  apply wpS_region
  simp [wpOpsS, go_sem, recoverD, hu, Try.ntmps49]
  cases c₀
  simp_all [bodyPostS, results, Try.results49]

/-- A row of strings has one more. -/
theorem append_str (base : Nat) (w : World) (A : Option Addr) (c k : Nat) (xs : List Value) (a : Value) (h : w.ownsRow base 9 1 (.slice A k c) k xs) (hb : base ≤ w.heap.size) (hk : k ≤ 65536) (h1 : a.oneCell' = true) (ty : TypeId) :
    ∃ A' c' w', (Builtin.append_ #[60, 60] ty #[.slice A k c, .slice (some ⟨w.heap.size, 0, none⟩) 1 1]).run Try.prog (w.alloc (.cells #[a] 9)) = .ok (.slice A' (k + 1) c') w' ∧
      w'.ownsRow base 9 1 (.slice A' (k + 1) c') (k + 1) (xs ++ [a]) ∧ Upd (fun i => (Value.slice A k c).ownBlock = some i ∨ w.heap.size ≤ i) w w' := by
  obtain ⟨i0, hi, hz0, hz1, hz2⟩ := info_parts info_str
  obtain ⟨A', c', w', hrun, h2, h3, _⟩ := run_append_vn (P := Try.prog) (w.alloc (.cells #[a] 9)) base 60 ty 9 i0 _ 1 16 Try.underlying60 hi hz0 hz1 hz2 rfl (by omega) (.slice A k c) k xs (own_upd h ((Upd.refl No w).alloc _) (fun _ _ => id)) (w.heap.size + 1) ⟨w.heap.size, 0, none⟩ 1 1 [a] rfl (vs_lit w 9 [a] _ (by omega)) (by simpa using h1) (by unfold maxLen; omega) (by omega) (by simp; omega)
  refine ⟨A', c', w', hrun, h2, ((Upd.refl _ w).alloc _).then (Upd.of_grown h3) (fun i hi e => .inl e.symm)⟩

set_option maxRecDepth 100000 in
set_option maxHeartbeats 4000000 in
theorem map_any {w : World} {base g r c W H : Nat} {l : List Int} (h : GridAt w base 87 3 g r c W H (intsV l)) (hl : ∀ v ∈ l, -9223372036854775808 ≤ v ∧ v ≤ 9223372036854775807) :
    Calls Try.prog 24 #[.pointer (some ⟨g, 0, none⟩), .func (.func 25) #[] #[]] w fun e w' => ∃ g' r' c', e = .returned (.pointer (some ⟨g', 0, none⟩)) ∧
      GridAt w' w.heap.size 92 9 g' r' c' W H (l.map twV) ∧ Below w.heap.size w w' := by
  have hmf : ∀ (fn : Fn) (first cap : Array Value) (w : World), (Instr.makeFunc fn first cap).run Try.prog w = .ok (.func fn first cap) w := fun _ _ _ _ => rfl
  have hp := h.pos
  have hfew := h.few
  have hlen := h.len
  rw [intsV_length] at hlen
  have k0 := h.c0; have k1 := h.c1; have k2 := h.c2
  obtain ⟨n, hn⟩ : ∃ n, W * H = n := ⟨_, rfl⟩
  rw [hn] at hp hfew hlen k2
  have HG := Lib.hid h; have HL := Lib.hid hl; have HN := Lib.hid hn
  clear h hl hn
  obtain ⟨i0, hi, hz0, hz1, hz2⟩ := info_parts info_str
  go_enter_defers Try.func24, Try.ntmps24
  go_wp2_with (at_make; refine wpList_make_own _ rfl (.const (.int .i64 0)) (.tmp 14) 60 rfl w.heap.size 9 i0 (.string ⟨#[]⟩) 1 Try.underlying60 hi hz0 hz1 .i64 .i64 _ n rfl rfl (by rfl) (by rw [hz2]; omega) (by unfold maxLen; omega) (Nat.le_refl _) ?_; intro w2 hown2 hg2; have hb2 := (Below.refl w.heap.size w).grown hg2 (by simp) (by simp); have hgg := HG.out.below hb2; have j0 := hgg.c0; have j1 := hgg.c1; have j2 := hgg.c2; rw [HN.out] at j2; have HB2 := Lib.hid hb2; have O2 := Lib.hid hown2; clear hown2 hg2 hb2 hgg)
  clear j0 j1 j2 k0 k1 k2
  go_loopw [5, 21] (fun v i wr => ∃ (k : Nat) (A : Option Addr) (cc : Nat), k ≤ n ∧ v = .slice A k cc ∧ i = .int .i64 (k : Int) ∧ Hid (wr.ownsRow w.heap.size 9 1 (.slice A k cc) k ((l.take k).map twV)) ∧ Hid (Below w.heap.size w wr)) (fun _ i _ => n - (intOf i).toNat)
  case atStart => exact ⟨0, _, n, Nat.zero_le _, rfl, rfl, O2, HB2⟩
  case round =>
    obtain ⟨k, A, cc, hk, rfl, rfl, HO, HB⟩ := hrel
    have hgr := HG.out.below HB.out
    have hs := HB.out.size
    by_cases hlt : k < n
    · have hkl : k < l.length := by rw [hlen]; exact hlt
      have hc := hgr.at_ (k := k) (by rw [intsV_length]; exact hkl)
      rw [intsV_get] at hc
      have hvb := HL.out _ (List.getElem_mem hkl)
      have HT : Hid ((l.take (k + 1)).map twV = (l.take k).map twV ++ [twV l[k]]) := Lib.hid (by rw [List.take_succ_eq_append_getElem hkl, List.map_append]; rfl)
      have hn' := hgr.form.1
      rw [HN.out] at hn'
      generalize l[k] = v at hc hvb HT
      have HTW := Lib.hid (twice_any v wr hvb)
      obtain ⟨s, hs2⟩ := twV_str v
      rw [hs2] at HTW HT
      obtain ⟨A', c', w9, hrun, ho9, hu9⟩ := append_str w.heap.size wr A cc k _ (.string s) HO.out hs (by omega) rfl 60
      have HO9 : Hid (w9.ownsRow w.heap.size 9 1 (.slice A' (k + 1) c') (k + 1) ((l.take (k + 1)).map twV)) := Lib.hid (by rw [HT.out]; exact ho9)
      have HB9 := Lib.hid (HB.out.trans (hu9.below hs (by
        rintro i hi (h | h)
        · have := (HO.out.lt i h).1; omega
        · omega)))
      clear hgr ho9 hu9 hs2 hvb hkl
      go_wp2_with fail
      refine HTW.out.mono ?_
      rintro e w3 ⟨rfl, rfl⟩
      go_wp2_with (at_builtin; refine wpList_append_run rfl (.tmp 25) (.tmp 29) _ rfl rfl rfl hrun ?_)
      go_roundw
      case rel => exact ⟨k + 1, A', c', by omega, rfl, by go_num, HO9, HB9⟩
      case measure => simp [intOf]; omega
    · obtain rfl : k = n := by omega
      have hgd := hgr.drew
      have j0 := hgd.c0; have j1 := hgd.c1
      have hw2 := hgd.w2; have hh2 := hgd.h2; have hw1 := hgd.w1; have hh1 := hgd.h1
      have hO := HO.out
      rw [← hlen, List.take_length, hlen] at hO
      obtain ⟨r5, rfl, _⟩ := row_form hO hp
      have HO2 := Lib.hid hO
      clear hgr hgd hO HO
      go_wp2_with fail
      refine wp_region_tail 10 (by kernel_rfl) (by kernel_rfl) ?_
      simp only [List.take_succ_cons, List.take_zero, List.drop_succ_cons, List.drop_zero]
      repeat (go_big_quiet_step (fail))
      refine wpQuiet_nil ?_
      go_wp2_with fail
      refine leaves_cons (f := 49) (args := #[]) (by simp) (by simp [go_sem]) ?_
      refine (map_idle _).mono ?_
      rintro e u' w'' ⟨rfl, rfl, rfl⟩
      have hfin : GridAt (wr.alloc (.cells #[.int .i64 (W : Int), .int .i64 (H : Int), .slice (some ⟨r5, 0, none⟩) k cc] 92)).drew w.heap.size 92 9 wr.heap.size r5 cc W H (l.map twV) := by
        refine ⟨?_, ?_, hs, hw1, hw2, hh1, hh2, by rw [HN.out]; exact hfew⟩
        · rw [HN.out]; exact (Blk.new wr _ _).upd ((Upd.refl No _).drew) id
        · rw [HN.out]; exact own_upd HO2.out (((Upd.refl No wr).alloc _).drew) (fun _ _ => id)
      simp [Leaves, settle, results, Try.results24, go_sem]
      first
        | exact ⟨⟨_, _, hfin⟩, (HB.out.alloc hs _).drew⟩
        | exact ⟨_, _, _, rfl, hfin, (HB.out.alloc hs _).drew⟩
        | exact ⟨_, _, hfin, (HB.out.alloc hs _).drew⟩
end Go.Proofs.Ytfjnlbjlapbilaa
