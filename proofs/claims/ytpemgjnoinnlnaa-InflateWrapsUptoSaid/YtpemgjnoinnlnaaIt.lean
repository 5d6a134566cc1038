/- The small trial of layer 4's statements, and the copy that they hand in. -/
import Derived.Test.YtpemgjnoinnlnaaIr
import Derived.Laws.BytesString
namespace Go.Proofs.Ytpemgjnoinnlnaa
open Go.ChangeShapes Go.WideShapes Go.ChangeAt Go.RowKit

theorem wk_raw : rawM [75, 4, 0] 9 = .ok ([97], 3) := by kernel_rfl
theorem wk_bad : rawM [7] 9 = .error 40 := by kernel_rfl
theorem wk_zlib : zlibM [120, 156, 75, 4, 0, 0, 98, 0, 98] 1 = .ok [97] := by kernel_rfl
theorem wk_cap9 {n : Nat} (h : n ≤ 9) : CapOk (9 : Int).toNat n := ⟨by simp, fun k h1 _ => by have : (9 : Int).toNat = 9 := rfl; omega, by omega⟩
theorem wk_cap1 {n : Nat} (h : n ≤ 9) : CapOk (1 : Int).toNat n := ⟨by simp, fun k h1 _ => by have : (1 : Int).toNat = 1 := rfl; omega, by omega⟩
theorem raw_wk (w : World) (A : Option Addr) (c : Nat) (hbs : Bs w w.heap.size A [75, 4, 0]) :
    Calls Try.prog 10 #[.slice A 3 c, .int .i64 9] w fun e w' => ∃ Ao co, e = .returned (.tuple #[.slice Ao 1 co, .int .i64 3, .int .i64 0]) ∧ Bs w' w'.heap.size Ao [97] ∧ Below w.heap.size w w' := by
  have h := raw_n w A c [75, 4, 0] 3 rfl 9 hbs (by omega) (wk_cap9 (by omega))
  have e : rawM [75, 4, 0] (9 : Int).toNat = .ok ([97], 3) := wk_raw
  rw [e] at h
  refine h.mono ?_
  rintro e w' ⟨Ao, co, rfl, ho, hb⟩
  exact ⟨Ao, co, rfl, Bs.of_own ho, hb⟩
theorem raw_wk2 (w : World) (A : Option Addr) (c : Nat) (hbs : Bs w w.heap.size A [7]) :
    Calls Try.prog 10 #[.slice A 1 c, .int .i64 9] w fun e w' => e = .returned (.tuple #[.slice none 0 0, .int .i64 0, .int .i64 40]) ∧ Below w.heap.size w w' := by
  have h := raw_n w A c [7] 1 rfl 9 hbs (by omega) (wk_cap9 (by omega))
  have e : rawM [7] (9 : Int).toNat = .error 40 := wk_bad
  rw [e] at h
  exact h
theorem zlib_wk (w : World) (A : Option Addr) (c : Nat) (hbs : Bs w w.heap.size A [120, 156, 75, 4, 0, 0, 98, 0, 98]) (hc : 9 ≤ c) :
    Calls Try.prog 14 #[.slice A 9 c, .int .i64 1] w fun e w' => ∃ Ao co, e = .returned (.tuple #[.slice Ao 1 co, .int .i64 0]) ∧ Bs w' w'.heap.size Ao [97] ∧ Below w.heap.size w w' := by
  have h := zlib_any w A c [120, 156, 75, 4, 0, 0, 98, 0, 98] 1 hbs (by omega) (wk_cap1 (by simp)) hc
  have e : zlibM [120, 156, 75, 4, 0, 0, 98, 0, 98] (1 : Int).toNat = .ok [97] := wk_zlib
  rw [e] at h
  refine h.mono ?_
  rintro e w' ⟨Ao, co, rfl, ho, hb⟩
  exact ⟨Ao, co, rfl, Bs.of_own ho, hb⟩
set_option maxRecDepth 100000 in
theorem str_a {w : World} {B : Nat} {A : Option Addr} (h : Bs w B A [97]) (c : Nat) :
    (convert 22 9 (.slice A 1 c)).run Try.prog w = .ok (.string ⟨#[97]⟩) w := by
  obtain ⟨ad, rfl, _, hc⟩ := h.at_ (k := 0) (by decide)
  have hl := run_loadCells_list (P := Try.prog) (w := w) ad [.int .u8 97] (fun j v hj => by
    rcases j with _ | j
    · cases hj; exact hc
    · simp at hj)
  refine (run_convert_bytes_string (P := Try.prog) w 22 9 5 (some ad) 1 c Try.underlying22 Try.underlying5 Try.underlying9).trans ?_
  exact run_bytesToString w ad 1 c [97] hl
/-- A composite literal of bytes is a row of the call's own. -/
theorem bs_lit2 (w : World) (t : TypeId) (l : List UInt8) : Bs (w.alloc (.cells (bytesV l).toArray t)) (w.heap.size + 1) (some ⟨w.heap.size, 0, none⟩) l := fun _ => by
  refine ⟨_, rfl, Nat.lt_succ_self _, fun j hj => ?_⟩
  have e : (⟨w.heap.size, 0, none⟩ : Addr).add j = ⟨w.heap.size, j, none⟩ := by unfold Addr.add; split <;> simp_all
  rw [e, (Blk.new w t _).cell j]
  simpa using bytesV_get l j hj

set_option maxHeartbeats 4000000 in
set_option maxRecDepth 100000 in
theorem wakes_any (w : World) : Calls Try.prog 9 #[] w fun e w' => e = .returned (.bool true) ∧ Below w.heap.size w w' := by
  go_enter Try.func9, Try.ntmps9
  go_wp2_with fail
  have hb1 := (Below.refl w.heap.size w).alloc (Nat.le_refl _) (.cells (bytesV [75, 4, 0]).toArray 5)
  have hz1 : (w.alloc (.cells (bytesV [75, 4, 0]).toArray 5)).heap.size = w.heap.size + 1 := by simp
  refine (raw_wk (w.alloc (.cells (bytesV [75, 4, 0]).toArray 5)) (some ⟨w.heap.size, 0, none⟩) 3 (by rw [hz1]; exact bs_lit2 w 5 [75, 4, 0])).mono ?_
  rintro e w2 ⟨A2, c2, rfl, hr2, hb2⟩
  have hb2' := hb1.trans (hb2.mono hb1.size)
  have hs2 := hb2'.size
  have HR2 := Lib.hid hr2
  have HB2 := Lib.hid hb2'
  clear hb1 hz1 hb2 hb2' hr2
  go_wp2_with fail
  have hb3 := (Below.refl w2.heap.size w2).alloc (Nat.le_refl _) (.cells (bytesV [7]).toArray 5)
  have hz3 : (w2.alloc (.cells (bytesV [7]).toArray 5)).heap.size = w2.heap.size + 1 := by simp
  refine (raw_wk2 (w2.alloc (.cells (bytesV [7]).toArray 5)) (some ⟨w2.heap.size, 0, none⟩) 1 (by rw [hz3]; exact bs_lit2 w2 5 [7])).mono ?_
  rintro e w4 ⟨rfl, hb4⟩
  have hb4' := hb3.trans (hb4.mono hb3.size)
  have HR4 := Lib.hid (HR2.out.below hb4')
  have HB4 := Lib.hid (HB2.out.trans (hb4'.mono hs2))
  have hs4 := HB4.out.size
  have hs42 := hb4'.size
  clear hb3 hz3 hb4 hb4' HR2
  go_wp2_with fail
  have hb5 := (Below.refl w4.heap.size w4).alloc (Nat.le_refl _) (.cells (bytesV [120, 156, 75, 4, 0, 0, 98, 0, 98]).toArray 5)
  have hz5 : (w4.alloc (.cells (bytesV [120, 156, 75, 4, 0, 0, 98, 0, 98]).toArray 5)).heap.size = w4.heap.size + 1 := by simp
  refine (zlib_wk (w4.alloc (.cells (bytesV [120, 156, 75, 4, 0, 0, 98, 0, 98]).toArray 5)) (some ⟨w4.heap.size, 0, none⟩) 9 (by rw [hz5]; exact bs_lit2 w4 5 [120, 156, 75, 4, 0, 0, 98, 0, 98]) (by omega)).mono ?_
  rintro e w6 ⟨A6, c6, rfl, hr6, hb6⟩
  have hb6' := hb5.trans (hb6.mono hb5.size)
  have HR6 := Lib.hid ((HR4.out.more hs42).below hb6')
  have HB6 := Lib.hid (HB4.out.trans (hb6'.mono hs4))
  have k1 := str_a HR6.out c2
  have k2 := str_a hr6 c6
  clear hb5 hz5 hb6 hb6' hr6 HR4
  go_wp2_with fail
  go_ret
  exact ⟨rfl, HB6.out⟩

set_option maxHeartbeats 400000 in
theorem own_any (A : Option Addr) (c : Nat) (l : List UInt8) (B : Nat) (w : World) (h : Bs w B A l) (hB : B ≤ w.heap.size) (hl : l.length ≤ 140737488355328) :
    Calls Try.prog 11 #[.slice A l.length c] w fun e w' => ∃ A' c', e = .returned (.slice A' l.length c') ∧
      w'.ownsRow w.heap.size 5 1 (.slice A' l.length c') l.length (bytesV l) ∧ Below w.heap.size w w' := by
  obtain ⟨i0, hi, hz0, hz1, hz2⟩ := info_parts info_u8
  go_enter Try.func11, Try.ntmps11
  go_wp2_with (at_builtin; refine wpList_append_bs _ rfl (.tmp 3) (.tmp 4) _ rfl w.heap.size 5 i0 Try.underlying22 hi hz0 hz1 hz2 (.slice (some ⟨w.heap.size, 0, none⟩) 0 0) 0 [] rfl (World.ownsRow_made w #[] 0 (Nat.le_refl _) (by omega) rfl) B A c l rfl (h.alloc hB _) (by omega) (by simp) ?_; intro A1 c1 w1 hown1 hg1 hat1; simp only [Nat.zero_add, List.nil_append] at hown1 hat1 ⊢)
  go_ret
  exact ⟨A1, c1, rfl, hown1, ((Below.refl _ _).alloc (Nat.le_refl _) _).grown hg1 (by simp) (by simp [Value.ownBlock])⟩
theorem own_n (A : Option Addr) (c n : Nat) (l : List UInt8) (hn : l.length = n) (B : Nat) (w : World) (hbs : Bs w B A l) (hl : n ≤ 140737488355328) (hB : B ≤ w.heap.size) :
    Calls Try.prog 11 #[.slice A n c] w fun e w' => ∃ A' c', e = .returned (.slice A' n c') ∧ w'.ownsRow w.heap.size 5 1 (.slice A' n c') n (bytesV l) ∧ Below w.heap.size w w' := by
  subst hn
  exact own_any A c l B w hbs hB hl
theorem own_bs {w : World} {base : Nat} {e : TypeId} {A : Option Addr} {n c : Nat} {l : List UInt8} (hn : l.length = n) (h : w.ownsRow base e 1 (.slice A n c) n (bytesV l)) : Bs w w.heap.size A l := by
  subst hn
  exact Bs.of_own h
end Go.Proofs.Ytpemgjnoinnlnaa
