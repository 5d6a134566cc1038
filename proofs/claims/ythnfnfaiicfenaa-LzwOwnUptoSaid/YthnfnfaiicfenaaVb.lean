/- The small trial of layer 6's statements, and the copy that they hand in. -/
import Derived.Test.YthnfnfaiicfenaaVa
import Derived.Test.YthnfnfaiicfenaaUb
import Derived.Test.YthnfnfaiicfenaaUe
import Derived.Laws.BytesString
import Derived.Lib.SlBytesConst
namespace Go.Proofs.Ythnfnfaiicfenaa
open Go.ChangeShapes Go.WideShapes Go.ChangeAt Go.RowKit

theorem holds_of {high : Bool} {bs : List Bool} {l : List UInt8} (hb : bs.length ≤ 8 * l.length) (h : ∀ i, i < 8 * l.length → bitAt l high i = (bs[i]?).getD false) : Holds high bs l := by
  intro i
  by_cases hi : i < 8 * l.length
  · exact h i hi
  · rw [List.getElem?_eq_none (by omega)]
    unfold bitAt
    rw [List.getElem?_eq_none (by omega)]
    simp
theorem wk_gif : gifM [68, 1] 2 9 = .ok [0] := by kernel_rfl
theorem wk_runs : runsM [2, 97, 98, 99, 254, 100] (9 : Int).toNat = .ok [97, 98, 99, 100, 100, 100] := by kernel_rfl
theorem wk_tiff : tiffM [128, 24, 76, 80, 40, 8] 4 = .ok [97, 98, 97, 98] := by kernel_rfl
theorem wk_packed : Packed true (packM 8 true 1 [97, 98, 97, 98]) [128, 24, 76, 80, 40, 8] := ⟨by decide +kernel, holds_of (by decide +kernel) (by decide +kernel)⟩
/-- A composite literal of bytes is a row of the call's own. -/
theorem bs_lit2 (w : World) (t : TypeId) (l : List UInt8) : Bs (w.alloc (.cells (bytesV l).toArray t)) (w.heap.size + 1) (some ⟨w.heap.size, 0, none⟩) l := fun _ => by
  refine ⟨_, rfl, Nat.lt_succ_self _, fun j hj => ?_⟩
  have e : (⟨w.heap.size, 0, none⟩ : Addr).add j = ⟨w.heap.size, j, none⟩ := by unfold Addr.add; split <;> simp_all
  rw [e, (Blk.new w t _).cell j]
  simpa using bytesV_get l j hj
theorem bs_litm (w : World) (t : TypeId) (l : List UInt8) (fz : Nat × Nat) : Bs (w.alloc (.cells (bytesV l).toArray t fz)) (w.heap.size + 1) (some ⟨w.heap.size, 0, none⟩) l := fun _ => by
  refine ⟨_, rfl, Nat.lt_succ_self _, fun j hj => ?_⟩
  have e : (⟨w.heap.size, 0, none⟩ : Addr).add j = ⟨w.heap.size, j, none⟩ := by unfold Addr.add; split <;> simp_all
  rw [e, cell_of_row _ w.heap.size j (bytesV l).toArray t fz (heap_alloc_new w _)]
  simpa using bytesV_get l j hj
theorem fold_bytes (l : List UInt8) : (l.map fun b => (b.toNat : Int)).foldl (fun r n => r.push (UInt8.ofNat n.toNat)) ByteArray.empty = ⟨l.toArray⟩ := by
  have g : ∀ (l : List UInt8) (acc : ByteArray), (l.map fun b => (b.toNat : Int)).foldl (fun r n => r.push (UInt8.ofNat n.toNat)) acc = ⟨acc.data ++ l.toArray⟩ := by
    intro l
    induction l with
    | nil => intro acc; simp
    | cons x r ih =>
      intro acc
      simp only [List.map_cons, List.foldl_cons]
      rw [ih]
      simp [ByteArray.push]
  rw [g]
  show (⟨#[] ++ l.toArray⟩ : ByteArray) = _
  simp
theorem bytesV_length_ {l : List UInt8} : ((l.map fun b => (b.toNat : Int)).map (Value.int .u8)).length = l.length := by simp
set_option maxRecDepth 100000 in
theorem str_bs {w : World} {B : Nat} {A : Option Addr} {l : List UInt8} (n : Nat) (hn : l.length = n) (h : Bs w B A l) (h0 : 0 < n) (c : Nat) :
    (convert 22 9 (.slice A n c)).run Try.prog w = .ok (.string ⟨l.toArray⟩) w := by
  subst hn
  obtain ⟨ad, rfl, _, hc⟩ := h h0
  have hl := run_loadCells_list (P := Try.prog) (w := w) ad (bytesV l) (fun j v hj => by
    have h1 := (List.getElem?_eq_some_iff.1 hj).1
    rw [bytesV_length] at h1
    rw [bytesV_get l j h1] at hj
    rw [hc j h1, hj])
  refine (run_convert_bytes_string (P := Try.prog) w 22 9 5 (some ad) l.length c Try.underlying22 Try.underlying5 Try.underlying9).trans ?_
  have hv : bytesV l = (l.map fun b => (b.toNat : Int)).map (Value.int .u8) := by simp [bytesV, bv]
  rw [hv] at hl
  rw [bytesV_length_] at hl
  refine (run_bytesToString w ad l.length c _ hl).trans ?_
  congr 2
  exact fold_bytes l
theorem own_max {w : World} {base : Nat} {e : TypeId} {A : Option Addr} {n c : Nat} {xs : List Value} (h : w.ownsRow base e 1 (.slice A n c) n xs) : n ≤ maxLen := by
  rcases h.2 with ⟨h1, rfl⟩ | ⟨g, cap, cur, h1, _, _, h2, h3, _⟩
  · omega
  · omega
set_option maxHeartbeats 400000 in
theorem own_any (A : Option Addr) (c : Nat) (l : List UInt8) (B : Nat) (w : World) (h : Bs w B A l) (hB : B ≤ w.heap.size) (hl : l.length ≤ 140737488355328) :
    Calls Try.prog 12 #[.slice A l.length c] w fun e w' => ∃ A' c', e = .returned (.slice A' l.length c') ∧
      w'.ownsRow w.heap.size 5 1 (.slice A' l.length c') l.length (bytesV l) ∧ Below w.heap.size w w' := by
  obtain ⟨i0, hi, hz0, hz1, hz2⟩ := info_parts info_u8
  go_enter Try.func12, Try.ntmps12
  go_wp2_with (at_builtin; refine wpList_append_bs _ rfl (.tmp 3) (.tmp 4) _ rfl w.heap.size 5 i0 Try.underlying22 hi hz0 hz1 hz2 (.slice (some ⟨w.heap.size, 0, none⟩) 0 0) 0 [] rfl (World.ownsRow_made w #[] 0 (Nat.le_refl _) (by omega) rfl) B A c l rfl (h.alloc hB _) (by omega) (by simp) ?_; intro A1 c1 w1 hown1 hg1 hat1; simp only [Nat.zero_add, List.nil_append] at hown1 hat1 ⊢)
  go_ret
  exact ⟨A1, c1, rfl, hown1, ((Below.refl _ _).alloc (Nat.le_refl _) _).grown hg1 (by simp) (by simp [Value.ownBlock])⟩
theorem own_n (A : Option Addr) (c n : Nat) (l : List UInt8) (hn : l.length = n) (B : Nat) (w : World) (hbs : Bs w B A l) (hl : n ≤ 140737488355328) (hB : B ≤ w.heap.size) :
    Calls Try.prog 12 #[.slice A n c] w fun e w' => ∃ A' c', e = .returned (.slice A' n c') ∧ w'.ownsRow w.heap.size 5 1 (.slice A' n c') n (bytesV l) ∧ Below w.heap.size w w' := by
  subst hn
  exact own_any A c l B w hbs hB hl
theorem own_bs {w : World} {base : Nat} {e : TypeId} {A : Option Addr} {n c : Nat} {l : List UInt8} (hn : l.length = n) (h : w.ownsRow base e 1 (.slice A n c) n (bytesV l)) : Bs w w.heap.size A l := by
  subst hn
  exact Bs.of_own h
theorem gif_wk (w : World) (A : Option Addr) (c : Nat) (hbs : Bs w w.heap.size A [68, 1]) :
    Calls Try.prog 11 #[.slice A 2 c, .int .i64 2, .int .i64 9] w fun e w' => ∃ Ao co, e = .returned (.tuple #[.slice Ao 1 co, .int .i64 0]) ∧ Bs w' w'.heap.size Ao [0] ∧ Below w.heap.size w w' := by
  have h := gifUnpack_any w A c 2 [68, 1] 2 9 rfl hbs (by simp)
  rw [wk_gif] at h
  refine h.mono ?_
  rintro e w' ⟨Ao, co, rfl, ho, hb⟩
  exact ⟨Ao, co, rfl, Bs.of_own ho, hb⟩
theorem runs_wk (w : World) (A : Option Addr) (c : Nat) (hbs : Bs w w.heap.size A [2, 97, 98, 99, 254, 100]) (hc : 6 ≤ c) :
    Calls Try.prog 17 #[.slice A 6 c, .int .i64 9] w fun e w' => ∃ Ao co, e = .returned (.tuple #[.slice Ao 6 co, .int .i64 0]) ∧ Bs w' w'.heap.size Ao [97, 98, 99, 100, 100, 100] ∧ Below w.heap.size w w' := by
  have h := runs_any w A c 6 [2, 97, 98, 99, 254, 100] 9 rfl hbs hc (by omega) (by omega)
  rw [wk_runs] at h
  refine h.mono ?_
  rintro e w' ⟨Ao, co, rfl, ho, hb⟩
  exact ⟨Ao, co, rfl, Bs.of_own ho, hb⟩
theorem tpack_wk (w : World) (A : Option Addr) (c : Nat) (hbs : Bs w w.heap.size A [97, 98, 97, 98]) (hc : 4 ≤ c) :
    Calls Try.prog 19 #[.slice A 4 c] w fun e w' => ∃ Ao co, e = .returned (.slice Ao 6 co) ∧ Bs w' w'.heap.size Ao [128, 24, 76, 80, 40, 8] ∧ Below w.heap.size w w' := by
  refine (tiffPack_any w A c 4 [97, 98, 97, 98] rfl hbs hc (by omega)).mono ?_
  rintro e w' ⟨l, Ao, co, hp, rfl, ho, hb⟩
  have hl : l = [128, 24, 76, 80, 40, 8] := packed_unique hp wk_packed
  subst hl
  exact ⟨Ao, co, rfl, Bs.of_own ho, hb⟩
theorem tun_wk (w : World) (A : Option Addr) (c : Nat) (hbs : Bs w w.heap.size A [128, 24, 76, 80, 40, 8]) :
    Calls Try.prog 16 #[.slice A 6 c, .int .i64 4] w fun e w' => ∃ Ao co, e = .returned (.tuple #[.slice Ao 4 co, .int .i64 0]) ∧ Bs w' w'.heap.size Ao [97, 98, 97, 98] ∧ Below w.heap.size w w' := by
  have h := refTiff_any w A c 6 [128, 24, 76, 80, 40, 8] 4 rfl hbs (by simp) (by omega)
  rw [wk_tiff] at h
  refine h.mono ?_
  rintro e w' ⟨Ao, co, rfl, ho, hb⟩
  exact ⟨Ao, co, rfl, Bs.of_own ho, hb⟩
set_option maxHeartbeats 4000000 in
set_option maxRecDepth 100000 in
theorem wakes_any (w : World) : Calls Try.prog 10 #[] w fun e w' => e = .returned (.bool true) ∧ Below w.heap.size w w' := by
  have kc := fun (w : World) (C : Array Value) (n c : Nat) => Lib.run_convert_bytes_const (P := Try.prog) w 22 5 C n c Try.underlying22 Try.underlying5
  go_enter Try.func10, Try.ntmps10
  go_wp2_with fail
  have hb1 := (Below.refl w.heap.size w).alloc (Nat.le_refl _) (.cells (bytesV [68, 1]).toArray 5)
  have hz1 : (w.alloc (.cells (bytesV [68, 1]).toArray 5)).heap.size = w.heap.size + 1 := by simp
  refine (gif_wk (w.alloc (.cells (bytesV [68, 1]).toArray 5)) (some ⟨w.heap.size, 0, none⟩) 2 (by rw [hz1]; exact bs_lit2 w 5 [68, 1])).mono ?_
  rintro e w2 ⟨A2, c2, rfl, hr2, hb2⟩
  have HR2 := Lib.hid hr2
  have HB2 := Lib.hid (hb1.trans (hb2.mono hb1.size))
  clear hb1 hz1 hb2 hr2
  go_wp2_with fail
  have hb3 := (Below.refl w2.heap.size w2).alloc (Nat.le_refl _) (.cells (bytesV [2, 97, 98, 99, 254, 100]).toArray 5)
  have hz3 : (w2.alloc (.cells (bytesV [2, 97, 98, 99, 254, 100]).toArray 5)).heap.size = w2.heap.size + 1 := by simp
  refine (runs_wk (w2.alloc (.cells (bytesV [2, 97, 98, 99, 254, 100]).toArray 5)) (some ⟨w2.heap.size, 0, none⟩) 6 (by rw [hz3]; exact bs_lit2 w2 5 [2, 97, 98, 99, 254, 100]) (by omega)).mono ?_
  rintro e w4 ⟨A4, c4, rfl, hr4, hb4⟩
  have hb4' := hb3.trans (hb4.mono hb3.size)
  have HR24 := Lib.hid ((HR2.out.below hb4').more hb4'.size)
  have HR4 := Lib.hid hr4
  have HB4 := Lib.hid (HB2.out.trans (hb4'.mono HB2.out.size))
  clear hb3 hz3 hb4 hb4' hr4 HR2
  go_wp2_with fail
  have hb5 := (Below.refl w4.heap.size w4).alloc (Nat.le_refl _) (.cells (bytesV [97, 98, 97, 98]).toArray 5 (4, 5))
  have hz5 : (w4.alloc (.cells (bytesV [97, 98, 97, 98]).toArray 5 (4, 5))).heap.size = w4.heap.size + 1 := by simp
  refine (tpack_wk (w4.alloc (.cells (bytesV [97, 98, 97, 98]).toArray 5 (4, 5))) (some ⟨w4.heap.size, 0, none⟩) 4 (by rw [hz5]; exact bs_litm w4 5 [97, 98, 97, 98] (4, 5)) (by omega)).mono ?_
  rintro e w6 ⟨A6, c6, rfl, hr6, hb6⟩
  have hb6' := hb5.trans (hb6.mono hb5.size)
  have HR26 := Lib.hid ((HR24.out.below hb6').more hb6'.size)
  have HR46 := Lib.hid ((HR4.out.below hb6').more hb6'.size)
  have HR6 := Lib.hid hr6
  have HB6 := Lib.hid (HB4.out.trans (hb6'.mono HB4.out.size))
  clear hb5 hz5 hb6 hb6' hr6 HR24 HR4
  go_wp2_with fail
  refine (tun_wk w6 A6 c6 HR6.out).mono ?_
  rintro e w8 ⟨A8, c8, rfl, hr8, hb8⟩
  have h28 := (HR26.out.below hb8).more hb8.size
  have h48 := (HR46.out.below hb8).more hb8.size
  have HB8 := Lib.hid (HB6.out.trans (hb8.mono HB6.out.size))
  obtain ⟨ad, rfl, _, hc0⟩ := h28.at_ (k := 0) (by decide)
  have k1 := str_bs 6 rfl h48 (by omega) c4
  have k2 := str_bs 4 rfl hr8 (by omega) c8
  have hc1 : w8.cell? ad = some (.int .u8 0) := hc0
  clear hc0 hb8 hr8 h28 h48 HR26 HR46 HR6
  go_wp2_with fail
  go_ret
  exact ⟨rfl, HB8.out⟩
end Go.Proofs.Ythnfnfaiicfenaa
