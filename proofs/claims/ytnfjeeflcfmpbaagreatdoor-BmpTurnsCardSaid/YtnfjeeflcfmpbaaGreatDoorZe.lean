/- Joined texts (a claim has at most 60 files): Zd Same Ze. -/
import Derived.Test.YtnfjeeflcfmpbaaGreatDoorZc
import Derived.Test.YtnfjeeflcfmpbaaGreatDoorYk
import Derived.Lib.SlBytesConst
import Derived.Test.YtnfjeeflcfmpbaaGreatDoorCo
import Derived.Test.YtnfjeeflcfmpbaaGreatDoorRows
import Derived.WalkKit
import Derived.ProofKit
import Derived.OpenShut
import Derived.ChangeOld
import Derived.Below
import Derived.Lib.Hide
import Derived.Outline
import Derived.BigQuiet
import Derived.Deep.QuietTactic
/- What the laws of BMP begin with: the walk. -/
set_option linter.unusedVariables false
set_option linter.unusedSimpArgs false
namespace Go.Proofs.YtnfjeeflcfmpbaaGreatDoor
open Go.ChangeShapes Go.WideShapes Go.ChangeAt Go.RowKit Go.Shelf

theorem bs_litm (w : World) (t : TypeId) (l : List UInt8) (fz : Nat × Nat) : Bs (w.alloc (.cells (bytesV l).toArray t fz)) (w.heap.size + 1) (some ⟨w.heap.size, 0, none⟩) l := by
  refine fun _ => ⟨_, rfl, Nat.lt_succ_self _, fun j hj => ?_⟩
  have h := cell_of_row (w.alloc (.cells (bytesV l).toArray t fz)) w.heap.size j (bytesV l).toArray t fz (heap_alloc_new w _)
  have e : (⟨w.heap.size, 0, none⟩ : Addr).add j = ⟨w.heap.size, j, none⟩ := by unfold Addr.add; split <;> simp_all
  rw [e, h]
  simpa using bytesV_get l j hj
theorem wk_enc (w : World) (e : Ending) (w' : World) (h : EncP false w 1 1 wkL e w') : ∃ A c, e = .returned (.tuple #[.slice A 58 c, .int .i64 0]) ∧ w'.ownsRow w.heap.size 5 1 (.slice A 58 c) 58 (bytesV wkB) ∧ Below w.heap.size w w' := by
  rcases h with ⟨h, _⟩ | ⟨_, A, c, h1, h2, h3⟩
  · exact absurd h (by decide)
  · have e1 : encB false (1 : Int).toNat (1 : Int).toNat (pxL wkL ((1 : Int).toNat * (1 : Int).toNat)) = wkB := rfl
    rw [e1, wkB_len] at h1 h2
    exact ⟨A, c, h1, h2, h3⟩
theorem bytesV_some {l : List UInt8} {j : Nat} {x : UInt8} (h : l[j]? = some x) : (bytesV l)[j]? = some (.int .u8 (x.toNat : Int)) := by
  obtain ⟨hj, h⟩ := List.getElem?_eq_some_iff.1 h
  rw [bytesV_get l j hj, h]
theorem wkB_v54 : (bytesV wkB)[54]? = some (.int .u8 1) := bytesV_some wkB_54
theorem wkB_v56 : (bytesV wkB)[56]? = some (.int .u8 3) := bytesV_some wkB_56
theorem wk_er (w : World) (e : Ending) (w' : World) (h : ImR w (errI 9) e w') : ∃ A c, e = .returned (.tuple #[imgV 0 0 A 0 c, .int .i64 9]) ∧ Below w.heap.size w w' := by
  obtain ⟨A, c, h1, _, h3⟩ := h
  exact ⟨A, c, h1, h3⟩
theorem wk_im (w : World) (e : Ending) (w' : World) (h : ImR w ⟨1, 1, 0, wkL⟩ e w') : ∃ A c, e = .returned (.tuple #[imgV 1 1 A 4 c, .int .i64 0]) ∧ w'.ownsRow w.heap.size 42 1 (.slice A 4 c) 4 (usV wkL) ∧ Below w.heap.size w w' := h
set_option maxRecDepth 100000 in
set_option maxHeartbeats 8000000 in
theorem wakes_any (w : World) (hT : Tab32 w) (hB1 : 0 < w.heap.size) : Calls Tryz.prog 8 #[] w fun e w' => e = .returned (.bool true) ∧ Below w.heap.size w w' := by
  have kc := fun (w : World) (C : Array Value) (n c : Nat) => Lib.run_convert_bytes_const (P := Tryz.prog) w 22 5 C n c Tryz.underlying22 Tryz.underlying5
  have HF := Lib.hid (refFill_any 1 1 ⟨771, 514, 257, 65535⟩ w)
  rw [wk_fill] at HF
  go_enter Tryz.func8, Tryz.ntmps8
  go_wp2_with fail
  refine HF.out.mono ?_
  intro e w1 he
  obtain ⟨A, c, rfl, ho, hb⟩ := wk_im _ _ _ he
  clear he
  obtain ⟨r, rfl, hrc, hrm, hr1, hr2⟩ := row_form ho (by omega)
  obtain ⟨w2, hw2, hi, hb2⟩ := newImg 1 1 (some ⟨r, 0, none⟩) 4 c w1
  have HW2 := Lib.hid hw2
  have HI := Lib.hid hi
  have HO := Lib.hid (own_upd ho (Upd.of_fresh hb2) (fun _ _ => id))
  have HB := Lib.hid (hb.trans (hb2.mono hb.size))
  have HT2 := Lib.hid ((hT.below hb hB1).below hb2 (by have := hb.size; show 0 < _; omega))
  have hs2 := HB.out.size
  clear hw2 hi ho hb hb2 HF hT
  go_upto_region 2 with (fail)
  rw [HW2.out]
  clear HW2
  have hbm : w1.heap.size < w2.heap.size := HI.out.blk.lt
  generalize w1.heap.size = bm at *
  have q0 := HI.out.c0; have q1 := HI.out.c1; have q2 := HI.out.c2
  go_wp2_with fail
  refine (copy_any 1 1 (some ⟨r, 0, none⟩) 4 c wkL rfl w2.heap.size w2 (Vs.of_own HO.out) (Nat.le_refl _) (by omega)).mono ?_
  rintro e w3 ⟨A3, c3, rfl, o3, hb3⟩
  have hs3 := hb3.size
  have HI3 := Lib.hid (HI.out.call hb3)
  have HO3 := Lib.hid (own_upd HO.out (Upd.of_fresh hb3) (fun _ _ => id))
  have HB3 := Lib.hid (HB.out.trans (hb3.mono HB.out.size))
  have HT3 := Lib.hid (HT2.out.below hb3 (by show 0 < _; omega))
  obtain ⟨r3, rfl, hrc3, hrm3, hr31, hr32⟩ := row_form o3 (by omega)
  have HC3 := Lib.hid o3
  clear HI HO HB HT2 hb3 o3 q0 q1 q2
  go_wp2_with fail
  refine (encF_any 1 1 (some ⟨r3, 0, none⟩) 4 c3 wkL rfl hrc3 (by decide) w3.heap.size w3 HT3.out (by omega) (Vs.of_own HC3.out) (Nat.le_refl _)).mono ?_
  intro e w4 he
  obtain ⟨A4, c4, rfl, o4, hb4⟩ := wk_enc w3 e w4 he
  have hs4 := hb4.size
  have HI4 := Lib.hid (HI3.out.call hb4)
  have HO4 := Lib.hid (own_upd HO3.out (Upd.of_fresh hb4) (fun _ _ => id))
  have HB4 := Lib.hid (HB3.out.trans (hb4.mono HB3.out.size))
  have HT4 := Lib.hid (HT3.out.below hb4 (by show 0 < _; omega))
  obtain ⟨r4, rfl, hrc4, hrm4, hr41, hr42⟩ := row_form o4 (by omega)
  have HE4 := Lib.hid o4
  clear HI3 HO3 HB3 HT3 HC3 hb4 o4 he
  go_wp2_with fail
  refine (own_any (some ⟨r4, 0, none⟩) c4 58 wkB wkB_len w4.heap.size w4 (Bs.of_own (base := w3.heap.size) (e := 5) (c := c4) (by rw [wkB_len]; exact HE4.out)) (Nat.le_refl _) (by omega)).mono ?_
  rintro e w5 ⟨A5, c5, rfl, o5, hb5⟩
  have hs5 := hb5.size
  have HI5 := Lib.hid (HI4.out.call hb5)
  have HO5 := Lib.hid (own_upd HO4.out (Upd.of_fresh hb5) (fun _ _ => id))
  have HE5 := Lib.hid (own_upd HE4.out (Upd.of_fresh hb5) (fun _ _ => id))
  have HB5 := Lib.hid (HB4.out.trans (hb5.mono HB4.out.size))
  have HT5 := Lib.hid (HT4.out.below hb5 (by show 0 < _; omega))
  obtain ⟨r5, rfl, hrc5, hrm5, hr51, hr52⟩ := row_form o5 (by omega)
  have HX5 := Lib.hid (decF_ok false 1 1 _ 58 c5 wkB wk_ok wkB_len (by decide) hrc5 hrm5 (by decide) 1 (by decide) (some ⟨r5, 0, none⟩) w5.heap.size w5 (Bs.of_own (base := w4.heap.size) (e := 5) (c := c5) (by rw [wkB_len]; exact o5)) (Nat.le_refl _) HT5.out (by omega))
  rw [wk_dec] at HX5
  clear HI4 HO4 HB4 HT4 HE4 hb5 o5
  go_wp2_with fail
  refine HX5.out.mono ?_
  intro e w6 he
  obtain ⟨A6, c6, rfl, o6, hb6⟩ := wk_im _ _ _ he
  clear he
  have hs6 := hb6.size
  have HI6 := Lib.hid (HI5.out.call hb6)
  have HO6 := Lib.hid (own_upd HO5.out (Upd.of_fresh hb6) (fun _ _ => id))
  have HE6 := Lib.hid (own_upd HE5.out (Upd.of_fresh hb6) (fun _ _ => id))
  have HB6 := Lib.hid (HB5.out.trans (hb6.mono HB5.out.size))
  have HT6 := Lib.hid (HT5.out.below hb6 (by show 0 < _; omega))
  obtain ⟨r6, rfl, hrc6, hrm6, hr61, hr62⟩ := row_form o6 (by omega)
  clear HI5 HO5 HB5 HT5 HE5 hb6 HX5
  obtain ⟨w7, hw7, hi7, hb7⟩ := newImg 1 1 (some ⟨r6, 0, none⟩) 4 c6 w6
  have HW7 := Lib.hid hw7
  have hs7 := hb7.size
  have HI7 := Lib.hid (HI6.out.call hb7)
  have HO7 := Lib.hid (own_upd HO6.out (Upd.of_fresh hb7) (fun _ _ => id))
  have HE7 := Lib.hid (own_upd HE6.out (Upd.of_fresh hb7) (fun _ _ => id))
  have HX7 := Lib.hid (own_upd o6 (Upd.of_fresh hb7) (fun _ _ => id))
  have HB7 := Lib.hid (HB6.out.trans (hb7.mono HB6.out.size))
  have HT7 := Lib.hid (HT6.out.below hb7 (by show 0 < _; omega))
  have HJ7 := Lib.hid hi7
  clear HI6 HO6 HB6 HT6 HE6 o6 hw7 hi7 hb7
  go_upto_region 4 with (fail)
  rw [HW7.out]
  clear HW7
  have hbn : w6.heap.size < w7.heap.size := HJ7.out.blk.lt
  generalize w6.heap.size = bn at *
  have HK7 := Lib.hid (bs_litm w7 5 [66, 77, 80] (3, 4))
  have hbl := (Below.refl w7.heap.size w7).alloc (Nat.le_refl _) (.cells #[.int .u8 66, .int .u8 77, .int .u8 80] 5 (3, 4))
  replace HK7 : Hid (Bs (w7.alloc (.cells #[.int .u8 66, .int .u8 77, .int .u8 80] 5 (3, 4))) (w7.heap.size + 1) (some ⟨w7.heap.size, 0, none⟩) [66, 77, 80]) := HK7
  have hs8 : (w7.alloc (.cells #[.int .u8 66, .int .u8 77, .int .u8 80] 5 (3, 4))).heap.size = w7.heap.size + 1 := World.size_alloc _ _
  have HI8 := Lib.hid (HI7.out.call hbl)
  have HJ8 := Lib.hid (HJ7.out.call hbl)
  have HO8 := Lib.hid (own_upd HO7.out (Upd.of_fresh hbl) (fun _ _ => id))
  have HE8 := Lib.hid (own_upd HE7.out (Upd.of_fresh hbl) (fun _ _ => id))
  have HX8 := Lib.hid (own_upd HX7.out (Upd.of_fresh hbl) (fun _ _ => id))
  have HB8 := Lib.hid (HB7.out.trans (hbl.mono HB7.out.size))
  have HT8 := Lib.hid (HT7.out.below hbl (by show 0 < _; omega))
  clear HI7 HJ7 HO7 HE7 HX7 HB7 HT7 hbl
  go_wp2_with fail
  refine (decS_no 3 3 [66, 77, 80] (by decide) rfl (by omega) (by omega) 5 (by decide) (by omega) 1 _ _ _ HK7.out (by omega) HT8.out (by omega)).mono ?_
  intro e w9 he
  obtain ⟨A9, c9, rfl, hb9⟩ := wk_er _ _ _ he
  clear he
  have HI9 := Lib.hid (HI8.out.call hb9)
  have HJ9 := Lib.hid (HJ8.out.call hb9)
  have HO9 := Lib.hid (own_upd HO8.out (Upd.of_fresh hb9) (fun _ _ => id))
  have HE9 := Lib.hid (own_upd HE8.out (Upd.of_fresh hb9) (fun _ _ => id))
  have HX9 := Lib.hid (own_upd HX8.out (Upd.of_fresh hb9) (fun _ _ => id))
  have HB9 := Lib.hid (HB8.out.trans (hb9.mono HB8.out.size))
  have hs9 := hb9.size
  clear HI8 HJ8 HO8 HE8 HX8 HB8 HT8 hb9 HK7
  go_upto_region 5 with (fail)
  have hbl := (Below.refl w9.heap.size w9).alloc (Nat.le_refl _) (.cells #[.int .i64 0, .int .i64 0, .slice A9 0 c9] 26)
  have HI10 := Lib.hid (HI9.out.call hbl)
  have HJ10 := Lib.hid (HJ9.out.call hbl)
  have HO10 := Lib.hid (own_upd HO9.out (Upd.of_fresh hbl) (fun _ _ => id))
  have HE10 := Lib.hid (own_upd HE9.out (Upd.of_fresh hbl) (fun _ _ => id))
  have HX10 := Lib.hid (own_upd HX9.out (Upd.of_fresh hbl) (fun _ _ => id))
  have HB10 := Lib.hid (HB9.out.trans (hbl.mono HB9.out.size))
  clear HI9 HJ9 HO9 HE9 HX9 HB9 hbl
  generalize w9.alloc (.cells #[.int .i64 0, .int .i64 0, .slice A9 0 c9] 26) = w10 at *
  have q0 := HI10.out.c0; have q1 := HI10.out.c1; have q2 := HI10.out.c2
  have p0 := HJ10.out.c0; have p1 := HJ10.out.c1; have p2 := HJ10.out.c2
  have b54 : w10.cell? ⟨r4, 54, none⟩ = some (.int .u8 1) := by rw [HE10.out.cellAt 54 (by omega)]; exact wkB_v54
  have b56 : w10.cell? ⟨r4, 56, none⟩ = some (.int .u8 3) := by rw [HE10.out.cellAt 56 (by omega)]; exact wkB_v56
  have HSM := Lib.hid (refSame_any 1 1 (some ⟨r6, 0, none⟩) 4 c6 wkL 1 1 (some ⟨r, 0, none⟩) 4 c wkL rfl rfl w10.heap.size w10 (Vs.of_own HX10.out) (Vs.of_own HO10.out) (Nat.le_refl _) (by unfold maxLen; omega))
  rw [sameB_self] at HSM
  clear kc
  go_wp2_with fail
  refine HSM.out.mono ?_
  rintro e w11 ⟨rfl, hb11⟩
  have HB11 := Lib.hid (HB10.out.trans (hb11.mono HB10.out.size))
  clear hb11 HSM HI10 HJ10 HO10 HE10 HX10 HB10 q0 q1 q2 p0 p1 p2 b54 b56
  go_wp2_with fail
  go_ret
  exact ⟨rfl, HB11.out⟩
end Go.Proofs.YtnfjeeflcfmpbaaGreatDoor

/- The document's comparing of bytes (as wip/bits S, cut), for seats of later layers. -/
namespace Go.Proofs.YtnfjeeflcfmpbaaGreatDoor
open Go.ChangeShapes Go.WideShapes Go.ChangeAt Go.RowKit

theorem ret_sameb {a b : Bool} (h : a = b) : Ending.returned (.bool a) = .returned (.bool b) := by rw [h]

set_option maxHeartbeats 400000 in
theorem same_any (A1 A2 : Option Addr) (c1 c2 : Nat) (a b : List UInt8) (B : Nat) (w : World) (h1 : Bs w B A1 a) (h2 : Bs w B A2 b) (hl : a.length ≤ maxLen) :
    Calls Tryz.prog 16 #[.slice A1 a.length c1, .slice A2 b.length c2] w fun e w' => e = .returned (.bool (a == b)) ∧ ∃ n, w' = w.drewN n := by
  unfold maxLen at hl
  by_cases hlen : a.length = b.length
  · have hne : ((a.length : Int) != b.length) = false := by simp [hlen]
    have H := Lib.hid hlen; clear hlen
    go_enter Tryz.func16, Tryz.ntmps16
    go_wp2
    go_loopw [5] (fun i wr => ∃ k : Nat, k ≤ a.length ∧ i = .int .i64 k ∧ a.take k = b.take k ∧ ∃ n, wr = w.drewN n) (fun i _ => a.length - (intOf i).toNat)
    case atStart => exact ⟨0, by omega, rfl, by simp, 0, rfl⟩
    case round =>
      obtain ⟨k, hk, rfl, hE, n, rfl⟩ := hrel
      have HE := Lib.hid hE; clear hE
      by_cases hlt : k < a.length
      · have hb : k < b.length := by have := H.out; omega
        obtain ⟨ad1, rfl, _, hc1⟩ := h1.at_ hlt
        obtain ⟨ad2, rfl, _, hc2⟩ := h2.at_ hb
        go_wp2
        go_quiet (fail)
        go_wp2
        · go_ret
          have hd : ((a[k].toNat : Int) != (b[k].toNat : Int)) = true := by assumption
          refine ⟨ret_sameb ?_, n + nq, by simp⟩
          have hn : a ≠ b := fun e => by subst e; simp at hd
          simp [hn]
        · go_roundw
          case rel =>
            have hd : ((a[k].toNat : Int) != (b[k].toNat : Int)) = false := by assumption
            have hd' : a[k] = b[k] := by
              have : a[k].toNat = b[k].toNat := by simp at hd; omega
              exact UInt8.toNat_inj.mp this
            exact ⟨k + 1, by omega, by go_num, take_eq_next a b k HE.out hlt hb hd', n + nq, rfl⟩
          case measure => simp [intOf]; omega
      · go_wp2
        go_ret
        have h0 : k = a.length := by omega
        subst h0
        have h3 := HE.out
        rw [List.take_length, H.out, List.take_length] at h3
        exact ⟨ret_sameb (by simp [h3]), n, rfl⟩
  · have hne : ((a.length : Int) != b.length) = true := by simp; omega
    have H : Hid (a ≠ b) := Lib.hid (fun e => hlen (by rw [e]))
    clear hlen
    go_enter Tryz.func16, Tryz.ntmps16
    go_wp2
    go_ret
    have h3 := H.out
    exact ⟨ret_sameb (by simp [h3]), 0, rfl⟩

end Go.Proofs.YtnfjeeflcfmpbaaGreatDoor

/- Both sides' Encode in one way. -/
set_option linter.unusedVariables false
set_option linter.unusedSimpArgs false
namespace Go.Proofs.YtnfjeeflcfmpbaaGreatDoor
open Go.ChangeShapes Go.WideShapes Go.ChangeAt Go.RowKit

def encO (al : Bool) (W H : Int) (l : List Int) : List UInt8 := if goodB W H l.length then encB al W.toNat H.toNat (pxL l (W.toNat * H.toNat)) else []
def encE (W H : Int) (l : List Int) : Int := if goodB W H l.length then 0 else 6
theorem EncP.out {al : Bool} {w : World} {W H : Int} {l : List Int} {e : Ending} {w' : World} (h : EncP al w W H l e w') : ∃ A c, e = .returned (.tuple #[.slice A (encO al W H l).length c, .int .i64 (encE W H l)]) ∧ w'.ownsRow w.heap.size 5 1 (.slice A (encO al W H l).length c) (encO al W H l).length (bytesV (encO al W H l)) ∧ Below w.heap.size w w' := by
  unfold encO encE
  rcases h with ⟨hg, rfl, hb⟩ | ⟨hg, A, c, rfl, ho, hb⟩
  · rw [hg]
    exact ⟨none, 0, rfl, ⟨rfl, .inl ⟨rfl, rfl⟩⟩, hb⟩
  · rw [hg]
    exact ⟨A, c, rfl, ho, hb⟩
theorem enc_any (al : Bool) (W H : Int) (A : Option Addr) (n c : Nat) (l : List Int) (hn : l.length = n) (hc : n ≤ c) (hlb : ∀ v ∈ l, 0 ≤ v ∧ v ≤ 65535) (B : Nat) (w : World) (hT : Tab32 w) (hB1 : 0 < w.heap.size) (h : Us w B A l) (hB : B ≤ w.heap.size) :
    Calls Tryz.prog 13 #[imgV W H A n c, .bool al] w (EncP al w W H l) := by
  cases al
  · exact encF_any W H A n c l hn hc hlb B w hT hB1 h hB
  · exact encT_any W H A n c l hn hc hlb B w hT hB1 h hB
theorem renc_any (al : Bool) (W H : Int) (A : Option Addr) (n c : Nat) (l : List Int) (hn : l.length = n) (hlb : ∀ v ∈ l, 0 ≤ v ∧ v ≤ 65535) (B : Nat) (w : World) (h : Us w B A l) (hB : B ≤ w.heap.size) :
    Calls Tryz.prog 15 #[imgV W H A n c, .bool al] w (EncP al w W H l) := by
  cases al
  · exact rencF_any W H A n c l hn hlb B w h hB
  · exact rencT_any W H A n c l hn hlb B w h hB
theorem same_self (A1 A2 : Option Addr) (c1 c2 n : Nat) (a : List UInt8) (hn : a.length = n) (B : Nat) (w : World) (h1 : Bs w B A1 a) (h2 : Bs w B A2 a) (hl : n ≤ maxLen) :
    Calls Tryz.prog 16 #[.slice A1 n c1, .slice A2 n c2] w fun e w' => e = .returned (.bool true) ∧ ∃ n, w' = w.drewN n := by
  subst hn
  refine (same_any A1 A2 c1 c2 a a B w h1 h2 hl).mono ?_
  rintro e w' ⟨rfl, h⟩
  exact ⟨by rw [beq_self_eq_true], h⟩
theorem own_bs {w : World} {base : Nat} {e : TypeId} {A : Option Addr} {n c : Nat} {l : List UInt8} (hn : l.length = n) (h : w.ownsRow base e 1 (.slice A n c) n (bytesV l)) : Bs w w.heap.size A l := by
  subst hn
  exact Bs.of_own h
end Go.Proofs.YtnfjeeflcfmpbaaGreatDoor
