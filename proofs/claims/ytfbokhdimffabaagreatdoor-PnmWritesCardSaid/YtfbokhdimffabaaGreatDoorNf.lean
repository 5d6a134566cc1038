/- The head of a file. -/
import Derived.Test.YtfbokhdimffabaaGreatDoorNe
import Derived.Deep.RegionHeld3
import Derived.Lib.ItoaLen
import Derived.Lib.AtoiErrMem
set_option linter.unusedVariables false
set_option linter.unusedSimpArgs false
namespace Go.Proofs.YtfbokhdimffabaaGreatDoor
open Go.ChangeShapes Go.WideShapes Go.ChangeAt Go.RowKit Go.Sort

/-- A number's digits. -/
def itS (x : Int) : ByteArray := ⟨(Lib.itoa x).toArray⟩
/-- The lines of a head. -/
def lnS (k : Nat) (kind W H top : Int) : ByteArray :=
  let a : ByteArray := ByteArray.mk #[80] ++ itS kind ++ ByteArray.mk #[10] ++ itS W ++ ByteArray.mk #[32] ++ itS H ++ ByteArray.mk #[10]
  if kGr k then a ++ (itS top ++ ByteArray.mk #[10]) else a
def I64 (x : Int) : Prop := -9223372036854775808 ≤ x ∧ x ≤ 9223372036854775807
theorem itS_size {x : Int} (h : I64 x) : (itS x).size ≤ 21 := by
  have := Lib.itoa_length_le x h.1 h.2
  simpa [itS, ByteArray.size] using this
theorem mk1_size (b : UInt8) : (ByteArray.mk #[b]).size = 1 := rfl
theorem ln_size (a b c : ByteArray) (x : UInt8) : (a ++ (b ++ ByteArray.mk #[x])).size = a.size + (b.size + 1) := by rw [ByteArray.size_append, ByteArray.size_append, mk1_size]
theorem itoa_any (x : Int) (hx : I64 x) (w : World) (ht : Pow10 w) : Calls Tryz.prog 32 #[.int .i64 x] w fun e w' => e = .returned (.string (itS x)) ∧ Below w.heap.size w w' := by
  refine (Tryz.strconv_Itoa x hx.1 hx.2 w ht).mono ?_
  rintro e w' ⟨rfl, k, os, rfl⟩
  exact ⟨rfl, Lib.below_grow _ w (Nat.le_refl _) k os⟩
set_option maxRecDepth 100000 in
set_option maxHeartbeats 8000000 in
theorem lines_any (k : Nat) (kind W H top : Int) (hk : I64 kind) (hW : I64 W) (hH : I64 H) (htop : I64 top) (w : World) (hT : Pow10 w) :
    Calls Tryz.prog 29 #[.agg (hdA k W H top), .int .i64 kind] w fun e w' => ∃ b c, e = .returned (.slice (some ⟨b, 0, none⟩) (lnS k kind W H top).size c) ∧ RwG w' w.heap.size (.slice (some ⟨b, 0, none⟩) (lnS k kind W H top).size c) (lnS k kind W H top).size (Lib.strCells (lnS k kind W H top)) ∧ Below w.heap.size w w' := by
  have HIT := Lib.hid (fun x hx V ht => itoa_any x hx V ht)
  have HTB := Lib.hid (Lib.tabBelow_of_tabIs hT)
  have HR := Lib.hid (And.intro hk (And.intro hW (And.intro hH htop)))
  have sk := itS_size hk
  have sW := itS_size hW
  have sH := itS_size hH
  have sT := itS_size htop
  have g1 : ¬ (9223372036854775807 < 1 + (itS kind).size) := by omega
  have g2 : ¬ (9223372036854775807 < 1 + (itS kind).size + 1) := by omega
  have g3 : ¬ (9223372036854775807 < 1 + (itS kind).size + 1 + (itS W).size) := by omega
  have g4 : ¬ (9223372036854775807 < 1 + (itS kind).size + 1 + (itS W).size + 1) := by omega
  have g5 : ¬ (9223372036854775807 < 1 + (itS kind).size + 1 + (itS W).size + 1 + (itS H).size) := by omega
  have g6 : ¬ (9223372036854775807 < 1 + (itS kind).size + 1 + (itS W).size + 1 + (itS H).size + 1) := by omega
  have g7 : ¬ (9223372036854775807 < (itS top).size + 1) := by omega
  have g8 : ¬ (9223372036854775807 < 1 + (itS kind).size + 1 + (itS W).size + 1 + (itS H).size + 1 + ((itS top).size + 1)) := by omega
  clear sk sW sH sT
  have bel0 := (Below.refl w.heap.size w).alloc (Nat.le_refl _) (.cells (hdA k W H top) 50)
  have k0 := Blk.new w 50 (hdA k W H top)
  have HL : Hid (lnS k kind W H top = if kGr k then ByteArray.mk #[80] ++ itS kind ++ ByteArray.mk #[10] ++ itS W ++ ByteArray.mk #[32] ++ itS H ++ ByteArray.mk #[10] ++ (itS top ++ ByteArray.mk #[10]) else ByteArray.mk #[80] ++ itS kind ++ ByteArray.mk #[10] ++ itS W ++ ByteArray.mk #[32] ++ itS H ++ ByteArray.mk #[10]) := Lib.hid rfl
  unfold hdA at bel0 k0 ⊢
  generalize kTx k = bt at *
  generalize kCo k = bc at *
  generalize kGr k = bg at *
  obtain ⟨LN, hLN⟩ : ∃ LN, lnS k kind W H top = LN := ⟨_, rfl⟩
  rw [hLN] at HL ⊢
  clear hLN hk hW hH htop hT
  obtain ⟨hb, hhb⟩ : ∃ hb, w.heap.size = hb := ⟨_, rfl⟩
  rw [hhb] at k0
  go_enter Tryz.func29, Tryz.ntmps29
  go_upto_region 1 with (fail)
  generalize w.alloc (.cells #[.bool bt, .bool bc, .bool bg, .int .i64 W, .int .i64 H, .int .i64 top] 50) = w1 at *
  try rw [hhb]
  have hsz1 := k0.lt
  have c3 : w1.cell? ⟨hb, 3, none⟩ = some (.int .i64 W) := k0.cell 3
  have c4 : w1.cell? ⟨hb, 4, none⟩ = some (.int .i64 H) := k0.cell 4
  have hfull : Hid (∀ w', Below w1.heap.size w1 w' → (Below w1.heap.size w1 w' ∧ Pow10 w' ∧ w'.cell? ⟨hb, 3, none⟩ = some (.int .i64 W) ∧ w'.cell? ⟨hb, 4, none⟩ = some (.int .i64 H))) :=
    Lib.hid fun w' hx => ⟨hx, HTB.out w' (bel0.trans (hx.mono (by omega))), (hx.cell (p := ⟨hb, 3, none⟩) hsz1).trans c3, (hx.cell (p := ⟨hb, 4, none⟩) hsz1).trans c4⟩
  have HS1 := Lib.hid (And.intro k0 (And.intro bel0 hhb))
  clear k0 bel0 hhb
  go_cut [5] from 6 to 19 (fun v wx => v = .string (ByteArray.mk #[80] ++ itS kind ++ ByteArray.mk #[10] ++ itS W ++ ByteArray.mk #[32] ++ itS H ++ ByteArray.mk #[10]) ∧ Hid (Below w1.heap.size w1 wx))
  case first =>
    go_region_held3 (fun w' => Below w1.heap.size w1 w' ∧ Pow10 w' ∧ w'.cell? ⟨hb, 3, none⟩ = some (.int .i64 W) ∧ w'.cell? ⟨hb, 4, none⟩ = some (.int .i64 H))
      (first | exact hfull.out _ (Below.drew (Below.refl _ _)) | exact hfull.out _ (Below.refl _ _) | exact hfull.out _ hc2 | exact hfull.out _ (And.left (by assumption)))
      ((go_at_call 32; first
        | (refine (HIT.out kind HR.out.1 _ (And.left (And.right (by assumption)))).mono ?_; rintro e w2 ⟨rfl, hb2⟩; have hc2 : Below w1.heap.size w1 w2 := (Below.trans (And.left (by assumption)) (hb2.mono (Below.size (And.left (by assumption))))))
        | (refine (HIT.out W HR.out.2.1 _ (And.left (And.right (by assumption)))).mono ?_; rintro e w2 ⟨rfl, hb2⟩; have hc2 : Below w1.heap.size w1 w2 := (Below.trans (And.left (by assumption)) (hb2.mono (Below.size (And.left (by assumption))))))
        | (refine (HIT.out H HR.out.2.2.1 _ (And.left (And.right (by assumption)))).mono ?_; rintro e w2 ⟨rfl, hb2⟩; have hc2 : Below w1.heap.size w1 w2 := (Below.trans (And.left (by assumption)) (hb2.mono (Below.size (And.left (by assumption))))))))
    all_goals
      go_wp2_with fail
      go_meet
      exact ⟨rfl, Lib.hid hc2⟩
  case rest =>
    obtain ⟨rfl, HBc⟩ := hcut
    obtain ⟨k0, bel0, hhb⟩ := HS1.out
    have g9 : ¬ (9223372036854775807 < (ByteArray.mk #[80] ++ itS kind ++ ByteArray.mk #[10] ++ itS W ++ ByteArray.mk #[32] ++ itS H ++ ByteArray.mk #[10]).size + ((itS top).size + 1)) := by simpa [ByteArray.size_append, mk1_size] using g8
    generalize ByteArray.mk #[80] ++ itS kind ++ ByteArray.mk #[10] ++ itS W ++ ByteArray.mk #[32] ++ itS H ++ ByteArray.mk #[10] = S at *
    clear g1 g2 g3 g4 g5 g6 g8
    have HW := Lib.hid hhb
    have bc2 := bel0.trans (HBc.out.mono (by omega))
    have kc := k0.upd (Upd.of_fresh HBc.out) id
    have z2 : wc.cell? ⟨hb, 2, none⟩ = some (.bool bg) := kc.cell 2
    have z5 : wc.cell? ⟨hb, 5, none⟩ = some (.int .i64 top) := kc.cell 5
    have HBB := Lib.hid bc2
    have HPW := Lib.hid (HTB.out wc bc2)
    obtain ⟨wd, hwd⟩ : ∃ wd : World, wd = wc := ⟨_, rfl⟩
    rw [← hwd] at z2 z5 HBB HPW ⊢
    clear hwd k0 bel0 hhb bc2 kc HS1 HBc hfull c3 c4 hsz1
    have fin : Hid (∀ (V : World) (S : ByteArray), Below w.heap.size w V → Below w.heap.size w (Lib.bytesWorld V 5 S) ∧ RwG (Lib.bytesWorld V 5 S) w.heap.size (.slice (some ⟨V.heap.size, 0, none⟩) S.size (grownCap V S.size 0 5)) S.size (Lib.strCells S)) := Lib.hid fun V S hV =>
      ⟨hV.trans ((Lib.bytesWorld_below V 5 S).mono hV.size), rwG_conv V S w.heap.size hV.size⟩
    have hq := fun (V : World) (S : ByteArray) => Lib.run_convert_string_bytes (P := Tryz.prog) V 9 22 5 S Tryz.underlying9 Tryz.underlying22 Tryz.underlying5
    cases bg with
    | true =>
      go_wp2_with fail
      refine (HIT.out top HR.out.2.2.2 wd HPW.out).mono ?_
      rintro e w2 ⟨rfl, hb2⟩
      have HB2 := Lib.hid (HBB.out.trans (hb2.mono HBB.out.size))
      clear hb2 z2 z5
      have e1 : (S ++ (itS top ++ ByteArray.mk #[10])).size = S.size + ((itS top).size + 1) := ln_size S _ S 10
      go_wp2_with fail
      go_ret
      have h1 := HL.out
      rw [if_pos trivial] at h1
      obtain ⟨f1, f2⟩ := fin.out w2 (S ++ (itS top ++ ByteArray.mk #[10])) HB2.out
      rw [h1]
      rw [e1] at f2 ⊢
      exact ⟨_, _, rfl, f2, f1⟩
    | false =>
      go_wp2_with fail
      go_ret
      have h1 := HL.out
      rw [if_neg (by simp)] at h1
      obtain ⟨f1, f2⟩ := fin.out wd S HBB.out
      rw [h1]
      exact ⟨_, _, rfl, f2, f1⟩
end Go.Proofs.YtfbokhdimffabaaGreatDoor
