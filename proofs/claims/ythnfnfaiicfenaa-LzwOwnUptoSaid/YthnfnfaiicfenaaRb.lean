/- The document's size and text. -/
import Derived.Test.YthnfnfaiicfenaaRa
import Derived.Test.YthnfnfaiicfenaaRf
import Derived.OwnWalk
namespace Go.Proofs.Ythnfnfaiicfenaa
open Go.ChangeShapes Go.WideShapes Go.ChangeAt Go.RowKit

def ntV (l : List Nat) : List Value := l.map fun (n : Nat) => Value.int .i64 (n : Int)
theorem ntV_length (l : List Nat) : (ntV l).length = l.length := by simp [ntV]
theorem ntV_get (l : List Nat) (k : Nat) (hk : k < (ntV l).length) : (ntV l)[k] = .int .i64 ((l[k]'(by simpa [ntV] using hk) : Nat) : Int) := by simp [ntV]
theorem ntV_append (a b : List Nat) : ntV (a ++ b) = ntV a ++ ntV b := by simp [ntV]
/-- A table in memory, by value. -/
def tabV (clear : Nat) (Aa : Option Addr) (na ca : Nat) (Al : Option Addr) (nl cl : Nat) (As : Option Addr) (ns cs : Nat) : Value :=
  .agg #[.int .i64 (clear : Int), .slice Aa na ca, .slice Al nl cl, .slice As ns cs]
set_option maxHeartbeats 4000000 in
set_option maxRecDepth 100000 in
theorem size_lo (w : World) (clear c : Nat) (Aa : Option Addr) (na ca : Nat) (Al : Option Addr) (nl cl : Nat) (As : Option Addr) (ns cs : Nat) (hc : c < clear) :
    Calls Try.prog 43 #[.agg #[.int .i64 (clear : Int), .slice Aa na ca, .slice Al nl cl, .slice As ns cs], .int .i64 (c : Int)] w (AnswersB 1 w) := by
  have d : decide (c < clear) = true := by simp; omega
  go_enter Try.func43, Try.ntmps43
  go_wp2_with fail
  go_ret
  exact ⟨rfl, (Below.refl _ _).alloc (Nat.le_refl _) _⟩
set_option maxHeartbeats 4000000 in
set_option maxRecDepth 100000 in
theorem size_hi (w : World) (clear c : Nat) (Aa : Option Addr) (na ca : Nat) (Al : Option Addr) (nl cl : Nat) (As : Option Addr) (ns cs : Nat) (sz : List Nat) (hn : sz.length = ns) (hs : Vs w w.heap.size As (ntV sz)) (hc : clear + 2 ≤ c) (hk : c - clear - 2 < sz.length) (hb : c ≤ 1000000) :
    Calls Try.prog 43 #[.agg #[.int .i64 (clear : Int), .slice Aa na ca, .slice Al nl cl, .slice As ns cs], .int .i64 (c : Int)] w (AnswersB (sz[c - clear - 2] : Nat) w) := by
  subst hn
  obtain ⟨ad, rfl, hlt, hcx⟩ := Vs.at_ hs (k := c - clear - 2) (by rw [ntV_length]; exact hk)
  rw [ntV_get] at hcx
  generalize sz[c - clear - 2] = x at *
  have d : decide (c < clear) = false := by simp; omega
  have b3 : (0 : Int) ≤ (c : Int) - (clear : Int) - 2 := by omega
  have b4 : ((c : Int) - (clear : Int) - 2).toNat = c - clear - 2 := by omega
  have b1 : (c : Int) - (clear : Int) - 2 < (sz.length : Int) := by omega
  have b2 : (2 : Int) ≤ (c : Int) - (clear : Int) := by omega
  have hcA : (w.alloc (.cells #[.int .i64 (clear : Int), .slice Aa na ca, .slice Al nl cl, .slice (some ad) sz.length cs] 74)).cell? (ad.add (c - clear - 2)) = some (.int .i64 (x : Int)) := (World.cell?_alloc_lt w _ _ (by rw [block_of_add]; exact hlt)).trans hcx
  clear hs hcx
  go_enter Try.func43, Try.ntmps43
  go_wp2_with fail
  go_ret
  exact ⟨rfl, (Below.refl _ _).alloc (Nat.le_refl _) _⟩
theorem make_u8 (n : Nat) : (madeCells (Value.int .u8 0).cells (n * 1)).toList = bytesV (List.replicate n 0) := by
  rw [show (Value.int .u8 0).cells = #[.int .u8 0] from rfl, Nat.mul_one, toList_madeCells_one]
  simp [bytesV, bv]
/-- The size of a code of the table, whichever it is. -/
theorem size_any (w : World) (clear c : Nat) (Aa : Option Addr) (na ca : Nat) (Al : Option Addr) (nl cl : Nat) (As : Option Addr) (ns cs : Nat) {ah : List Nat} {la : List UInt8} {sz : List Nat} {T : List (List UInt8)} (hT : TabD clear ah la sz T) (hn : sz.length = ns) (hs : Vs w w.heap.size As (ntV sz))
    (hc : GoodC clear T.length c) (hcl : clear ≤ 256) (hl : T.length ≤ 4096) :
    Calls Try.prog 43 #[.agg #[.int .i64 (clear : Int), .slice Aa na ca, .slice Al nl cl, .slice As ns cs], .int .i64 (c : Int)] w (AnswersB ((strC clear T c).length : Nat) w) := by
  rcases hc with h | h
  · rw [strC_lo h]
    exact size_lo w clear c Aa na ca Al nl cl As ns cs h
  · have hk : c - clear - 2 < T.length := by omega
    rw [strC_hi h.1 hk, ← hT.len _ hk]
    exact size_hi w clear c Aa na ca Al nl cl As ns cs sz hn hs h.1 (by rw [hT.sz_]; exact hk) (by omega)
/-- What text has written from the end, when j bytes are left. -/
def leftL (S : List UInt8) (j : Nat) : List UInt8 := List.replicate j 0 ++ S.drop j
theorem leftL_length {S : List UInt8} {j : Nat} (h : j ≤ S.length) : (leftL S j).length = S.length := by
  unfold leftL; rw [List.length_append, List.length_replicate, List.length_drop]; omega
theorem leftL_set {S : List UInt8} {j : Nat} (h : j < S.length) : (leftL S (j + 1)).set j S[j] = leftL S j := by
  unfold leftL
  rw [List.replicate_succ', List.append_assoc, List.set_append_right _ _ (by simp)]
  rw [List.length_replicate, Nat.sub_self]
  congr 1
  show S[j] :: S.drop (j + 1) = S.drop j
  rw [List.drop_eq_getElem_cons h]
def TextAt (w : World) (clear : Nat) (Aa : Option Addr) (na ca : Nat) (Al : Option Addr) (nl cl : Nat) (As : Option Addr) (ns cs : Nat) (S : List UInt8) (go : Nat) (j : Nat) (wr : World) : Prop :=
  wr.ownsRow w.heap.size 5 1 (.slice (some ⟨go, 0, none⟩) S.length S.length) S.length (bytesV (leftL S j)) ∧ Below w.heap.size w wr ∧ Blk wr w.heap.size 74 #[.int .i64 (clear : Int), .slice Aa na ca, .slice Al nl cl, .slice As ns cs]
set_option maxHeartbeats 4000000 in
set_option maxRecDepth 100000 in
theorem text_any (w : World) (clear c : Nat) (Aa : Option Addr) (na ca : Nat) (Al : Option Addr) (nl cl : Nat) (As : Option Addr) (ns cs : Nat) {ah : List Nat} {la : List UInt8} {sz : List Nat} {T : List (List UInt8)} (hT : TabD clear ah la sz T) (hn : sz.length = ns) (hs : Vs w w.heap.size As (ntV sz))
    (hna : ah.length = na) (ha : Vs w w.heap.size Aa (ntV ah)) (hnl : la.length = nl) (hla : Bs w w.heap.size Al la)
    (hc : GoodC clear T.length c) (hcl : clear ≤ 256) (hl : T.length ≤ 4096) (hS : (strC clear T c).length ≤ 1000000) :
    Calls Try.prog 44 #[.agg #[.int .i64 (clear : Int), .slice Aa na ca, .slice Al nl cl, .slice As ns cs], .int .i64 (c : Int)] w (fun e w' => ∃ A' c', e = .returned (.slice A' (strC clear T c).length c') ∧ w'.ownsRow w.heap.size 5 1 (.slice A' (strC clear T c).length c') (strC clear T c).length (bytesV (strC clear T c)) ∧ Below w.heap.size w w') := by
  have hp := strC_pos hT hc
  have HZ : Hid (∀ w', Below w.heap.size w w' → Calls Try.prog 43 #[.agg #[.int .i64 (clear : Int), .slice Aa na ca, .slice Al nl cl, .slice As ns cs], .int .i64 (c : Int)] w' (AnswersB ((strC clear T c).length : Nat) w')) := Lib.hid fun w' hb =>
    size_any w' clear c Aa na ca Al nl cl As ns cs hT hn ((hs.below hb).more hb.size) hc hcl hl
  obtain ⟨S, hSd⟩ : ∃ S, strC clear T c = S := ⟨_, rfl⟩
  have HC0 : Hid (strC clear T c = S.take S.length) := Lib.hid (by rw [List.take_length]; exact hSd)
  rw [hSd] at HZ hS hp ⊢
  have HCg := Lib.hid hc
  have HT := Lib.hid hT
  have HA := Lib.hid ha
  have HL := Lib.hid hla
  clear hs hc hT ha hla hSd
  obtain ⟨i0, hi, hz0, hz1, hz2⟩ := info_parts info_u8
  go_enter Try.func44, Try.ntmps44
  go_wp2_with fail
  refine (HZ.out _ ((Below.refl _ _).alloc (Nat.le_refl _) _)).mono ?_
  rintro e w1 ⟨rfl, hb1⟩
  have HB1 := Lib.hid (((Below.refl w.heap.size w).alloc (Nat.le_refl _) (.cells #[.int .i64 (clear : Int), .slice Aa na ca, .slice Al nl cl, .slice As ns cs] 74)).trans (hb1.mono (by simp)))
  have HK1 := Lib.hid ((Blk.new w 74 #[.int .i64 (clear : Int), .slice Aa na ca, .slice Al nl cl, .slice As ns cs]).upd (Upd.of_fresh hb1) id)
  clear hb1 HZ
  have hz := HB1.out.size
  go_wp2_with (at_make; refine wpList_make_full _ rfl (.tmp 9) (.tmp 9) 22 rfl w.heap.size 5 i0 (.int .u8 0) 1 Try.underlying22 hi hz0 hz1 .i64 .i64 S.length S.length S.length rfl rfl rfl rfl (by rw [hz2]; omega) (by unfold maxLen; omega) hz ?_; intro w2 hown2 hg2; rw [make_u8] at hown2)
  have H2 : Hid (TextAt w clear Aa na ca Al nl cl As ns cs S w1.heap.size S.length w2) := Lib.hid ⟨by unfold leftL; rw [List.drop_length, List.append_nil]; exact hown2, HB1.out.grown hg2 hz (by simp), HK1.out.upd (Upd.of_grown hg2) (by simp)⟩
  clear hown2 hg2 HB1 HK1
  generalize w1.heap.size = go at *
  go_wp2_with fail
  go_loopw [1, 6] (fun cv i wr => ∃ (j cc : Nat), j ≤ S.length ∧ cv = .int .i64 (cc : Int) ∧ i = .int .i64 ((j : Int) - 1) ∧ Hid (TextAt w clear Aa na ca Al nl cl As ns cs S go j wr) ∧ Hid (1 ≤ j → GoodC clear T.length cc ∧ strC clear T cc = S.take j)) (fun _ i _ => (intOf i + 1).toNat)
  case atStart => exact ⟨S.length, c, Nat.le_refl _, rfl, rfl, H2, Lib.hid fun _ => ⟨HCg.out, HC0.out⟩⟩
  case round =>
    obtain ⟨j, cc, hj, rfl, rfl, HX, HG⟩ := hrel
    clear HCg HC0 H2
    by_cases hj0 : j = 0
    · subst hj0
      have hown := HX.out.1
      have hbl := HX.out.2.1
      unfold leftL at hown
      simp only [List.replicate_zero, List.nil_append, List.drop_zero] at hown
      have HO := Lib.hid hown
      have HBl := Lib.hid hbl
      clear hown hbl HX HG
      go_wp2_with fail
      go_ret
      exact ⟨_, _, rfl, HO.out, HBl.out⟩
    obtain ⟨m, rfl⟩ : ∃ m, j = m + 1 := ⟨j - 1, by omega⟩
    clear hj0
    rw [show (((m + 1 : Nat) : Int) - 1) = (m : Int) by omega]
    have hml : m < S.length := by omega
    obtain ⟨hgd, hst⟩ := HG.out (by omega)
    rw [List.take_succ_eq_append_getElem hml] at hst
    have hK := HX.out.2.2
    have hBl := HX.out.2.1
    have hgo := hBl.size
    have t0 : wr.cell? ⟨w.heap.size, 0, none⟩ = some (.int .i64 (clear : Int)) := by rw [hK.cell]; rfl
    have t1 : wr.cell? ⟨w.heap.size, 1, none⟩ = some (.slice Aa na ca) := by rw [hK.cell]; rfl
    have t2 : wr.cell? ⟨w.heap.size, 2, none⟩ = some (.slice Al nl cl) := by rw [hK.cell]; rfl
    have hlo := HX.out.1.frozenAt m
    obtain ⟨v0, hce⟩ : ∃ v0, wr.cell? ⟨go, m, none⟩ = some v0 := by
      have h1 := HX.out.1.cellAt m (by omega)
      rw [bytesV_get _ _ (by rw [leftL_length (by omega)]; exact hml)] at h1
      exact ⟨_, h1⟩
    have hgo1 := HX.out.1.lt go rfl
    have hne : w.heap.size ≠ go := own_blk_ne HX.out.1 hK (by decide) |> fun h e => h (by rw [← e]; rfl)
    have STEP : ∀ x : UInt8, x = S[m] → Hid (TextAt w clear Aa na ca Al nl cl As ns cs S go m (wr.setCell ⟨go, m, none⟩ (.int .u8 (x.toNat : Int)))) := fun x hx => Lib.hid (by
      have hs := (HX.out.1.stored m (.int .u8 (x.toNat : Int))).1
      have e : (bytesV (leftL S (m + 1))).set m (.int .u8 (x.toNat : Int)) = bytesV (leftL S m) := by
        rw [← leftL_set hml, hx]; simp [bytesV, bv, List.map_set]
      rw [e] at hs
      exact ⟨hs, hBl.setCell (p := ⟨go, m, none⟩) hgo1.1 _, hK.upd ((Upd.refl (· = go) wr).setCell (p := ⟨go, m, none⟩) (fun _ => rfl) _) hne⟩)
    have HST := Lib.hid STEP
    have HBl := Lib.hid hBl
    clear STEP hK hBl HX HG
    by_cases hlo : cc < clear
    · rw [strC_lo hlo] at hst
      have hm0 : m = 0 := by
        have := congrArg List.length hst
        simp only [List.length_append, List.length_take, List.length_singleton] at this
        omega
      have hx : UInt8.ofNat cc = S[m] := by
        subst hm0
        simpa using hst
      have hxn : (UInt8.ofNat cc).toNat = cc := by rw [UInt8.toNat_ofNat']; omega
      have H9 := HST.out _ hx
      rw [hxn] at H9
      have q1 : IntKind.u8.wrap (cc : Int) = (cc : Int) := by rw [IntKind.wrap_u8]; omega
      have HM0 := Lib.hid hm0
      clear hst hgd HST hx hxn hm0
      go_wp2_with fail
      go_roundw
      case rel => exact ⟨m, cc, by omega, rfl, rfl, H9, Lib.hid fun h => by have := HM0.out; omega⟩
      case measure => simp [intOf]
    · have hg2 : clear + 2 ≤ cc ∧ cc < clear + 2 + T.length := by
        rcases hgd with h | h
        · exact absurd h hlo
        · exact h
      have hk : cc - clear - 2 < T.length := by omega
      have hla1 : cc - clear - 2 < la.length := by rw [HT.out.la_]; exact hk
      have hah1 : cc - clear - 2 < ah.length := by rw [HT.out.ah_]; exact hk
      rw [strC_hi hg2.1 hk, HT.out.str _ hk] at hst
      obtain ⟨e1, e2⟩ := List.append_inj' hst rfl
      have e3 : la[cc - clear - 2] = S[m] := by simpa using e2
      have hgk := (HT.out.good _ hk).mono (j := T.length) (by omega)
      obtain ⟨a1, rfl, hl1, hc1⟩ := Bs.at_ (HL.out.below HBl.out) hla1
      obtain ⟨a2, rfl, hl2, hc2⟩ := Vs.at_ (HA.out.below HBl.out) (k := cc - clear - 2) (by rw [ntV_length]; exact hah1)
      rw [ntV_get] at hc2
      have H9 := HST.out _ e3
      have HGN := Lib.hid (show GoodC clear T.length ah[cc - clear - 2] ∧ strC clear T ah[cc - clear - 2] = S.take m from ⟨hgk, e1⟩)
      have hgbx : ah[cc - clear - 2] < 1000000 := by rcases hgk with h | h <;> omega
      generalize ah[cc - clear - 2] = y at *
      generalize la[cc - clear - 2] = x at *
      have hc2A : (wr.setCell ⟨go, m, none⟩ (.int .u8 (x.toNat : Int))).cell? (a2.add (cc - clear - 2)) = some (.int .i64 (y : Int)) :=
        (World.cell?_setCell_other _ ⟨go, m, none⟩ (a2.add (cc - clear - 2)) _ (fun e => by have := congrArg Addr.block e; rw [block_of_add] at this; simp at this; omega)).trans hc2
      have b1 : (cc : Int) - (clear : Int) - 2 < (na : Int) := by omega
      have b1' : (cc : Int) - (clear : Int) - 2 < (nl : Int) := by omega
      have b2 : (2 : Int) ≤ (cc : Int) - (clear : Int) := by omega
      have b3 : (0 : Int) ≤ (cc : Int) - (clear : Int) - 2 := by omega
      have b4 : ((cc : Int) - (clear : Int) - 2).toNat = cc - clear - 2 := by omega
      have hxb := byte_lt x
      clear hst e1 e2 e3 hgk HST hgd
      go_wp2_with fail
      go_roundw
      case rel => exact ⟨m, y, by omega, rfl, rfl, H9, Lib.hid fun _ => HGN.out⟩
      case measure => simp [intOf]
end Go.Proofs.Ythnfnfaiicfenaa
