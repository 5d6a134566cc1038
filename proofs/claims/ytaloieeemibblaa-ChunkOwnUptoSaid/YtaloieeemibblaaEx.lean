/- Split, the program's, walked. -/
import Derived.Test.YtaloieeemibblaaEw
import Derived.Sort.CutIn
set_option linter.unusedVariables false
set_option linter.unusedSimpArgs false
namespace Go.Proofs.Ytaloieeemibblaa
open Go.ChangeShapes Go.WideShapes Go.ChangeAt Go.RowKit Go.Shelf
attribute [local go_sem] Oper.semAt_some

/-- Does it begin as it must? -/
def markOk (b : List UInt8) : Bool := decide (8 ≤ b.length) && b.take 8 == mkL
def noIE (l : List UInt8) (k : Nat) : Prop := ∀ j, j < k → firstOk (restC l j) = true ∧ isE (typC l j) = false
/-- It is refused; it has these many chunks, up to the end's. -/
def splitNo (b : List UInt8) : Prop := markOk b = false ∨ ∃ N, noIE (b.drop 8) N ∧ firstOk (restC (b.drop 8) N) = false
def splitYes (b : List UInt8) (k : Nat) : Prop := markOk b = true ∧ noIE (b.drop 8) k ∧ firstOk (restC (b.drop 8) k) = true ∧ isE (typC (b.drop 8) k) = true
/-- The chunks lie in this row, each of its own. -/
def Row (w : World) (lb : List UInt8) (A : Option Addr) (n c : Nat) (w' : World) : Prop := ∃ L, w'.ownsRow w.heap.size 57 2 (.slice A n c) n (ckVs L) ∧ L.length = n ∧ Items w.heap.size lb w' L
def SplitP (w : World) (b : List UInt8) (e : Ending) (w' : World) : Prop := Below w.heap.size w w' ∧
  ((e = .returned (.tuple #[.slice none 0 0, .int .i64 9]) ∧ splitNo b) ∨ ∃ k A c, e = .returned (.tuple #[.slice A (k + 1) c, .int .i64 0]) ∧ splitYes b k ∧ Row w (b.drop 8) A (k + 1) c w')
theorem rest_short (l : List UInt8) : ∀ k, (∀ j, j < k → firstOk (restC l j) = true) → 12 * k ≤ l.length ∧ (restC l k).length + 12 * k ≤ l.length
  | 0, _ => ⟨by omega, by simp [restC, offs]⟩
  | k + 1, h => by
    obtain ⟨h1, h2⟩ := rest_short l k (fun j hj => h j (by omega))
    obtain ⟨_, h3⟩ := ok_fits (h k (by omega))
    rw [restC_succ, List.length_drop]
    omega
theorem exists_end (l : List UInt8) : ∃ N, (∀ k, k < N → firstOk (restC l k) = true) ∧ firstOk (restC l N) = false := by
  refine Classical.byContradiction fun hn => ?_
  have hall : ∀ n k, k < n → firstOk (restC l k) = true := fun n => by
    induction n with
    | zero => intro k hk; omega
    | succ n ih =>
      intro k hk
      rcases Nat.lt_or_ge k n with h | h
      · exact ih k h
      · obtain rfl : k = n := by omega
        cases hf : firstOk (restC l k) with
        | true => rfl
        | false => exact absurd ⟨k, ih, hf⟩ hn
  have := (rest_short l (l.length + 1) (fun j hj => hall _ j hj)).1
  omega
set_option maxRecDepth 100000 in
set_option maxHeartbeats 8000000 in
theorem split_no (A : Option Addr) (m c : Nat) (b : List UInt8) (hm : b.length = m) (hmc : m ≤ c) (hcx : c ≤ maxLen) (hmb : m ≤ 4398046511104) (B : Nat) (w : World) (hbs : Bs w B A b) (hB : B ≤ w.heap.size) (hmk : markOk b = false) : Calls Try.prog 11 #[.slice A m c] w (SplitP w b) := by
  obtain ⟨bel, hsz, k0, k1⟩ := boxes2 w #[.slice none 0 0] #[.int .i64 0] 24 25
  have hbs1 := hbs.below (bel.mono hB)
  have HM : Hid (markOk b = (decide (8 ≤ m) && b.take 8 == mkL)) := Lib.hid (by unfold markOk; rw [hm])
  have kc := fun (w : World) (C : Array Value) (n c : Nat) => Lib.run_convert_bytes_const (P := Try.prog) w 22 5 C n c Try.underlying22 Try.underlying5
  go_enter Try.func11, Try.ntmps11
  go_upto_region 1 with (fail)
  generalize (w.alloc (.cells #[.slice none 0 0] 24)).alloc (.cells #[.int .i64 0] 25) = w1 at *
  have HK := Lib.hid (And.intro k0 k1); have HBel := Lib.hid bel
  have hs1 := bel.size
  have hlit := bs_const w1 5 mkL (8, 9)
  have u1 := (Upd.refl No w1).alloc (.cells (bytesV mkL).toArray 5 (8, 9))
  have HP := Lib.hid (fun cc => cutPrefix_any A (some ⟨w1.heap.size, 0, none⟩) m c 8 cc b mkL hm hmc rfl (by omega) (by omega) B (w1.heap.size + 1) _ (hbs1.below (u1.fresh.mono (by omega))) hlit)
  have HB2 := Lib.hid (bel.trans (u1.fresh.mono hs1))
  have HK2 := Lib.hid (And.intro (k0.upd u1 id) (k1.upd u1 id))
  simp only [mkL, bytesV, bv, List.map_cons, List.map_nil, UInt8.toNat_ofNat, Nat.reduceMod, Nat.reducePow, Int.cast_ofNat_Int] at HP HB2 HK2
  rw [show ([137, 80, 78, 71, 13, 10, 26, 10] : List UInt8) = mkL from rfl, ← HM.out] at HP
  have HSZ := Lib.hid hsz
  have hs2 : w.heap.size + 1 + 1 < (w1.alloc (.cells #[.int .u8 137, .int .u8 80, .int .u8 78, .int .u8 71, .int .u8 13, .int .u8 10, .int .u8 26, .int .u8 10] 5 (8, 9))).heap.size := by rw [World.size_alloc, hsz]; omega
  have HBS2 := Lib.hid (hbs1.below (((Upd.refl No w1).alloc (.cells #[.int .u8 137, .int .u8 80, .int .u8 78, .int .u8 71, .int .u8 13, .int .u8 10, .int .u8 26, .int .u8 10] 5 (8, 9))).fresh.mono (by omega)))
  clear hlit u1 k0 k1 bel hbs hbs1 HK HBel hsz
  go_wp2_with fail
  refine (HP.out _).mono ?_
  rintro e w2 ⟨rfl, hfail, hgood⟩
  clear HP kc
  generalize w1.alloc (.cells #[.int .u8 137, .int .u8 80, .int .u8 78, .int .u8 71, .int .u8 13, .int .u8 10, .int .u8 26, .int .u8 10] 5 (8, 9)) = w2 at *
  obtain ⟨v, rfl⟩ := hfail hmk
  clear hfail hgood
  obtain ⟨p2, p3⟩ := HK2.out
  have f2 := p2.frozen 0
  have f3 := p3.frozen 0
  have q2 : w2.cell? ⟨w.heap.size, 0, none⟩ = some (.slice none 0 0) := p2.cell 0
  have u1 := (Upd.refl (· = w.heap.size) w2).setCell (p := ⟨w.heap.size, 0, none⟩) (fun _ => rfl) (.slice none 0 0)
  have p3' := p3.upd u1 (by omega)
  have q3 : (w2.setCell ⟨w.heap.size, 0, none⟩ (.slice none 0 0)).cell? ⟨w.heap.size + 1, 0, none⟩ = some (.int .i64 0) := p3'.cell 0
  have q4 : w2.cell? ⟨w.heap.size + 1, 0, none⟩ = some (.int .i64 0) := p3.cell 0
  have u2 := (Upd.refl (· = w.heap.size + 1) (w2.setCell ⟨w.heap.size, 0, none⟩ (.slice none 0 0))).setCell (p := ⟨w.heap.size + 1, 0, none⟩) (fun _ => rfl) (.int .i64 9)
  have e2 : Blk (w2.setCell ⟨w.heap.size, 0, none⟩ (.slice none 0 0)) w.heap.size 24 #[.slice none 0 0] := by simpa using p2.set_ 0 (.slice none 0 0)
  have x1 := (e2.upd u2 (by omega)).cell 0
  have x2 := (show Blk ((w2.setCell ⟨w.heap.size, 0, none⟩ (.slice none 0 0)).setCell ⟨w.heap.size + 1, 0, none⟩ (.int .i64 9)) (w.heap.size + 1) 25 #[.int .i64 9] by simpa using p3'.set_ 0 (.int .i64 9)).cell 0
  have hb1 := u1.below (B := w.heap.size) (by omega) (fun j hj e => by omega)
  have hb2 := u2.below (B := w.heap.size) (by have := hb1.size; omega) (fun j hj e => by omega)
  have HX := Lib.hid (And.intro x1 (And.intro x2 ((HB2.out.trans hb1).trans hb2)))
  have HNO := Lib.hid hmk
  clear u1 u2 e2 x1 x2 hb1 hb2 p2 p3 p3' hmk
  go_wp2_with fail
  obtain ⟨x1, x2, x3⟩ := HX.out
  exact bodyPost_ret (v := .tuple #[.slice none 0 0, .int .i64 9]) (by simp [results, Try.results11, go_sem, x1, x2]) rfl ⟨x3, .inl ⟨rfl, .inl HNO.out⟩⟩
set_option maxRecDepth 100000 in
set_option maxHeartbeats 8000000 in
theorem split_yes (A : Option Addr) (m c : Nat) (b : List UInt8) (hm : b.length = m) (hmc : m ≤ c) (hcx : c ≤ maxLen) (hmb : m ≤ 4398046511104) (B : Nat) (w : World) (hbs : Bs w B A b) (hB : B ≤ w.heap.size) (hmk : markOk b = true) : Calls Try.prog 11 #[.slice A m c] w (SplitP w b) := by
  obtain ⟨bel, hsz, k0, k1⟩ := boxes2 w #[.slice none 0 0] #[.int .i64 0] 24 25
  have hbs1 := hbs.below (bel.mono hB)
  have HM : Hid (markOk b = (decide (8 ≤ m) && b.take 8 == mkL)) := Lib.hid (by unfold markOk; rw [hm])
  have kc := fun (w : World) (C : Array Value) (n c : Nat) => Lib.run_convert_bytes_const (P := Try.prog) w 22 5 C n c Try.underlying22 Try.underlying5
  refine (callsIn_wide (n := 3)).1 ?_
  refine callsIn_of_wp_marks Try.func11 rfl trivial ?_ rfl
  simp only [Try.ntmps11, List.size_toArray, List.length_cons, List.length_nil, Nat.reduceAdd, Nat.reduceSub, Array.replicate_succ, Array.replicate_zero, List.push_toArray, List.append_toArray, List.nil_append, List.cons_append]
  refine wpIn_wide.2 ?_
  go_upto_region 1 with (fail)
  generalize (w.alloc (.cells #[.slice none 0 0] 24)).alloc (.cells #[.int .i64 0] 25) = w1 at *
  have HK := Lib.hid (And.intro k0 k1); have HBel := Lib.hid bel
  have hs1 := bel.size
  have hlit := bs_const w1 5 mkL (8, 9)
  have u1 := (Upd.refl No w1).alloc (.cells (bytesV mkL).toArray 5 (8, 9))
  have HP := Lib.hid (fun cc => cutPrefix_any A (some ⟨w1.heap.size, 0, none⟩) m c 8 cc b mkL hm hmc rfl (by omega) (by omega) B (w1.heap.size + 1) _ (hbs1.below (u1.fresh.mono (by omega))) hlit)
  have HB2 := Lib.hid (bel.trans (u1.fresh.mono hs1))
  have HK2 := Lib.hid (And.intro (k0.upd u1 id) (k1.upd u1 id))
  simp only [mkL, bytesV, bv, List.map_cons, List.map_nil, UInt8.toNat_ofNat, Nat.reduceMod, Nat.reducePow, Int.cast_ofNat_Int] at HP HB2 HK2
  rw [show ([137, 80, 78, 71, 13, 10, 26, 10] : List UInt8) = mkL from rfl, ← HM.out] at HP
  have HSZ := Lib.hid hsz
  have hs2 : w.heap.size + 1 + 1 < (w1.alloc (.cells #[.int .u8 137, .int .u8 80, .int .u8 78, .int .u8 71, .int .u8 13, .int .u8 10, .int .u8 26, .int .u8 10] 5 (8, 9))).heap.size := by rw [World.size_alloc, hsz]; omega
  have HBS2 := Lib.hid (hbs1.below (((Upd.refl No w1).alloc (.cells #[.int .u8 137, .int .u8 80, .int .u8 78, .int .u8 71, .int .u8 13, .int .u8 10, .int .u8 26, .int .u8 10] 5 (8, 9))).fresh.mono (by omega)))
  clear hlit u1 k0 k1 bel hbs hbs1 HK HBel hsz
  go_wp2_with fail
  refine (HP.out _).mono ?_
  rintro e w2 ⟨rfl, hfail, hgood⟩
  clear HP kc
  generalize w1.alloc (.cells #[.int .u8 137, .int .u8 80, .int .u8 78, .int .u8 71, .int .u8 13, .int .u8 10, .int .u8 26, .int .u8 10] 5 (8, 9)) = w2 at *
  obtain ⟨h8, A', c', hc', hcc, rfl, hbs'⟩ := hgood hmk
  have HMK := Lib.hid hmk
  have HBS := Lib.hid hbs'
  have hlb : (b.drop 8).length = m - 8 := by rw [List.length_drop, hm]
  clear hfail hgood hmk HBS2 hbs' HM
  generalize hlbe : b.drop 8 = lb at *
  have HLB := Lib.hid hlbe
  clear hlbe
  have hm8 : m - 8 ≤ 4398046511104 := by omega
  generalize m - 8 = m' at *
  obtain ⟨N, hok, hend⟩ := exists_end lb
  go_upto_region 5 with (fail)
  have b5 := Blk.new w2 24 #[.slice none 0 0]
  have u3 := (Upd.refl No w2).alloc (.cells #[.slice none 0 0] 24)
  have hs3 : (w2.alloc (.cells #[.slice none 0 0] 24)).heap.size = w2.heap.size + 1 := World.size_alloc _ _
  have HK3 := Lib.hid (And.intro (HK2.out.1.upd u3 id) (And.intro (HK2.out.2.upd u3 id) b5))
  have HB3 := Lib.hid (And.intro (HB2.out.trans (u3.fresh.mono HB2.out.size)) (HBS.out.below (u3.fresh.mono (by have := HB2.out.size; omega))))
  generalize w2.alloc (.cells #[.slice none 0 0] 24) = w3 at *
  obtain ⟨b5n, hb5n⟩ : ∃ b5n, w2.heap.size = b5n := ⟨_, rfl⟩
  rw [hb5n] at HK3 hs3 hs2
  rw [hb5n]
  have HS3 := Lib.hid hs3
  clear b5 u3 HK2 HB2 HBS hs3
  go_wp2_with fail
  refine (chunks_any w3 A' m' c').mono ?_
  rintro e w4 ⟨rfl, rfl⟩
  go_wp2_with fail
  have u4 := (Upd.refl No w3).alloc (.cells #[.slice A' m' c'] 22)
  have hcb := Blk.new w3 22 #[.slice A' m' c']
  have hst : SpS w b5n w3.heap.size m' c' A' B lb 0 (w3.alloc (.cells #[.slice A' m' c'] 22)) :=
    ⟨HK3.out.1.upd u4 id, HK3.out.2.1.upd u4 id, ⟨none, 0, [], HK3.out.2.2.upd u4 id, World.ownsRow_nil _ _ _ _, rfl, fun j hj => by simp at hj⟩, hcb, HB3.out.2.below (u4.fresh.mono (Nat.le_trans hB HB3.out.1.size)), hB, HB3.out.1.trans (u4.fresh.mono HB3.out.1.size), by have := HS3.out; omega⟩
  have hs4 : (w3.alloc (.cells #[.slice A' m' c'] 22)).heap.size = w3.heap.size + 1 := World.size_alloc _ _
  have HST := Lib.hid hst
  obtain ⟨bb, hbb⟩ : ∃ bb, w3.heap.size = bb := ⟨_, rfl⟩
  rw [hbb] at HST hs4
  rw [hbb]
  clear u4 hcb hst HK3 HB3
  generalize w3.alloc (.cells #[.slice A' m' c'] 22) = w4 at *
  have hNk : N ≤ 1099511627776 := by
    have := (rest_short lb N hok).1
    omega
  refine wpIn_wide.1 (wpIn_range_lo1 (α := It) (F := Fence.wide) (n := 3) rfl (by omega) (gf := 49) (lb := #[.pointer (some ⟨bb, 0, none⟩)]) rfl trivial (enters_of Try.func49 (by kernel_rfl) rfl) itC N
    (fun k V => SpS w b5n bb m' c' A' B lb k V ∧ noIE lb k) (EnS w.heap.size b5n lb)
    (fun j V => j = .ret ∧ ∃ k Al cl, Blk V w.heap.size 24 #[.slice Al (k + 1) cl] ∧ Blk V (w.heap.size + 1) 25 #[.int .i64 0] ∧ Below w.heap.size w V ∧ Row w lb Al (k + 1) cl V ∧ noIE lb k ∧ firstOk (restC lb k) = true ∧ isE (typC lb k) = true) (fun x => x.lo)
    ?seq (fun _ => rfl) ?ia ?ip ?ea ?ep ?xp ?start ?is ?el 57 (fun x => #[.string x.t, .slice x.A x.n x.c]) ?Fa ?assign ?body ?done ?stop)
  case seq =>
    intro ll Rr Jx V hRb hY h0 hR
    exact chunks_in (3 - 1) (by omega) ll bb m' c' N A' lb hlb hc' (by omega) (by omega) B hok hend (fun k V => SpS w b5n bb m' c' A' B lb k V ∧ noIE lb k) Rr Jx (fun k V h => ⟨h.1.cb.cell 0, h.1.bs, Nat.le_trans h.1.hB h.1.bel.size⟩) (fun k V V' h hb => ⟨h.1.keep (Upd.of_below hb) (fun j e => e), h.2⟩) hRb
      (fun k x V0 V hk h1 h2 hb h3 h4 h5 h6 => hY k x V hk ⟨h1.1.keep (Upd.of_below hb) (fun j e => e), h1.2⟩ h2 (by
        obtain ⟨Al, cl, L, r1, r2, _, _⟩ := h1.1.row
        refine ⟨h4, h5, own_low h6 h1.1.bel.size, by rw [h3]; exact r1.lt, by rw [h3]; exact hb.size, Al, cl, r1.upd (Upd.of_below hb) (fun e => by have := r1.lt; omega), fun g hg => by rw [h3]; exact (r2.lt g hg).2⟩)) V h0 hR
  case ia => rintro k V o h; exact ⟨h.1.keep ((Upd.refl No V).alloc o) (fun _ h => absurd h id), h.2⟩
  case ip => rintro k V ll o o' hll ho hoc h; exact ⟨h.1.put (Nat.le_trans HST.out.bel.size hll) ho hoc o', h.2⟩
  case ea => rintro k x V o h; exact h.alloc o
  case ep => rintro k x V ll o o' hll ho hoc h; exact h.put ho hoc o'
  case xp =>
    rintro j V ll o o' hll ho hoc ⟨h1, k, Al, cl, h2, h3, h4, ⟨L, r1, r2, r3⟩, h5⟩
    have u := upd_putObj (S := (· = ll)) V ll o' rfl
    exact ⟨h1, k, Al, cl, h2.upd u (blk_ne_obj h2 ho hoc), h3.upd u (blk_ne_obj h3 ho hoc), h4.trans (u.below h4.size (fun i hi e => by have := HST.out.bel.size; omega)), ⟨L, own_put r1 ho hoc o', r2, fun j hj => ⟨(r3 j hj).1, (r3 j hj).2.1, own_put (r3 j hj).2.2 ho hoc o'⟩⟩, h5⟩
  case start => exact ⟨HST.out, fun j hj => by omega⟩
  case is => rintro k V h; have := h.1.cb.lt; omega
  case el => rintro k x V h; exact h.2.2.2.2.1
  case assign =>
    intro ll x V Bx K hBx hK
    dsimp only [itC]
    have HK := Lib.hid hK
    clear hK
    gi_wp2
    exact HK.out
  case body =>
    rintro ll k x V Bx hk ⟨hI, hno⟩ hE hBx hlo hbx
    obtain ⟨Al, cl, A9, c9, w9, r1, hrun, b9, hko, hkl, hS⟩ := hI.step hE (by omega)
    have HOK := Lib.hid (hok k hk)
    have HTY := Lib.hid hE.1
    have HNI := Lib.hid hno
    have c5 : V.cell? ⟨b5n, 0, none⟩ = some (.slice Al k cl) := r1.cell 0
    have z0 : V.cell? ⟨Bx, 0, none⟩ = some (.string x.t) := hbx.cell 0
    have z1 : V.cell? ⟨Bx, 1, none⟩ = some (.slice x.A x.n x.c) := hbx.cell 1
    have k5 : w9.cell? ⟨b5n, 0, none⟩ = some (.slice Al k cl) := b9.cell 0
    have f5 := b9.frozen 0
    have hbx' := hkl _ _ _ hlo hbx
    have HRN := Lib.hid hrun
    have HBX := Lib.hid hbx'
    have Y5 : Hid ((w9.setCell ⟨b5n, 0, none⟩ (.slice A9 (k + 1) c9)).cell? ⟨b5n, 0, none⟩ = some (.slice A9 (k + 1) c9)) := Lib.hid ((show Blk (w9.setCell ⟨b5n, 0, none⟩ (.slice A9 (k + 1) c9)) b5n 24 #[.slice A9 (k + 1) c9] by simpa using b9.set_ 0 (.slice A9 (k + 1) c9)).cell 0)
    have HS := Lib.hid (And.intro hko (And.intro hkl hS))
    have ISE : Hid (isE x.t = (x.t.toList == [73, 69, 78, 68])) := Lib.hid rfl
    dsimp only [It.v] at HRN
    clear hI hE hno r1 hrun b9 hko hkl hS hbx hbx'
    gi_upto_region 8 with (gi_at_builtin; refine wpListIn_append_run rfl (.tmp 19) (.tmp 21) _ rfl rfl rfl HRN.out ?_)
    generalize w9.setCell ⟨b5n, 0, none⟩ (.slice A9 (k + 1) c9) = W9 at *
    have HW9 := Lib.hid (And.intro HS.out.2.2.h2 HS.out.2.2.h3)
    have hbw9 := HS.out.2.2.bel.size
    obtain ⟨y2, y3⟩ := HW9.out
    have y0 : W9.cell? ⟨Bx, 0, none⟩ = some (.string x.t) := HBX.out.cell 0
    have y5 : W9.cell? ⟨b5n, 0, none⟩ = some (.slice A9 (k + 1) c9) := Y5.out
    have f2 := y2.frozen 0
    have f3 := y3.frozen 0
    have q2 : W9.cell? ⟨w.heap.size, 0, none⟩ = some (.slice none 0 0) := y2.cell 0
    have q3 : W9.cell? ⟨w.heap.size + 1, 0, none⟩ = some (.int .i64 0) := y3.cell 0
    have HRET : Hid (isE x.t = true → KeepsOthers V ((W9.setCell ⟨w.heap.size, 0, none⟩ (.slice A9 (k + 1) c9)).setCell ⟨w.heap.size + 1, 0, none⟩ (.int .i64 0)) ∧ ∃ kk Al cl, Blk ((W9.setCell ⟨w.heap.size, 0, none⟩ (.slice A9 (k + 1) c9)).setCell ⟨w.heap.size + 1, 0, none⟩ (.int .i64 0)) w.heap.size 24 #[.slice Al (kk + 1) cl] ∧ Blk ((W9.setCell ⟨w.heap.size, 0, none⟩ (.slice A9 (k + 1) c9)).setCell ⟨w.heap.size + 1, 0, none⟩ (.int .i64 0)) (w.heap.size + 1) 25 #[.int .i64 0] ∧ Below w.heap.size w ((W9.setCell ⟨w.heap.size, 0, none⟩ (.slice A9 (k + 1) c9)).setCell ⟨w.heap.size + 1, 0, none⟩ (.int .i64 0)) ∧ Row w lb Al (kk + 1) cl ((W9.setCell ⟨w.heap.size, 0, none⟩ (.slice A9 (k + 1) c9)).setCell ⟨w.heap.size + 1, 0, none⟩ (.int .i64 0)) ∧ noIE lb kk ∧ firstOk (restC lb kk) = true ∧ isE (typC lb kk) = true) := Lib.hid (fun hie => by
      obtain ⟨Al', cl', L, r1, r2, r3, r4⟩ := HS.out.2.2.row
      have e7 : (Value.slice Al' (k + 1) cl') = .slice A9 (k + 1) c9 := by
        have a2 : W9.cell? ⟨b5n, 0, none⟩ = some (.slice Al' (k + 1) cl') := r1.cell 0
        rw [y5] at a2
        injection a2 with a2
        exact a2.symm
      rw [e7] at r2
      have hl1 := HS.out.2.2.lt
      have u1 := (Upd.refl (· = w.heap.size) W9).setCell (p := ⟨w.heap.size, 0, none⟩) (fun _ => rfl) (.slice A9 (k + 1) c9)
      have e1 : Blk (W9.setCell ⟨w.heap.size, 0, none⟩ (.slice A9 (k + 1) c9)) w.heap.size 24 #[.slice A9 (k + 1) c9] := by simpa using y2.set_ 0 (.slice A9 (k + 1) c9)
      have e3 := y3.upd u1 (by omega)
      have u2 := (Upd.refl (· = w.heap.size + 1) (W9.setCell ⟨w.heap.size, 0, none⟩ (.slice A9 (k + 1) c9))).setCell (p := ⟨w.heap.size + 1, 0, none⟩) (fun _ => rfl) (.int .i64 0)
      have hb := HS.out.2.2.bel
      have hb2 := u1.below hb.size (fun j hj e => by omega)
      have hb3 := u2.below (Nat.le_trans hb.size hb2.size) (fun j hj e => by omega)
      have o1 := own_upd r2 u1 (fun j hj e => own_blk_ne r2 y2 (by decide) (by rw [hj, e]))
      have o2 := own_upd o1 u2 (fun j hj e => own_blk_ne o1 e3 (by decide) (by rw [hj, e]))
      refine ⟨HS.out.1.trans ((KeepsOthers.setCell _ _ _).trans (KeepsOthers.setCell _ _ _)), k, A9, c9, e1.upd u2 (by omega), by simpa using e3.set_ 0 (.int .i64 0), (hb.trans hb2).trans hb3, ⟨L, o2, r3, fun j hj => ?_⟩, HNI.out, HOK.out, by rw [← HTY.out]; exact hie⟩
      obtain ⟨t1, t2, t3⟩ := r4 j hj
      have o3 := own_upd t3 u1 (fun g hg e => own_blk_ne t3 y2 (by decide) (by rw [hg, e]))
      exact ⟨t1, t2, own_upd o3 u2 (fun g hg e => own_blk_ne o3 e3 (by decide) (by rw [hg, e]))⟩)
    have HGO : Hid (isE x.t = false → KeepsOthers V W9 ∧ (SpS w b5n bb m' c' A' B lb (k + 1) W9 ∧ noIE lb (k + 1)) ∧ KeepsLo x.lo V W9) := Lib.hid (fun hie => ⟨HS.out.1, ⟨HS.out.2.2, fun j hj => by
      rcases Nat.lt_or_ge j k with h | h
      · exact HNI.out j h
      · obtain rfl : j = k := by omega
        exact ⟨HOK.out, by rw [← HTY.out]; exact hie⟩⟩, HS.out.2.1⟩)
    have p3 := y3.upd ((Upd.refl (· = w.heap.size) W9).setCell (p := ⟨w.heap.size, 0, none⟩) (fun _ => rfl) (.slice A9 (k + 1) c9)) (by omega)
    have q4 : (W9.setCell ⟨w.heap.size, 0, none⟩ (.slice A9 (k + 1) c9)).cell? ⟨w.heap.size + 1, 0, none⟩ = some (.int .i64 0) := p3.cell 0
    clear HS HW9 y2 y3 p3 c5 z0 z1 k5 f5 HRN Y5
    gi_wp2_with fail
    · rename_i hx
      exact ⟨(HRET.out (by rw [ISE.out]; simpa using hx)).1, rfl, (HRET.out (by rw [ISE.out]; simpa using hx)).2⟩
    · rename_i hx
      exact HGO.out (by rw [ISE.out]; simpa using hx)
  case done =>
    rintro D V hD ⟨hI, hno⟩ hK
    have f6 := hI.h2.frozen 0
    have f7 := hI.h3.frozen 0
    have c6 : V.cell? ⟨w.heap.size, 0, none⟩ = some (.slice none 0 0) := hI.h2.cell 0
    have u1 := (Upd.refl (· = w.heap.size) V).setCell (p := ⟨w.heap.size, 0, none⟩) (fun _ => rfl) (.slice none 0 0)
    have p3 := hI.h3.upd u1 (by omega)
    have c7 : (V.setCell ⟨w.heap.size, 0, none⟩ (.slice none 0 0)).cell? ⟨w.heap.size + 1, 0, none⟩ = some (.int .i64 0) := p3.cell 0
    have c8 : V.cell? ⟨w.heap.size + 1, 0, none⟩ = some (.int .i64 0) := hI.h3.cell 0
    have u2 := (Upd.refl (· = w.heap.size + 1) (V.setCell ⟨w.heap.size, 0, none⟩ (.slice none 0 0))).setCell (p := ⟨w.heap.size + 1, 0, none⟩) (fun _ => rfl) (.int .i64 9)
    have e1 : Blk (V.setCell ⟨w.heap.size, 0, none⟩ (.slice none 0 0)) w.heap.size 24 #[.slice none 0 0] := by simpa using hI.h2.set_ 0 (.slice none 0 0)
    have hb := hI.bel
    have hb2 := u1.below hb.size (fun j hj e => by omega)
    have hb3 := u2.below (Nat.le_trans hb.size hb2.size) (fun j hj e => by omega)
    have hw4 := HST.out.cb.lt
    have hdK : ((V.setCell ⟨w.heap.size, 0, none⟩ (.slice none 0 0)).setCell ⟨w.heap.size + 1, 0, none⟩ (.int .i64 9)).heap[D]? = some (.deferred (some [])) := (u2.block D (by have := (Array.getElem?_eq_some_iff.1 hK).1; have := u1.size; omega) (by have := hI.lt; omega)).trans ((u1.block D (Array.getElem?_eq_some_iff.1 hK).1 (by have := hI.lt; omega)).trans hK)
    have HE := Lib.hid (And.intro (e1.upd u2 (by omega)) (And.intro (show Blk ((V.setCell ⟨w.heap.size, 0, none⟩ (.slice none 0 0)).setCell ⟨w.heap.size + 1, 0, none⟩ (.int .i64 9)) (w.heap.size + 1) 25 #[.int .i64 9] by simpa using p3.set_ 0 (.int .i64 9)) (And.intro ((hb.trans hb2).trans hb3) hdK)))
    have HNI := Lib.hid hno
    have HEND := Lib.hid hend
    clear u1 u2 e1 p3 hb hb2 hb3 hdK hI hno hK
    go_wp2_with fail
    obtain ⟨e1, e2, e3, e5⟩ := HE.out
    generalize (V.setCell ⟨w.heap.size, 0, none⟩ (.slice none 0 0)).setCell ⟨w.heap.size + 1, 0, none⟩ (.int .i64 9) = X at *
    refine ⟨by simp, .inl ⟨_, _, rfl, run_takeDeferred e5, ?_⟩⟩
    have u := upd_putObj (S := (· = D)) X D (.deferred none) rfl
    have x1 := (e1.upd u (blk_ne_obj e1 e5 rfl)).cell 0
    have x2 := (e2.upd u (blk_ne_obj e2 e5 rfl)).cell 0
    have hs := e3.size
    have hbel := HST.out.bel.size
    refine ⟨.tuple #[.slice none 0 0, .int .i64 9], by simp [results, Try.results11, go_sem, x1, x2], e3.trans (u.below hs (fun j hj e => by omega)), .inl ⟨rfl, .inr ⟨N, by rw [HLB.out]; exact HNI.out, by rw [HLB.out]; exact HEND.out⟩⟩⟩
  case stop =>
    rintro D j V hD ⟨rfl, k, Al, cl, h1, h2, h3, ⟨L, r1, r2, r3⟩, h5, h6, h7⟩ hK
    refine wpIn_wide.2 ?_
    go_wp2_with fail
    refine ⟨by simp, .inl ⟨_, _, rfl, run_takeDeferred hK, ?_⟩⟩
    have u := upd_putObj (S := (· = D)) V D (.deferred none) rfl
    have x1 := (h1.upd u (blk_ne_obj h1 hK rfl)).cell 0
    have x2 := (h2.upd u (blk_ne_obj h2 hK rfl)).cell 0
    have hs := h3.size
    have hbel := HST.out.bel.size
    have hyes : splitYes b k := ⟨HMK.out, by rw [HLB.out]; exact h5, by rw [HLB.out]; exact h6, by rw [HLB.out]; exact h7⟩
    refine ⟨.tuple #[.slice Al (k + 1) cl, .int .i64 0], by simp [results, Try.results11, go_sem, x1, x2], h3.trans (u.below hs (fun j hj e => by omega)), .inr ⟨k, Al, cl, rfl, hyes, L, own_put r1 hK rfl _, r2, by rw [HLB.out]; exact fun j hj => ⟨(r3 j hj).1, (r3 j hj).2.1, own_put (r3 j hj).2.2 hK rfl _⟩⟩⟩
theorem split_any (A : Option Addr) (m c : Nat) (b : List UInt8) (hm : b.length = m) (hmc : m ≤ c) (hcx : c ≤ maxLen) (hmb : m ≤ 4398046511104) (B : Nat) (w : World) (hbs : Bs w B A b) (hB : B ≤ w.heap.size) : Calls Try.prog 11 #[.slice A m c] w (SplitP w b) := by
  cases hmk : markOk b with
  | false => exact split_no A m c b hm hmc hcx hmb B w hbs hB hmk
  | true => exact split_yes A m c b hm hmc hcx hmb B w hbs hB hmk
end Go.Proofs.Ytaloieeemibblaa
