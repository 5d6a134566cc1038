/- Joined texts (a claim has at most 60 files). -/
import Derived.Test.YtaloieeemibblaaFk
import Derived.Test.YtaloieeemibblaaFi
import Derived.Test.YtaloieeemibblaaI
import Derived.BigQuiet
/- The document's Split: a step, and its mathematics. -/
set_option linter.unusedVariables false
set_option linter.unusedSimpArgs false
namespace Go.Proofs.Ytaloieeemibblaa
open Go.ChangeShapes Go.WideShapes Go.ChangeAt Go.RowKit

theorem be4_at (b : List UInt8) (a i : Nat) : be4 (b.drop a) i = be4 b (a + i) := by
  rw [be4_eq, be4_eq, ← byteAt_drp, ← byteAt_drp, ← byteAt_drp, ← byteAt_drp]
  simp only [Nat.add_assoc]
theorem row_step {w : World} {lb : List UInt8} {k : Nat} {Al : Option Addr} {cl : Nat} {V V2 : World} (hrow : Row w lb Al k cl V) (hb : Below V.heap.size V V2) (hbase : w.heap.size ≤ V.heap.size) {D : Option Addr} {dn dc : Nat} {t : ByteArray}
    (ho : V2.ownsRow w.heap.size 5 1 (.slice D dn dc) dn (bytesV (datC lb k))) (ht : t = typC lb k) (hdn : dn = be4 (restC lb k) 0) (hk : k ≤ 1099511627776) :
    ∃ A9 c9 w9, (Builtin.append_ #[24, 24] 24 #[.slice Al k cl, .slice (some ⟨V2.heap.size, 0, none⟩) 1 1]).run Try.prog (V2.alloc (.cells #[.string t, .slice D dn dc] 57)) = .ok (.slice A9 (k + 1) c9) w9 ∧
      Row w lb A9 (k + 1) c9 w9 ∧ Below w.heap.size V w9 := by
  obtain ⟨L, r2, r3, r4⟩ := hrow
  have u0 := Upd.of_fresh hb
  have r2a := own_upd r2 u0 (fun _ _ => id)
  have r4a := r4.upd u0 (fun _ _ _ => id) (fun _ _ _ _ => id)
  have ua := (Upd.refl No V2).alloc (.cells #[.string t, .slice D dn dc] 57)
  have hnb := Blk.new V2 57 #[.string t, .slice D dn dc]
  have ra := own_upd r2a ua (fun _ _ => id)
  have hsz : (V2.alloc (.cells #[.string t, .slice D dn dc] 57)).heap.size = V2.heap.size + 1 := World.size_alloc _ _
  have hia := r4a.upd ua (fun _ _ _ => id) (fun _ _ _ _ => id)
  have hoa := own_upd ho ua (fun _ _ => id)
  have hb1 : Below V.heap.size V (V2.alloc (.cells #[.string t, .slice D dn dc] 57)) := hb.trans (ua.fresh.mono hb.size)
  have hV := hb.size
  generalize V2.alloc (.cells #[.string t, .slice D dn dc] 57) = V1 at *
  obtain ⟨A9, c9, w9, hrun, o9, hg9, hw9⟩ := append_ck w.heap.size V1 (.slice Al k cl) k (ckVs L) ra (by omega) V2.heap.size t D dn dc hnb hk 24
  have u9 : Upd (fun j => some j = (Value.slice Al k cl).ownBlock) V1 w9 := (Upd.of_grown hg9).mono (fun j _ e => e)
  have nh : ∀ {b : Nat} {cs fz}, V1.heap[b]? = some (.cells cs 5 fz) → ¬ some b = (Value.slice Al k cl).ownBlock := fun {b cs fz} hb e => by
    rcases ra.2 with ⟨e', _⟩ | ⟨g', c, cur, e', _, a, _⟩
    · rw [e'] at e; cases e
    · have e1 : g' = b := by rw [e'] at e; simpa [Value.ownBlock] using e.symm
      subst e1
      rw [hb] at a
      injection a with a
      injection a with _ a
      exact absurd a (by decide)
  have own8 : ∀ {v : Value} {n : Nat} {xs : List Value}, V1.ownsRow w.heap.size 5 1 v n xs → w9.ownsRow w.heap.size 5 1 v n xs := fun {v n xs} ho => by
    refine own_upd ho u9 (fun g hg => ?_)
    rcases ho.2 with ⟨e', _⟩ | ⟨g', c, cur, e', _, a, _⟩
    · rw [e'] at hg; cases hg
    · have e1 : g' = g := by rw [e'] at hg; simpa [Value.ownBlock] using hg
      subst e1
      exact nh a
  have hb9 : Below w.heap.size V1 w9 := u9.below (by omega) (fun j hj e => by have := (ra.lt j e.symm).1; omega)
  refine ⟨A9, c9, w9, hrun, ⟨L ++ [⟨t, D, dn, dc, 0⟩], ?_, by simp [r3], ?_⟩, (hb1.mono hbase).trans hb9⟩
  · rw [ckVs_app]
    exact o9
  · intro j hj
    rw [List.length_append] at hj
    by_cases hjk : j < L.length
    · rw [List.getElem_append_left hjk]
      obtain ⟨i1, i2, i3⟩ := hia j hjk
      exact ⟨i1, i2, own8 i3⟩
    · obtain rfl : j = L.length := by simp at hj; omega
      rw [List.getElem_append_right (Nat.le_refl _)]
      simp only [Nat.sub_self, List.getElem_cons_zero]
      rw [r3]
      exact ⟨ht, hdn, own8 hoa⟩
/-- What holds behind k chunks. -/
structure RS (w : World) (b lb : List UInt8) (m k at_ : Nat) (Al : Option Addr) (cl : Nat) (A : Option Addr) (B : Nat) (V : World) : Prop where
  bel : Below w.heap.size w V
  row : Row w lb Al k cl V
  hat : at_ = 8 + offs lb k
  hm : at_ ≤ m
  no : noIE lb k
  bs : Bs V B A b
theorem nil_row (w : World) (lb : List UInt8) (V : World) : Row w lb none 0 0 V := ⟨[], World.ownsRow_nil _ _ _ _, rfl, fun j hj => by simp at hj⟩
/-- What a chunk's bytes are, told by the file's. -/
structure RF (b : List UInt8) (m at_ n : Nat) (r : List UInt8) : Prop where
  r_ : r = b.drop at_
  len : r.length = m - at_
  n_ : be4 r 0 = n
theorem get_at (A : Option Addr) (m c : Nat) (b : List UInt8) (hm : b.length = m) (i : Nat) (B : Nat) (w : World) (h : Bs w B A b) (hl : m ≤ 140737488355328) (ha : i + 4 ≤ m) :
    Calls Try.prog 31 #[.slice A m c, .int .i64 (i : Nat), .int .i64 4, .bool true] w fun e w' => e = .returned (.tuple #[.int .u32 (be4 b i : Nat), .int .i64 0]) ∧ ∃ n, w' = w.drewN n := by
  subst hm
  exact refGet_ok A c b i 4 true B w h hl (by omega) (by omega) ha
theorem get_no (A : Option Addr) (m c : Nat) (i : Nat) (w : World) (hl : m ≤ 140737488355328) (hi : i ≤ 140737488355328) (ha : m < i + 4) :
    Calls Try.prog 31 #[.slice A m c, .int .i64 (i : Nat), .int .i64 4, .bool true] w fun e w' => e = .returned (.tuple #[.int .u32 0, .int .i64 5]) ∧ w = w' := by
  have he := spanErr_end (len := m) (at_ := (i : Int)) (size := 4) (by omega) (by omega)
  have := refGet_err A m c (i : Int) 4 true w hl (by omega) (by rw [he]; omega)
  rw [he] at this
  exact this
theorem first_fits {b r : List UInt8} {m at_ n : Nat} (h : RF b m at_ n r) : fits r = decide (4 ≤ m - at_ ∧ n ≤ 2147483647 ∧ n + 12 ≤ m - at_) := by
  rw [fits_len h.len, h.n_]
theorem no_first {b r : List UInt8} {m at_ n : Nat} (h : RF b m at_ n r) (hn : ¬ (4 ≤ m - at_ ∧ n ≤ 2147483647 ∧ n + 12 ≤ m - at_)) : firstOk r = false := by
  unfold firstOk
  rw [first_fits h, decide_eq_false hn]
  rfl
theorem is_first {b r : List UInt8} {m at_ n : Nat} (h : RF b m at_ n r) (h4 : n ≤ 2147483647) (hn : n + 12 ≤ m - at_) :
    firstOk r = (tyB ((sumOf r).take 4) && decide (be4 b (at_ + 8 + n) = crcOn 0 (sumOf r))) := by
  unfold firstOk
  rw [first_fits h, decide_eq_true ⟨by omega, h4, hn⟩, Bool.true_and]
  unfold sound
  rw [h.n_]
  conv => lhs; rw [h.r_, be4_at, ← h.r_]
  rw [Nat.add_assoc]
theorem sum_at {b r : List UInt8} {m at_ n : Nat} (h : RF b m at_ n r) : sumOf r = (b.drop (at_ + 4)).take (4 + n) := by
  unfold sumOf
  rw [h.n_, h.r_, List.drop_drop]
end Go.Proofs.Ytaloieeemibblaa

/- The document's Split, walked. -/
set_option linter.unusedVariables false
set_option linter.unusedSimpArgs false
namespace Go.Proofs.Ytaloieeemibblaa
open Go.ChangeShapes Go.WideShapes Go.ChangeAt Go.RowKit

theorem sign_same (A : Option Addr) (m c : Nat) (b : List UInt8) (hm : b.length = m) (h8 : 8 ≤ m) (B : Nat) (w V : World) (hb : Below w.heap.size w V) (hbs : Bs w B A b) (hB : B ≤ w.heap.size) (g : Nat) (hg : w.heap.size ≤ g) (hk : Bs V V.heap.size (some ⟨g, 0, none⟩) mkL) (c2 : Nat) :
    Calls Try.prog 18 #[.slice A 8 c, .slice (some ⟨g, 0, none⟩) 8 c2] V fun e w' => e = .returned (.bool (b.take 8 == mkL)) ∧ Below w.heap.size w w' := by
  have h1 : Bs V V.heap.size A (b.take 8) := ((hbs.below (hb.mono hB)).more (Nat.le_trans hB hb.size)).take 8
  refine (same_n A (some ⟨g, 0, none⟩) 8 8 c c2 (b.take 8) mkL (by rw [List.length_take]; omega) rfl V.heap.size V h1 hk (by unfold maxLen; omega)).mono ?_
  rintro e w' ⟨rfl, q, rfl⟩
  exact ⟨rfl, hb.trans ((Upd.drewN (Upd.refl (fun _ => False) V) q).below hb.size (fun _ _ h => h))⟩
theorem sign_bs (w : World) : Bs (w.alloc (.cells (bytesV mkL).toArray 5)).drew (w.alloc (.cells (bytesV mkL).toArray 5)).drew.heap.size (some ⟨w.heap.size, 0, none⟩) mkL := by
  have h : Bs (w.alloc (.cells (bytesV mkL).toArray 5)) (w.heap.size + 1) (some ⟨w.heap.size, 0, none⟩) mkL := bs_const w 5 mkL (0, 0)
  have e : (w.alloc (.cells (bytesV mkL).toArray 5)).drew.heap.size = w.heap.size + 1 := World.size_alloc _ _
  rw [e]
  exact h
theorem sign_below (w : World) : Below w.heap.size w (w.alloc (.cells (bytesV mkL).toArray 5)).drew := ((Upd.refl No w).alloc _).drew.fresh
set_option maxRecDepth 100000 in
set_option maxHeartbeats 8000000 in
theorem refSplit_any (A : Option Addr) (m c : Nat) (b : List UInt8) (hm : b.length = m) (hmc : m ≤ c) (hcx : c ≤ maxLen) (hmb : m ≤ 1073741824) (B : Nat) (w : World) (hbs : Bs w B A b) (hB : B ≤ w.heap.size) :
    Calls Try.prog 13 #[.slice A m c] w (SplitP w b) := by
  have HM : Hid (markOk b = (decide (8 ≤ m) && b.take 8 == mkL)) := Lib.hid (by unfold markOk; rw [hm])
  by_cases h8 : 8 ≤ m
  case neg =>
    have HNO : Hid (markOk b = false) := Lib.hid (by rw [HM.out, decide_eq_false h8]; rfl)
    have hd : decide ((m : Int) < 8) = true := decide_eq_true (by omega)
    clear HM hbs
    go_enter Try.func13, Try.ntmps13
    go_upto_region 1 with (fail)
    go_quiet (fail)
    go_wp2_with fail
    go_ret2
    rename_i nq _
    exact ⟨(Upd.drewN (Upd.refl (fun _ => False) w) nq).below (Nat.le_refl _) (fun _ _ h => h), .inl ⟨rfl, .inl HNO.out⟩⟩
  case pos =>
    rw [decide_eq_true h8, Bool.true_and] at HM
    have HS := Lib.hid (fun V (hb : Below w.heap.size w V) g (hg : w.heap.size ≤ g) hk c2 => sign_same A m c b hm h8 B w V hb hbs hB g hg hk c2)
    have HBS := Lib.hid hbs
    obtain ⟨ad, hA, _, _⟩ := hbs (by omega)
    subst hA
    clear hbs
    go_enter Try.func13, Try.ntmps13
    go_upto_region 1 with (fail)
    have hd : decide ((m : Int) < 8) = false := decide_eq_false (by omega)
    have i8 : (8 : Int) ≤ (c : Int) := by omega
    go_cut [21] from 12 to 20 (fun v wx => v = .bool (!markOk b) ∧ Hid (Below w.heap.size w wx))
    case first =>
      go_region_with (first
        | (go_at_call 30; refine (sign_any _).mono ?_; rintro e w1 ⟨rfl, rfl⟩)
        | (go_at_call 18; refine (HS.out _ (sign_below w) _ (Nat.le_refl _) (sign_bs w) _).mono ?_; rintro e w2 ⟨rfl, hb2⟩))
      all_goals
        go_wp2_with fail
        go_meet
        exact ⟨by rw [HM.out], Lib.hid hb2⟩
    case rest =>
      obtain ⟨rfl, HB1⟩ := hcut
      obtain ⟨w1, hw1⟩ : ∃ w1 : World, w1 = wc := ⟨_, rfl⟩
      rw [← hw1] at HB1 ⊢
      clear hw1 HS HM hd i8
      have HA := Lib.hid (fun V (hb : Below w.heap.size w V) => (HBS.out.below (hb.mono hB)))
      cases hmk : markOk b with
      | false =>
        have HNO := Lib.hid hmk
        clear hmk
        go_wp2_with fail
        go_ret2
        exact ⟨HB1.out, .inl ⟨rfl, .inl HNO.out⟩⟩
      | true =>
        simp only [Bool.not_true]
        have HMK := Lib.hid hmk
        have hlb : (b.drop 8).length = m - 8 := by rw [List.length_drop, hm]
        have HBEG : Hid (RS w b (b.drop 8) m 0 8 none 0 (some ad) B w1) := Lib.hid ⟨HB1.out, nil_row _ _ _, rfl, h8, fun j hj => by omega, HA.out _ HB1.out⟩
        have HOFF : Hid (∀ k, 8 + offs (b.drop 8) k ≤ m → (restC (b.drop 8) k) = b.drop (8 + offs (b.drop 8) k)) := Lib.hid (fun k _ => by unfold restC; rw [List.drop_drop])
        have HSHORT : Hid (∀ k, noIE (b.drop 8) k → 12 * k ≤ m) := Lib.hid (fun k h => by have := (rest_short (b.drop 8) k (fun j hj => (h j hj).1)).1; omega)
        have HPY : Hid (∀ k, splitYes b k ↔ markOk b = true ∧ noIE (b.drop 8) k ∧ firstOk (restC (b.drop 8) k) = true ∧ isE (typC (b.drop 8) k) = true) := Lib.hid (fun k => Iff.rfl)
        have HPN : Hid (∀ k, noIE (b.drop 8) k → firstOk (restC (b.drop 8) k) = false → splitNo b) := Lib.hid (fun k h1 h2 => .inr ⟨k, h1, h2⟩)
        have HSP : Hid (∀ e w', SplitP w b e w' ↔ (Below w.heap.size w w' ∧ ((e = .returned (.tuple #[.slice none 0 0, .int .i64 9]) ∧ splitNo b) ∨ ∃ k A c, e = .returned (.tuple #[.slice A (k + 1) c, .int .i64 0]) ∧ splitYes b k ∧ Row w (b.drop 8) A (k + 1) c w'))) := Lib.hid (fun e w' => Iff.rfl)
        clear hmk HA HB1
        generalize hlbe : b.drop 8 = lb at *
        clear hlbe
        go_wp2_with fail
        go_loopw [4, 5] (fun out at_ wr => ∃ (k a : Nat) (Al : Option Addr) (cl : Nat), out = .slice Al k cl ∧ at_ = .int .i64 (a : Int) ∧ a ≤ m ∧ Hid (RS w b lb m k a Al cl (some ad) B wr)) (fun _ at_ _ => m - (intOf at_).toNat)
        case atStart => exact ⟨0, 8, none, 0, rfl, rfl, h8, HBEG⟩
        case round =>
          obtain ⟨k, a, Al, cl, rfl, rfl, ham, HR⟩ := hrel
          clear HBEG
          have hsr := HR.out.bel.size
          have hRF : ∀ n, be4 (restC lb k) 0 = n → RF b m a n (restC lb k) := fun n h => by
            have h0 := HOFF.out k (by rw [← HR.out.hat]; exact ham)
            rw [← HR.out.hat] at h0
            exact ⟨h0, by rw [h0, List.length_drop, hm], h⟩
          by_cases h4 : a + 4 ≤ m
          case neg =>
            have HNO : Hid (firstOk (restC lb k) = false) := Lib.hid (no_first (hRF _ rfl) (fun h => by omega))
            clear hRF
            have HG := Lib.hid (fun V => get_no (some ad) m c a V (by omega) (by omega) (by omega))
            go_wp2_with fail
            refine (HG.out _).mono ?_
            rintro e w2 ⟨rfl, rfl⟩
            go_wp2_with fail
            go_ret2
            exact (HSP.out _ _).2 ⟨HR.out.bel, .inl ⟨rfl, HPN.out k HR.out.no HNO.out⟩⟩
          case pos =>
            have HG := Lib.hid (get_at (some ad) m c b hm a B wr HR.out.bs (by omega) h4)
            obtain ⟨n, hn⟩ : ∃ n, be4 b a = n := ⟨_, rfl⟩
            have HF := Lib.hid (hRF n (by have h0 := (hRF _ rfl).r_; rw [h0, be4_at]; exact hn))
            have hn32 := be4_lt b a
            rw [hn] at HG hn32
            clear hn hRF
            go_wp2_with fail
            refine HG.out.mono ?_
            rintro e w2 ⟨rfl, q, rfl⟩
            clear HG
            by_cases hfit : n ≤ 2147483647 ∧ n + 12 ≤ m - a
            case neg =>
              have HNO : Hid (firstOk (restC lb k) = false) := Lib.hid (no_first HF.out (fun h => hfit ⟨h.2.1, h.2.2⟩))
              have HBQ : Hid (Below w.heap.size w (wr.drewN q)) := Lib.hid (HR.out.bel.trans ((Upd.drewN (Upd.refl (fun _ => False) wr) q).below hsr (fun _ _ h => h)))
              clear HF
              generalize wr.drewN q = w2 at *
              by_cases hbig : n ≤ 2147483647
              case neg =>
                have hge : (2147483648 : Int) ≤ (n : Int) := by omega
                clear hfit hbig
                go_wp2_with fail
                go_ret2
                exact (HSP.out _ _).2 ⟨HBQ.out, .inl ⟨rfl, HPN.out k HR.out.no HNO.out⟩⟩
              case pos =>
                have h3 : ¬ n + 12 ≤ m - a := fun h => hfit ⟨hbig, h⟩
                have hle : (n : Int) < 2147483648 := by omega
                clear hfit hbig
                by_cases h12 : (m : Int) - (a : Int) < 12
                · clear h3
                  go_wp2_with fail
                  go_ret2
                  exact (HSP.out _ _).2 ⟨HBQ.out, .inl ⟨rfl, HPN.out k HR.out.no HNO.out⟩⟩
                · have h13 : (m : Int) - (a : Int) - 12 < (n : Int) := by omega
                  clear h3
                  go_wp2_with fail
                  go_ret2
                  exact (HSP.out _ _).2 ⟨HBQ.out, .inl ⟨rfl, HPN.out k HR.out.no HNO.out⟩⟩
            case pos =>
              obtain ⟨hbig, hlong⟩ := hfit
              have HR2 : Hid (RS w b lb m k a Al cl (some ad) B (wr.drewN q)) := Lib.hid ⟨HR.out.bel.trans ((Upd.drewN (Upd.refl (fun _ => False) wr) q).below hsr (fun _ _ h => h)), HR.out.row, HR.out.hat, HR.out.hm, HR.out.no, HR.out.bs⟩
              have hsz2 : w.heap.size ≤ (wr.drewN q).heap.size := hsr
              clear HR hsr
              generalize wr.drewN q = w2 at *
              have HBG := Lib.hid hbig
              have hle : decide ((2147483648 : Int) ≤ (n : Int)) = false := decide_eq_false (by omega)
              have i1 : decide ((m : Int) - (a : Int) < 12) = false := decide_eq_false (by omega)
              have i2 : decide ((m : Int) - (a : Int) - 12 < (n : Int)) = false := decide_eq_false (by omega)
              have HLG := Lib.hid hlong
              have i3 : (a : Int) + 8 ≤ (c : Int) := by omega
              clear hbig hlong
              go_upto_region 9 with (fail)
              obtain ⟨en, hen⟩ : ∃ en, a + 8 + n = en := ⟨_, rfl⟩
              rw [show (a : Int) + 8 + (n : Int) = ((en : Nat) : Int) by omega]
              have h5 := HLG.out
              have hem : en + 4 ≤ m := by omega
              have hsl : (sumOf (restC lb k)).length = 4 + n := by rw [sum_at HF.out, List.length_take, List.length_drop]; omega
              have hb4 : Bs w2 B (some (ad.add (a + 4))) (sumOf (restC lb k)) := by rw [sum_at HF.out]; exact bs_piece HR2.out.bs (a + 4) (4 + n) (by omega)
              have hb8 : Bs w2 B (some (ad.add (a + 8))) ((sumOf (restC lb k)).drop 4) := by
                have := bs_piece HR2.out.bs (a + 8) n (by omega)
                rw [sum_at HF.out, List.drop_take, List.drop_drop, show 4 + n - 4 = n by omega]
                exact this
              have HFO : Hid (firstOk (restC lb k) = (tyB ((sumOf (restC lb k)).take 4) && decide (be4 b en = crcOn 0 (sumOf (restC lb k))))) := Lib.hid (by rw [is_first HF.out HBG.out HLG.out, hen])
              have HTY : Hid (typC lb k = ⟨((sumOf (restC lb k)).take 4).toArray⟩) := Lib.hid rfl
              have HDA : Hid (datC lb k = (sumOf (restC lb k)).drop 4) := Lib.hid rfl
              generalize sumOf (restC lb k) = sl at *
              have hcv := str_bs (w := w2) (A := some (ad.add (a + 4))) 4 (show (sl.take 4).length = 4 by rw [List.length_take]; omega) (hb4.take 4) (by omega) (c - (a + 4))
              rw [show ad.add (a + 4) = ⟨ad.block, ad.off + (a + 3 + 1), none⟩ from rfl] at hcv
              have HB48 := Lib.hid (And.intro hb4 hb8)
              have hsm := be4_lt b en
              have HG := Lib.hid (get_at (some ad) m c b hm en B w2 HR2.out.bs (by omega) hem)
              have HSL := Lib.hid hsl
              have HEN := Lib.hid hen
              have HEM := Lib.hid hem
              rw [← HTY.out] at hcv
              have HTL : Hid (sb (typC lb k) = sl.take 4 ∧ (typC lb k).size = 4) := Lib.hid (by
                have e : sb (typC lb k) = sl.take 4 := by rw [HTY.out]
                exact ⟨e, by rw [← sb_len, e, List.length_take]; omega⟩)
              generalize be4 b en = sm at *
              have HN0 : Hid (be4 (restC lb k) 0 = n) := Lib.hid HF.out.n_
              generalize hty0 : typC lb k = ty at *
              have HTE : Hid (ty = typC lb k) := Lib.hid hty0.symm
              clear hty0
              clear h5 hsl hen hem hb4 hb8 HF
              have hkj : Hid (firstOk (restC lb k) = true → 12 * (k + 1) ≤ m) := Lib.hid (fun h => by have := HSHORT.out; have := (rest_short lb (k + 1) (fun j hj => by rcases Nat.lt_or_ge j k with h1 | h1; exact (HR2.out.no j h1).1; (obtain rfl : j = k := by omega); exact h)).1; omega)
              go_upto_region 10 with (fail)
              clear hcv
              have i4 : (a : Int) + 4 ≤ (en : Int) := by have := HEN.out; omega
              have i5 : (en : Int) ≤ (c : Int) := by have := HEM.out; omega
              go_wp2_with fail
              refine HG.out.mono ?_
              rintro e w3 ⟨rfl, q3, rfl⟩
              have HR3 : Hid (RS w b lb m k a Al cl (some ad) B (w2.drewN q3)) := Lib.hid ⟨HR2.out.bel.trans ((Upd.drewN (Upd.refl (fun _ => False) w2) q3).below hsz2 (fun _ _ h => h)), HR2.out.row, HR2.out.hat, HR2.out.hm, HR2.out.no, HR2.out.bs⟩
              have HB483 : Hid (Bs (w2.drewN q3) B (some (ad.add (a + 4))) sl ∧ Bs (w2.drewN q3) B (some (ad.add (a + 8))) (sl.drop 4)) := Lib.hid HB48.out
              have hsz3 : w.heap.size ≤ (w2.drewN q3).heap.size := hsz2
              clear HR2 HB48 hsz2 HG
              generalize w2.drewN q3 = w3 at *
              have HLT := Lib.hid (letters_any ty 4 HTL.out.2 (by omega) w3)
              rw [HTL.out.1] at HLT
              cases hty : tyB (sl.take 4) with
              | false =>
                have HNO : Hid (firstOk (restC lb k) = false) := Lib.hid (by rw [HFO.out, hty]; rfl)
                rw [hty] at HLT
                clear hty
                go_wp2_with fail
                refine HLT.out.mono ?_
                rintro e w4 ⟨rfl, rfl⟩
                go_wp2_with fail
                go_ret2
                exact (HSP.out _ _).2 ⟨HR3.out.bel, .inl ⟨rfl, HPN.out k HR3.out.no HNO.out⟩⟩
              | true =>
                rw [hty] at HLT
                have HFO2 : Hid (firstOk (restC lb k) = decide (sm = crcOn 0 sl)) := Lib.hid (by rw [HFO.out, hty, Bool.true_and])
                have HCR := Lib.hid (refCrc_n (some (ad.add (a + 4))) (c - (a + 4)) (en - (a + 4)) sl (by rw [HSL.out]; have := HEN.out; omega) B w3 HB483.out.1 (by unfold maxLen; have := HEM.out; omega))
                rw [show ad.add (a + 4) = ⟨ad.block, ad.off + (a + 3 + 1), none⟩ from rfl] at HCR
                clear hty
                have hcl := crcOn_lt (show 0 < 4294967296 by omega) sl
                generalize crcOn 0 sl = cr at *
                go_wp2_with fail
                refine HLT.out.mono ?_
                rintro e w4 ⟨rfl, rfl⟩
                go_wp2_with fail
                refine HCR.out.mono ?_
                rintro e w5 ⟨rfl, rfl⟩
                by_cases hcr : sm = cr
                case neg =>
                  have HNO : Hid (firstOk (restC lb k) = false) := Lib.hid (by rw [HFO2.out]; exact decide_eq_false hcr)
                  have hc2 : ¬ (sm : Int) = (cr : Int) := by omega
                  clear hcr
                  go_wp2_with fail
                  go_ret2
                  exact (HSP.out _ _).2 ⟨HR3.out.bel, .inl ⟨rfl, HPN.out k HR3.out.no HNO.out⟩⟩
                case pos =>
                  have HYES : Hid (firstOk (restC lb k) = true) := Lib.hid (by rw [HFO2.out]; exact decide_eq_true hcr)
                  subst hcr
                  have HLN : Hid ((sl.drop 4).length = en - (a + 8)) := Lib.hid (by rw [List.length_drop, HSL.out]; have := HEN.out; omega)
                  obtain ⟨i0, hi, hz0, hz1, hz2⟩ := info_parts info_u8
                  have hem' : en + 4 ≤ m := HEM.out
                  have i6 : (a : Int) + 8 ≤ (en : Int) := by have := HEN.out; omega
                  have i7 : (a : Int) + 12 ≤ (c : Int) := by have := HEM.out; have := HEN.out; omega
                  have i8 : ¬ c = a + 8 := by omega
                  have HAL : Hid (Bs (w4.alloc (.cells #[] 5)) B (some (ad.add (a + 8))) (sl.drop 4)) := Lib.hid (HB483.out.2.below (((Upd.refl No w4).alloc _).fresh.mono (Nat.le_trans hB hsz3)))
                  rw [show ad.add (a + 8) = ⟨ad.block, ad.off + (a + 7 + 1), none⟩ from rfl] at HAL
                  generalize sl.drop 4 = dl at *
                  go_upto_region 13 with (fail)
                  go_wp2_with (first
                    | (at_builtin; refine wpList_append_run rfl (.tmp 82) (.tmp 92) _ rfl rfl rfl HRN.out ?_)
                    | (at_builtin; refine wpList_append_bs _ rfl (.tmp 84) (.tmp 89) _ rfl w4.heap.size 5 i0 Try.underlying22 hi hz0 hz1 hz2 (.slice (some ⟨w4.heap.size, 0, none⟩) 0 0) 0 [] rfl (World.ownsRow_made w4 #[] 0 (Nat.le_refl _) (by omega) rfl) B (some ⟨ad.block, ad.off + (a + 7 + 1), none⟩) (c - (a + 8)) (dl) (by rw [HLN.out]; rfl) HAL.out (by rw [HLN.out]; have := HEM.out; omega) (by simp) ?_; intro A6 c6 w6 hown6 hg6 hat6; simp only [Nat.zero_add, List.nil_append] at hown6 hat6 ⊢; have hb6 : Below w4.heap.size w4 w6 := ((Below.refl _ _).alloc (Nat.le_refl _) _).grown hg6 (by simp) (by simp [Value.ownBlock]); obtain ⟨A9, c9, w9, hrun, hrow9, hb9⟩ := row_step HR3.out.row hb6 hsz3 (D := A6) (dn := (dl).length) (dc := c6) (t := ty) (by rw [HDA.out]; exact own_low hown6 hsz3) HTE.out (by rw [HLN.out, HN0.out]; have := HEN.out; omega) (by have := HSHORT.out k HR3.out.no; omega); have HRN := Lib.hid hrun; have HRW := Lib.hid hrow9; have HB9 := Lib.hid (HR3.out.bel.trans hb9); have HBS9 := Lib.hid (HR3.out.bs.below (hb9.mono hB)); clear hrun hrow9 hb9 hown6 hg6 hat6 hb6))
                  · rename_i hx
                    have HSE : Hid (isE ty = (ty.toList == [73, 69, 78, 68])) := Lib.hid rfl
                    go_ret2
                    exact (HSP.out _ _).2 ⟨HB9.out, .inr ⟨k, A9, c9, rfl, (HPY.out k).2 ⟨HMK.out, HR3.out.no, HYES.out, by rw [← HTE.out, HSE.out]; simpa using hx⟩, HRW.out⟩⟩
                  · rename_i hx
                    have HSE : Hid (isE ty = (ty.toList == [73, 69, 78, 68])) := Lib.hid rfl
                    go_roundw
                    case rel =>
                      refine ⟨k + 1, en + 4, A9, c9, rfl, by go_num, hem', Lib.hid ⟨HB9.out, HRW.out, ?_, hem', fun j hj => ?_, HBS9.out⟩⟩
                      · have h1 := HR3.out.hat
                        have h2 := HEN.out
                        have h3 : be4 (lb.drop (offs lb k)) 0 = n := HN0.out
                        rw [offs, h3]
                        omega
                      · rcases Nat.lt_or_ge j k with h1 | h1
                        · exact HR3.out.no j h1
                        · obtain rfl : j = k := by omega
                          refine ⟨HYES.out, ?_⟩
                          rw [← HTE.out, HSE.out]
                          simpa using hx
                    case measure => simp [intOf]; omega
end Go.Proofs.Ytaloieeemibblaa
