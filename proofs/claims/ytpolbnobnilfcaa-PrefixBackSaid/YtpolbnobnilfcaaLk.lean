/- What is written by the codes is read by the decoder, symbol by symbol, in either order: for every list of lengths and every list of symbols. -/
import Derived.Test.YtpolbnobnilfcaaWk
import Derived.Test.YtpolbnobnilfcaaBm
import Derived.Test.YtpolbnobnilfcaaP
import Derived.Deep.CondSized
namespace Go.Proofs.Ytpolbnobnilfcaa
open Go.ChangeShapes Go.WideShapes Go.ChangeAt Go.RowKit
namespace PrefixBack

theorem own_own_ne {w : World} {b1 b2 : Nat} {e1 e2 : TypeId} {A1 A2 : Option Addr} {n1 c1 n2 c2 : Nat} {xs ys : List Value} (h1 : w.ownsRow b1 e1 1 (.slice A1 n1 c1) n1 xs) (h2 : w.ownsRow b2 e2 1 (.slice A2 n2 c2) n2 ys) (hne : e2 ≠ e1) (k : Nat) (hk : A1.map (·.block) = some k) : A2.map (·.block) ≠ some k := by
  rw [← own_block_sl A2 n2 c2]
  rcases h1.2 with ⟨e, _⟩ | ⟨g1, cap1, cur1, e, q1, q2, _⟩
  · injection e with e _ _; subst e; cases hk
  · injection e with e _ _
    subst e
    simp at hk
    subst hk
    exact own_blk_ne h2 q2 hne
/-- A writer holds just these bits. -/
def WrSt (base g : Nat) (high : Bool) (bs : List Bool) (wr : World) : Prop := ∃ A c l, Wraw wr base g A c l high bs.length ∧ Packed high bs l
/-- What stands in the round that writes: the writer, the symbols that were sent, and nothing else is touched. -/
def SendSt (w0 : World) (g : Nat) (high : Bool) (bs : List Bool) (As : Option Addr) (n cs : Nat) (S : List Nat) (wr : World) : Prop :=
  WrSt w0.heap.size g high bs wr ∧ wr.ownsRow w0.heap.size 3 1 (.slice As n cs) n (intsV (natsI S)) ∧ Below w0.heap.size w0 wr
theorem SendSt.put {w0 wr w' : World} {g : Nat} {high : Bool} {bs bs' : List Bool} {As A : Option Addr} {n cs : Nat} {S : List Nat} (hO : wr.ownsRow w0.heap.size 3 1 (.slice As n cs) n (intsV (natsI S))) (hB : Below w0.heap.size w0 wr)
    {c : Nat} {l : List UInt8} (hW : Wraw wr w0.heap.size g A c l high bs.length) (hP : PutAt wr w0.heap.size g A high bs' bs'.length w') : SendSt w0 g high bs' As n cs S w' := by
  obtain ⟨A1, c1, l1, h1, _, h2, hU, _⟩ := hP
  refine ⟨⟨A1, c1, l1, h1, h2⟩, row_keep hO hU (fun k hk e => ?_), hB.trans (hU.below hB.size (fun k hk e => ?_))⟩
  · rcases e with rfl | e
    · exact own_blk_ne hO hW.1 (by decide) (by rw [own_block_sl]; exact hk)
    · exact own_own_ne hO hW.2.1 (by decide) k hk e
  · rcases e with rfl | e
    · have := hW.2.2; omega
    · have := (row_lt hW.2.1 k e).1; omega
theorem SendSt.add {w0 wr w1 : World} {g : Nat} {high : Bool} {bs : List Bool} {As A1 : Option Addr} {n cs c1 : Nat} {S : List Nat} {s : Nat} (h : SendSt w0 g high bs As n cs S wr)
    (hO : w1.ownsRow w0.heap.size 3 1 (.slice A1 (n + 1) c1) (n + 1) (intsV (natsI S) ++ [.int .i64 (s : Int)])) (hg : (wr.alloc (.cells #[.int .i64 (s : Int)] 3)).grownBy w1 (Value.slice As n cs).ownBlock) : SendSt w0 g high bs A1 (n + 1) c1 (S ++ [s]) w1 := by
  obtain ⟨⟨A, c, l, hW, hP⟩, hO0, hB⟩ := h
  have hu := Upd.of_grown hg
  have hu2 : Upd (fun k => As.map (·.block) = some k) wr w1 := ((Upd.refl _ wr).alloc _).trans (hu.mono (fun k _ e => by rw [← own_block_sl As n cs]; exact e.symm))
  refine ⟨⟨A, c, l, hW.upd hu2 (fun e => ?_) (fun k hk e => ?_), hP⟩, ?_, hB.trans (hu2.below hB.size (fun k hk e => ?_))⟩
  · exact own_blk_ne hO0 hW.1 (by decide) (by rw [own_block_sl]; exact e)
  · exact own_own_ne hO0 hW.2.1 (by decide) k e (by rw [← own_block_sl A l.length c]; exact hk)
  · rw [natsI_append, intsV_append]
    exact hO
  · have := (row_lt hO0 k e).1; omega
theorem SendSt.read {w0 wr w' : World} {g gr : Nat} {high : Bool} {bs : List Bool} {As : Option Addr} {n cs : Nat} {S : List Nat} {x : Array Value} (h : SendSt w0 g high bs As n cs S wr) (hB : Blk wr gr 79 x) (hg : w0.heap.size ≤ gr) (u : Upd (· = gr) wr w') : SendSt w0 g high bs As n cs S w' := by
  obtain ⟨⟨A, c, l, hW, hP⟩, hO, hK⟩ := h
  refine ⟨⟨A, c, l, hW.upd u (Blk.ne_ hW.1 hB (by decide)) (fun k hk e => ?_), hP⟩, own_upd hO u (fun k hk e => ?_), hK.trans (u.below hK.size (fun k hk e => by omega))⟩
  · subst e; exact own_blk_ne hW.2.1 hB (by decide) hk
  · subst e; exact own_blk_ne hO hB (by decide) hk
theorem row_at' {w : World} {base : Nat} {e : TypeId} {A : Option Addr} {n c : Nat} {l : List Int} (h : w.ownsRow base e 1 (.slice A n c) n (intsV l)) (k : Nat) (hk : k < l.length) : ∀ g, A = some ⟨g, 0, none⟩ → w.cell? ⟨g, k, none⟩ = some (.int .i64 l[k]) := fun g e => by
  subst e
  exact row_at h k hk
theorem sym_of (x : Int) (n : Nat) (h1 : 0 < n) (h2 : n ≤ 17592186043904) : ∃ s : Nat, s < n ∧ wrap64 ((IntKind.u64.wrap x).tmod (n : Int)) = (s : Int) := by
  have h0 : 0 ≤ IntKind.u64.wrap x := by
    have : IntKind.u64.wrap x = x % 18446744073709551616 := by simp [IntKind.wrap, IntKind.bits, IntKind.signed]
    rw [this]
    exact Int.emod_nonneg _ (by omega)
  have h4 := Int.emod_nonneg (IntKind.u64.wrap x) (show (n : Int) ≠ 0 by omega)
  have h5 := Int.emod_lt_of_pos (IntKind.u64.wrap x) (show (0 : Int) < n by omega)
  refine ⟨((IntKind.u64.wrap x) % (n : Int)).toNat, by omega, ?_⟩
  rw [Int.tmod_eq_emod_of_nonneg h0, IntWalk.wrap64_in _ (by omega)]
  omega
theorem div_cast (v q : Nat) : (v : Int) / 2 ^ q = ((v / 2 ^ q : Nat) : Int) := by simp

set_option maxHeartbeats 4000000 in
set_option maxRecDepth 100000 in
theorem walk (A : Option Addr) (c : Nat) (l : List Int) (A1 : Option Addr) (c1 : Nat) (sy : List Int) (high : Bool) (w : World) (hbs : Is w w.heap.size A l) (_ : ∀ x ∈ l, -9223372036854775808 ≤ x ∧ x ≤ 9223372036854775807) (hl : l.length ≤ 17592186043904)
    (hss : Is w w.heap.size A1 sy) (hks : ∀ x ∈ sy, -9223372036854775808 ≤ x ∧ x ≤ 9223372036854775807) (hsl : sy.length ≤ 17592186043904) :
    Calls Try.prog 6 #[.slice A l.length c, .slice A1 sy.length c1, .bool high] w fun e w' => e = .returned (.bool true) ∧ Below w.heap.size w w' := by
  obtain ⟨i0, hi, hz0, hz1, hz2⟩ := info_parts info_int
  have HKS := Lib.hid hks; clear hks
  go_enter Try.func6, Try.ntmps6
  go_wp2_with fail
  refine (wakes_any w).mono ?_
  rintro e w1 ⟨rfl, hb1⟩
  go_wp2_with fail
  refine (ownI_n A c l.length l rfl _ w1 (Vs.below hbs hb1) hb1.size (by omega)).mono ?_
  rintro e w2 ⟨A2, c2, rfl, o2, hb2⟩
  have k2 := hb1.trans (hb2.mono hb1.size)
  go_wp2_with fail
  refine (codes_any A2 c2 l w2 (Vs.of_own o2) (by omega)).mono ?_
  rintro e w3 ⟨A3, n3, c3, rfl, o3, hb3⟩
  have k3 := k2.trans (hb3.mono k2.size)
  go_wp2_with fail
  refine (ownI_n A c l.length l rfl _ w3 (Vs.below hbs k3) k3.size (by omega)).mono ?_
  rintro e w4 ⟨A4, c4, rfl, o4, hb4⟩
  have k4 := k3.trans (hb4.mono k3.size)
  go_wp2_with fail
  refine (new_any A4 c4 l w4 (Vs.of_own o4) (by omega)).mono ?_
  intro e w5 hN
  unfold NewRes at hN
  have d0 : (codesErr l != codesErr l) = false := by simp
  by_cases h0 : codesErr l = 0
  · rw [if_pos h0] at hN
    obtain ⟨gd, rfl, hd5, hb5⟩ := hN
    have k5 := k4.trans (hb5.mono k4.size)
    rcases Nat.eq_zero_or_pos l.length with hl0 | hl0
    · have HK5 := Lib.hid k5
      rw [h0]
      have d1 : ((l.length : Int) == 0) = true := by rw [beq_iff_eq]; omega
      clear hb1 hb2 hb3 hb4 hb5 k2 k3 k4 k5 h0 hl0
      go_wp2_with fail
      go_ret
      exact ⟨rfl, HK5.out⟩
    · have hca : codesAns l = codesL l := by unfold codesAns; rw [if_pos h0]
      have hn3 := own_len o3
      rw [u32V_length] at hn3
      rw [hca] at o3 hn3
      rw [codesL_length] at hn3
      subst hn3
      obtain ⟨hre, hro⟩ := codesErr_zero h0
      obtain ⟨hl4, hg⟩ := roomErr_zero hre
      rw [h0]
      have d1 : ((l.length : Int) == 0) = false := by rw [beq_eq_false_iff_ne]; omega
      have d2 : ((l.length : Int) != (l.length : Int)) = false := by simp
      have v3 : Vs w5 w3.heap.size A3 (u32V (codesL l)) := Vs.below (Vs.below (Vs.of_own o3) hb4) (hb5.mono hb4.size)
      have HG := Lib.hid hg; clear hg
      have HRO := Lib.hid hro; clear hro
      have HK5 := Lib.hid k5
      have hk5 := k5.size
      have HD5 := Lib.hid hd5; clear hd5
      have z5 : w3.heap.size ≤ w5.heap.size := Nat.le_trans hb4.size hb5.size
      clear hb1 hb2 hb3 hb4 hb5 k2 k3 k4 o2 o3 o4 h0 hca hre d0
      go_wp2_with fail
      refine (newWriter_any high w5).mono ?_
      rintro e w6 ⟨gw, rfl, hW6, hb6, hgw⟩
      have hS0 : SendSt w5 gw high (sentBits l []) none 0 0 [] w6 := ⟨⟨_, _, _, hW6, packed_nil high⟩, World.ownsRow_nil _ _ _ _, hb6⟩
      have HS0 := Lib.hid hS0
      clear hW6 hb6 hS0 k5
      go_wp2_with fail
      go_loopw [12, 60] (fun v i wr => ∃ (k : Nat) (S : List Nat) (As : Option Addr) (N cs : Nat), k ≤ sy.length ∧ i = .int .i64 (k : Int) ∧ v = .slice As N cs ∧ N ≤ k ∧ Hid (N = S.length) ∧ Hid (∀ s ∈ S, s < l.length ∧ 0 < lenAt l s) ∧ Hid (SendSt w5 gw high (sentBits l S) As N cs S wr)) (fun _ i _ => sy.length - (intOf i).toNat)
      case atStart => exact ⟨0, [], none, 0, 0, by omega, rfl, rfl, by omega, Lib.hid rfl, Lib.hid (by simp), HS0⟩
      case round =>
        obtain ⟨k, S, As, N, cs, hk, rfl, rfl, hNk, HN, HSA, HS⟩ := hrel
        by_cases hlt : k < sy.length
        · obtain ⟨ads, rfl, hads, hcs⟩ := Is.at_ (Vs.below hss (HK5.out.trans (HS.out.2.2.mono HK5.out.size))) hlt
          obtain ⟨s, hs, hsx⟩ := sym_of sy[k] l.length hl0 hl
          obtain ⟨adl, rfl, hadl, hcl⟩ := Is.at_ (Vs.below hbs (HK5.out.trans (HS.out.2.2.mono HK5.out.size))) hs
          have hgl := good_len l HG.out s hs
          have hla := lenAt_get l s hs
          obtain ⟨n, hn⟩ : ∃ n : Nat, l[s] = (n : Int) := ⟨l[s].toNat, by omega⟩
          rw [hn] at hcl hgl hla
          have HLA := Lib.hid hla; clear hla
          clear hn
          rcases Nat.eq_zero_or_pos n with hn0 | hn0
          · subst hn0
            clear hgl
            go_wp2_with fail
            go_roundw
            case rel => exact ⟨k + 1, S, As, N, cs, by omega, by go_num, rfl, by omega, HN, HSA, HS⟩
            case measure => simp [intOf]; omega
          · have d3 : ((n : Int) == 0) = false := by rw [beq_eq_false_iff_ne]; omega
            have hOs := HS.out.2.1
            have hsw := HS.out.2.2.size
            go_wp2_with (at_builtin; refine wpList_append_vs _ rfl (.tmp 78) (.tmp 80) _ rfl w5.heap.size 3 i0 (.int .i64 0) 8 Try.underlying22 hi hz0 hz1 hz2 rfl (.slice As N cs) N (intsV (natsI S)) rfl (hOs.alloc _) (wr.heap.size + 1) (some ⟨wr.heap.size, 0, none⟩) 1 1 [.int .i64 (s : Int)] rfl rfl (vs_lit wr 3 [.int .i64 (s : Int)] _ (by omega)) (by simp [Value.oneCell']) (by unfold maxLen; omega) (by omega) (by simp; omega) ?_; intro A9 c9 w9 o9 hg9 _; have HS9 := Lib.hid (SendSt.add HS.out o9 hg9); have hcl9 := (HS9.out.2.2.cell (p := adl.add s) (by rw [block_of_add]; omega)).trans ((HS.out.2.2.cell (p := adl.add s) (by rw [block_of_add]; omega)).symm.trans hcl))
            have v9 := Vs.below v3 (HS9.out.2.2.mono z5)
            obtain ⟨ad3, rfl, hc3⟩ := u32_at v9 s (by rw [codesL_length]; exact hs)
            have hcg := codesL_get l s hs
            rw [if_pos (by rw [HLA.out]; omega), List.getElem?_eq_getElem (by rw [codesL_length]; exact hs)] at hcg
            have hcg2 := Option.some.inj hcg
            rw [hcg2] at hc3
            have hclt : codeAt l s < 4294967296 := by
              have h2 := codeAt_lt n s hs (by rw [← lenAt_get l s hs]; exact HLA.out) (by omega)
              have h3 := endN_bd l HRO.out n (by omega)
              omega
            obtain ⟨ci, hci⟩ : ∃ ci, codeAt l s = ci := ⟨_, rfl⟩
            rw [hci] at hc3 hclt
            have HCI := Lib.hid hci; clear hci
            have had3 : ad3.block < w5.heap.size := by
              obtain ⟨ad, e, h1, _⟩ := Vs.at_ (k := s) v3 (by rw [u32V_length, codesL_length]; exact hs)
              injection e with e
              subst e
              omega
            have hc35 : w5.cell? (ad3.add s) = some (.int .u32 (ci : Int)) := (HS9.out.2.2.cell (p := ad3.add s) (by rw [block_of_add]; exact had3)).symm.trans hc3
            clear o9 hg9 hOs hcs hcl hsx hcl9 hcg hcg2 v9 hc3
            go_loopw [15] (fun v wx => ∃ z : Int, -1 ≤ z ∧ z < n ∧ v = .int .i64 z ∧ Hid (SendSt w5 gw high (sentBits l S ++ (codeBits l s).take ((n : Int) - 1 - z).toNat) A9 (N + 1) c9 (S ++ [s]) wx)) (fun v _ => (intOf v + 1).toNat)
            case atStart => exact ⟨(n : Int) - 1, by omega, by omega, rfl, Lib.hid (by rw [show ((n : Int) - 1 - ((n : Int) - 1)).toNat = 0 by omega, List.take_zero, List.append_nil]; exact HS9.out)⟩
            case round =>
              obtain ⟨z, hz1', hz2', rfl, HSx⟩ := hrel
              by_cases hz : z = -1
              · subst hz
                have HSN : Hid (SendSt w5 gw high (sentBits l (S ++ [s])) A9 (N + 1) c9 (S ++ [s]) wr) := Lib.hid (by
                  have h := HSx.out
                  rw [show ((n : Int) - 1 - -1).toNat = n by omega, List.take_of_length_le (by rw [codeBits_length, HLA.out]; omega), ← sentBits_snoc] at h
                  exact h)
                have HSB : Hid (∀ x ∈ S ++ [s], x < l.length ∧ 0 < lenAt l x) := Lib.hid (fun x hx => by
                  rcases List.mem_append.mp hx with h | h
                  · exact HSA.out x h
                  · obtain rfl : x = s := by simpa using h
                    exact ⟨hs, by rw [HLA.out]; omega⟩)
                go_wp2_with fail
                go_roundw
                case rel => exact ⟨k + 1, S ++ [s], A9, N + 1, c9, by omega, by go_num, rfl, by omega, Lib.hid (by rw [List.length_append, ← HN.out]; rfl), HSB, HSN⟩
                case measure => simp [intOf]; omega
              · obtain ⟨q, rfl⟩ : ∃ q : Nat, z = (q : Int) := ⟨z.toNat, by omega⟩
                have hcx : wr.cell? (ad3.add s) = some (.int .u32 (ci : Int)) := (HSx.out.2.2.cell (p := ad3.add s) (by rw [block_of_add]; exact had3)).trans hc35
                clear hz
                have hst := HSx.out
                obtain ⟨⟨Aw, cw, lw, hW, hPk⟩, hOw, hBw⟩ := hst
                have hlen : (sentBits l S ++ (codeBits l s).take ((n : Int) - 1 - (q : Int)).toNat).length ≤ 16 * 17592186043904 := by
                  have h1 := sentBits_le l HG.out S (fun x hx => (HSA.out x hx).1)
                  have h2 := HN.out
                  rw [List.length_append, List.length_take, codeBits_length, HLA.out]
                  omega
                have hpt := put_any wr w5.heap.size gw Aw cw lw high (sentBits l S ++ (codeBits l s).take ((n : Int) - 1 - (q : Int)).toNat) (ci / 2 ^ q) 1 hW hPk (Nat.lt_of_le_of_lt (Nat.div_le_self _ _) hclt) (by omega) (by omega) hBw.size
                rw [show ((1 : Nat) : Int) = 1 from rfl] at hpt
                have HPT := Lib.hid hpt; clear hpt
                have HW := Lib.hid hW; clear hW
                have HOw := Lib.hid hOw; clear hOw
                have HBw := Lib.hid hBw; clear hBw
                clear hPk
                go_wp2_with fail
                rw [div_cast]
                refine HPT.out.mono ?_
                rintro e wp ⟨rfl, hPA⟩
                have HSN : Hid (SendSt w5 gw high (sentBits l S ++ (codeBits l s).take ((n : Int) - 1 - ((q : Int) - 1)).toNat) A9 (N + 1) c9 (S ++ [s]) wp) := Lib.hid (by
                  have e1 : (sentBits l S ++ (codeBits l s).take ((n : Int) - 1 - (q : Int)).toNat) ++ bitsOf high (ci / 2 ^ q) 1 = sentBits l S ++ (codeBits l s).take ((n : Int) - 1 - ((q : Int) - 1)).toNat := by
                    have h := code_bit high (codeAt l s) n q (by omega)
                    unfold codeBits
                    rw [HLA.out, Int.toNat_natCast, List.append_assoc, show ((n : Int) - 1 - (q : Int)).toNat = n - 1 - q by omega, ← HCI.out, h, show ((n : Int) - 1 - ((q : Int) - 1)).toNat = n - q by omega]
                  have e2 : ((sentBits l S ++ (codeBits l s).take ((n : Int) - 1 - (q : Int)).toNat) ++ bitsOf high (ci / 2 ^ q) 1).length = (sentBits l S ++ (codeBits l s).take ((n : Int) - 1 - (q : Int)).toNat).length + 1 := by
                    rw [List.length_append (bs := bitsOf high (ci / 2 ^ q) 1), bitsOf_length]
                  rw [← e2] at hPA
                  rw [← e1]
                  exact SendSt.put HOw.out HBw.out HW.out hPA)
                clear hPA HW HOw HBw HPT
                go_wp2_with fail
                go_roundw
                case rel => exact ⟨(q : Int) - 1, by omega, by omega, rfl, HSN⟩
                case measure => simp [intOf]
        · obtain ⟨w7, rfl⟩ : ∃ w7 : World, w7 = wr := ⟨_, rfl⟩
          obtain ⟨⟨Aw, cw, lw, hW, hPk⟩, hOw, hBw⟩ := HS.out
          have hlen : (sentBits l S).length ≤ 16 * 17592186043904 := by
            have h1 := sentBits_le l HG.out S (fun x hx => (HSA.out x hx).1)
            have h2 := HN.out
            omega
          have hlw := hPk.1
          have HWB := Lib.hid (wbytes_any w7 w5.heap.size gw Aw cw lw high (sentBits l S).length hW (by omega))
          have hlw2 : lw.length ≤ 140737488355328 := by omega
          have HPK := Lib.hid hPk
          have HLW := Lib.hid hlw
          have HBw := Lib.hid hBw
          clear hW hPk hOw hBw hlw
          go_wp2_with fail
          refine HWB.out.mono ?_
          rintro e w8 ⟨A8, c8, rfl, o8, hb8⟩
          go_wp2_with fail
          refine (newReader_any A8 c8 lw high w8.heap.size w8 (Bs.of_own (own_from o8 (Nat.zero_le _))) (Nat.le_refl _) hlw2).mono ?_
          rintro e w9 ⟨gr, Ar, cr, rfl, hR9, hb9⟩
          have hb79 := hb8.trans (hb9.mono hb8.size)
          have hgr : w5.heap.size ≤ gr := by
            have h1 := hR9.2.2.1
            have h2 := hb8.size
            have h3 := HBw.out.size
            omega
          have HS9 : Hid (SendSt w5 gw high (sentBits l S) As N cs S w9) := Lib.hid (by
            obtain ⟨⟨A, c, l, h1, h2⟩, h3, h4⟩ := HS.out
            exact ⟨⟨A, c, l, h1.upd (Upd.of_fresh hb79) id (fun _ _ => id), h2⟩, own_upd h3 (Upd.of_fresh hb79) (fun _ _ => id), h4.trans (hb79.mono h4.size)⟩)
          have HD9 : Hid (DecAt w9 w4.heap.size gd l) := Lib.hid (HD5.out.upd (Upd.of_fresh HS9.out.2.2) (fun _ _ _ => id))
          have HR9 := Lib.hid hR9; clear hR9
          clear o8 hb8 hb9 hb79 HWB HS HBw
          have hN2 : N ≤ 17592186043904 := by omega
          go_wp2_with fail
          go_loopw [107] (fun i wx => ∃ k : Nat, k ≤ N ∧ i = .int .i64 (k : Int) ∧ Hid (Rdr wx w8.heap.size gr Ar cr lw high (sentBits l (S.take k)).length) ∧ Hid (DecAt wx w4.heap.size gd l) ∧ Hid (SendSt w5 gw high (sentBits l S) As N cs S wx)) (fun i _ => N - (intOf i).toNat)
          case atStart => exact ⟨0, by omega, rfl, HR9, HD9, HS9⟩
          case round =>
            obtain ⟨j, hj, rfl, HR, HD, HSj⟩ := hrel
            by_cases hjn : j < N
            · have hjS : j < S.length := by rw [← HN.out]; exact hjn
              obtain ⟨e1, e2, e3⟩ := sent_read l HG.out HRO.out S HSA.out high lw HPK.out j hjS
              have hn1 := next_any wr _ gd l HD.out HG.out hl4 HRO.out _ gr Ar cr lw high _ HR.out
              rw [e1] at hn1
              have HN1 := Lib.hid hn1; clear hn1
              have HE2 := Lib.hid e2
              clear e1 e2 e3
              obtain ⟨gs, rfl, hNc, hNm, _, _⟩ := row_form HSj.out.2.1 (by omega)
              obtain ⟨z, hz⟩ : ∃ z, S[j] = z := ⟨_, rfl⟩
              rw [hz] at HN1 HE2
              have HZ := Lib.hid hz; clear hz
              have d5 : ((z : Int) != (z : Int)) = false := by simp
              unfold maxLen at hNm
              go_wp2_with fail
              refine HN1.out.mono ?_
              intro e wn hP
              obtain ⟨he, hRn, hUn⟩ := hP
              obtain rfl : e = .returned (.tuple #[.int .i64 (z : Int), .int .i64 0]) := he
              have HSn : Hid (SendSt w5 gw high (sentBits l S) (some ⟨gs, 0, none⟩) N cs S wn) := Lib.hid (SendSt.read HSj.out HR.out.1 (by have := HR.out.1.lt; omega) hUn)
              have HDn : Hid (DecAt wn w4.heap.size gd l) := Lib.hid (HD.out.other HR.out.1 (by decide) (by decide) hUn)
              have HRn : Hid (Rdr wn w8.heap.size gr Ar cr lw high (sentBits l (S.take (j + 1))).length) := Lib.hid (by rw [← HE2.out]; exact hRn)
              have hcs := row_at' HSn.out.2.1 j (by rw [natsI_length]; exact hjS) gs rfl
              rw [natsI_get S j hjS, HZ.out] at hcs
              clear hRn hUn HN1 HSj HD HR
              go_wp2_with fail
              go_roundw
              case rel => exact ⟨j + 1, by omega, by go_num, HRn, HDn, HSn⟩
              case measure => simp [intOf]; omega
            · obtain rfl : j = N := by omega
              have hR := HR.out
              rw [HN.out, List.take_of_length_le (Nat.le_refl _)] at hR
              obtain ⟨⟨A, c, l9, hW9, _⟩, _, _⟩ := HSj.out
              have d5 : (((sentBits l S).length : Int) == ((sentBits l S).length : Int)) = true := by simp
              have HPL := Lib.hid (place_any _ _ _ _ _ _ _ _ hR)
              have HWL := Lib.hid (wlen_any _ _ _ _ _ _ _ _ hW9)
              clear hR hW9
              go_wp2_with fail
              refine HPL.out.mono ?_
              rintro e wq ⟨rfl, rfl⟩
              go_wp2_with fail
              refine HWL.out.mono ?_
              rintro e wq ⟨rfl, rfl⟩
              go_wp2_with fail
              go_ret
              exact ⟨rfl, HK5.out.trans (HSj.out.2.2.mono HK5.out.size)⟩
  · rw [if_neg h0] at hN
    obtain ⟨rfl, hb5⟩ := hN
    have HK5 := Lib.hid (k4.trans (hb5.mono k4.size))
    have d1 : (codesErr l != 0) = true := by simp [h0]
    clear hb1 hb2 hb3 hb4 hb5 k2 k3 k4 h0
    go_wp2_with fail
    go_ret
    exact ⟨rfl, HK5.out⟩

set_option maxRecDepth 100000 in
theorem lifted (os : Os) (started : os.Started) (H : Type) (enc : TypeId × Value → H) :
    ReturnsInHanded {} Try.checked os 6 .any (Rows.prefixBackSpec.pre6 enc Try.prog Try.f6 Rows.prefixBackRow.domain false) (Rows.prefixBackSpec.post enc Try.prog Try.f6 false true false false) := by
  refine returnsInHanded_of_change_sized (C := Try.checked) prog_own started (by kernel_rfl) Try.func6
    (ChangeSpec.witness6 (enc := enc) (C := Try.checked) false ⟨#[], #[.slice none 0 0, .slice none 0 0, .bool false], []⟩ 8 (by kernel_rfl) (by kernel_rfl) (by kernel_rfl) (by kernel_rfl)) ?_
  intro W base args ds gs before hval0 hW hcnd hsz _
  have hval : ∀ (j : Nat) t v, Try.f6.params[j]? = some t → args[j]? = some v → Value.okWide Try.prog W .any base t v := hval0
  have hW' := hW
  obtain ⟨p, q, hA0, hV, rfl, hfz, hnd⟩ := hW
  have hA : DataW.TrodAll enc Try.prog W 0 (fun _ => true) true Try.f6.params.toList args.toList ds p := hA0
  rw [Try.params6] at hA hval
  obtain ⟨v0, vs0, d0, ds0, p0, q0, hargs, rfl, rfl, h0, r0⟩ := trodAll_cons hA
  obtain ⟨v1, vs1, d1, ds1, p1, q1, rfl, rfl, rfl, h1, r1⟩ := trodAll_cons r0
  obtain ⟨v2, vs2, d2, ds2, p2, q2, rfl, rfl, rfl, h2, r2⟩ := trodAll_cons r1
  obtain ⟨rfl, rfl, rfl⟩ := trodAll_nil r2
  obtain rfl : args = #[v0, v1, v2] := by cases args; simp_all
  obtain ⟨rfl, rfl⟩ := trodVars_none hV
  obtain ⟨A0, l0, c0, rfl, hb0, hk0, hd0⟩ := open_numbers (hval 0 22 v0 rfl rfl) h0
  obtain ⟨A1, l1, c1, rfl, hb1, hk1, hd1⟩ := open_numbers (hval 1 22 v1 rfl rfl) h1
  obtain ⟨a2, rfl, rfl, rfl⟩ := open_bool Try.underlying4 (hval 2 4 v2 rfl rfl) h2
  have hl0 : l0.length ≤ 17592186043904 := by
    rcases hd0 with ⟨_, rfl⟩ | ⟨e, s, rfl, hle⟩
    · simp
    · have this : (e.length + s.length) * Try.prog.bytesOf 3 ≤ reachBytes := sized_slice hsz (j := 0) (t := 22) (e := 3) rfl rfl Try.underlying22
      rw [bytes_int] at this
      unfold reachBytes at this
      omega
  have hl1 : l1.length ≤ 17592186043904 := by
    rcases hd1 with ⟨_, rfl⟩ | ⟨e, s, rfl, hle⟩
    · simp
    · have this : (e.length + s.length) * Try.prog.bytesOf 3 ≤ reachBytes := sized_slice hsz (j := 1) (t := 22) (e := 3) rfl rfl Try.underlying22
      rw [bytes_int] at this
      unfold reachBytes at this
      omega
  have lt0 : ∀ x ∈ p0, x.block < W.heap.size := by obtain ⟨m, hm⟩ := h0; exact DataW.trod_lt m _ _ _ hm
  have lt1 : ∀ x ∈ p1, x.block < W.heap.size := by obtain ⟨m, hm⟩ := h1; exact DataW.trod_lt m _ _ _ hm
  clear hA0 hval0
  refine (walk A0 c0 l0 A1 c1 l1 a2 W hb0 hk0 hl0 hb1 hk1 hl1).mono fun e W' ⟨he, bel⟩ => ?_
  subst he
  exact ⟨_, rfl, _, _, _, [], _, [], hW', trodAll_mk1 (shut_bool Try.underlying4 _), (trodAll_cons_mk (Below.trod prog_laid (by kernel_rfl) (of_decide_eq_true (by kernel_rfl)) h0 bel lt0) (trodAll_cons_mk (Below.trod prog_laid (by kernel_rfl) (of_decide_eq_true (by kernel_rfl)) h1 bel lt1) (trodAll_cons_mk (shut_bool Try.underlying4 _) trodAll_mk0))), rfl, bel.frame _, fun h => by cases h⟩

theorem over : Rows.prefixBackRow.holds Try.pinned (OpenSpec.ofChange Rows.prefixBackSpec) :=
  OpenClaim.holds_of_wide 6 Try.f6 rfl rfl rfl rfl rfl rfl rfl ⟨rfl, rfl, rfl, rfl, rfl⟩ rfl rfl rfl rfl rfl (by kernel_rfl) Try.func6 (by kernel_rfl)
    (of_decide_eq_true (by kernel_rfl)) (by unfold Func.isWrapper; first | (rw [if_pos (by decide +kernel)]; kernel_rfl) | (rw [if_neg (by decide +kernel)]; exact ⟨rfl, rfl⟩))
    (fun os started H enc _ => lifted os started H enc)
end PrefixBack

theorem prefixBack_holds : Rows.PrefixBackSaid := PrefixBack.over
#print axioms prefixBack_holds
end Go.Proofs.Ytpolbnobnilfcaa
