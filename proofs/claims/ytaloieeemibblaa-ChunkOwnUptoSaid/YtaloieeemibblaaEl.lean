/- The program's Filter, walked. -/
import Derived.Test.YtaloieeemibblaaEk
set_option linter.unusedVariables false
set_option linter.unusedSimpArgs false
namespace Go.Proofs.Ytaloieeemibblaa
open Go.ChangeShapes Go.WideShapes Go.ChangeAt Go.RowKit Go.Shelf
attribute [local go_sem] Oper.semAt_some

theorem FiS.step {w : World} {o a bc W bpp kind m c B k : Nat} {A : Option Addr} {lb L : List UInt8} {V : World} (h : FiS w o a bc W bpp kind m c A B lb L k V) {adp : Addr} (hp : Bs V B (some adp) (pcF W lb k)) (hb : adp.block < B) :
    (∃ Aa ca, V.cell? ⟨a, 0, none⟩ = some (.slice Aa W ca)) ∧ V.frozen? ⟨a, 0, none⟩ = false ∧ KeepsOthers V (V.setCell ⟨a, 0, none⟩ (.slice (some adp) W W)) ∧ FiS w o a bc W bpp kind m c A B lb L (k + 1) (V.setCell ⟨a, 0, none⟩ (.slice (some adp) W W)) := by
  obtain ⟨lt1, lt2, lt3⟩ := h.lt
  obtain ⟨Ao, co, h1, h2, Aa, ca, h3, h4, h5⟩ := h.row
  have hV := h.bel.size
  have hB := h.hB
  have us := (Upd.refl (· = a) V).setCell (p := ⟨a, 0, none⟩) (fun _ => rfl) (.slice (some adp) W W)
  have hub : Below w.heap.size V (V.setCell ⟨a, 0, none⟩ (.slice (some adp) W W)) := us.below hV (fun j hj e => by omega)
  refine ⟨⟨Aa, ca, h3.cell 0⟩, h3.frozen 0, KeepsOthers.setCell _ _ _, h.hb.upd us (by omega), h.hk.upd us (by omega), ⟨Ao, co, h1.upd us (by omega), own_upd h2 us (fun j hj e => own_blk_ne h2 h3 (by decide) (by rw [← e]; exact hj)), some adp, W, by simpa using h3.set_ 0 (.slice (some adp) W W), ?_, ?_⟩,
    h.cb.upd us (by omega), h.ci.upd us (by omega), h.bs.below (hub.mono hB), hB, h.bel.trans hub, h.lt⟩
  · exact (hp.below (hub.mono hB)).more (Nat.le_trans hB (Nat.le_trans hV hub.size))
  · intro ad e
    injection e with e
    subst e
    refine ⟨by have := hub.size; omega, by omega, fun he => ?_⟩
    have := (h2.lt _ he).1
    omega
set_option maxRecDepth 100000 in
set_option maxHeartbeats 8000000 in
theorem filt_rows (W bpp kind N m c : Nat) (A : Option Addr) (ad : Addr) (hA : 0 < N → A = some ad) (lb : List UInt8) (hW1 : 1 ≤ W) (hW : W ≤ 1048576) (hb1 : 1 ≤ bpp) (hb8 : bpp ≤ 8) (hk4 : kind ≤ 4) (hm : lb.length = m) (hN : W * N = m) (hmc : m ≤ c) (hcb : c ≤ maxLen) (hmb : m ≤ 140737488355328) (hob : (W + 1) * N ≤ 140737488355328) (B : Nat) (w : World) (hbs : Bs w B A lb) (hB : B ≤ w.heap.size) :
    Calls Try.prog 19 #[.slice A m c, .int .i64 (W : Nat), .int .i64 (bpp : Nat), .int .i64 (kind : Nat)] w fun e w' => Below w.heap.size w w' ∧
      ∃ A' c', e = .returned (.tuple #[.slice A' ((W + 1) * N) c', .int .i64 0]) ∧ w'.ownsRow w.heap.size 5 1 (.slice A' ((W + 1) * N) c') ((W + 1) * N) (bytesV (outF kind W bpp lb N)) := by
  have HLB := Lib.hid hm; have HN := Lib.hid hN; have HOB := Lib.hid hob
  obtain ⟨i0, hti, hz0, hz1, hz2⟩ := info_parts info_u8
  have hmix : Try.prog.follows .mixedOrders = true := by kernel_rfl
  obtain ⟨bel, hsz, k0, k1⟩ := boxes2 w #[.int .i64 (bpp : Nat)] #[.int .i64 (kind : Nat)] 3 3
  have hrem2 : ((m : Int) % (W : Int)) = 0 := by
    rw [← hN, Int.natCast_mul]
    exact Int.mul_emod_right _ _
  clear hm hN hob
  have hbs1 := hbs.below (bel.mono hB)
  have i1 : ¬ ((kind : Int) < 0) := by omega
  have i2 : ¬ ((4 : Int) < (kind : Int)) := by omega
  have hkl : kind < 256 := by omega
  refine (callsIn_wide (n := 3)).1 ?_
  refine callsIn_of_wp_marks Try.func19 rfl trivial ?_ rfl
  simp only [Try.ntmps19, List.size_toArray, List.length_cons, List.length_nil, Nat.reduceAdd, Nat.reduceSub, Array.replicate_succ, Array.replicate_zero, List.push_toArray, List.append_toArray, List.nil_append, List.cons_append]
  refine wpIn_wide.2 ?_
  go_upto_region 1 with (fail)
  generalize (w.alloc (.cells #[.int .i64 (bpp : Nat)] 3)).alloc (.cells #[.int .i64 (kind : Nat)] 3) = w1 at *
  have HK := Lib.hid (And.intro k0 k1); have HBel := Lib.hid bel; have HBs := Lib.hid hbs1
  have c0 : w1.cell? ⟨w.heap.size, 0, none⟩ = some (.int .i64 (bpp : Nat)) := k0.cell 0
  have c1 : w1.cell? ⟨w.heap.size + 1, 0, none⟩ = some (.int .i64 (kind : Nat)) := k1.cell 0
  have hmay : mayC (W : Int) (bpp : Int) = true := by simp [mayC]; omega
  have HMB := Lib.hid (mayBe_any (W : Int) (bpp : Int) w1)
  rw [hmay] at HMB
  clear k0 k1 bel hbs1 hmay hbs
  go_wp2_with fail
  refine HMB.out.mono ?_
  rintro e w2 ⟨rfl, rfl⟩
  clear HMB
  go_upto_region 4 with (fail)
  have hs2 := HBel.out.size
  have bo := Blk.new w2 22 #[.slice none 0 0]
  have u3 := (Upd.refl No w2).alloc (.cells #[.slice none 0 0] 22)
  have hs3 : w.heap.size + 1 + 1 < (w2.alloc (.cells #[.slice none 0 0] 22)).heap.size := by rw [World.size_alloc, hsz]; omega
  rw [hsz] at bo
  have HK3 := Lib.hid (And.intro (HK.out.1.upd u3 id) (And.intro (HK.out.2.upd u3 id) bo))
  have HBel3 := Lib.hid (HBel.out.trans (u3.fresh.mono hs2)); have HBs3 := Lib.hid (HBs.out.below (u3.fresh.mono (by omega)))
  generalize w2.alloc (.cells #[.slice none 0 0] 22) = w3 at *
  clear bo u3 HK HBel HBs c0 c1
  go_upto_region 5 with (at_make; refine wpList_make_full _ rfl (.tmp 34) (.tmp 34) 22 rfl w3.heap.size 5 i0 (.int .u8 0) 1 Try.underlying22 hti hz0 hz1 .i64 .i64 (W : Int) (W : Int) W rfl rfl rfl rfl (by rw [hz2]; omega) (by unfold maxLen; omega) (Nat.le_refl _) ?_; intro w4 hown4 hg4)
  rw [make_u8] at hown4
  have u4 : Upd No w3 w4 := (Upd.of_grown hg4).mono (fun k _ h => by simp at h)
  have hs4 := u4.size
  have u5 := u4.alloc (.cells #[.slice (some ⟨w3.heap.size, 0, none⟩) W W] 22)
  have ha5 := Blk.new w4 22 #[.slice (some ⟨w3.heap.size, 0, none⟩) W W]
  have o5 := own_upd hown4 ((Upd.refl No w4).alloc (.cells #[.slice (some ⟨w3.heap.size, 0, none⟩) W W] 22)) (fun _ _ => id)
  have hs5 : w4.heap.size < (w4.alloc (.cells #[.slice (some ⟨w3.heap.size, 0, none⟩) W W] 22)).heap.size := by rw [World.size_alloc]; omega
  have HK5 := Lib.hid (And.intro (HK3.out.1.upd u5 id) (And.intro (HK3.out.2.1.upd u5 id) (HK3.out.2.2.upd u5 id)))
  have HBel5 := Lib.hid (HBel3.out.trans (u5.fresh.mono (by omega))); have HBs5 := Lib.hid (HBs3.out.below (u5.fresh.mono (by omega)))
  obtain ⟨ab, hab⟩ : ∃ ab, w4.heap.size = ab := ⟨_, rfl⟩
  obtain ⟨g4, hg4'⟩ : ∃ g4, w3.heap.size = g4 := ⟨_, rfl⟩
  rw [hab, hg4'] at ha5
  rw [hg4'] at o5 HK5 HBel5 HBs5
  rw [hg4', hab]
  have HA5 := Lib.hid ha5; have HO5 := Lib.hid (bs_own o5).1
  have hgl5 := (o5.lt g4 rfl).2
  rw [hg4', hab] at hs5
  generalize w4.alloc (.cells #[.slice (some ⟨g4, 0, none⟩) W W] 22) = w5 at *
  have hlt5 : w.heap.size + 1 + 1 < ab ∧ ab < w5.heap.size ∧ w.heap.size + 1 + 1 < g4 := by omega
  clear u4 u5 ha5 o5 hown4 hg4 HK3 HBel3 HBs3 hz0 hz1 hz2 hti hab hg4' hs3 hs4
  go_wp2_with fail
  refine (chunk8_any w5 A m c W hW1).mono ?_
  rintro e w6 ⟨rfl, rfl⟩
  go_wp2_with fail
  obtain ⟨bc, hbc⟩ : ∃ bc, w5.heap.size = bc := ⟨_, rfl⟩
  have u6 := ((Upd.refl No w5).alloc (.cells #[.slice A m c] 22)).alloc (.cells #[.int .i64 (W : Nat)] 3)
  have hcb : Blk ((w5.alloc (.cells #[.slice A m c] 22)).alloc (.cells #[.int .i64 (W : Nat)] 3)) bc 22 #[.slice A m c] := by
    rw [← hbc]
    exact (Blk.new w5 _ _).alloc _
  have hci : Blk ((w5.alloc (.cells #[.slice A m c] 22)).alloc (.cells #[.int .i64 (W : Nat)] 3)) (bc + 1) 3 #[.int .i64 (W : Nat)] := by
    rw [← hbc, ← World.size_alloc w5 (.cells #[.slice A m c] 22)]
    exact Blk.new (w5.alloc (.cells #[.slice A m c] 22)) _ _
  have hst : FiS w (w.heap.size + 1 + 1) ab bc W bpp kind m c A B lb [] 0 ((w5.alloc (.cells #[.slice A m c] 22)).alloc (.cells #[.int .i64 (W : Nat)] 3)) :=
    ⟨HK5.out.1.upd u6 id, HK5.out.2.1.upd u6 id, ⟨none, 0, HK5.out.2.2.upd u6 id, World.ownsRow_nil _ _ _ _, some ⟨g4, 0, none⟩, W, HA5.out.upd u6 id, bs_fresh HO5.out u6, fun ad e => by
      injection e with e
      subst e
      exact ⟨Nat.lt_of_lt_of_le hgl5 u6.size, by show g4 ≠ _; omega, by simp [Value.ownBlock]⟩⟩, hcb, hci, HBs5.out.below (u6.fresh.mono (Nat.le_trans hB HBel5.out.size)), hB, HBel5.out.trans (u6.fresh.mono HBel5.out.size), by omega⟩
  have HST := Lib.hid hst
  clear hst u6 hcb hci HK5 HBel5 HBs5 HA5 HO5 hs2 hs5 hgl5
  rw [hbc]
  generalize (w5.alloc (.cells #[.slice A m c] 22)).alloc (.cells #[.int .i64 (W : Nat)] 3) = w6 at *
  refine wpIn_wide.1 (wpIn_range_stop (α := Nat) (F := Fence.wide) (n := 3) rfl (by omega) (gf := 55) (lb := #[.pointer (some ⟨bc, 0, none⟩), .pointer (some ⟨bc + 1, 0, none⟩)]) rfl trivial (enters_of Try.func55 (by kernel_rfl) rfl) (fun j => pieceC ad W j) N
    (fun k V => FiS w (w.heap.size + 1 + 1) ab bc W bpp kind m c A B lb (outF kind W bpp lb k) k V)
    (fun k x _ => x = k) (fun _ _ => False)
    ?seq (fun _ => rfl) ?ia ?ip ?ep ?xp ?start ?a1 ?assign ?body ?done ?stop)
  case seq =>
    intro ll Rr Jx V hRb hY h0 hR
    exact chunk8_in (3 - 1) (by omega) ll bc W N m c A ad hA hW1 HN.out hmc hmb _ Rr Jx (fun k V h => ⟨h.cb.cell 0, h.ci.cell 0⟩) (fun k V h => h.keep (Upd.refl No V).drew) (fun V h => hRb V V.drew h (Below.refl _ V).drew) (fun k V hk h1 h2 => hY k k V hk h1 h2 rfl) V h0 hR
  case ia => rintro k V o h; exact h.keep ((Upd.refl No V).alloc o)
  case ip =>
    rintro k V ll o o' hll ho hoc h
    exact h.put (Nat.le_trans HST.out.bel.size hll) ho hoc o'
  case ep => rintro k x V ll o o' hll ho hoc h; exact h
  case xp => rintro j V ll o o' _ _ _ h; exact h
  case start => exact HST.out
  case assign =>
    intro ll x V K hK
    dsimp only [pieceC]
    have HK := Lib.hid hK
    clear hK
    gi_wp2
    exact HK.out
  case body =>
    rintro ll k x V hk hI hx
    have hx' : k = x := hx.symm
    subst hx'
    clear hx
    have hAs := hA (by omega)
    have hw0 := hI.bel.size
    have hpl : (pcF W lb k).length = W := pcF_length (by rw [HLB.out]; exact HN.out) hk
    have hal : (abF W lb k).length = W := abF_length (by rw [HLB.out]; exact HN.out) hk
    have hkT : W * k ≤ lb.length := by
      rw [HLB.out, ← HN.out]
      exact Nat.mul_le_mul_left _ (by omega)
    have hOb : (W + 1) * k + (W + 1) ≤ 140737488355328 := by
      have e1 := Nat.mul_le_mul_left (W + 1) (show k + 1 ≤ N by omega)
      rw [Nat.mul_succ] at e1
      exact Nat.le_trans e1 HOB.out
    have HPB : Hid (∀ wr, Below w.heap.size w wr → Bs wr B A lb → Bs wr B (some (ad.add (W * k))) (pcF W lb k)) := Lib.hid (fun wr _ h => bs_piece (by rw [hAs] at h; exact h) (W * k) W hkT)
    have hlb0 : 0 < lb.length := by have := hpl; rw [pcF, List.length_take, List.length_drop] at this; omega
    have hadB : ad.block < B := by
      have h := hI.bs
      rw [hAs] at h
      obtain ⟨ad', e, hb, _⟩ := h hlb0
      injection e with e
      subst e
      exact hb
    have HOL := Lib.hid (outF_length kind W bpp lb k)
    have HROW : Hid (outF kind W bpp lb k ++ [UInt8.ofNat kind] ++ flt kind bpp (pcF W lb k) (abF W lb k) W = outF kind W bpp lb (k + 1)) := Lib.hid rfl
    have hlt0 := hI.lt
    obtain ⟨Ao, co, h1, h2, Aa, ca, h3, h4, h5⟩ := hI.row
    have hl1 := Blk.new V 5 #[.int .u8 (kind : Nat)]
    have HL : Hid ((V.alloc (.cells #[.int .u8 (kind : Nat)] 5)).cell? ⟨V.heap.size, 0, none⟩ = some (.int .u8 ((UInt8.ofNat kind).toNat : Int))) := Lib.hid (by
      rw [hl1.cell, UInt8.toNat_ofNat', Nat.mod_eq_of_lt hkl]
      rfl)
    have ua := (Upd.refl No V).alloc (.cells #[.int .u8 (kind : Nat)] 5)
    obtain ⟨A9, c9, w9, hrun, b9, hko, hI9⟩ := (hI.keep ua).push (by rw [HOL.out]; omega) (h1.upd ua id) (own_upd h2 ua (fun _ _ => id)) (h3.upd ua id) (bs_fresh h4 ua) (fun ad e => ⟨Nat.lt_of_lt_of_le (h5 ad e).1 ua.size, (h5 ad e).2⟩) (UInt8.ofNat kind) HL.out hl1.lt
    have HRN := Lib.hid hrun
    have HI9 := Lib.hid hI9; have HKO := Lib.hid ((keeps_of_fresh ua.fresh).trans hko); have HB9 := Lib.hid b9
    have k1 : V.cell? ⟨w.heap.size + 1 + 1, 0, none⟩ = some (.slice Ao (outF kind W bpp lb k).length co) := h1.cell 0
    have k2 : V.cell? ⟨w.heap.size + 1, 0, none⟩ = some (.int .i64 (kind : Nat)) := hI.hk.cell 0
    have k3 : w9.cell? ⟨w.heap.size + 1 + 1, 0, none⟩ = some (.slice Ao (outF kind W bpp lb k).length co) := b9.1.cell 0
    have k4 := b9.1.frozen 0
    have k5 : (kind : Int) % 256 = (kind : Int) := by omega
    clear hrun b9 hko hI9 ua hl1 h1 h2 h3 h4 h5 hI HL hAs
    generalize hZ : outF kind W bpp lb k = L0 at *
    gi_wp2_with (gi_at_builtin; refine wpListIn_append_run rfl (.tmp 40) (.tmp 43) _ rfl rfl rfl HRN.out ?_)
    have HST1 : Hid (KeepsOthers V (w9.setCell ⟨w.heap.size + 1 + 1, 0, none⟩ (.slice A9 (L0.length + 1) c9)) ∧ FiS w (w.heap.size + 1 + 1) ab bc W bpp kind m c A B lb (L0 ++ [UInt8.ofNat kind] ++ flt kind bpp (pcF W lb k) (abF W lb k) 0) k (w9.setCell ⟨w.heap.size + 1 + 1, 0, none⟩ (.slice A9 (L0.length + 1) c9))) := Lib.hid ⟨HKO.out, by rw [flt, List.append_nil]; exact HI9.out⟩
    have HLEN : Hid (∀ j, (L0 ++ [UInt8.ofNat kind] ++ flt kind bpp (pcF W lb k) (abF W lb k) j).length = (W + 1) * k + 1 + j) := Lib.hid (fun j => by rw [List.length_append, List.length_append, flt_length, HOL.out]; rfl)
    clear HI9 HKO HB9 HRN k1 k2 k3 k4
    have HZ := Lib.hid hZ
    have HPL := Lib.hid hpl; have HAL := Lib.hid hal; have HADB := Lib.hid hadB
    have hapB : (ad.add (W * k)).block < B := by rw [block_of_add]; exact hadB
    clear hZ hpl hal hadB hkT hlb0
    generalize ad.add (W * k) = ap at *
    generalize hw9 : w9.setCell ⟨w.heap.size + 1 + 1, 0, none⟩ (.slice A9 (L0.length + 1) c9) = w8 at *
    clear hw9
    gi_loopw [47] (fun i wr => ∃ j : Nat, j ≤ W ∧ i = .int .i64 (j : Int) ∧ Hid (KeepsOthers V wr ∧ FiS w (w.heap.size + 1 + 1) ab bc W bpp kind m c A B lb (L0 ++ [UInt8.ofNat kind] ++ flt kind bpp (pcF W lb k) (abF W lb k) j) k wr)) (fun i _ => W - (intOf i).toNat)
    case atStart => exact ⟨0, Nat.zero_le _, rfl, HST1⟩
    case round =>
      obtain ⟨j, hj, rfl, HJ⟩ := hrel
      clear HST1
      by_cases hlt : j < W
      · have hn := HLEN.out j
        have HNX : Hid (L0 ++ [UInt8.ofNat kind] ++ flt kind bpp (pcF W lb k) (abF W lb k) (j + 1) = (L0 ++ [UInt8.ofNat kind] ++ flt kind bpp (pcF W lb k) (abF W lb k) j) ++ [UInt8.ofNat (byteAt (pcF W lb k) j + 256 - gsB kind bpp j (pcF W lb k) (abF W lb k))]) := Lib.hid (by rw [flt, ← List.append_assoc])
        obtain ⟨L, hL⟩ : ∃ L, L0 ++ [UInt8.ofNat kind] ++ flt kind bpp (pcF W lb k) (abF W lb k) j = L := ⟨_, rfl⟩
        rw [hL] at hn HJ HNX
        have HL := Lib.hid hL
        clear hL
        obtain ⟨Ao, co, h1, h2, Aa, ca, h3, h4, h5⟩ := HJ.out.2.row
        have hpc := HPB.out wr HJ.out.2.bel HJ.out.2.bs
        obtain ⟨ap', ea, _, kx⟩ := hpc.at_ (k := j) (by rw [HPL.out]; exact hlt)
        injection ea with ea
        subst ea
        rw [byteAt_get _ _ (by rw [HPL.out]; exact hlt)] at kx
        have HGS := Lib.hid (guess_any kind bpp j W W W ca (some ap) Aa (pcF W lb k) (abF W lb k) hk4 hb1 hb8 hlt hlt HPL.out HAL.out (by omega) B wr.heap.size wr.drew hpc h4)
        have hgl := gsB_lt kind bpp j (pcF W lb k) (abF W lb k)
        have hxl := byteAt_lt (pcF W lb k) j
        have HSV : Hid (IntKind.u8.wrap ((byteAt (pcF W lb k) j : Int) - (gsB kind bpp j (pcF W lb k) (abF W lb k) : Int)) = ((UInt8.ofNat (byteAt (pcF W lb k) j + 256 - gsB kind bpp j (pcF W lb k) (abF W lb k))).toNat : Int)) := Lib.hid (by
          rw [sub_val (byteAt (pcF W lb k) j) (gsB kind bpp j (pcF W lb k) (abF W lb k)) hgl]
          simp [IntKind.wrap, IntKind.bits, IntKind.signed])
        have HS0 : Hid (Blk wr.drew (w.heap.size + 1 + 1) 22 #[.slice Ao L.length co] ∧ Blk wr.drew (w.heap.size + 1) 3 #[.int .i64 (kind : Nat)] ∧ Blk wr.drew ab 22 #[.slice Aa W ca] ∧ Blk wr.drew w.heap.size 3 #[.int .i64 (bpp : Nat)]) := Lib.hid ⟨h1, HJ.out.2.hk, h3, HJ.out.2.hb⟩
        have HPU : Hid (∀ (V1 : World), Upd No wr V1 → V1.cell? ⟨wr.heap.size, 0, none⟩ = some (.int .u8 ((UInt8.ofNat (byteAt (pcF W lb k) j + 256 - gsB kind bpp j (pcF W lb k) (abF W lb k))).toNat : Int)) → wr.heap.size < V1.heap.size →
            ∃ A9 c9 w9, (Builtin.append_ #[22, 22] 22 #[.slice Ao L.length co, .slice (some ⟨wr.heap.size, 0, none⟩) 1 1]).run Try.prog V1 = .ok (.slice A9 (L.length + 1) c9) w9 ∧
              (Blk w9 (w.heap.size + 1 + 1) 22 #[.slice Ao L.length co] ∧ Blk w9 (w.heap.size + 1) 3 #[.int .i64 (kind : Nat)] ∧ Blk w9 ab 22 #[.slice Aa W ca] ∧ Blk w9 w.heap.size 3 #[.int .i64 (bpp : Nat)]) ∧
              KeepsOthers V (w9.setCell ⟨w.heap.size + 1 + 1, 0, none⟩ (.slice A9 (L.length + 1) c9)) ∧ FiS w (w.heap.size + 1 + 1) ab bc W bpp kind m c A B lb (L ++ [UInt8.ofNat (byteAt (pcF W lb k) j + 256 - gsB kind bpp j (pcF W lb k) (abF W lb k))]) k (w9.setCell ⟨w.heap.size + 1 + 1, 0, none⟩ (.slice A9 (L.length + 1) c9))) := Lib.hid (fun V1 u hc hl => by
          obtain ⟨A9, c9, w9, q1, q2, q3, q4⟩ := (HJ.out.2.keep u).push (by rw [hn]; omega) (h1.upd u id) (own_upd h2 u (fun _ _ => id)) (h3.upd u id) (bs_fresh h4 u) (fun ad e => ⟨Nat.lt_of_lt_of_le (h5 ad e).1 u.size, (h5 ad e).2⟩) _ hc hl
          exact ⟨A9, c9, w9, q1, q2, HJ.out.1.trans ((keeps_of_fresh u.fresh).trans q3), q4⟩)
        have q1 : (j : Int) < (W : Int) := by omega
        clear h1 h2 h3 h4 h5 hpc HJ hn
        generalize gsB kind bpp j (pcF W lb k) (abF W lb k) = g at *
        generalize byteAt (pcF W lb k) j = x at *
        gi_wp2_with fail
        refine wpRound_region_T (fun W' => Blk W' (w.heap.size + 1 + 1) 22 #[.slice Ao L.length co] ∧ Blk W' (w.heap.size + 1) 3 #[.int .i64 (kind : Nat)] ∧ Blk W' ab 22 #[.slice Aa W ca] ∧ Blk W' w.heap.size 3 #[.int .i64 (bpp : Nat)]) 11 hmix (by kernel_rfl) (by rintro ⟨_, _, h⟩; exact h) 12 rfl ?_
        refine wpAnyT_take (i := 0) (v := .slice Ao L.length co) rfl (by kernel_rfl) (by kernel_rfl) (by kernel_rfl) (by kernel_rfl) (fun _ _ _ h => h) (Or.inl ⟨by rfl, ?_⟩) HS0.out ?_
        · rintro wz ⟨z1, z2, z3, z4⟩
          have y0 : wz.cell? ⟨w.heap.size + 1 + 1, 0, none⟩ = some (.slice Ao L.length co) := z1.cell 0
          go_simp
        simp only [Act.put, List.getElem_toArray, List.getElem_cons_succ, List.getElem_cons_zero, List.setIfInBounds_toArray, List.set_cons_zero, List.set_cons_succ]
        refine wpAnyT_take (i := 1) (v := .int .u8 (x : Nat)) rfl (by kernel_rfl) (by kernel_rfl) (by kernel_rfl) (by kernel_rfl) (fun _ _ _ h => h) (Or.inl ⟨by rfl, ?_⟩) HS0.out ?_
        · rintro wz _
          go_simp
        simp only [Act.put, List.getElem_toArray, List.getElem_cons_succ, List.getElem_cons_zero, List.setIfInBounds_toArray, List.set_cons_zero, List.set_cons_succ]
        refine wpAnyT_take (i := 2) (v := .int .i64 (kind : Nat)) rfl (by kernel_rfl) (by kernel_rfl) (by kernel_rfl) (by kernel_rfl) (fun _ _ _ h => h) (Or.inl ⟨by rfl, ?_⟩) HS0.out ?_
        · rintro wz ⟨z1, z2, z3, z4⟩
          have y0 : wz.cell? ⟨w.heap.size + 1, 0, none⟩ = some (.int .i64 (kind : Nat)) := z2.cell 0
          go_simp
        simp only [Act.put, List.getElem_toArray, List.getElem_cons_succ, List.getElem_cons_zero, List.setIfInBounds_toArray, List.set_cons_zero, List.set_cons_succ]
        refine wpAnyT_take (i := 3) (v := .slice (some ap) W W) rfl (by kernel_rfl) (by kernel_rfl) (by kernel_rfl) (by kernel_rfl) (fun _ _ _ h => h) (Or.inl ⟨by rfl, ?_⟩) HS0.out ?_
        · rintro wz _
          go_simp
        simp only [Act.put, List.getElem_toArray, List.getElem_cons_succ, List.getElem_cons_zero, List.setIfInBounds_toArray, List.set_cons_zero, List.set_cons_succ]
        refine wpAnyT_take (i := 4) (v := .slice Aa W ca) rfl (by kernel_rfl) (by kernel_rfl) (by kernel_rfl) (by kernel_rfl) (fun _ _ _ h => h) (Or.inl ⟨by rfl, ?_⟩) HS0.out ?_
        · rintro wz ⟨z1, z2, z3, z4⟩
          have y0 : wz.cell? ⟨ab, 0, none⟩ = some (.slice Aa W ca) := z3.cell 0
          go_simp
        simp only [Act.put, List.getElem_toArray, List.getElem_cons_succ, List.getElem_cons_zero, List.setIfInBounds_toArray, List.set_cons_zero, List.set_cons_succ]
        refine wpAnyT_take (i := 5) (v := .int .i64 (j : Int)) rfl (by kernel_rfl) (by kernel_rfl) (by kernel_rfl) (by kernel_rfl) (fun _ _ _ h => h) (Or.inl ⟨by rfl, ?_⟩) HS0.out ?_
        · rintro wz _
          go_simp
        simp only [Act.put, List.getElem_toArray, List.getElem_cons_succ, List.getElem_cons_zero, List.setIfInBounds_toArray, List.set_cons_zero, List.set_cons_succ]
        refine wpAnyT_take (i := 6) (v := .int .i64 (bpp : Nat)) rfl (by kernel_rfl) (by kernel_rfl) (by kernel_rfl) (by kernel_rfl) (fun _ _ _ h => h) (Or.inl ⟨by rfl, ?_⟩) HS0.out ?_
        · rintro wz ⟨z1, z2, z3, z4⟩
          have y0 : wz.cell? ⟨w.heap.size, 0, none⟩ = some (.int .i64 (bpp : Nat)) := z4.cell 0
          go_simp
        simp only [Act.put, List.getElem_toArray, List.getElem_cons_succ, List.getElem_cons_zero, List.setIfInBounds_toArray, List.set_cons_zero, List.set_cons_succ]
        refine wpAnyT_one (i := 7) rfl (by kernel_rfl) (by rfl) ?_
        go_simp
        refine HGS.out.mono ?_
        rintro e V2 ⟨rfl, md, rfl⟩
        refine ⟨HS0.out, ?_⟩
        try simp only [Act.put, List.getElem_toArray, List.getElem_cons_succ, List.getElem_cons_zero, List.setIfInBounds_toArray, List.set_cons_zero, List.set_cons_succ]
        refine wpAnyT_one (i := 8) rfl (by kernel_rfl) (by rfl) ?_
        go_simp
        refine ⟨HS0.out, ?_⟩
        try simp only [Act.put, List.getElem_toArray, List.getElem_cons_succ, List.getElem_cons_zero, List.setIfInBounds_toArray, List.set_cons_zero, List.set_cons_succ]
        refine wpAnyT_one (i := 9) rfl (by kernel_rfl) (by rfl) ?_
        go_simp
        rw [HSV.out]
        have ua := ((Upd.refl No wr).drewN (1 + md)).alloc (.cells #[.int .u8 ((UInt8.ofNat (x + 256 - g)).toNat : Int)] 5)
        have hl9 := Blk.new (wr.drewN (1 + md)) 5 #[.int .u8 ((UInt8.ofNat (x + 256 - g)).toNat : Int)]
        obtain ⟨A8, c8, w12, hrun, b9, hko, hI9⟩ := HPU.out _ ua (by rw [show wr.heap.size = (wr.drewN (1 + md)).heap.size from rfl, hl9.cell]; rfl) hl9.lt
        have b1 : Blk wr (w.heap.size + 1 + 1) 22 #[.slice Ao L.length co] := HS0.out.1
        have b2 : Blk wr (w.heap.size + 1) 3 #[.int .i64 (kind : Nat)] := HS0.out.2.1
        have b3 : Blk wr ab 22 #[.slice Aa W ca] := HS0.out.2.2.1
        have b4 : Blk wr w.heap.size 3 #[.int .i64 (bpp : Nat)] := HS0.out.2.2.2
        have HS1 : Hid (Blk ((wr.drewN (1 + md)).alloc (.cells #[.int .u8 ((UInt8.ofNat (x + 256 - g)).toNat : Int)] 5)) (w.heap.size + 1 + 1) 22 #[.slice Ao L.length co] ∧ Blk ((wr.drewN (1 + md)).alloc (.cells #[.int .u8 ((UInt8.ofNat (x + 256 - g)).toNat : Int)] 5)) (w.heap.size + 1) 3 #[.int .i64 (kind : Nat)] ∧
            Blk ((wr.drewN (1 + md)).alloc (.cells #[.int .u8 ((UInt8.ofNat (x + 256 - g)).toNat : Int)] 5)) ab 22 #[.slice Aa W ca] ∧ Blk ((wr.drewN (1 + md)).alloc (.cells #[.int .u8 ((UInt8.ofNat (x + 256 - g)).toNat : Int)] 5)) w.heap.size 3 #[.int .i64 (bpp : Nat)]) := Lib.hid
          ⟨b1.upd ua id, b2.upd ua id, b3.upd ua id, b4.upd ua id⟩
        have HRN := Lib.hid hrun; have HS9 := Lib.hid b9; have HFN := Lib.hid (And.intro hko hI9)
        clear hrun b9 hko hI9 hl9 ua HPU b1 b2 b3 b4
        refine ⟨HS1.out, ?_⟩
        try simp only [Act.put, List.getElem_toArray, List.getElem_cons_succ, List.getElem_cons_zero, List.setIfInBounds_toArray, List.set_cons_zero, List.set_cons_succ]
        refine wpAnyT_one (i := 10) rfl (by kernel_rfl) (by rfl) ?_
        refine wp_append_run (.tmp 52) (.tmp 61) _ rfl rfl rfl HRN.out ⟨fun _ => HS9.out, ?_⟩
        try simp only [Act.put, List.getElem_toArray, List.getElem_cons_succ, List.getElem_cons_zero, List.setIfInBounds_toArray, List.set_cons_zero, List.set_cons_succ]
        refine wpAnyT_one (i := 11) rfl (by kernel_rfl) (by rfl) ?_
        have kf := HS9.out.1.frozen 0
        have k9 : w12.cell? ⟨w.heap.size + 1 + 1, 0, none⟩ = some (.slice Ao L.length co) := HS9.out.1.cell 0
        go_simp
        refine wpAnyT_done (by kernel_rfl) ?_
        gi_wp2_with fail
        go_roundw
        case rel => exact ⟨j + 1, by omega, by go_num, by rw [HNX.out]; exact Lib.hid HFN.out⟩
        case measure => simp [intOf]; omega
      · obtain rfl : j = W := by omega
        have HJ2 := HJ.out
        rw [HROW.out] at HJ2
        obtain ⟨⟨Aa, ca, s1⟩, s2, s3, s4⟩ := HJ2.2.step (HPB.out wr HJ2.2.bel HJ2.2.bs) hapB
        have HE := Lib.hid (And.intro (HJ2.1.trans s3) s4)
        clear HJ HJ2 s3 s4
        gi_wp2_with fail
        exact HE.out
  case done =>
    rintro D V hD hI hK
    obtain ⟨Ao, co, h1, h2, _, _, _, _, _⟩ := hI.row
    have hlen := outF_length kind W bpp lb N
    generalize hL : outF kind W bpp lb N = L at *
    have HLL := Lib.hid hL
    clear hL
    rw [hlen] at h1 h2
    have k1 : V.cell? ⟨w.heap.size + 1 + 1, 0, none⟩ = some (.slice Ao ((W + 1) * N) co) := h1.cell 0
    have HB9 := Lib.hid hI.bel; have H2 := Lib.hid h2; have HK := Lib.hid hK
    have hw0 := HST.out.bel.size
    clear h1 h2 hI hK hlen
    generalize hZ : (W + 1) * N = Z at *
    have HZ := Lib.hid hZ
    clear hZ
    go_wp2_with fail
    refine ⟨by simp, .inl ⟨_, _, rfl, run_takeDeferred HK.out, ?_⟩⟩
    have u := upd_putObj (S := (· = D)) V D (.deferred none) rfl
    rw [HLL.out, HZ.out]
    refine ⟨.tuple #[.slice Ao Z co, .int .i64 0], by simp [results, Try.results19, go_sem], HB9.out.trans (u.below HB9.out.size (fun j hj e => by omega)), Ao, co, rfl, own_put H2.out HK.out rfl _⟩
  case stop => rintro D j V hD h; exact h.elim
end Go.Proofs.Ytaloieeemibblaa
