/- What is handed in stays and isn't kept, and what is answered is new memory: for every list of bytes, either order and every list of acts whose readings are together of bulk at most 1048576 (the second form). -/
import Derived.Test.YtlkmhmiaekmkdaaTx
import Derived.Test.YtlkmhmiaekmkdaaK
import Derived.Test.YtlkmhmiaekmkdaaV
import Derived.Test.YtlkmhmiaekmkdaaSp
import Derived.Test.YtlkmhmiaekmkdaaBulk
import Derived.JoinedCond
import Derived.Deep.CutBlock
namespace Go.Proofs.Ytlkmhmiaekmkdaa
open Go.ChangeShapes Go.WideShapes Go.ChangeAt Go.RowKit
namespace BitsOwn

theorem own_len {w : World} {base : Nat} {e : TypeId} {A : Option Addr} {n c : Nat} {l : List UInt8} (h : w.ownsRow base e 1 (.slice A n c) n (bytesV l)) : l.length = n := by
  have := h.1; rw [bytesV_length] at this; omega
theorem own_bs {w : World} {base : Nat} {e : TypeId} {A : Option Addr} {n c : Nat} {l : List UInt8} (h : w.ownsRow base e 1 (.slice A n c) n (bytesV l)) : Bs w w.heap.size A l := by
  have hn := own_len h
  subst hn
  exact Bs.of_own h
theorem row_form {w : World} {base : Nat} {e : TypeId} {A : Option Addr} {n c : Nat} {l : List Value} (h : w.ownsRow base e 1 (.slice A n c) n l) (hn : 0 < n) : ∃ g, A = some ⟨g, 0, none⟩ ∧ n ≤ c ∧ c ≤ maxLen ∧ base ≤ g ∧ g < w.heap.size := by
  obtain ⟨h1, h2⟩ := own_cap h
  obtain ⟨g, cap, hv, h3, h4⟩ := h.form hn
  injection hv with hA _ _
  exact ⟨g, hA, h1, h2, h3, h4⟩
theorem row_lt {w : World} {base : Nat} {e : TypeId} {A : Option Addr} {n c : Nat} {l : List Value} (h : w.ownsRow base e 1 (.slice A n c) n l) : ∀ k, A.map (·.block) = some k → base ≤ k ∧ k < w.heap.size := fun k hk => h.lt k (by rw [ownBlock_sl]; exact hk)
theorem row_keep {w w' : World} {S : Nat → Prop} {base : Nat} {e : TypeId} {A : Option Addr} {n c : Nat} {l : List Value} (h : w.ownsRow base e 1 (.slice A n c) n l) (u : Upd S w w') (hd : ∀ k, A.map (·.block) = some k → ¬ S k) : w'.ownsRow base e 1 (.slice A n c) n l := own_upd h u (fun k hk => hd k (by rw [← ownBlock_sl A n c]; exact hk))
/-- Nothing of w below block B is changed. -/
def Low (B : Nat) (w w' : World) : Prop := Upd (fun k => B ≤ k) w w'
theorem Low.spoil {B : Nat} {w w1 w2 : World} {A : Option Addr} (h : Low B w w1) (u : Upd (SpS A) w1 w2) (hA : ∀ k, A.map (·.block) = some k → B ≤ k) : Low B w w2 := Upd.then h u (fun i _ e => hA i e)
theorem bs_in {w : World} {base : Nat} {e : TypeId} {g n c : Nat} {l : List UInt8} {x : UInt8} (h : w.ownsRow base e 1 (.slice (some ⟨g, 0, none⟩) n c) n (bytesV (l ++ [x]))) : Bs w w.heap.size (some ⟨g, 0, none⟩) l := by
  have h2 := (own_bs h).take l.length
  simpa using h2
theorem in_last {w : World} {base : Nat} {e : TypeId} {g n c : Nat} {l : List UInt8} {x : UInt8} (h : w.ownsRow base e 1 (.slice (some ⟨g, 0, none⟩) n c) n (bytesV (l ++ [x]))) : w.cell? ⟨g, l.length, none⟩ = some (.int .u8 (x.toNat : Int)) := by
  have hl := own_len h
  rw [List.length_append] at hl
  rw [h.cellAt l.length (by simp at hl; omega), bytesV_get _ _ (by simp)]
  simp
/-- Whatever Set answers is a row of its own. -/
theorem set_own (A : Option Addr) (c : Nat) (l : List UInt8) (B : Nat) (w : World) (h : Bs w B A l) (hB : B ≤ w.heap.size) (hl : l.length ≤ 140737488355000) :
    Calls Try.prog 32 #[.slice A l.length c, .int .i64 0, .int .i64 1, .bool false, .int .u32 9] w fun e w' => ∃ A' n' c' l' er, e = .returned (.tuple #[.slice A' n' c', .int .i64 er]) ∧ w'.ownsRow w.heap.size 5 1 (.slice A' n' c') n' (bytesV l') ∧ Below w.heap.size w w' ∧ n' ≤ 140737488355000 := by
  by_cases h0 : 1 ≤ l.length
  · refine (set_ok A c l 0 1 9 false B w h hB (by omega) (by omega) (by omega) (by omega)).mono ?_
    rintro e w' ⟨A', c', rfl, hO, hb⟩
    exact ⟨A', l.length, c', _, 0, rfl, hO, hb, hl⟩
  · have he : spanErr l.length 0 1 ≠ 0 := by
      rw [spanErr_end (by omega) (by omega)]; decide
    refine (set_err A l.length c 0 1 9 false w (by omega) he).mono ?_
    rintro e w' ⟨rfl, rfl⟩
    exact ⟨none, 0, 0, [], _, rfl, by simpa [bytesV] using World.ownsRow_nil w w.heap.size 5 1, Below.refl _ _, by omega⟩

def InAt (w : World) (base gi n c : Nat) (wr : World) : Prop := ∃ xs : List UInt8, wr.ownsRow base 5 1 (.slice (some ⟨gi, 0, none⟩) n c) n (bytesV xs) ∧ Upd (· = gi) w wr
set_option maxHeartbeats 4000000 in
set_option maxRecDepth 100000 in
theorem walk (A : Option Addr) (c : Nat) (l : List UInt8) (high : Bool) (Aa : Option Addr) (ca : Nat) (acts : List (Int × Int × Nat)) (w : World) (h : Bs w w.heap.size A l) (hl : l.length ≤ 1048576) (hac : Acts w w.heap.size Aa acts) (hok : ∀ a ∈ acts, ActOk a) (hla : acts.length ≤ 1048576) :
    Calls Try.prog 9 #[.slice A l.length c, .bool high, .slice Aa acts.length ca] w fun e w' => e = .returned (.bool true) ∧ Below w.heap.size w w' := by
  obtain ⟨i0, hi, hz0, hz1, hz2⟩ := info_parts info_u8
  have hsl := stuffL_len l
  have hun := unst_len l
  go_enter Try.func9, Try.ntmps9
  go_wp2_with fail
  refine (wakes_any w).mono ?_
  rintro e w1 ⟨rfl, hb1⟩
  have hs1 := hb1.size
  go_wp2_with fail
  refine (own_any A c l _ w1 (h.below hb1) hs1 (by omega)).mono ?_
  rintro e w2 ⟨A2, c2, rfl, o2, hb2⟩
  have k2 := hb1.trans (hb2.mono hs1)
  go_wp2_with (at_builtin; refine wpList_append_bs _ rfl (.tmp 23) (.tmp 24) _ rfl w1.heap.size 5 i0 Try.underlying22 hi hz0 hz1 hz2 (.slice A2 l.length c2) l.length (bytesV l) rfl (o2.alloc _) (w2.heap.size + 1) (some ⟨w2.heap.size, 0, none⟩) 1 [77] rfl (bs_lit1 w2 5 77) (by simp; omega) (by have := hb2.size; simp; omega) ?_; intro A3 c3 w3 o3 hg3 _; replace o3 : w3.ownsRow w1.heap.size 5 1 (.slice A3 (l.length + 1) c3) (l.length + 1) (bytesV l ++ bytesV [77]) := o3; obtain ⟨gi, rfl, hc3, hm3, hgi1, hgi2⟩ := row_form o3 (by omega); rw [← bytesV_append] at o3; have k3 := (k2.alloc k2.size (.cells #[.int .u8 77] 5)).grown hg3 (by simp; have := k2.size; omega) (fun g hg => by have := (o2.lt g hg).1; omega))
  have bi3 := bs_in o3
  have O3 := Lib.hid o3; clear o3 hg3
  have K3 := Lib.hid k3
  have hs3 := k3.size
  refine (newReader_any (some ⟨gi, 0, none⟩) c3 l high _ w3 bi3 (Nat.le_refl _) (by omega)).mono ?_
  rintro e w4 ⟨gR, AR, cR, rfl, hR4, hb4⟩
  have k4 := k3.trans (hb4.mono hs3)
  have bi4 := bi3.below hb4
  have j4 : Below w3.heap.size w3 w4 := hb4
  have HR4 := Lib.hid hR4; clear hR4
  clear hb1 hb2 k2 o2
  go_wp2_with fail
  refine (set_own (some ⟨gi, 0, none⟩) c3 l _ w4 bi4 hb4.size (by omega)).mono ?_
  rintro e w5 ⟨As, ns, cs, ls, es, rfl, oS5, hb5, hns⟩
  have OS5 := Lib.hid oS5; clear oS5
  have j5 := j4.trans (hb5.mono j4.size)
  have bi5 := (bi3.below j5).more j5.size
  go_wp2_with fail
  refine (unstuff_any (some ⟨gi, 0, none⟩) c3 l w5 bi5 (by omega)).mono ?_
  rintro e w6 ⟨Au, nu, cu, rfl, oU6, hb6⟩
  have hnu := own_len oU6
  have OU6 := Lib.hid oU6; clear oU6
  have HNU : Hid (nu ≤ 1048576) := Lib.hid (by omega)
  clear hnu
  have j6 := j5.trans (hb6.mono j5.size)
  have bi6 := (bi3.below j6).more j6.size
  go_wp2_with fail
  refine (stuff_any (some ⟨gi, 0, none⟩) c3 l w6 bi6 (by omega)).mono ?_
  rintro e w7 ⟨At, nt, ct, rfl, oT7, hb7⟩
  have hnt := own_len oT7
  have OT7 := Lib.hid oT7; clear oT7
  have HNT : Hid (nt ≤ 2097152) := Lib.hid (by omega)
  clear hnt
  have j7 := j6.trans (hb7.mono j6.size)
  have z5 := hb5.size
  have z6 := hb6.size
  have z7 := hb7.size
  have hlS := row_lt OS5.out
  have hlU := row_lt OU6.out
  have hlT := row_lt OT7.out
  have HLS := Lib.hid hlS; clear hlS
  have HLU := Lib.hid hlU; clear hlU
  have HLT := Lib.hid hlT; clear hlT
  have HF4 := Lib.hid (hb5.trans ((hb6.mono z5).trans (hb7.mono (Nat.le_trans z5 z6))))
  have bi7 := (bi3.below j7)
  have o7 := own_upd O3.out (Upd.of_fresh j7) (fun _ _ => id)
  have hlast := in_last o7
  have O7 := Lib.hid o7; clear o7
  have k7 := k3.trans (j7.mono hs3)
  have b7 := h.below k7
  have hbb : (l == l) = true := by simp
  have HBB := Lib.hid hbb; clear hbb
  go_wp2_with fail
  refine (same_any (some ⟨gi, 0, none⟩) A c3 c l l w7.heap.size w7 (bi7.more j7.size) (b7.more k7.size) (by unfold maxLen; omega)).mono ?_
  rw [HBB.out]
  rintro e w8 ⟨rfl, m8, rfl⟩
  go_wp2_with fail
  refine (spoil_any _ _ As ns cs ls (row_keep OS5.out (Upd.drewN (Upd.of_fresh (hb6.trans (hb7.mono z6))) m8) (fun _ _ => id)) hns (show w4.heap.size ≤ w7.heap.size by omega)).mono ?_
  rintro e w9 ⟨rfl, u9⟩
  have q9 := u9.size
  have y9 : Low w4.heap.size w4 w9 := Low.spoil (Upd.drewN (Upd.of_below HF4.out) m8) u9 (fun k hk => (HLS.out k hk).1)
  go_wp2_with fail
  refine (spoil_any _ _ Au nu cu (unst l).1 (row_keep OU6.out (((Upd.drewN (Upd.of_fresh hb7) m8).mono (T := SpS As) (fun _ _ h => h.elim)).then u9 (fun _ _ h => h)) (fun k hk e => by have := HLU.out k hk; have := HLS.out k e; omega)) (by have := HNU.out; omega) (show w5.heap.size ≤ w9.heap.size by have : w7.heap.size ≤ w9.heap.size := q9; omega)).mono ?_
  rintro e w10 ⟨rfl, u10⟩
  have q10 := u10.size
  have y10 : Low w4.heap.size w4 w10 := Low.spoil y9 u10 (fun k hk => Nat.le_trans z5 (HLU.out k hk).1)
  go_wp2_with fail
  refine (spoil_any _ _ At nt ct (stuffL l) (row_keep (S := fun k => k < w6.heap.size) OT7.out (Upd.then (Upd.then (Upd.drewN (Upd.refl _ w7) m8) u9 (fun k _ e => by have := HLS.out k e; omega)) u10 (fun k _ e => by have := HLU.out k e; omega)) (fun k hk e => by have := HLT.out k hk; omega)) (by have := HNT.out; omega) (show w6.heap.size ≤ w10.heap.size by have : w7.heap.size ≤ w9.heap.size := q9; omega)).mono ?_
  rintro e w11 ⟨rfl, u11⟩
  have y11 : Low w4.heap.size w4 w11 := Low.spoil y10 u11 (fun k hk => Nat.le_trans (Nat.le_trans z5 z6) (HLT.out k hk).1)
  have L11 := Lib.hid y11; clear y11 y10 y9 u9 u10 u11 q9 q10
  have j11 : Upd (fun k => w3.heap.size ≤ k) w3 w11 := Upd.then (Upd.of_below j4) L11.out (fun k _ (e : w4.heap.size ≤ k) => Nat.le_trans hb4.size e)
  have k11 : Upd (fun k => w.heap.size ≤ k) w w11 := Upd.then (Upd.of_below k3) j11 (fun k _ (e : w3.heap.size ≤ k) => Nat.le_trans hs3 e)
  have o11 := row_keep O3.out j11 (fun k hk (e : w3.heap.size ≤ k) => by have := row_lt O3.out k hk; omega)
  have bi11 := bs_in o11
  have last11 := in_last o11
  have O11 := Lib.hid o11; clear o11
  have b11 := h.upd k11 (Nat.le_refl _) (fun ad _ hlt (e : w.heap.size ≤ ad.block) => by omega)
  go_wp2_with fail
  refine (same_any (some ⟨gi, 0, none⟩) A c3 c l l w11.heap.size w11 bi11 (b11.more k11.size) (by unfold maxLen; omega)).mono ?_
  rw [HBB.out]
  rintro e w12 ⟨rfl, m12, rfl⟩
  have g3l : gi < w3.heap.size := hgi2
  go_wp2_with fail
  go_loopw [95] (fun i wr => ∃ k : Nat, k ≤ l.length + 1 ∧ i = .int .i64 k ∧ InAt w11 w1.heap.size gi (l.length + 1) c3 wr) (fun i _ => l.length + 1 - (intOf i).toNat)
  case atStart => exact ⟨0, by omega, rfl, _, O11.out, Upd.drewN (Upd.refl _ _) _⟩
  case round =>
    obtain ⟨k, hk, rfl, xs, hO, hU⟩ := hrel
    have HO := Lib.hid hO; clear hO
    have HU := Lib.hid hU; clear hU
    by_cases hlt : k < l.length + 1
    · obtain ⟨v0, hcell⟩ : ∃ v0, wr.cell? ⟨gi, k, none⟩ = some v0 := by
        have hxl := own_len HO.out
        have hcell := HO.out.cellAt k (by omega)
        rw [bytesV_get xs k (by omega)] at hcell
        exact ⟨_, hcell⟩
      have hfz := HO.out.frozenAt k
      have HST := Lib.hid (own_set HO.out k 3)
      go_wp2_with fail
      go_roundw
      case rel => exact ⟨k + 1, by omega, by go_num, _, HST.out, HU.out.setCell (p := ⟨gi, k, none⟩) (fun _ => rfl) _⟩
      case measure => simp [intOf]; omega
    · have v11 : Upd (fun k => w4.heap.size ≤ k ∨ k = gi) w4 wr := Upd.then (Upd.mono L11.out (fun _ _ e => .inl e)) HU.out (fun _ _ e => .inr e)
      have hR := HR4.out.upd v11 (fun e => by
        have h1 := HR4.out.1.lt
        have h2 := HR4.out.2.2.1
        rcases e with e | e <;> omega) (fun k hk e => by
        have h1 := HR4.out.2.1.lt k hk
        rcases e with e | e <;> omega)
      have k12 : Upd (fun k => w.heap.size ≤ k) w wr := Upd.then k11 HU.out (fun k _ e => by omega)
      have HK12 := Lib.hid k12
      have HR12 := Lib.hid hR
      have hsr : w.heap.size ≤ wr.heap.size := k12.size
      clear k11 k12 v11 hR
      go_wp2_with fail
      refine (bytes_any wr _ gR AR cR l high 0 l.length HR12.out (by omega)).mono ?_
      rintro e w13 ⟨A13, c13, rfl, o13, hR13, u13⟩
      rw [show ((l.drop ((0 + 7) / 8)).take l.length) = l from by simp] at o13
      have k13 : Upd (fun k => w.heap.size ≤ k) w w13 := Upd.then HK12.out u13 (fun k _ e => by have := HR12.out.2.2.1; omega)
      have b13 := h.upd k13 (Nat.le_refl _) (fun ad _ hlt (e : w.heap.size ≤ ad.block) => by omega)
      have hs13 := k13.size
      have bb13 := own_bs o13
      clear hR13 u13 o13
      go_wp2_with fail
      refine (same_any A13 A c13 c l l w13.heap.size w13 bb13 (b13.more hs13) (by unfold maxLen; omega)).mono ?_
      rw [HBB.out]
      rintro e w14 ⟨rfl, m14, rfl⟩
      have k14 : Upd (fun k => w.heap.size ≤ k) w (w13.drewN m14) := Upd.drewN k13 m14
      generalize w13.drewN m14 = w15 at *
      have hs15 : w.heap.size ≤ w15.heap.size := k14.size
      go_wp2_with fail
      refine (newWriter_any high w15).mono ?_
      rintro e w16 ⟨g, rfl, hW16, hb16, hg⟩
      have k16 : Upd (fun k => w.heap.size ≤ k) w w16 := Upd.then k14 (Upd.of_fresh hb16) (fun _ _ h => h.elim)
      have hs16 : w15.heap.size ≤ w16.heap.size := hb16.size
      have HK16 := Lib.hid k16
      have HW16 := Lib.hid hW16
      have HB16 := Lib.hid hb16
      clear k16 hW16 hb16 k14 k13 b13 hs13 bb13 HR12 HK12 b11 bi11
      go_wp2_with fail
      have ua : Upd No w16 (w16.alloc (.cells #[.bool high, .slice none 0 0, .int .i64 0] 50)) := (Upd.refl No w16).alloc _
      have hB3 : Both w15.heap.size g w16.heap.size high [] [] (w16.alloc (.cells #[.bool high, .slice none 0 0, .int .i64 0] 50)) :=
        ⟨none, 0, [], none, 0, [], HW16.out.upd ua id (fun _ _ => id), packed_nil high, Blk.new w16 _ _, ⟨own_upd HW16.out.2.1 ua (fun _ _ => id), packed_nil high⟩, (fun k h => by cases h), Nat.le_trans hs16 ua.size⟩
      have u3 : Up w (w16.alloc (.cells #[.bool high, .slice none 0 0, .int .i64 0] 50)) := Upd.alloc HK16.out _
      have hg0 : w.heap.size ≤ w16.heap.size := Nat.le_trans hs15 hs16
      have hbase : w.heap.size ≤ w15.heap.size := hs15
      have hgr : w15.heap.size ≤ g := HW16.out.2.2
      clear HW16 HB16 HK16 ua hs16 hg
      generalize w16.alloc (.cells #[.bool high, .slice none 0 0, .int .i64 0] 50) = w17 at *
      generalize w16.heap.size = g0 at *
      generalize w15.heap.size = base at *
      have HB3 := Lib.hid hB3; clear hB3
      have HU3 := Lib.hid u3; clear u3
      go_loopg [123] acts.length (fun gk i wr => ∃ (k : Nat) (bs : List Bool), k ≤ acts.length ∧ gk = acts.length - k ∧ i = .int .i64 k ∧ bs.length ≤ 32 * k ∧ Both base g g0 high bs bs wr ∧ Up w wr)
      case atStart => exact ⟨0, [], by omega, rfl, rfl, by simp, HB3.out, HU3.out⟩
      case round =>
        obtain ⟨k, bs, hk, rfl, rfl, hbs, hBo, hU⟩ := hrel
        have HBo := Lib.hid hBo; clear hBo
        have HU := Lib.hid hU; clear hU
        by_cases hlt : k < acts.length
        · obtain ⟨b, off, rfl, hb, hcells⟩ := (hac.upd HU.out (Nat.le_refl _) (fun i hi => by omega)) (by omega)
          obtain ⟨k0, k1, k2⟩ := hcells k hlt
          have hko := hok acts[k] (List.getElem_mem hlt)
          clear hcells
          generalize acts[k] = a at *
          obtain ⟨a0, a1, a2⟩ := a
          have hv : a2 < 4294967296 := hko.2.2
          go_wp2_with fail
          refine wp_region_tail 11 (by kernel_rfl) (by kernel_rfl) ?_
          simp only [List.take_succ_cons, List.take_zero, List.drop_succ_cons, List.drop_zero]
          repeat (go_big_quiet_step (fail))
          refine wpQuiet_nil ?_
          go_wp2_with fail
          refine (Both.put (HBo.out.upd (Upd.refl No _).drew) (Upd.drew HU.out) hbase a1 a2 hv (by omega)).mono ?_
          rintro e w5 ⟨rfl, hB5, hU5⟩
          have c1e : w5.cell? ⟨b, off + k * 3 + 1, none⟩ = some (.int .i64 a1) := (World.cell?_of_block (a := ⟨b, off + k * 3 + 1, none⟩) (hU5.block b hb (by omega))).trans ((World.cell?_of_block (a := ⟨b, off + k * 3 + 1, none⟩) (HU.out.block b hb (by omega))).symm.trans k1)
          have c2e : w5.cell? ⟨b, off + k * 3 + 2, none⟩ = some (.int .u32 (a2 : Int)) := (World.cell?_of_block (a := ⟨b, off + k * 3 + 2, none⟩) (hU5.block b hb (by omega))).trans ((World.cell?_of_block (a := ⟨b, off + k * 3 + 2, none⟩) (HU.out.block b hb (by omega))).symm.trans k2)
          obtain ⟨A1, c1, l1, B1, d1, l2, hW5, hP5, hD5, hV5, hA5, hBB5⟩ := hB5
          have d0 : w5.cell? ⟨g0, 0, none⟩ = some (.bool high) := by rw [hD5.cell]; rfl
          have d3 : w5.cell? ⟨g0, 1, none⟩ = some (.slice B1 l2.length d1) := by rw [hD5.cell]; rfl
          have d4 : w5.cell? ⟨g0, 2, none⟩ = some (.int .i64 (bs.length : Int)) := by rw [hD5.cell]; rfl
          have HZ := Lib.hid (fun W9 B2 d2 l2' bs2' (hV9 : WVal W9 base B2 d2 l2' high bs2') => Both.theirs hW5 hP5 hD5 hV5 hA5 hBB5 hU5 hbase hg0 hV9)
          have HV5 := Lib.hid hV5
          have HLn : Hid ((bs ++ actBits high a1 a2).length ≤ 32 * (k + 1)) := Lib.hid (by have := actBits_len high a1 a2; rw [List.length_append]; omega)
          have hszb : bs.length + 32 ≤ 1125899906842000 := by omega
          clear hW5 hP5 hD5 hV5 hA5
          generalize hbn : bs ++ actBits high a1 a2 = bn at *
          have HBN := Lib.hid hbn; clear hbn
          go_upto_region 28 with (fail)
          go_cut [] (fun wx => ∃ bs2 : List Bool, bs2.length ≤ 32 * (k + 1) ∧ Both base g g0 high bs2 bs2 wx ∧ Up w wx)
          case first =>
            go_region_with (go_at_call 27; refine (docPut _ base B1 d1 l2 high bs a2 a1 (show WVal w5.drew base B1 d1 l2 high bs from HV5.out) hBB5 hszb).mono ?_; rw [HBN.out]; rintro e w6 ⟨B2, d2, l2', rfl, hV6, hu6, hO6⟩; obtain ⟨hD9, hBt, hU9⟩ := HZ.out _ _ _ _ _ hV6 (Upd.trans (Upd.drew (Upd.refl _ w5)) hu6) hO6; have e0 : w6.cell? ⟨g0, 0, none⟩ = some (.bool high) := (by rw [hD9.cell]; rfl); have e1 : w6.cell? ⟨g0, 1, none⟩ = some (.slice B1 l2.length d1) := (by rw [hD9.cell]; rfl); have e2 : w6.cell? ⟨g0, 2, none⟩ = some (.int .i64 (bs.length : Int)) := (by rw [hD9.cell]; rfl); have f0 := hD9.frozen 0; have f1 := hD9.frozen 1; have f2 := hD9.frozen 2; have HR := Lib.hid (And.intro hBt hU9); clear hD9 hBt hU9 hV6 hu6 hO6)
            all_goals (go_wp2_with fail; go_meet; exact ⟨bn, HLn.out, HR.out⟩)
          case rest =>
            obtain ⟨bs2, hl2, hBt, hU2⟩ := hcut
            have HB2 := Lib.hid hBt
            have HU2 := Lib.hid hU2
            obtain ⟨A1, c1, l1, B1, d1, l2, hW5, hP5, hD5, hV5, hA5, hBB5⟩ := hBt
            have hlb : l1.length ≤ 140737488355000 := by have := hP5.1; omega
            have HW5 := Lib.hid hW5
            clear hW5 hP5 hD5 hV5 hA5 hBB5 hU2
            go_wp2_with fail
            refine (wbytes_any wc base g A1 c1 l1 high bs2.length HW5.out (by omega)).mono ?_
            rintro e w6 ⟨A6, c6, rfl, o6, hb6⟩
            have hl6 := row_lt o6
            have HL6 := Lib.hid hl6; clear hl6
            have O6 := Lib.hid o6; clear o6
            go_wp2_with fail
            refine (spoil_any w6 _ A6 l1.length c6 l1 O6.out hlb hb6.size).mono ?_
            rintro e w7 ⟨rfl, u7⟩
            have v7 : Upd No wc w7 := Upd.then (Upd.of_fresh hb6) u7 (fun i hi e => by have := HL6.out i e; omega)
            have HB9 := Lib.hid (HB2.out.upd v7)
            have HU9 := Lib.hid (HU2.out.step v7 (fun _ h => h.elim))
            clear u7 v7 hb6
            go_wp2_with fail
            go_roundg (acts.length - (k + 1))
            case measure => omega
            case rel => exact ⟨k + 1, bs2, by omega, rfl, by go_num, hl2, HB9.out, HU9.out⟩
        · have hkn : k = acts.length := by omega
          subst hkn
          have HB2 := Lib.hid HBo.out
          obtain ⟨A1, c1, l1, B1, d1, l2, hW5, hP5, hD5, hV5, hA5, hBB5⟩ := HBo.out
          have hll := packed_unique hP5 hV5.2
          subst hll
          have hlb : l1.length ≤ 140737488355328 := by have := hP5.1; omega
          have d0 : wr.cell? ⟨g0, 1, none⟩ = some (.slice B1 l1.length d1) := by rw [hD5.cell]; rfl
          have hgl := hD5.lt
          have hfull : Hid (∀ w', Upd No wr w' → (Upd No wr w' ∧ w'.cell? ⟨g0, 1, none⟩ = some (.slice B1 l1.length d1))) := Lib.hid fun w' hu => ⟨hu, (World.cell?_of_block (a := ⟨g0, 1, none⟩) (hu.block g0 hgl id)).trans d0⟩
          have hWr : Hid (∀ w', Upd No wr w' → Wraw w' base g A1 c1 l1 high bs.length) := Lib.hid fun w' hu => hW5.upd hu id (fun _ _ => id)
          have hDs : Hid (∀ w', Upd No wr w' → Bs w' w'.heap.size B1 l1) := Lib.hid fun w' hu => Bs.of_own (own_upd hV5.1 hu (fun _ _ => id))
          have hxx : (l1 == l1) = true := by simp
          have HXX := Lib.hid hxx
          clear hW5 hP5 hD5 hV5 hA5 hxx hBB5
          go_wp2_with fail
          go_region_held3 (fun w' => Upd No wr w' ∧ w'.cell? ⟨g0, 1, none⟩ = some (.slice B1 l1.length d1))
            (first | exact hfull.out _ (Upd.refl _ _) | exact hfull.out _ (Upd.drew (Upd.refl _ _)) | exact hfull.out _ (Upd.drew (And.left (by assumption))) | exact hfull.out _ (Upd.drewN (And.left (by assumption)) _) | exact hfull.out _ (by assumption))
            (first
              | (go_at_call 29; refine (wbytes_any _ base g A1 c1 l1 high bs.length (hWr.out _ (And.left (by assumption))) hlb).mono ?_; rintro e w6 ⟨A6, c6, rfl, hown6, hb6⟩; have hS6 := Upd.trans (And.left (by assumption)) (Upd.of_fresh hb6))
              | (go_at_call 19; refine (same_any A6 B1 c6 d1 l1 l1 _ _ (Bs.of_own hown6) (hDs.out _ (And.left (by assumption))) (by unfold maxLen; omega)).mono ?_; rintro e w7 ⟨rfl, n7, rfl⟩; rw [HXX.out]))
          rename_i hH
          have HU9 := Lib.hid (HU.out.step hH.1 (fun _ h => h.elim))
          clear hH hS6 hb6 hown6 hfull hWr hDs HXX
          go_wp2_with fail
          go_ret
          exact ⟨rfl, HU9.out.below⟩
end BitsOwn
end Go.Proofs.Ytlkmhmiaekmkdaa
