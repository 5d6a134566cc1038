/- Proved: bytes of any kind, stored in blocks of any sizes, come out of the program as they are, for every input of InflateStored (the first form). Condition: the form's own reach of memory. -/
import Derived.Test.YtpemgjnoinnlnaaIt
import Derived.Test.YtpemgjnoinnlnaaSame
import Derived.Test.YtpemgjnoinnlnaaOp
import Derived.Test.YtpemgjnoinnlnaaSa
import Derived.Deep.CutBlock
namespace Go.Proofs.Ytpemgjnoinnlnaa
open Go.ChangeShapes Go.WideShapes Go.ChangeAt Go.RowKit
namespace InflateStored

def seg5 (last n : Nat) : List UInt8 := [UInt8.ofNat last, UInt8.ofNat n, UInt8.ofNat (n / 256), UInt8.ofNat (255 - n % 256), UInt8.ofNat (255 - n / 256)]
theorem seg_cells (last n : Nat) (hl : last ≤ 1) (hn : n ≤ 60000) : (#[Value.int .u8 (last : Int), .int .u8 ((n : Int) % 256), .int .u8 ((n : Int) / 256), .int .u8 (255 - (n : Int) % 256), .int .u8 (255 - (n : Int) / 256)] : Array Value) = (bytesV (seg5 last n)).toArray := by
  have e : ∀ x : Nat, x < 256 → ((UInt8.ofNat x).toNat : Int) = (x : Int) := fun x hx => by rw [UInt8.toNat_ofNat']; omega
  have e2 : ((UInt8.ofNat n).toNat : Int) = (n : Int) % 256 := by rw [UInt8.toNat_ofNat']; omega
  have e3 : ((n / 256 : Nat) : Int) = (n : Int) / 256 := by omega
  have e4 : ((255 - n % 256 : Nat) : Int) = 255 - (n : Int) % 256 := by omega
  have e5 : ((255 - n / 256 : Nat) : Int) = 255 - (n : Int) / 256 := by omega
  show _ = (#[.int .u8 ((UInt8.ofNat last).toNat : Int), .int .u8 ((UInt8.ofNat n).toNat : Int), .int .u8 ((UInt8.ofNat (n / 256)).toNat : Int), .int .u8 ((UInt8.ofNat (255 - n % 256)).toNat : Int), .int .u8 ((UInt8.ofNat (255 - n / 256)).toNat : Int)] : Array Value)
  rw [e last (by omega), e2, e (n / 256) (by omega), e (255 - n % 256) (by omega), e (255 - n / 256) (by omega), e3, e4, e5]
def StS (w0 : World) (b : List UInt8) (cuts : List Int) (k at_ : Nat) (As : Option Addr) (N cs : Nat) (wr : World) : Prop :=
  wr.ownsRow w0.heap.size 5 1 (.slice As N cs) N (bytesV (preS b cuts k).1) ∧ N = (preS b cuts k).1.length ∧ at_ = (preS b cuts k).2 ∧ Below w0.heap.size w0 wr
theorem stS_next {w0 wr w4 : World} {b : List UInt8} {cuts : List Int} {k at_ n last N cs c4 : Nat} {As A4 : Option Addr} {S5 : List UInt8} (hn : n = sizeS b cuts k at_) (hl : last = if k < cuts.length then 0 else 1) (h5 : S5 = seg5 last n)
    (hd : ((b.drop at_).take n).length = n)
    (ho : w4.ownsRow w0.heap.size 5 1 (.slice A4 (N + S5.length + ((b.drop at_).take n).length) c4) (N + S5.length + ((b.drop at_).take n).length) (bytesV (preS b cuts k).1 ++ bytesV S5 ++ bytesV ((b.drop at_).take n)))
    (hS : StS w0 b cuts k at_ As N cs wr) (hb : Below w0.heap.size w0 w4) : StS w0 b cuts (k + 1) (at_ + n) A4 (N + S5.length + n) c4 w4 := by
  obtain ⟨_, h2, h3, _⟩ := hS
  have hp1 : (preS b cuts (k + 1)).1 = (preS b cuts k).1 ++ segS (if k < cuts.length then 0 else 1) ((b.drop (preS b cuts k).2).take (sizeS b cuts k (preS b cuts k).2)) := rfl
  have hp2 : (preS b cuts (k + 1)).2 = (preS b cuts k).2 + sizeS b cuts k (preS b cuts k).2 := rfl
  rw [← h3, ← hn] at hp1 hp2
  have he : segS (if k < cuts.length then 0 else 1) ((b.drop at_).take n) = S5 ++ (b.drop at_).take n := by
    rw [h5, hl]
    unfold segS seg5
    rw [hd]
    split <;> rfl
  rw [he] at hp1
  refine ⟨?_, ?_, hp2.symm, hb⟩
  · rw [hd] at ho
    rw [hp1, bytesV_append, bytesV_append, ← List.append_assoc]
    exact ho
  · rw [hp1, List.length_append, List.length_append, hd, h2]
    omega
theorem stS_len {w0 w4 : World} {b : List UInt8} {cuts : List Int} {k at_ N cs : Nat} {As : Option Addr} (hS : StS w0 b cuts k at_ As N cs w4) (hk : k ≤ 201) (hb : b.length ≤ 60000) : N ≤ 70000 := by
  have h1 := preS_len (b := b) (cuts := cuts) k
  have h2 := preS_at (b := b) (cuts := cuts) k
  have h3 := hS.2.1
  omega
theorem same_quiet (A1 A2 : Option Addr) (c1 c2 : Nat) (a : List UInt8) (B : Nat) (w : World) (n : Nat) (h1 : Bs w B A1 a) (h2 : Bs w B A2 a) (hl : a.length ≤ maxLen) :
    Calls Try.prog 13 #[.slice A1 a.length c1, .slice A2 a.length c2] (w.drewN n) fun e w'' => e = .returned (.bool true) ∧ ∃ m, w'' = w.drewN m :=
  (same_any A1 A2 c1 c2 a a B (w.drewN n) (h1.drewN n) (h2.drewN n) hl).mono fun _ _ ⟨he, m, hm⟩ => ⟨by rw [he, beq_self_eq_true], n + m, by rw [hm]; simp⟩
theorem raw_st (w : World) (A : Option Addr) (c N : Nat) (b : List UInt8) (cuts : List Int) (hN : (preS b cuts (cuts.length + 1)).1.length = N) (hN2 : N ≤ 70000) (hb : b.length ≤ 60000) (hbs : Bs w w.heap.size A (preS b cuts (cuts.length + 1)).1) :
    Calls Try.prog 10 #[.slice A N c, .int .i64 (b.length : Int)] w fun e w' => ∃ Ax cx, e = .returned (.tuple #[.slice Ax b.length cx, .int .i64 (N : Int), .int .i64 0]) ∧ Bs w' w'.heap.size Ax b ∧ Below w.heap.size w w' := by
  have ht : (b.length : Int).toNat = b.length := Int.toNat_natCast _
  have h := raw_n w A c _ N hN (b.length : Int) hbs (by omega) (by rw [ht]; exact ⟨by omega, fun n h1 _ => by omega, by omega⟩)
  rw [ht, rawM_stored hb (Nat.le_refl _), hN] at h
  refine h.mono ?_
  rintro e w' ⟨Ao, co, rfl, ho, hb⟩
  exact ⟨Ao, co, rfl, Bs.of_own ho, hb⟩
theorem raw_st2 (w : World) (A : Option Addr) (c N : Nat) (b : List UInt8) (cuts : List Int) (hN : (preS b cuts (cuts.length + 1)).1.length = N) (hN2 : N ≤ 70000) (hb : b.length ≤ 60000) (hbs : Bs w w.heap.size A (preS b cuts (cuts.length + 1)).1) :
    Calls Try.prog 10 #[.slice A N c, .int .i64 ((b.length : Int) - 1)] w fun e w' => ∃ Ax nx cx z f, e = .returned (.tuple #[.slice Ax nx cx, .int .i64 z, .int .i64 (f : Int)]) ∧ (f = (3 : Int) ∨ b.length = 0) ∧ Below w.heap.size w w' := by
  have h := raw_n w A c _ N hN ((b.length : Int) - 1) hbs (by omega) ⟨by omega, fun n h1 _ => by omega, by omega⟩
  by_cases h0 : b.length = 0
  · refine h.mono ?_
    intro e w' hr
    rcases hx : rawM (preS b cuts (cuts.length + 1)).1 ((b.length : Int) - 1).toNat with ke | ⟨o, q⟩
    · rw [hx] at hr
      obtain ⟨rfl, hb⟩ := hr
      exact ⟨_, _, _, _, _, rfl, .inr h0, hb⟩
    · rw [hx] at hr
      obtain ⟨Ao, co, rfl, _, hb⟩ := hr
      exact ⟨_, _, _, _, _, rfl, .inr h0, hb⟩
  · rw [rawM_storedLong hb (by omega)] at h
    refine h.mono ?_
    rintro e w' ⟨rfl, hb⟩
    exact ⟨_, _, _, _, _, rfl, .inl rfl, hb⟩
set_option maxHeartbeats 8000000 in
set_option maxRecDepth 100000 in
theorem walk (A0 : Option Addr) (c0 : Nat) (b : List UInt8) (A1 : Option Addr) (c1 : Nat) (cuts : List Int) (w : World) (hb : Bs w w.heap.size A0 b) (hcb : b.length ≤ c0) (hl : b.length ≤ 140737488355328)
    (hc : Is w w.heap.size A1 cuts) (hci : ∀ x ∈ cuts, -9223372036854775808 ≤ x ∧ x ≤ 9223372036854775807) (hcl : cuts.length ≤ 17592186043904) :
    Calls Try.prog 5 #[.slice A0 b.length c0, .slice A1 cuts.length c1] w fun e w' => e = .returned (.bool true) ∧ Below w.heap.size w w' := by
  obtain ⟨i0, hi, hz0, hz1, hz2⟩ := info_parts info_u8
  go_enter Try.func5, Try.ntmps5
  go_wp2_with fail
  refine (wakes_any w).mono ?_
  rintro e w1 ⟨rfl, hb1⟩
  have HB1 := Lib.hid hb1
  have hs1 := hb1.size
  clear hb1
  by_cases h1 : 60000 < b.length
  · have d1 : decide ((60000 : Int) < b.length) = true := by simp; omega
    go_wp2_with fail
    go_ret
    exact ⟨rfl, HB1.out⟩
  · by_cases h2 : 200 < cuts.length
    · have d1 : decide ((60000 : Int) < b.length) = false := by simp; omega
      have d2 : decide ((200 : Int) < cuts.length) = true := by simp; omega
      go_wp2_with fail
      go_ret
      exact ⟨rfl, HB1.out⟩
    · have d1 : decide ((60000 : Int) < b.length) = false := by simp; omega
      have d2 : decide ((200 : Int) < cuts.length) = false := by simp; omega
      go_wp2_with fail
      go_loopw [5, 6, 7] (fun s a i wr => ∃ (k at_ : Nat) (As : Option Addr) (N cs : Nat), k ≤ cuts.length + 1 ∧ at_ ≤ b.length ∧ N ≤ 70000 ∧ i = .int .i64 (k : Int) ∧ a = .int .i64 (at_ : Int) ∧ s = .slice As N cs ∧ Hid (StS w1 b cuts k at_ As N cs wr)) (fun _ _ i _ => cuts.length + 1 - (intOf i).toNat)
      case atStart => exact ⟨0, 0, none, 0, 0, by omega, by omega, by omega, rfl, rfl, rfl, Lib.hid ⟨World.ownsRow_nil _ _ _ _, rfl, rfl, Below.refl _ _⟩⟩
      case round =>
        obtain ⟨k, at_, As, N, cs, hk, hat, hN, rfl, rfl, rfl, HS⟩ := hrel
        by_cases hlt : k ≤ cuts.length
        · have d3 : decide ((k : Int) ≤ cuts.length) = true := by simp; omega
          go_upto_if 39 with (fail)
          go_cut [8, 9] from 26 to 74 (fun v l wx => ∃ n last : Nat, v = .int .i64 (n : Int) ∧ l = .int .u8 (last : Int) ∧ Hid (n = sizeS b cuts k at_) ∧ Hid (last = if k < cuts.length then 0 else 1) ∧ last ≤ 1 ∧ n + at_ ≤ b.length ∧ wx = wr)
          case first =>
            by_cases hlt2 : k < cuts.length
            · have d4 : decide ((k : Int) < cuts.length) = true := by simp; omega
              obtain ⟨ad, rfl, hadb, hcd⟩ := Is.at_ hc hlt2
              obtain ⟨z, hz⟩ : ∃ z, z = cuts[k] := ⟨_, rfl⟩
              rw [← hz] at hcd
              have hzb := hci z (by rw [hz]; exact List.getElem_mem _)
              have HN : Hid (sizeS b cuts k at_ = min z.toNat (b.length - at_)) := Lib.hid (by rw [hz]; unfold sizeS; rw [if_pos hlt2, List.getD, List.getElem?_eq_getElem hlt2, Option.getD_some])
              have HLa : Hid ((0 : Nat) = if k < cuts.length then 0 else 1) := Lib.hid (by rw [if_pos hlt2])
              clear hz
              have hcd1 := HS.out.2.2.2.cell (p := ad.add k) (by have := HB1.out.size; rw [block_of_add]; omega)
              have hcd2 := (hcd1.trans (HB1.out.cell (p := ad.add k) (by rw [block_of_add]; exact hadb))).trans hcd
              clear hcd hcd1
              by_cases z0 : z ≤ 0
              · have HN0 : Hid ((0 : Nat) = sizeS b cuts k at_) := Lib.hid (by rw [HN.out]; omega)
                go_wp2_with fail
                all_goals go_meet
                all_goals first
                  | exact ⟨0, 0, rfl, rfl, HN0, HLa, by omega, by omega, rfl⟩
                  | exact ⟨0, 0, by rw [show z = ((0 : Nat) : Int) by omega], rfl, HN0, HLa, by omega, by omega, rfl⟩
              · by_cases z1 : z ≤ (b.length : Int) - at_
                · obtain ⟨y, rfl⟩ : ∃ y : Nat, z = (y : Int) := ⟨z.toNat, by omega⟩
                  have HN0 : Hid (y = sizeS b cuts k at_) := Lib.hid (by rw [HN.out]; omega)
                  go_wp2_with fail
                  all_goals go_meet
                  all_goals exact ⟨y, 0, rfl, rfl, HN0, HLa, by omega, by omega, rfl⟩
                · have HN0 : Hid (b.length - at_ = sizeS b cuts k at_) := Lib.hid (by rw [HN.out]; omega)
                  go_wp2_with fail
                  all_goals go_meet
                  all_goals exact ⟨b.length - at_, 0, by rw [Int.ofNat_sub hat], rfl, HN0, HLa, by omega, by omega, rfl⟩
            · have d4 : decide ((k : Int) < cuts.length) = false := by simp; omega
              have HN0 : Hid (b.length - at_ = sizeS b cuts k at_) := Lib.hid (by unfold sizeS; rw [if_neg hlt2])
              have HLa : Hid ((1 : Nat) = if k < cuts.length then 0 else 1) := Lib.hid (by rw [if_neg hlt2])
              go_wp2_with fail
              go_meet
              exact ⟨b.length - at_, 1, by rw [Int.ofNat_sub hat], rfl, HN0, HLa, by omega, by omega, rfl⟩
          case rest =>
            obtain ⟨n, last, rfl, rfl, HN, HL, hl1, hna, rfl⟩ := hcut
            obtain ⟨S5, hS5⟩ : ∃ S, S = seg5 last n := ⟨_, rfl⟩
            have HLn : Hid (S5.length = 5) := Lib.hid (by rw [hS5]; rfl)
            have HSe := Lib.hid hS5
            have HBL := Lib.hid (show Bs (wc.alloc (.cells #[Value.int .u8 (last : Int), .int .u8 ((n : Int) % 256), .int .u8 ((n : Int) / 256), .int .u8 (255 - (n : Int) % 256), .int .u8 (255 - (n : Int) / 256)] 5)) (wc.heap.size + 1) (some ⟨wc.heap.size, 0, none⟩) S5 by
              rw [seg_cells last n hl1 (by omega), ← hS5]; exact bs_lit2 wc 5 S5)
            have hw1 : w1.heap.size ≤ wc.heap.size := HS.out.2.2.2.size
            clear hS5
            go_upto_region 15 with (at_builtin; refine wpList_append_bs _ rfl (.tmp 47) (.tmp 62) _ rfl w1.heap.size 5 i0 Try.underlying22 hi hz0 hz1 hz2 (.slice As N cs) N (bytesV (preS b cuts k).1) rfl (HS.out.1.alloc _) (wc.heap.size + 1) (some ⟨wc.heap.size, 0, none⟩) 5 S5 (by rw [HLn.out]; rfl) HBL.out (by rw [HLn.out]; omega) (by simp; omega) ?_; intro A3 c3 w3 o3 hg3 _; have HB3 := Lib.hid ((HS.out.2.2.2.alloc hw1 _).grown hg3 (by simp; omega) (fun k hk => (HS.out.1.lt k hk).1)); clear hg3)
            have HO3 := Lib.hid o3
            clear o3 HBL
            have hsn : S5.length ≤ 5 := by rw [HLn.out]; omega
            have hw3 := HB3.out.size
            have HBc := Lib.hid (Bs.cutN (n := n) ((hb.below HB1.out).below (HB3.out.mono hs1)) (k := at_) (cap := c0) (by omega) hcb)
            have HLd : Hid (((b.drop at_).take n).length = n) := Lib.hid (by simp; omega)
            have HLe : Hid (((b.drop at_).take n).length = at_ + n - at_) := Lib.hid (by rw [HLd.out]; omega)
            by_cases hca : c0 = at_
            · have HB4 := HBc.out
              rw [if_pos hca] at HB4
              subst hca
              go_wp2_with (at_builtin; refine wpList_append_bs _ rfl (.tmp 64) (.tmp 70) _ rfl w1.heap.size 5 i0 Try.underlying22 hi hz0 hz1 hz2 (.slice A3 (N + S5.length) c3) (N + S5.length) (bytesV (preS b cuts k).1 ++ bytesV S5) rfl HO3.out w.heap.size A0 _ ((b.drop c0).take n) (by rw [HLe.out]; rfl) HB4 (by rw [HLd.out]; omega) hw3 ?_; intro A4 c4 w4 o4 hg4 _; have HB4' := Lib.hid (HB3.out.grown hg4 hw3 (fun k hk => (HO3.out.lt k hk).1)); clear hg4)
              have hs4 := stS_next HN.out HL.out HSe.out HLd.out o4 HS.out HB4'.out
              have hs5 := stS_len hs4 (by omega) (by omega)
              have hs6 : StS w1 b cuts (k + 1) (c0 + n) A4 (N + S5.length + ((b.drop c0).take n).length) c4 w4 := by rw [HLd.out]; exact hs4
              have hs7 : N + S5.length + ((b.drop c0).take n).length ≤ 70000 := by rw [HLd.out]; exact hs5
              have HS6 := Lib.hid hs6
              clear hs4 hs5 hs6 o4
              go_wp2_with fail
              go_roundw
              case rel => exact ⟨k + 1, c0 + n, A4, _, c4, by omega, by omega, hs7, by go_num, by go_num, congrArg (fun t => Value.slice A4 t c4) (by have h := HLd.out; omega), HS6⟩
              case measure => simp [intOf]; omega
            · have HB4 := HBc.out
              rw [if_neg hca] at HB4
              go_wp2_with (at_builtin; refine wpList_append_bs _ rfl (.tmp 64) (.tmp 70) _ rfl w1.heap.size 5 i0 Try.underlying22 hi hz0 hz1 hz2 (.slice A3 (N + S5.length) c3) (N + S5.length) (bytesV (preS b cuts k).1 ++ bytesV S5) rfl HO3.out w.heap.size (A0.map (·.add at_)) _ ((b.drop at_).take n) (by rw [HLe.out]; rfl) HB4 (by rw [HLd.out]; omega) hw3 ?_; intro A4 c4 w4 o4 hg4 _; have HB4' := Lib.hid (HB3.out.grown hg4 hw3 (fun k hk => (HO3.out.lt k hk).1)); clear hg4)
              have hs4 := stS_next HN.out HL.out HSe.out HLd.out o4 HS.out HB4'.out
              have hs5 := stS_len hs4 (by omega) (by omega)
              have hs6 : StS w1 b cuts (k + 1) (at_ + n) A4 (N + S5.length + ((b.drop at_).take n).length) c4 w4 := by rw [HLd.out]; exact hs4
              have hs7 : N + S5.length + ((b.drop at_).take n).length ≤ 70000 := by rw [HLd.out]; exact hs5
              have HS6 := Lib.hid hs6
              clear hs4 hs5 hs6 o4
              go_wp2_with fail
              go_roundw
              case rel => exact ⟨k + 1, at_ + n, A4, _, c4, by omega, by omega, hs7, by go_num, by go_num, congrArg (fun t => Value.slice A4 t c4) (by have h := HLd.out; omega), HS6⟩
              case measure => simp [intOf]; omega
        · have d3 : decide ((k : Int) ≤ cuts.length) = false := by simp; omega
          have hke : k = cuts.length + 1 := by omega
          have HS1 := HS.out
          rw [hke] at HS1
          have HLN : Hid ((preS b cuts (cuts.length + 1)).1.length = N) := Lib.hid HS1.2.1.symm
          have HBS : Hid (Bs wr wr.heap.size As (preS b cuts (cuts.length + 1)).1) := Lib.hid (own_bs HLN.out HS1.1)
          have HBW : Hid (Below w.heap.size w wr) := Lib.hid (HB1.out.trans (HS1.2.2.2.mono hs1))
          have hs2 := HBW.out.size
          clear hke HS1 HS
          go_wp2_with fail
          refine (own_n As cs N _ HLN.out wr.heap.size wr HBS.out (by omega) (Nat.le_refl _)).mono ?_
          rintro e w3 ⟨A3, c3, rfl, o3, hb3⟩
          have HB3 := Lib.hid (HBW.out.trans (hb3.mono hs2))
          have HBSa := Lib.hid (HBS.out.below hb3)
          have HBS3 := Lib.hid (own_bs HLN.out o3)
          have hs3 := HB3.out.size
          have hs3r := hb3.size
          clear o3 hb3
          go_wp2_with fail
          refine (raw_st w3 A3 c3 N b cuts HLN.out hN (by omega) HBS3.out).mono ?_
          rintro e w4 ⟨Ax, cx, rfl, hx4, hb4⟩
          have HX4 := Lib.hid hx4
          have HB4 := Lib.hid (HB3.out.trans (hb4.mono hs3))
          have HBSb := Lib.hid ((HBSa.out.more hs3r).below hb4)
          have hs4 := HB4.out.size
          have hs4r := hb4.size
          clear hx4 hb4
          go_wp2_with fail
          refine (own_n As cs N _ HLN.out w3.heap.size w4 HBSb.out (by omega) hs4r).mono ?_
          rintro e w5 ⟨A5, c5, rfl, o5, hb5⟩
          have HB5 := Lib.hid (HB4.out.trans (hb5.mono hs4))
          have HX5 := Lib.hid (HX4.out.below hb5)
          have HBS5 := Lib.hid (own_bs HLN.out o5)
          have hs5 := HB5.out.size
          have hs5r := hb5.size
          clear o5 hb5
          go_wp2_with fail
          refine (raw_st2 w5 A5 c5 N b cuts HLN.out hN (by omega) HBS5.out).mono ?_
          rintro e w6 ⟨Ay, ny, cy, zy, f, rfl, hf, hb6⟩
          have HB6 := Lib.hid (HB5.out.trans (hb6.mono hs5))
          have HX6 := Lib.hid ((HX5.out.more hs5r).below hb6)
          have HW6 := Lib.hid ((hb.below HB6.out).more hs5)
          clear hb6
          clear HLN HBW HBSa HBS HBS3 HB3 HB4 HX4 HBSb HBS5 HX5 HB5 hb hc hci
          rcases hf with rfl | h0
          · go_wp2_with fail
            refine (same_quiet Ax A0 cx c0 b w5.heap.size w6 0 HX6.out HW6.out (by unfold maxLen; omega)).mono ?_
            rintro e w7 ⟨rfl, n7, rfl⟩
            go_wp2_with fail
            go_ret
            exact ⟨rfl, below_drewN HB6.out n7⟩
          · have d5 : ((b.length : Int) == 0) = true := by rw [h0]; rfl
            have hz0 : b.length ≤ maxLen := by unfold maxLen; omega
            clear h0
            by_cases hf3 : f = 3
            · subst hf3
              go_wp2_with fail
              refine (same_quiet Ax A0 cx c0 b w5.heap.size w6 0 HX6.out HW6.out hz0).mono ?_
              rintro e w7 ⟨rfl, n7, rfl⟩
              go_wp2_with fail
              go_ret
              exact ⟨rfl, below_drewN HB6.out n7⟩
            · have d6 : (f == 3) = false := by simpa using hf3
              clear hf3
              go_wp2_with fail
              refine (same_quiet Ax A0 cx c0 b w5.heap.size w6 0 HX6.out HW6.out hz0).mono ?_
              rintro e w7 ⟨rfl, n7, rfl⟩
              go_wp2_with fail
              go_ret
              exact ⟨rfl, below_drewN HB6.out n7⟩

set_option maxRecDepth 100000 in
theorem lifted (os : Os) (started : os.Started) (H : Type) (enc : TypeId × Value → H) :
    ReturnsInHanded {} Try.checked os 5 .any (Rows.inflateStoredSpec.pre6 enc Try.prog Try.f5 Rows.inflateStoredRow.domain false) (Rows.inflateStoredSpec.post enc Try.prog Try.f5 false true false false) := by
  refine returnsInHanded_of_change_sized (C := Try.checked) prog_own started (by kernel_rfl) Try.func5
    (ChangeSpec.witness6 (enc := enc) (C := Try.checked) false ⟨#[], #[.slice none 0 0, .slice none 0 0], []⟩ 8 (by kernel_rfl) (by kernel_rfl) (by kernel_rfl) (by kernel_rfl)) ?_
  intro W base args ds gs before hval0 hW hcnd hsz _
  have hval : ∀ (j : Nat) t v, Try.f5.params[j]? = some t → args[j]? = some v → Value.okWide Try.prog W .any base t v := hval0
  have hW' := hW
  obtain ⟨p, q, hA0, hV, rfl, hfz, hnd⟩ := hW
  have hA : DataW.TrodAll enc Try.prog W 0 (fun _ => true) true Try.f5.params.toList args.toList ds p := hA0
  rw [Try.params5] at hA hval
  obtain ⟨v0, vs0, d0, ds0, p0, q0, hargs, rfl, rfl, h0, r0⟩ := trodAll_cons hA
  obtain ⟨v1, vs1, d1, ds1, p1, q1, rfl, rfl, rfl, h1, r1⟩ := trodAll_cons r0
  obtain ⟨rfl, rfl, rfl⟩ := trodAll_nil r1
  obtain rfl : args = #[v0, v1] := by cases args; simp_all
  obtain ⟨rfl, rfl⟩ := trodVars_none hV
  obtain ⟨A0, l0, c0, rfl, hb0, hcp0, hd0⟩ := open_bytes (hval 0 22 v0 rfl rfl) h0
  obtain ⟨A1, l1, c1, rfl, hb1, hk1, hd1⟩ := open_numbers (hval 1 36 v1 rfl rfl) h1
  have hl0 : l0.length ≤ 140737488355328 := by
    rcases hd0 with ⟨_, rfl⟩ | ⟨e, s, rfl, hle⟩
    · simp
    · have this : (e.length + s.length) * Try.prog.bytesOf 5 ≤ reachBytes := sized_slice hsz (j := 0) (t := 22) (e := 5) rfl rfl Try.underlying22
      rw [bytes_u8] at this
      unfold reachBytes at this
      omega
  have hl1 : l1.length ≤ 17592186043904 := by
    rcases hd1 with ⟨_, rfl⟩ | ⟨e, s, rfl, hle⟩
    · simp
    · have this : (e.length + s.length) * Try.prog.bytesOf 3 ≤ reachBytes := sized_slice hsz (j := 1) (t := 36) (e := 3) rfl rfl Try.underlying36
      rw [bytes_int] at this
      unfold reachBytes at this
      omega
  have lt0 : ∀ x ∈ p0, x.block < W.heap.size := by obtain ⟨m, hm⟩ := h0; exact DataW.trod_lt m _ _ _ hm
  have lt1 : ∀ x ∈ p1, x.block < W.heap.size := by obtain ⟨m, hm⟩ := h1; exact DataW.trod_lt m _ _ _ hm
  clear hA0 hval0
  refine (walk A0 c0 l0 A1 c1 l1 W hb0 hcp0 hl0 hb1 hk1 hl1).mono fun e W' ⟨he, bel⟩ => ?_
  subst he
  exact ⟨_, rfl, _, _, _, [], _, [], hW', trodAll_mk1 (shut_bool Try.underlying4 _), (trodAll_cons_mk (Below.trod prog_laid (by kernel_rfl) (of_decide_eq_true (by kernel_rfl)) h0 bel lt0) (trodAll_cons_mk (Below.trod prog_laid (by kernel_rfl) (of_decide_eq_true (by kernel_rfl)) h1 bel lt1) trodAll_mk0)), rfl, bel.frame _, fun h => by cases h⟩

theorem over : Rows.inflateStoredRow.holds Try.pinned (OpenSpec.ofChange Rows.inflateStoredSpec) :=
  OpenClaim.holds_of_wide 5 Try.f5 rfl rfl rfl rfl rfl rfl rfl ⟨rfl, rfl, rfl, rfl, rfl⟩ rfl rfl rfl rfl rfl (by kernel_rfl) Try.func5 (by kernel_rfl)
    (of_decide_eq_true (by kernel_rfl)) (by unfold Func.isWrapper; first | (rw [if_pos (by decide +kernel)]; kernel_rfl) | (rw [if_neg (by decide +kernel)]; exact ⟨rfl, rfl⟩))
    (fun os started H enc _ => lifted os started H enc)
end InflateStored

theorem inflateStored_holds : Rows.InflateStoredSaid := InflateStored.over
#print axioms inflateStored_holds
end Go.Proofs.Ytpemgjnoinnlnaa
