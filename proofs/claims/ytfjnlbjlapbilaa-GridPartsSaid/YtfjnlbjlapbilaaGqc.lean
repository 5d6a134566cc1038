/- The document's Crop. -/
import Derived.Test.YtfjnlbjlapbilaaGq
import Derived.Test.YtfjnlbjlapbilaaGt
namespace Go.Proofs.Ytfjnlbjlapbilaa
open Go.ChangeShapes Go.WideShapes Go.ChangeAt Go.RowKit

theorem part_arith {W H X Y P Q k i : Nat} (hx : X + P ≤ W) (hy : Y + Q ≤ H) (hk : k < Q) (hi : i < P) (hf : W * H ≤ 65536) : ∃ Z G F J : Nat, IntKind.i64.wrap ((Y : Int) + (k : Int)) = (Z : Int) ∧ IntKind.i64.wrap ((Z : Int) * (W : Int)) = (G : Int) ∧ IntKind.i64.wrap ((G : Int) + (X : Int)) = (F : Int) ∧ F = (Y + k) * W + X ∧
    IntKind.i64.wrap ((F : Int) + (i : Int)) = (J : Int) ∧ J = F + i ∧ J < W * H := by
  have hp := place_lt (W := W) (H := H) (n := P) (X := X) (Y := Y + k) hx (by omega)
  have h1 : 1 ≤ W := by omega
  have hb : H ≤ 65536 := Nat.le_trans (Nat.le_mul_of_pos_left H h1) hf
  refine ⟨Y + k, (Y + k) * W, (Y + k) * W + X, (Y + k) * W + X + i, ?_, ?_, ?_, rfl, ?_, rfl, by omega⟩
  · rw [← Int.natCast_add]; exact IntWalk.i64_in _ (by omega)
  · rw [← Int.natCast_mul]
    generalize (Y + k) * W = m at *
    exact IntWalk.i64_in _ (by omega)
  · rw [← Int.natCast_add]
    generalize (Y + k) * W = m at *
    exact IntWalk.i64_in _ (by omega)
  · rw [← Int.natCast_add]
    generalize (Y + k) * W = m at *
    exact IntWalk.i64_in _ (by omega)
/-- One more number for the part, told whole. -/
theorem crop_step {w2 wr : World} {ob K : Nat} {A' : Option Addr} {c' : Nat} {a b : Value} {L : List Int} (v : Int) (hb : Blk wr ob 27 #[a, b, .slice A' K c']) (ho : wr.ownsRow w2.heap.size 3 1 (.slice A' K c') K (intsV L)) (hu : Upd (· = ob) w2 wr) (hK : K ≤ 65536) :
    ∃ A9 c9 w9, (Builtin.append_ #[22, 22] 22 #[.slice A' K c', .slice (some ⟨wr.heap.size, 0, none⟩) 1 1]).run Try.prog (wr.drew.alloc (.cells #[.int .i64 v] 3)) = .ok (.slice A9 (K + 1) c9) w9 ∧
      w9.cell? ⟨ob, 2, none⟩ = some (.slice A' K c') ∧ w9.frozen? ⟨ob, 2, none⟩ = false ∧
      Blk (w9.setCell ⟨ob, 2, none⟩ (.slice A9 (K + 1) c9)) ob 27 #[a, b, .slice A9 (K + 1) c9] ∧ (w9.setCell ⟨ob, 2, none⟩ (.slice A9 (K + 1) c9)).ownsRow w2.heap.size 3 1 (.slice A9 (K + 1) c9) (K + 1) (intsV (L ++ [v])) ∧ Upd (· = ob) w2 (w9.setCell ⟨ob, 2, none⟩ (.slice A9 (K + 1) c9)) := by
  have hs := hu.size
  obtain ⟨A9, c9, w9, hrun, ho9, hu9⟩ := append_int w2.heap.size wr.drew A' c' K _ v (own_upd ho ((Upd.refl No wr).drew) (fun _ _ => id)) hs hK 22
  have hne := own_blk_ne ho hb (by decide)
  have hlt := hb.lt
  have hsz : wr.drew.heap.size = wr.heap.size := rfl
  rw [hsz] at hu9
  have hnot : ¬ ((Value.slice A' K c').ownBlock = some ob ∨ wr.heap.size ≤ ob) := fun h => by
    rcases h with h | h
    · exact hne h
    · omega
  have hb9 := (hb.upd ((Upd.refl No wr).drew) id).upd hu9 hnot
  have hu29 : Upd (· = ob) w2 w9 := hu.drew.then hu9 (fun i hi h => by
    rcases h with h | h
    · have := (ho.lt i h).1; omega
    · omega)
  have u10 := set1_upd w9 ob 2 (.slice A9 (K + 1) c9)
  have hne9 := own_blk_ne ho9 hb9 (by decide)
  refine ⟨A9, c9, w9, hrun, by rw [hb9.cell]; rfl, hb9.frozen 2, by simpa using hb9.set_ 2 (.slice A9 (K + 1) c9), own_upd ho9 u10 (fun i hi e => hne9 (by rw [← e]; exact hi)), hu29.then u10 (fun i _ e => e)⟩
theorem boxes2 (w : World) (a b : Array Value) (t u : TypeId) : Below w.heap.size w ((w.alloc (.cells a t)).alloc (.cells b u)) ∧ ((w.alloc (.cells a t)).alloc (.cells b u)).heap.size = w.heap.size + 1 + 1 ∧ Blk ((w.alloc (.cells a t)).alloc (.cells b u)) w.heap.size t a ∧ Blk ((w.alloc (.cells a t)).alloc (.cells b u)) (w.heap.size + 1) u b := by
  have h1 := Blk.new w t a
  have h2 := Blk.new (w.alloc (.cells a t)) u b
  simp only [World.size_alloc] at h2
  exact ⟨((Below.refl _ w).alloc (Nat.le_refl _) _).alloc (by simp) _, by simp, h1.alloc _, h2⟩
/-- What the document's Crop answers. -/
def RCropR (w : World) (l : List Int) (W H : Nat) (x y p q : Int) (e : Ending) (w' : World) : Prop :=
  if inB x y p q W H = false then e = .returned (.tuple #[.agg #[.int .i64 0, .int .i64 0, .slice none 0 0], .int .i64 2]) ∧ Below w.heap.size w w'
  else ∃ A c, e = .returned (.tuple #[.agg #[.int .i64 p, .int .i64 q, .slice A (p.toNat * q.toNat) c], .int .i64 0]) ∧ Is w' w'.heap.size A (partL l W x.toNat y.toNat p.toNat q.toNat) ∧ Below w.heap.size w w'

set_option maxRecDepth 100000 in
set_option maxHeartbeats 4000000 in
theorem refCrop_any (W H : Nat) (hW : W ≤ 4096) (hH : H ≤ 4096) (A : Option Addr) (c n : Nat) (l : List Int) (hn : l.length = n) (hWH : W * H = n) (hn6 : n ≤ 65536) (B : Nat) (w : World) (h : Is w B A l) (hB : B ≤ w.heap.size) (x y p q : Int) :
    Calls Try.prog 18 #[.agg #[.int .i64 (W : Int), .int .i64 (H : Int), .slice A n c], .int .i64 x, .int .i64 y, .int .i64 p, .int .i64 q] w (RCropR w l W H x y p q) := by
  go_enter Try.func18, Try.ntmps18
  go_wp2_with fail
  obtain ⟨hbw, hsw, hb0, hb1⟩ := boxes2 w #[.int .i64 (W : Int), .int .i64 (H : Int), .slice A n c] #[.int .i64 0, .int .i64 0, .slice none 0 0] 27 27
  obtain ⟨w0, hw0⟩ : ∃ w0 : World, (w.alloc (.cells #[.int .i64 (W : Int), .int .i64 (H : Int), .slice A n c] 27)).alloc (.cells #[.int .i64 0, .int .i64 0, .slice none 0 0] 27) = w0 := ⟨_, rfl⟩
  rw [hw0] at hbw hsw hb0 hb1 ⊢
  have HI := Lib.hid (Vs.below h (hbw.mono hB))
  clear hw0 h
  refine (within_in x y p q W H hW hH w0).mono ?_
  rintro e w1 ⟨rfl, rfl⟩
  have k0 : w1.cell? ⟨w.heap.size, 0, none⟩ = some (.int .i64 (W : Int)) := by rw [hb0.cell]; rfl
  have k1 : w1.cell? ⟨w.heap.size, 1, none⟩ = some (.int .i64 (H : Int)) := by rw [hb0.cell]; rfl
  have HB0 := Lib.hid hb0; have HB1 := Lib.hid hb1; have HBW := Lib.hid hbw
  have e0 : w1.cell? ⟨w.heap.size + 1, 0, none⟩ = some (.int .i64 0) := by rw [hb1.cell]; rfl
  have e1 : w1.cell? ⟨w.heap.size + 1, 1, none⟩ = some (.int .i64 0) := by rw [hb1.cell]; rfl
  have e2 : w1.cell? ⟨w.heap.size + 1, 2, none⟩ = some (.slice none 0 0) := by rw [hb1.cell]; rfl
  have f0 := hb1.frozen 0
  have f1 := hb1.frozen 1
  have f2 := hb1.frozen 2
  clear hb0 hb1 hbw
  cases hi : inB x y p q W H with
  | false =>
    have HR : Hid (∀ e w', e = .returned (.tuple #[.agg #[.int .i64 0, .int .i64 0, .slice none 0 0], .int .i64 2]) ∧ Below w.heap.size w w' → RCropR w l W H x y p q e w') := Lib.hid (fun e w' k => by unfold RCropR; rw [if_pos hi]; exact k)
    clear hi
    have hb9 := set3 HB1.out (.int .i64 0) (.int .i64 0) (.slice none 0 0)
    have hu9 := set3_upd w1 (w.heap.size + 1) (.int .i64 0) (.int .i64 0) (.slice none 0 0)
    have HB9 := Lib.hid (HBW.out.trans (hu9.below (B := w.heap.size) (by omega) (fun k hk e => by omega)))
    have n0 : (((w1.setCell ⟨w.heap.size + 1, 0, none⟩ (.int .i64 0)).setCell ⟨w.heap.size + 1, 1, none⟩ (.int .i64 0)).setCell ⟨w.heap.size + 1, 2, none⟩ (.slice none 0 0)).cell? ⟨w.heap.size + 1, 0, none⟩ = some (.int .i64 0) := by rw [hb9.cell]; rfl
    have n1 : (((w1.setCell ⟨w.heap.size + 1, 0, none⟩ (.int .i64 0)).setCell ⟨w.heap.size + 1, 1, none⟩ (.int .i64 0)).setCell ⟨w.heap.size + 1, 2, none⟩ (.slice none 0 0)).cell? ⟨w.heap.size + 1, 1, none⟩ = some (.int .i64 0) := by rw [hb9.cell]; rfl
    have n2 : (((w1.setCell ⟨w.heap.size + 1, 0, none⟩ (.int .i64 0)).setCell ⟨w.heap.size + 1, 1, none⟩ (.int .i64 0)).setCell ⟨w.heap.size + 1, 2, none⟩ (.slice none 0 0)).cell? ⟨w.heap.size + 1, 2, none⟩ = some (.slice none 0 0) := by rw [hb9.cell]; rfl
    clear hb9 hu9
    go_wp2_with fail
    refine bodyPost_ret (v := .tuple #[.agg #[.int .i64 0, .int .i64 0, .slice none 0 0], .int .i64 2]) (by simp [results, Try.results18, go_sem, n0, n1, n2]) rfl ?_
    exact HR.out _ _ ⟨rfl, HB9.out⟩
  | true =>
    obtain ⟨i1, i2, i3, i4, i5, i6⟩ := inB_bd hi
    have HR : Hid (∀ e w', (∃ A c, e = .returned (.tuple #[.agg #[.int .i64 p, .int .i64 q, .slice A (p.toNat * q.toNat) c], .int .i64 0]) ∧ Is w' w'.heap.size A (partL l W x.toNat y.toNat p.toNat q.toNat) ∧ Below w.heap.size w w') → RCropR w l W H x y p q e w') := Lib.hid (fun e w' k => by unfold RCropR; rw [if_neg (by rw [hi]; simp)]; exact k)
    clear hi
    obtain ⟨X, rfl⟩ : ∃ X : Nat, x = (X : Int) := ⟨x.toNat, by omega⟩
    obtain ⟨Y, rfl⟩ : ∃ Y : Nat, y = (Y : Int) := ⟨y.toNat, by omega⟩
    obtain ⟨P, rfl⟩ : ∃ P : Nat, p = (P : Int) := ⟨p.toNat, by omega⟩
    obtain ⟨Q, rfl⟩ : ∃ Q : Nat, q = (Q : Int) := ⟨q.toNat, by omega⟩
    simp only [Int.toNat_natCast] at HR
    have hP : 1 ≤ P := by omega
    have hQ : 1 ≤ Q := by omega
    have hx : X + P ≤ W := by omega
    have hy : Y + Q ≤ H := by omega
    have hPQ : P * Q ≤ 65536 := by
      have h1 : P * Q ≤ W * H := Nat.mul_le_mul (by omega) (by omega)
      omega
    have HPQ := Lib.hid hPQ
    clear i1 i2 i3 i4 i5 i6 hPQ
    go_wp2_with fail
    have hb2 := Blk.new w1 27 #[.int .i64 (P : Int), .int .i64 (Q : Int), .slice none 0 0]
    have hbl2 := (Below.refl w1.heap.size w1).alloc (Nat.le_refl _) (.cells #[.int .i64 (P : Int), .int .i64 (Q : Int), .slice none 0 0] 27)
    have hsz2 : (w1.alloc (.cells #[.int .i64 (P : Int), .int .i64 (Q : Int), .slice none 0 0] 27)).heap.size = w1.heap.size + 1 := by simp
    obtain ⟨w2, hw2⟩ : ∃ w2 : World, w1.alloc (.cells #[.int .i64 (P : Int), .int .i64 (Q : Int), .slice none 0 0] 27) = w2 := ⟨_, rfl⟩
    rw [hw2] at hb2 hbl2 hsz2 ⊢
    obtain ⟨ob, hob⟩ : ∃ ob, w.heap.size + 1 + 1 = ob := ⟨_, rfl⟩
    rw [hsw, hob] at hb2 hsz2
    rw [hob] at hsw ⊢
    have H0 := Lib.hid (HB0.out.upd (Upd.of_fresh hbl2) id)
    have H1 := Lib.hid (HB1.out.upd (Upd.of_fresh hbl2) id)
    have H2 := Lib.hid hb2
    have HI2 := Lib.hid (Vs.below HI.out (hbl2.mono (by omega)))
    have HW2 := Lib.hid (HBW.out.trans (hbl2.mono (by omega)))
    clear hw2 hb2 hbl2 e0 e1 e2 f0 f1 f2 k0 k1 HB0 HB1 HI HBW
    go_loopw [13] (fun k wr => ∃ (j : Nat) (A' : Option Addr) (c' : Nat), j ≤ Q ∧ k = .int .i64 (j : Int) ∧ Hid (Blk wr ob 27 #[.int .i64 (P : Int), .int .i64 (Q : Int), .slice A' (P * j) c']) ∧ Hid (wr.ownsRow w2.heap.size 3 1 (.slice A' (P * j) c') (P * j) (intsV (partL l W X Y P j))) ∧ Hid (Upd (· = ob) w2 wr)) (fun k _ => Q - (intOf k).toNat)
    case atStart => exact ⟨0, none, 0, Nat.zero_le _, rfl, by rw [Nat.mul_zero]; exact H2, Lib.hid (by rw [Nat.mul_zero]; exact World.ownsRow_nil _ _ _ _), Lib.hid (Upd.refl _ _)⟩
    case round =>
      obtain ⟨j, A', c', hj, rfl, HB, HO, HU⟩ := hrel
      by_cases hlt : j < Q
      · go_wp2_with fail
        obtain ⟨wo, hwo⟩ : ∃ wo : World, wo = wr := ⟨_, rfl⟩
        subst hwo
        go_loopw [14] (fun i wr => ∃ (m : Nat) (A' : Option Addr) (c' : Nat), m ≤ P ∧ i = .int .i64 (m : Int) ∧ Hid (Blk wr ob 27 #[.int .i64 (P : Int), .int .i64 (Q : Int), .slice A' (P * j + m) c']) ∧ Hid (wr.ownsRow w2.heap.size 3 1 (.slice A' (P * j + m) c') (P * j + m) (intsV (partL l W X Y P j ++ rowL l ((Y + j) * W + X) m))) ∧ Hid (Upd (· = ob) w2 wr)) (fun i _ => P - (intOf i).toNat)
        case atStart => exact ⟨0, A', c', Nat.zero_le _, rfl, HB, Lib.hid (by simpa [rowL] using HO.out), HU⟩
        case round =>
          clear HB HO HU
          obtain ⟨m, A', c', hm, rfl, HB, HO, HU⟩ := hrel
          by_cases hlm : m < P
          · obtain ⟨Z, G, F, J, s1, s2, s3, hF, s4, hJ, hJl⟩ := part_arith (X := X) (Y := Y) (P := P) (Q := Q) (W := W) (H := H) hx hy hlt hlm (by rw [hWH]; exact hn6)
            rw [hWH] at hJl
            rw [← hF] at HO
            have hFl : F + m < l.length := by rw [hn, ← hJ]; exact hJl
            obtain ⟨ad, rfl, _, hcl⟩ := Is.at_ (Vs.below HI2.out (HU.out.below (B := B) (by omega) (fun i hi e => by omega))) hFl
            have hL : Hid (partL l W X Y P j ++ rowL l F (m + 1) = (partL l W X Y P j ++ rowL l F m) ++ [l[F + m]]) := Lib.hid (by rw [rowL_succ l F m hFl, List.append_assoc])
            have h0 := H0.out.upd HU.out (by omega)
            have k0 : wr.cell? ⟨w.heap.size, 0, none⟩ = some (.int .i64 (W : Int)) := by rw [h0.cell]; rfl
            have k2 : wr.cell? ⟨w.heap.size, 2, none⟩ = some (.slice (some ad) n c) := by rw [h0.cell]; rfl
            have j2 : wr.cell? ⟨ob, 2, none⟩ = some (.slice A' (P * j + m) c') := by rw [HB.out.cell]; rfl
            have hK65 : P * j + m ≤ 65536 := Nat.le_trans (Nat.le_of_lt (tile_lt hlm hlt)) HPQ.out
            have HPJ : Hid (P * j + (m + 1) = P * j + m + 1) := Lib.hid rfl
            obtain ⟨K, hK⟩ : ∃ K, P * j + m = K := ⟨_, rfl⟩
            rw [hK] at HB HO hK65 j2 HPJ
            generalize l[F + m] = v at hcl hL
            rw [← hJ] at hcl
            have j3 : (wr.alloc (.cells #[.int .i64 v] 3)).cell? ⟨ob, 2, none⟩ = some (.slice A' K c') := by rw [(HB.out.alloc _).cell]; rfl
            obtain ⟨A9, c9, w9, hrun, q1, q2, r1, r2, r3⟩ := crop_step v HB.out HO.out HU.out hK65
            rw [← hL.out, hF] at r2
            have R1 := Lib.hid r1; have R2 := Lib.hid r2; have R3 := Lib.hid r3
            have hP2 : P ≤ 4096 := by omega
            have i1 : (0 : Int) ≤ (J : Int) := Int.natCast_nonneg _
            have i2 : (J : Int) < (n : Int) := Int.ofNat_lt.2 hJl
            have HS := Lib.hid (And.intro hx (And.intro hy (And.intro hsw (And.intro hsz2 (And.intro hob (And.intro hlt (And.intro hF hJ)))))))
            clear r1 r2 r3 h0 hK hFl hF hJ hx hy hsw hsz2 hob hB hlt hL HB HO HU hP hQ hH hW
            go_wp2_with fail
            go_region_law (refine step_append_run rfl (.tmp 40) (.tmp 55) _ rfl (by simp [Act.eval]) (by simp [Act.eval]) hrun ?_)
            all_goals
              go_wp2_with fail
              go_roundw
              case rel => exact ⟨m + 1, A9, c9, by omega, by go_num, by rw [HPJ.out]; exact R1, by rw [HPJ.out]; exact R2, R3⟩
              case measure => simp [intOf]; omega
          · obtain rfl : m = P := by omega
            have hP2 : m ≤ 4096 := by omega
            go_wp2_with fail
            go_roundw
            case rel => exact ⟨j + 1, A', c', by omega, by go_num, by rw [Nat.mul_add, Nat.mul_one]; exact HB, Lib.hid (by rw [Nat.mul_add, Nat.mul_one, partL_succ]; exact HO.out), HU⟩
            case measure => simp [intOf]; omega
      · obtain rfl : j = Q := by omega
        have h1 := H1.out.upd HU.out (by omega)
        have j0 : wr.cell? ⟨ob, 0, none⟩ = some (.int .i64 (P : Int)) := by rw [HB.out.cell]; rfl
        have j1 : wr.cell? ⟨ob, 1, none⟩ = some (.int .i64 (j : Int)) := by rw [HB.out.cell]; rfl
        have j2 : wr.cell? ⟨ob, 2, none⟩ = some (.slice A' (P * j) c') := by rw [HB.out.cell]; rfl
        have e0 : wr.cell? ⟨w.heap.size + 1, 0, none⟩ = some (.int .i64 0) := by rw [h1.cell]; rfl
        have e1 : wr.cell? ⟨w.heap.size + 1, 1, none⟩ = some (.int .i64 0) := by rw [h1.cell]; rfl
        have e2 : wr.cell? ⟨w.heap.size + 1, 2, none⟩ = some (.slice none 0 0) := by rw [h1.cell]; rfl
        have f0 := h1.frozen 0
        have f1 := h1.frozen 1
        have f2 := h1.frozen 2
        have hb9 := set3 h1 (.int .i64 (P : Int)) (.int .i64 (j : Int)) (.slice A' (P * j) c')
        have hu9 := set3_upd wr (w.heap.size + 1) (.int .i64 (P : Int)) (.int .i64 (j : Int)) (.slice A' (P * j) c')
        have HBE := Lib.hid ((HW2.out.trans (HU.out.below (B := w.heap.size) (by omega) (fun i hi e => by omega))).trans (hu9.below (B := w.heap.size) (by have := HU.out.size; omega) (fun i hi e => by omega)))
        have HOE := Lib.hid (Vs.of_own (own_upd HO.out hu9 (fun i hi e => by have := (HO.out.lt i hi).1; omega)))
        obtain ⟨w9, hw9⟩ : ∃ w9 : World, ((wr.setCell ⟨w.heap.size + 1, 0, none⟩ (.int .i64 (P : Int))).setCell ⟨w.heap.size + 1, 1, none⟩ (.int .i64 (j : Int))).setCell ⟨w.heap.size + 1, 2, none⟩ (.slice A' (P * j) c') = w9 := ⟨_, rfl⟩
        rw [hw9] at hb9 HBE HOE
        have n0 : w9.cell? ⟨w.heap.size + 1, 0, none⟩ = some (.int .i64 (P : Int)) := by rw [hb9.cell]; rfl
        have n1 : w9.cell? ⟨w.heap.size + 1, 1, none⟩ = some (.int .i64 (j : Int)) := by rw [hb9.cell]; rfl
        have n2 : w9.cell? ⟨w.heap.size + 1, 2, none⟩ = some (.slice A' (P * j) c') := by rw [hb9.cell]; rfl
        have HW9 := Lib.hid hw9
        clear h1 hb9 hu9 hw9
        go_wp2_with fail
        rw [HW9.out]
        refine bodyPost_ret (v := .tuple #[.agg #[.int .i64 (P : Int), .int .i64 (j : Int), .slice A' (P * j) c'], .int .i64 0]) (by simp [results, Try.results18, go_sem, n0, n1, n2]) rfl ?_
        exact HR.out _ _ ⟨A', c', rfl, HOE.out, HBE.out⟩
end Go.Proofs.Ytfjnlbjlapbilaa
