/- GifPack: no byte may be greater than the size allows. -/
import Derived.Test.YthnfnfaiicfenaaPe
import Derived.Test.YthnfnfaiicfenaaZg
import Derived.Deep.LoopGhost
namespace Go.Proofs.Ythnfnfaiicfenaa
open Go.ChangeShapes Go.WideShapes Go.ChangeAt Go.RowKit

theorem ret_blv {a b : Bool} (h : a = b) : Ending.returned (.bool a) = .returned (.bool b) := by rw [h]
set_option maxHeartbeats 4000000 in
set_option maxRecDepth 100000 in
theorem over_any (w : World) (x : UInt8) (g s : Nat) (hs1 : 2 ≤ s) (hs2 : s ≤ 8) (hb : Blk w g 42 #[.int .i64 (s : Int), .bool false, .int .i64 0]) :
    Calls Try.prog 31 #[.int .u8 (x.toNat : Int), .pointer (some ⟨g, 0, none⟩)] w fun e w' => e = .returned (.bool (decide (clr s ≤ x.toNat))) ∧ Below w.heap.size w w' := by
  have k0 : w.cell? ⟨g, 0, none⟩ = some (.int .i64 (s : Int)) := by rw [hb.cell]; rfl
  have k1 : w.cell? ⟨g, 1, none⟩ = some (.bool false) := by rw [hb.cell]; rfl
  have k2 : w.cell? ⟨g, 2, none⟩ = some (.int .i64 0) := by rw [hb.cell]; rfl
  have hx := x.toNat_lt
  have hc := clr_le hs1 hs2
  clear hb
  go_enter Try.func31, Try.ntmps31
  go_wp2_with fail
  refine (clear_any s false 0 w hs1 hs2).mono ?_
  rintro e w1 ⟨rfl, hb1⟩
  go_wp2_with fail
  go_ret
  exact ⟨ret_blv (by simp), hb1⟩
set_option maxHeartbeats 4000000 in
set_option maxRecDepth 100000 in
theorem index_any (w : World) (A : Option Addr) (c n : Nat) (l : List UInt8) (g s : Nat) (hs1 : 2 ≤ s) (hs2 : s ≤ 8) (hn : l.length = n) (hbs : Bs w w.heap.size A l) (hl : n ≤ 140737488355328) (hb : Blk w g 42 #[.int .i64 (s : Int), .bool false, .int .i64 0]) :
    Calls Try.prog 54 #[.slice A n c, .func (Fn.func 31) #[] #[.pointer (some ⟨g, 0, none⟩)]] w fun e w' => ∃ z : Int, e = .returned (.int .i64 z) ∧ -1 ≤ z ∧ z ≤ 140737488355328 ∧ (z = -1 ↔ ∀ b ∈ l, b.toNat < clr s) ∧ Below w.heap.size w w' := by
  have HN := Lib.hid hn
  have HBS := Lib.hid hbs
  have HB := Lib.hid hb
  clear hn hbs hb
  go_enter Try.func54, Try.ntmps54
  go_wp2_with fail
  go_loopw [8] (fun i wr => ∃ k : Nat, k ≤ n ∧ i = .int .i64 (k : Int) ∧ Hid (∀ b ∈ l.take k, b.toNat < clr s) ∧ Hid (Below w.heap.size w wr)) (fun i _ => n - (intOf i).toNat)
  case atStart => exact ⟨0, Nat.zero_le _, rfl, Lib.hid (by simp), Lib.hid (Below.refl _ _)⟩
  case round =>
    obtain ⟨k, hk, rfl, HL, HW⟩ := hrel
    by_cases hlt : k < n
    · have hkl : k < l.length := by rw [HN.out]; exact hlt
      obtain ⟨ad, rfl, _, hc⟩ := (HBS.out.below HW.out).at_ hkl
      have HO := Lib.hid (over_any wr l[k] g s hs1 hs2 (HB.out.upd (Upd.of_fresh HW.out) id))
      have HT : Hid (l.take (k + 1) = l.take k ++ [l[k]]) := Lib.hid (by rw [List.take_succ_eq_append_getElem hkl])
      have HM : Hid (l[k] ∈ l) := Lib.hid (List.getElem_mem hkl)
      generalize l[k] = v at hc HO HT HM
      clear hkl
      cases hd : decide (clr s ≤ v.toNat) with
      | true =>
        rw [hd] at HO
        go_wp2_with fail
        refine HO.out.mono ?_
        rintro e w1 ⟨rfl, hb1⟩
        go_wp2_with fail
        go_ret
        refine ⟨_, rfl, by omega, by omega, ⟨fun h => by omega, fun h => ?_⟩, HW.out.trans (hb1.mono HW.out.size)⟩
        have h1 := of_decide_eq_true hd
        have h2 := h v HM.out
        omega
      | false =>
        rw [hd] at HO
        go_wp2_with fail
        refine HO.out.mono ?_
        rintro e w1 ⟨rfl, hb1⟩
        have HB1 := Lib.hid (HW.out.trans (hb1.mono HW.out.size))
        have HL1 : Hid (∀ b ∈ l.take (k + 1), b.toNat < clr s) := Lib.hid (by
          rw [HT.out]
          intro b hb
          rcases List.mem_append.1 hb with h | h
          · exact HL.out b h
          · have h1 := of_decide_eq_false hd
            simp only [List.mem_singleton] at h
            subst h
            omega)
        clear hb1 hd
        go_wp2_with fail
        go_roundw
        case rel => exact ⟨k + 1, by omega, by go_num, HL1, HB1⟩
        case measure => simp [intOf]; omega
    · obtain rfl : k = n := by omega
      go_wp2_with fail
      go_ret
      exact ⟨-1, rfl, by omega, by omega, ⟨fun _ b hb => HL.out b (by rw [List.take_of_length_le (by rw [HN.out]; exact Nat.le_refl _)]; exact hb), fun _ => rfl⟩, HW.out⟩
set_option maxHeartbeats 4000000 in
set_option maxRecDepth 100000 in
theorem contains_any (w : World) (A : Option Addr) (c n : Nat) (l : List UInt8) (g s : Nat) (hs1 : 2 ≤ s) (hs2 : s ≤ 8) (hn : l.length = n) (hbs : Bs w w.heap.size A l) (hl : n ≤ 140737488355328) (hb : Blk w g 42 #[.int .i64 (s : Int), .bool false, .int .i64 0]) :
    Calls Try.prog 30 #[.slice A n c, .func (Fn.func 31) #[] #[.pointer (some ⟨g, 0, none⟩)]] w fun e w' => ∃ v : Bool, e = .returned (.bool v) ∧ (v = false ↔ ∀ b ∈ l, b.toNat < clr s) ∧ Below w.heap.size w w' := by
  have HI := Lib.hid (index_any w A c n l g s hs1 hs2 hn hbs hl hb)
  clear hn hbs hb
  go_enter Try.func30, Try.ntmps30
  go_wp2_with fail
  refine HI.out.mono ?_
  rintro e w1 ⟨z, rfl, h1, h2, h3, hb1⟩
  have HZ := Lib.hid h3
  clear h3
  go_wp2_with fail
  go_ret
  refine ⟨_, rfl, ⟨fun h => HZ.out.1 ?_, fun h => ?_⟩, hb1⟩
  · have := of_decide_eq_false h; omega
  · have := HZ.out.2 h; simp; omega
/-- What GifPack answers. -/
def GifPackR (w : World) (b : List UInt8) (size : Int) (e : Ending) (w' : World) : Prop :=
  Below w.heap.size w w' ∧ ((¬ (2 ≤ size ∧ size ≤ 8 ∧ ∀ x ∈ b, x.toNat < clr size.toNat) ∧ e = .returned (.tuple #[.slice none 0 0, .int .i64 2])) ∨
    ((2 ≤ size ∧ size ≤ 8 ∧ ∀ x ∈ b, x.toNat < clr size.toNat) ∧ ∃ l A' c', Packed false (packM size.toNat false 0 b) l ∧ e = .returned (.tuple #[.slice A' l.length c', .int .i64 0]) ∧ w'.ownsRow w.heap.size 5 1 (.slice A' l.length c') l.length (bytesV l)))
set_option maxHeartbeats 4000000 in
set_option maxRecDepth 100000 in
theorem gifPack_any (w : World) (A : Option Addr) (c n : Nat) (b : List UInt8) (size : Int) (hn : b.length = n) (h : Bs w w.heap.size A b) (hc : n ≤ c) (hb : n ≤ 1048576) :
    Calls Try.prog 20 #[.slice A n c, .int .i64 size] w (GifPackR w b size) := by
  subst hn
  by_cases hs : size < 2 ∨ 8 < size
  · have HR : Hid (∀ e w', e = .returned (.tuple #[.slice none 0 0, .int .i64 2]) ∧ Below w.heap.size w w' → GifPackR w b size e w') := Lib.hid (fun e w' hq => ⟨hq.2, .inl ⟨fun h => by have := h.1; have := h.2.1; omega, hq.1⟩⟩)
    by_cases h2 : size < 2
    · have d1 : decide (size < 2) = true := by simp; omega
      clear hs
      go_enter Try.func20, Try.ntmps20
      go_wp2_with fail
      go_ret2
      exact HR.out _ _ ⟨rfl, Below.refl _ _⟩
    · have d1 : decide (size < 2) = false := by simp; omega
      have d2 : decide (8 < size) = true := by simp; omega
      clear hs
      go_enter Try.func20, Try.ntmps20
      go_wp2_with fail
      go_ret2
      exact HR.out _ _ ⟨rfl, Below.refl _ _⟩
  · obtain ⟨s, rfl⟩ : ∃ s : Nat, size = s := ⟨size.toNat, by omega⟩
    have hs1 : 2 ≤ s := by omega
    have hs2 : s ≤ 8 := by omega
    have d1 : decide ((s : Int) < 2) = false := by simp; omega
    have d2 : decide ((8 : Int) < (s : Int)) = false := by simp; omega
    have HRn : Hid (¬ (∀ x ∈ b, x.toNat < clr s) → ∀ e w', e = .returned (.tuple #[.slice none 0 0, .int .i64 2]) ∧ Below w.heap.size w w' → GifPackR w b (s : Int) e w') := Lib.hid (fun hno e w' hq => ⟨hq.2, .inl ⟨fun h => hno (by have := h.2.2; rwa [Int.toNat_natCast] at this), hq.1⟩⟩)
    have HRy : Hid ((∀ x ∈ b, x.toNat < clr s) → ∀ e w', (∃ l A' c', Packed false (packM s false 0 b) l ∧ e = .returned (.tuple #[.slice A' l.length c', .int .i64 0]) ∧ w'.ownsRow w.heap.size 5 1 (.slice A' l.length c') l.length (bytesV l)) ∧ Below w.heap.size w w' → GifPackR w b (s : Int) e w') := Lib.hid (fun hy e w' hq => ⟨hq.2, .inr ⟨⟨by omega, by omega, by rw [Int.toNat_natCast]; exact hy⟩, by rw [Int.toNat_natCast]; exact hq.1⟩⟩)
    have HB := Lib.hid h
    clear hs h
    go_enter Try.func20, Try.ntmps20
    go_wp2_with fail
    refine (gif_any s _).mono ?_
    rintro e w1 ⟨rfl, hb1⟩
    go_wp2_with fail
    have hb2 := hb1.alloc hb1.size (.cells #[.int .i64 (s : Int), .bool false, .int .i64 0] 42)
    have HK := Lib.hid (Blk.new w1 42 #[.int .i64 (s : Int), .bool false, .int .i64 0])
    obtain ⟨g, hg⟩ : ∃ g, w1.heap.size = g := ⟨_, rfl⟩
    rw [hg] at HK
    obtain ⟨w2, hw2⟩ : ∃ w2 : World, w1.alloc (.cells #[.int .i64 (s : Int), .bool false, .int .i64 0] 42) = w2 := ⟨_, rfl⟩
    rw [hw2] at hb2 HK ⊢
    rw [hg]
    have HB2 := Lib.hid hb2
    clear hw2 hb1 hb2 hg
    refine (contains_any w2 A c b.length b g s hs1 hs2 rfl ((HB.out.below HB2.out).more HB2.out.size) (by omega) HK.out).mono ?_
    rintro e w3 ⟨v, rfl, hv, hb3⟩
    have HB3 := Lib.hid (HB2.out.trans (hb3.mono HB2.out.size))
    have HK3 := Lib.hid (HK.out.upd (Upd.of_fresh hb3) id)
    cases v with
    | true =>
      have HN := Lib.hid (HRn.out (fun h => by have := hv.2 h; cases this))
      clear hv hb3
      go_wp2_with fail
      go_ret2
      exact HN.out _ _ ⟨rfl, HB3.out⟩
    | false =>
      have HY := Lib.hid (HRy.out (hv.1 rfl))
      have k0 : w3.cell? ⟨g, 0, none⟩ = some (.int .i64 (s : Int)) := by rw [HK3.out.cell]; rfl
      have k1 : w3.cell? ⟨g, 1, none⟩ = some (.bool false) := by rw [HK3.out.cell]; rfl
      have k2 : w3.cell? ⟨g, 2, none⟩ = some (.int .i64 0) := by rw [HK3.out.cell]; rfl
      have HP := Lib.hid (pack_any w3 A c b s false 0 ((HB.out.below HB3.out).more HB3.out.size) hc hb hs1 hs2 (by omega))
      clear hv hb3
      go_wp2_with fail
      refine HP.out.mono ?_
      rintro e w4 ⟨l, A', c', hp, rfl, ho, hb4⟩
      have HF : Hid (Packed false (packM s false 0 b) l ∧ w4.ownsRow w.heap.size 5 1 (.slice A' l.length c') l.length (bytesV l) ∧ Below w.heap.size w w4) := Lib.hid ⟨hp, own_mono ho HB3.out.size, HB3.out.trans (hb4.mono HB3.out.size)⟩
      clear hp ho hb4 HP
      go_wp2_with fail
      go_ret2
      exact HY.out _ _ ⟨⟨l, A', c', HF.out.1, rfl, HF.out.2.1⟩, HF.out.2.2⟩
end Go.Proofs.Ythnfnfaiicfenaa
