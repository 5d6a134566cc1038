/- Joined texts (a claim has at most 60 files). -/
import Derived.Test.YthbdhpciibjnmaaIq
import Derived.Test.YthbdhpciibjnmaaIs
import Derived.Laws.BytesString
/- Contract of the program's Zlib. -/
namespace Go.Proofs.Ythbdhpciibjnmaa
open Go.ChangeShapes Go.WideShapes Go.ChangeAt Go.RowKit

def sumAt (b : List UInt8) (p : Nat) : Nat := numB true (fun i => byteAt b (p + i)) 4
def zlibM (b : List UInt8) (most : Nat) : Except Nat (List UInt8) :=
  if headM b ≠ 0 then .error (headM b) else match rawM (b.drop 2) most with
    | .error e => .error e
    | .ok (out, n) => if b.length < 2 + n + 4 then .error 5 else if sumAt b (2 + n) ≠ adOn 1 out then .error 44 else .ok out
def ZlibR (w : World) (x : Except Nat (List UInt8)) (e : Ending) (w' : World) : Prop :=
  match x with
  | .error k => e = .returned (.tuple #[.slice none 0 0, .int .i64 (k : Int)]) ∧ Below w.heap.size w w'
  | .ok out => ∃ Ao co, e = .returned (.tuple #[.slice Ao out.length co, .int .i64 0]) ∧ w'.ownsRow w.heap.size 5 1 (.slice Ao out.length co) out.length (bytesV out) ∧ Below w.heap.size w w'
theorem CapOk.less {most n m : Nat} (h : CapOk most n) (hm : m ≤ n) : CapOk most m :=
  ⟨h.1, fun k h1 h2 => h.2.1 k h1 (Nat.le_trans h2 (by omega)), Nat.le_trans hm h.2.2⟩
theorem headM_len {b : List UInt8} (h : headM b = 0) : 2 ≤ b.length := by
  unfold headM at h
  by_cases h2 : b.length < 2
  · rw [if_pos h2] at h; omega
  · omega
theorem raw_n (w : World) (A : Option Addr) (c : Nat) (b : List UInt8) (n : Nat) (hn : b.length = n) (mo : Int) (hbs : Bs w w.heap.size A b) (hmo : -9223372036854775808 ≤ mo ∧ mo ≤ 9223372036854775807) (hcap : CapOk mo.toNat n) :
    Calls Try.prog 10 #[.slice A n c, .int .i64 mo] w (RawR w (rawM b mo.toNat)) := by
  subst hn
  exact raw_any w A c b mo hbs hmo hcap
theorem own_bsI {w : World} {base : Nat} {e : TypeId} {A : Option Addr} {c : Nat} {l : List UInt8} (h : w.ownsRow base e 1 (.slice A l.length c) l.length (bytesV l)) : Bs w w.heap.size A l := Bs.of_own h
theorem ownsRow_drewN {w : World} {base : Nat} {e : TypeId} {k n : Nat} {v : Value} {vs : List Value} (h : w.ownsRow base e k v n vs) (m : Nat) : (w.drewN m).ownsRow base e k v n vs := h
theorem adler_n (A : Option Addr) (c n : Nat) (l : List UInt8) (hn : l.length = n) (B : Nat) (w : World) (hbs : Bs w B A l) (hl : n ≤ 140737488355328) :
    Calls Try.prog 29 #[.slice A n c] w fun e w' => e = .returned (.int .u32 ((adOn 1 l : Nat) : Int)) ∧ w = w' := by
  subst hn
  exact adler_any A c l B w hbs (by unfold maxLen; omega)
theorem get4_ok (A : Option Addr) (c : Nat) (l : List UInt8) (n : Nat) (B : Nat) (w : World) (h : Bs w B A l) (hl : l.length ≤ 140737488355328) (ha : 2 + n + 4 ≤ l.length) :
    Calls Try.prog 28 #[.slice A l.length c, .int .i64 (2 + (n : Int)), .int .i64 4, .bool true] w fun e w' =>
      e = .returned (.tuple #[.int .u32 ((sumAt l (2 + n) : Nat) : Int), .int .i64 0]) ∧ ∃ n, w' = w.drewN n := by
  have := get_ok A c l (2 + n) 4 true B w h hl (by omega) (by omega) ha
  simpa [sumAt] using this
theorem get4_no (A : Option Addr) (c : Nat) (l : List UInt8) (n : Nat) (w : World) (hl : l.length ≤ 140737488355328) (ha : l.length < 2 + n + 4) :
    Calls Try.prog 28 #[.slice A l.length c, .int .i64 (2 + (n : Int)), .int .i64 4, .bool true] w fun e w' =>
      e = .returned (.tuple #[.int .u32 0, .int .i64 5]) ∧ w = w' := by
  have he : spanErr l.length (2 + (n : Int)) 4 = 5 := spanErr_end (by omega) (by omega)
  have := get_err A l.length c (2 + (n : Int)) 4 true w hl (by rw [he]; decide)
  rwa [he] at this

set_option maxHeartbeats 4000000 in
set_option maxRecDepth 100000 in
theorem zlib_any (w : World) (A : Option Addr) (c : Nat) (b : List UInt8) (mo : Int) (hbs : Bs w w.heap.size A b) (hmo : -9223372036854775808 ≤ mo ∧ mo ≤ 9223372036854775807) (hcap : CapOk mo.toNat b.length) (hc : b.length ≤ c) :
    Calls Try.prog 14 #[.slice A b.length c, .int .i64 mo] w (ZlibR w (zlibM b mo.toNat)) := by
  obtain ⟨X, HX⟩ : ∃ X, Hid (zlibM b mo.toNat = X) := ⟨_, Lib.hid rfl⟩
  rw [HX.out]
  have hl : b.length ≤ 140737488355328 := by have := hcap.2.2; omega
  have HCAP := Lib.hid hcap
  have HH := Lib.hid (headFault_any w A c b _ hbs hl)
  obtain ⟨k, hk⟩ : ∃ k, headM b = k := ⟨_, rfl⟩
  rw [hk] at HH
  clear hcap
  by_cases hk0 : k = 0
  · subst hk0
    have h2 := headM_len hk
    obtain ⟨a0, ha0, hadb0, hcb0⟩ := hbs.at_ (k := 0) (by omega)
    subst ha0
    obtain ⟨ab, ao, as_⟩ := a0
    have hspot : as_ = none := by
      have := World.cell?_spot hcb0
      simpa [Addr.add] using this
    subst hspot
    have HBS := Lib.hid hbs
    have HD := Lib.hid (hbs.drop (k := 2) (cap := c) h2 hc)
    have HXR : Hid (X = match rawM (b.drop 2) mo.toNat with
      | .error e => .error e
      | .ok (out, n) => if b.length < 2 + n + 4 then .error 5 else if sumAt b (2 + n) ≠ adOn 1 out then .error 44 else .ok out) := Lib.hid (by rw [← HX.out]; unfold zlibM; rw [hk, if_neg (by decide)])
    clear hcb0 hbs hk hadb0 HX
    obtain ⟨A2, hA2⟩ : ∃ A2, (if c = 2 then (some ⟨ab, ao, none⟩ : Option Addr) else some ⟨ab, ao + 2, none⟩) = A2 := ⟨_, rfl⟩
    have HR : ∀ n1 len c2, len = b.length - 2 → Hid (Calls Try.prog 10 #[.slice A2 len c2, .int .i64 mo] (w.drewN n1) (RawR (w.drewN n1) (rawM (b.drop 2) mo.toNat))) := fun n1 len c2 hlen => Lib.hid (by
      refine raw_n (w.drewN n1) A2 c2 (b.drop 2) len (by rw [hlen]; simp) mo ?_ hmo (HCAP.out.less (by omega))
      have h := HD.out
      have e : (if c = 2 then (some ⟨ab, ao, none⟩ : Option Addr) else (some ⟨ab, ao, none⟩ : Option Addr).map (·.add 2)) = A2 := by rw [← hA2]; simp [Addr.add_lit]
      rw [e] at h
      exact h)
    obtain ⟨Y, HY⟩ : ∃ Y, Hid (rawM (b.drop 2) mo.toNat = Y) := ⟨_, Lib.hid rfl⟩
    rw [HY.out] at HR HXR
    have HA2 := Lib.hid hA2
    clear hA2
    by_cases hc2 : c = 2
    all_goals
      have hA := HA2.out
      first | rw [if_pos hc2] at hA | rw [if_neg hc2] at hA
      subst hA
      first | subst hc2 | skip
      rcases Y with ke | ⟨out, n⟩
      · have HX3 : Hid (X = .error ke) := HXR
        have hke : ((ke : Int) == 0) = false := by have := rawM_err HY.out; simp; omega
        go_enter Try.func14, Try.ntmps14
        go_wp2_with fail
        refine HH.out.mono ?_
        rintro e w1 ⟨rfl, n1, rfl⟩
        go_wp2_with fail
        refine (HR n1 _ _ (by omega)).out.mono ?_
        rintro e w2 ⟨rfl, hb2⟩
        go_wp2_with fail
        go_ret2
        rw [HX3.out]
        exact ⟨rfl, (below_drewN (Below.refl w.heap.size w) n1).trans hb2⟩
      · obtain ⟨u1, u2, u3, u4⟩ := rawM_used HY.out
        have hol := HCAP.out.2.1 _ u3 (Nat.le_trans u4 (Nat.mul_le_mul_left 258 (by simp; omega)))
        simp only [List.length_drop] at u2
        clear u3 u4
        go_enter Try.func14, Try.ntmps14
        go_wp2_with fail
        refine HH.out.mono ?_
        rintro e w1 ⟨rfl, n1, rfl⟩
        go_wp2_with fail
        refine (HR n1 _ _ (by omega)).out.mono ?_
        rintro e w2 ⟨Ao, co, rfl, hown, hb2⟩
        have HOWN := Lib.hid hown
        have HB2 := Lib.hid ((below_drewN (Below.refl w.heap.size w) n1).trans hb2)
        have HBS2 := Lib.hid (HBS.out.below HB2.out)
        clear hown hb2
        by_cases hf : b.length < 2 + n + 4
        · have HX3 : Hid (X = .error 5) := Lib.hid (HXR.out.trans (if_pos hf))
          go_wp2_with fail
          refine (get4_no (some ⟨ab, ao, none⟩) _ b n w2 hl hf).mono ?_
          rintro e w3 ⟨rfl, rfl⟩
          go_wp2_with fail
          go_ret2
          rw [HX3.out]
          exact ⟨rfl, HB2.out⟩
        · have HXF := Lib.hid (HXR.out.trans (if_neg hf))
          clear HXR
          go_wp2_with fail
          refine (get4_ok (some ⟨ab, ao, none⟩) _ b n w.heap.size w2 HBS2.out hl (by omega)).mono ?_
          rintro e w3 ⟨rfl, n3, rfl⟩
          obtain ⟨S, hS⟩ : ∃ S, sumAt b (2 + n) = S := ⟨_, rfl⟩
          obtain ⟨T, hT⟩ : ∃ T, adOn 1 out = T := ⟨_, rfl⟩
          have HF := HXF.out
          rw [hS, hT] at HF
          rw [hS]
          have HT := Lib.hid hT
          clear hS hT
          by_cases hST : S = T
          · have d1 : ((S : Int) == (T : Int)) = true := by simp; omega
            have HX3 : Hid (X = .ok out) := Lib.hid (HF.trans (if_neg (by omega)))
            clear HF
            go_wp2_with fail
            refine (adler_n Ao co _ out rfl _ (w2.drewN n3) ((own_bsI HOWN.out).drewN n3) (by omega)).mono ?_
            rw [HT.out]
            rintro e w4 ⟨rfl, hw4⟩
            subst hw4
            go_wp2_with fail
            all_goals go_ret2
            all_goals rw [HX3.out]
            exact ⟨Ao, co, rfl, ownsRow_drewN HOWN.out n3, below_drewN HB2.out n3⟩
          · have d1 : ((S : Int) == (T : Int)) = false := by simp; omega
            have HX3 : Hid (X = .error 44) := Lib.hid (HF.trans (if_pos (by omega)))
            clear HF
            go_wp2_with fail
            refine (adler_n Ao co _ out rfl _ (w2.drewN n3) ((own_bsI HOWN.out).drewN n3) (by omega)).mono ?_
            rw [HT.out]
            rintro e w4 ⟨rfl, hw4⟩
            subst hw4
            go_wp2_with fail
            all_goals go_ret2
            all_goals rw [HX3.out]
            all_goals exact ⟨rfl, below_drewN HB2.out n3⟩
  · have HX2 : Hid (X = .error k) := Lib.hid (by rw [← HX.out]; unfold zlibM; rw [hk, if_pos hk0])
    have hk1 : ((k : Int) == 0) = false := by simp; omega
    clear hk
    go_enter Try.func14, Try.ntmps14
    go_wp2_with fail
    refine HH.out.mono ?_
    rintro e w1 ⟨rfl, n1, rfl⟩
    go_wp2_with fail
    go_ret2
    rw [HX2.out]
    exact ⟨rfl, below_drewN (Below.refl w.heap.size w) n1⟩
end Go.Proofs.Ythbdhpciibjnmaa

/- The small trial of layer 4's statements, and the copy that they hand in. -/
namespace Go.Proofs.Ythbdhpciibjnmaa
open Go.ChangeShapes Go.WideShapes Go.ChangeAt Go.RowKit

theorem wk_raw : rawM [75, 4, 0] 9 = .ok ([97], 3) := by kernel_rfl
theorem wk_bad : rawM [7] 9 = .error 40 := by kernel_rfl
theorem wk_zlib : zlibM [120, 156, 75, 4, 0, 0, 98, 0, 98] 1 = .ok [97] := by kernel_rfl
theorem wk_cap9 {n : Nat} (h : n ≤ 9) : CapOk (9 : Int).toNat n := ⟨by simp, fun k h1 _ => by have : (9 : Int).toNat = 9 := rfl; omega, by omega⟩
theorem wk_cap1 {n : Nat} (h : n ≤ 9) : CapOk (1 : Int).toNat n := ⟨by simp, fun k h1 _ => by have : (1 : Int).toNat = 1 := rfl; omega, by omega⟩
theorem raw_wk (w : World) (A : Option Addr) (c : Nat) (hbs : Bs w w.heap.size A [75, 4, 0]) :
    Calls Try.prog 10 #[.slice A 3 c, .int .i64 9] w fun e w' => ∃ Ao co, e = .returned (.tuple #[.slice Ao 1 co, .int .i64 3, .int .i64 0]) ∧ Bs w' w'.heap.size Ao [97] ∧ Below w.heap.size w w' := by
  have h := raw_n w A c [75, 4, 0] 3 rfl 9 hbs (by omega) (wk_cap9 (by omega))
  have e : rawM [75, 4, 0] (9 : Int).toNat = .ok ([97], 3) := wk_raw
  rw [e] at h
  refine h.mono ?_
  rintro e w' ⟨Ao, co, rfl, ho, hb⟩
  exact ⟨Ao, co, rfl, Bs.of_own ho, hb⟩
theorem raw_wk2 (w : World) (A : Option Addr) (c : Nat) (hbs : Bs w w.heap.size A [7]) :
    Calls Try.prog 10 #[.slice A 1 c, .int .i64 9] w fun e w' => e = .returned (.tuple #[.slice none 0 0, .int .i64 0, .int .i64 40]) ∧ Below w.heap.size w w' := by
  have h := raw_n w A c [7] 1 rfl 9 hbs (by omega) (wk_cap9 (by omega))
  have e : rawM [7] (9 : Int).toNat = .error 40 := wk_bad
  rw [e] at h
  exact h
theorem zlib_wk (w : World) (A : Option Addr) (c : Nat) (hbs : Bs w w.heap.size A [120, 156, 75, 4, 0, 0, 98, 0, 98]) (hc : 9 ≤ c) :
    Calls Try.prog 14 #[.slice A 9 c, .int .i64 1] w fun e w' => ∃ Ao co, e = .returned (.tuple #[.slice Ao 1 co, .int .i64 0]) ∧ Bs w' w'.heap.size Ao [97] ∧ Below w.heap.size w w' := by
  have h := zlib_any w A c [120, 156, 75, 4, 0, 0, 98, 0, 98] 1 hbs (by omega) (wk_cap1 (by simp)) hc
  have e : zlibM [120, 156, 75, 4, 0, 0, 98, 0, 98] (1 : Int).toNat = .ok [97] := wk_zlib
  rw [e] at h
  refine h.mono ?_
  rintro e w' ⟨Ao, co, rfl, ho, hb⟩
  exact ⟨Ao, co, rfl, Bs.of_own ho, hb⟩
set_option maxRecDepth 100000 in
theorem str_a {w : World} {B : Nat} {A : Option Addr} (h : Bs w B A [97]) (c : Nat) :
    (convert 22 9 (.slice A 1 c)).run Try.prog w = .ok (.string ⟨#[97]⟩) w := by
  obtain ⟨ad, rfl, _, hc⟩ := h.at_ (k := 0) (by decide)
  have hl := run_loadCells_list (P := Try.prog) (w := w) ad [.int .u8 97] (fun j v hj => by
    rcases j with _ | j
    · cases hj; exact hc
    · simp at hj)
  refine (run_convert_bytes_string (P := Try.prog) w 22 9 5 (some ad) 1 c Try.underlying22 Try.underlying5 Try.underlying9).trans ?_
  exact run_bytesToString w ad 1 c [97] hl
/-- A composite literal of bytes is a row of the call's own. -/
theorem bs_lit2 (w : World) (t : TypeId) (l : List UInt8) : Bs (w.alloc (.cells (bytesV l).toArray t)) (w.heap.size + 1) (some ⟨w.heap.size, 0, none⟩) l := fun _ => by
  refine ⟨_, rfl, Nat.lt_succ_self _, fun j hj => ?_⟩
  have e : (⟨w.heap.size, 0, none⟩ : Addr).add j = ⟨w.heap.size, j, none⟩ := by unfold Addr.add; split <;> simp_all
  rw [e, (Blk.new w t _).cell j]
  simpa using bytesV_get l j hj

set_option maxHeartbeats 4000000 in
set_option maxRecDepth 100000 in
theorem wakes_any (w : World) : Calls Try.prog 9 #[] w fun e w' => e = .returned (.bool true) ∧ Below w.heap.size w w' := by
  go_enter Try.func9, Try.ntmps9
  go_wp2_with fail
  have hb1 := (Below.refl w.heap.size w).alloc (Nat.le_refl _) (.cells (bytesV [75, 4, 0]).toArray 5)
  have hz1 : (w.alloc (.cells (bytesV [75, 4, 0]).toArray 5)).heap.size = w.heap.size + 1 := by simp
  refine (raw_wk (w.alloc (.cells (bytesV [75, 4, 0]).toArray 5)) (some ⟨w.heap.size, 0, none⟩) 3 (by rw [hz1]; exact bs_lit2 w 5 [75, 4, 0])).mono ?_
  rintro e w2 ⟨A2, c2, rfl, hr2, hb2⟩
  have hb2' := hb1.trans (hb2.mono hb1.size)
  have hs2 := hb2'.size
  have HR2 := Lib.hid hr2
  have HB2 := Lib.hid hb2'
  clear hb1 hz1 hb2 hb2' hr2
  go_wp2_with fail
  have hb3 := (Below.refl w2.heap.size w2).alloc (Nat.le_refl _) (.cells (bytesV [7]).toArray 5)
  have hz3 : (w2.alloc (.cells (bytesV [7]).toArray 5)).heap.size = w2.heap.size + 1 := by simp
  refine (raw_wk2 (w2.alloc (.cells (bytesV [7]).toArray 5)) (some ⟨w2.heap.size, 0, none⟩) 1 (by rw [hz3]; exact bs_lit2 w2 5 [7])).mono ?_
  rintro e w4 ⟨rfl, hb4⟩
  have hb4' := hb3.trans (hb4.mono hb3.size)
  have HR4 := Lib.hid (HR2.out.below hb4')
  have HB4 := Lib.hid (HB2.out.trans (hb4'.mono hs2))
  have hs4 := HB4.out.size
  have hs42 := hb4'.size
  clear hb3 hz3 hb4 hb4' HR2
  go_wp2_with fail
  have hb5 := (Below.refl w4.heap.size w4).alloc (Nat.le_refl _) (.cells (bytesV [120, 156, 75, 4, 0, 0, 98, 0, 98]).toArray 5)
  have hz5 : (w4.alloc (.cells (bytesV [120, 156, 75, 4, 0, 0, 98, 0, 98]).toArray 5)).heap.size = w4.heap.size + 1 := by simp
  refine (zlib_wk (w4.alloc (.cells (bytesV [120, 156, 75, 4, 0, 0, 98, 0, 98]).toArray 5)) (some ⟨w4.heap.size, 0, none⟩) 9 (by rw [hz5]; exact bs_lit2 w4 5 [120, 156, 75, 4, 0, 0, 98, 0, 98]) (by omega)).mono ?_
  rintro e w6 ⟨A6, c6, rfl, hr6, hb6⟩
  have hb6' := hb5.trans (hb6.mono hb5.size)
  have HR6 := Lib.hid ((HR4.out.more hs42).below hb6')
  have HB6 := Lib.hid (HB4.out.trans (hb6'.mono hs4))
  have k1 := str_a HR6.out c2
  have k2 := str_a hr6 c6
  clear hb5 hz5 hb6 hb6' hr6 HR4
  go_wp2_with fail
  go_ret
  exact ⟨rfl, HB6.out⟩

set_option maxHeartbeats 400000 in
theorem own_any (A : Option Addr) (c : Nat) (l : List UInt8) (B : Nat) (w : World) (h : Bs w B A l) (hB : B ≤ w.heap.size) (hl : l.length ≤ 140737488355328) :
    Calls Try.prog 11 #[.slice A l.length c] w fun e w' => ∃ A' c', e = .returned (.slice A' l.length c') ∧
      w'.ownsRow w.heap.size 5 1 (.slice A' l.length c') l.length (bytesV l) ∧ Below w.heap.size w w' := by
  obtain ⟨i0, hi, hz0, hz1, hz2⟩ := info_parts info_u8
  go_enter Try.func11, Try.ntmps11
  go_wp2_with (at_builtin; refine wpList_append_bs _ rfl (.tmp 3) (.tmp 4) _ rfl w.heap.size 5 i0 Try.underlying22 hi hz0 hz1 hz2 (.slice (some ⟨w.heap.size, 0, none⟩) 0 0) 0 [] rfl (World.ownsRow_made w #[] 0 (Nat.le_refl _) (by omega) rfl) B A c l rfl (h.alloc hB _) (by omega) (by simp) ?_; intro A1 c1 w1 hown1 hg1 hat1; simp only [Nat.zero_add, List.nil_append] at hown1 hat1 ⊢)
  go_ret
  exact ⟨A1, c1, rfl, hown1, ((Below.refl _ _).alloc (Nat.le_refl _) _).grown hg1 (by simp) (by simp [Value.ownBlock])⟩
theorem own_n (A : Option Addr) (c n : Nat) (l : List UInt8) (hn : l.length = n) (B : Nat) (w : World) (hbs : Bs w B A l) (hl : n ≤ 140737488355328) (hB : B ≤ w.heap.size) :
    Calls Try.prog 11 #[.slice A n c] w fun e w' => ∃ A' c', e = .returned (.slice A' n c') ∧ w'.ownsRow w.heap.size 5 1 (.slice A' n c') n (bytesV l) ∧ Below w.heap.size w w' := by
  subst hn
  exact own_any A c l B w hbs hB hl
theorem own_bs {w : World} {base : Nat} {e : TypeId} {A : Option Addr} {n c : Nat} {l : List UInt8} (hn : l.length = n) (h : w.ownsRow base e 1 (.slice A n c) n (bytesV l)) : Bs w w.heap.size A l := by
  subst hn
  exact Bs.of_own h
end Go.Proofs.Ythbdhpciibjnmaa
