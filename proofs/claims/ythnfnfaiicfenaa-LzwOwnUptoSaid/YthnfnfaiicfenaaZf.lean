/- The reader of codes: unpack. -/
import Derived.Test.YthnfnfaiicfenaaZe
import Derived.Test.YthnfnfaiicfenaaT
import Derived.Deep.LoopGhost
namespace Go.Proofs.Ythnfnfaiicfenaa
open Go.ChangeShapes Go.WideShapes Go.ChangeAt Go.RowKit

/-- How long strings may be. -/
def Len (T : List (List UInt8)) (a : List UInt8) : Prop := (∀ s ∈ T, s.length ≤ T.length + 1) ∧ a.length ≤ T.length + 1
theorem write_len {clear most : Nat} {T : List (List UInt8)} {a out : List UInt8} {code : Nat} {T' : List (List UInt8)} {a' out' : List UInt8} (h : writeM clear most T a out code = .ok (T', a', out')) (hl : Len T a) (hc : clear + 2 + T.length ≤ 4096) :
    Len T' a' ∧ out'.length ≤ out.length + 4096 := by
  unfold writeM at h
  cases hs : strM clear T a code with
  | none => rw [hs] at h; cases h
  | some s =>
    rw [hs] at h
    replace h : (if most < out.length + s.length then .error 3 else .ok (growM clear T a s, s, out ++ s) : Except Nat (List (List UInt8) × List UInt8 × List UInt8)) = .ok (T', a', out') := h
    split at h
    · cases h
    injection h with h
    injection h with h1 h
    injection h with h2 h3
    subst h1 h2 h3
    have hg : T.length ≤ (growM clear T a s).length ∧ (growM clear T a s).length ≤ T.length + 1 ∧ (∀ x ∈ growM clear T a s, x.length ≤ (growM clear T a s).length + 1) := by
      unfold growM
      split
      · exact ⟨by omega, by omega, hl.1⟩
      · split
        · refine ⟨by simp, by simp, fun x hx => ?_⟩
          rw [List.length_append]
          rcases List.mem_append.1 hx with hx | hx
          · have := hl.1 x hx; simp; omega
          · rw [List.mem_singleton] at hx
            subst hx
            have := hl.2
            rw [List.length_append, List.length_take]
            simp; omega
        · exact ⟨by omega, by omega, hl.1⟩
    have hsl : s.length ≤ (growM clear T a s).length + 1 := by
      unfold strM at hs
      split at hs
      · injection hs with hs; subst hs; simp
      · split at hs
        · cases hs
        · rename_i ha
          split at hs
          · have := hl.1 s (List.mem_of_getElem? hs); omega
          · split at hs
            · rename_i hcc
              injection hs with hs
              subst hs
              have e : (growM clear T a (a ++ a.take 1)).length = T.length + 1 := by
                unfold growM; rw [if_neg ha, if_pos (by omega)]; simp
              rw [e, List.length_append, List.length_take]
              have := hl.2
              omega
            · cases hs
    refine ⟨⟨hg.2.2, hsl⟩, ?_⟩
    rw [List.length_append]
    omega
/-- What stands at each code's head. -/
structure UAt (w0 : World) (N gu gr gf size : Nat) (high : Bool) (early : Nat) (most : Int) (A : Option Addr) (c : Nat) (b : List UInt8) (p : Nat) (T : List (List UInt8)) (a out : List UInt8) (tx : List (Nat × Nat)) (af an : Nat) (w : World) : Prop where
  upk : UpkO w N gu size high early most out tx af an
  rdr : Rdr w w0.heap.size gr A c b high p
  box : Blk w gf 42 #[.int .i64 (size : Int), .bool high, .int .i64 (early : Int)]
  cuts : Cuts out tx T
  ahead : Ahead out af an a
  none_ : an = 0 → tx = []
  room : clr size + 2 + tx.length ≤ 4096
  len : Len T a
  outl : out.length ≤ 4096 * p
  below : Below w0.heap.size w0 w
  ltr : gr < N
  ltf : gf < N
  lta : ∀ k, A.map (·.block) = some k → k < N
  old : w0.heap.size ≤ gu
section
variable {w0 w w' : World} {N gu gr gf size : Nat} {high : Bool} {early : Nat} {most : Int} {A : Option Addr} {c : Nat} {b : List UInt8} {p : Nat} {T : List (List UInt8)} {a out : List UInt8} {tx : List (Nat × Nat)} {af an : Nat}
/-- The reader of bits went on; new memory. -/
theorem UAt.read (h : UAt w0 N gu gr gf size high early most A c b p T a out tx af an w) (u : Upd (· = gr) w w') {q : Nat} (hr : Rdr w' w0.heap.size gr A c b high q) (hq : p ≤ q) : UAt w0 N gu gr gf size high early most A c b q T a out tx af an w' := by
  obtain ⟨A1, c1, T1, d1, hs⟩ := h.upk
  have hne : ∀ k, A1.map (·.block) = some k → k ≠ gr := fun k hk e => by subst e; have := (hs.own.lt k (by rw [own_block_sl]; exact hk)).1; have := h.ltr; omega
  have hne2 : ∀ k, T1.map (·.block) = some k → k ≠ gr := fun k hk e => by subst e; have := (hs.tab.lt k (by rw [own_block_sl]; exact hk)).1; have := h.ltr; omega
  refine ⟨⟨A1, c1, T1, d1, hs.blk.upd u (Blk.ne_ hs.blk h.rdr.1 (by decide)), own_upd hs.own u (fun k hk => hne k (by rw [← own_block_sl]; exact hk)), own_upd hs.tab u (fun k hk => hne2 k (by rw [← own_block_sl]; exact hk)), hs.lt, Nat.le_trans hs.room u.size⟩, hr, h.box.upd u (Blk.ne_ h.box h.rdr.1 (by decide)), h.cuts, h.ahead, h.none_, h.room, h.len, by have := h.outl; omega, h.below.trans (u.below h.below.size (fun k hk e => by have := h.rdr.2.2.1; omega)), h.ltr, h.ltf, h.lta, h.old⟩
theorem UAt.fresh (h : UAt w0 N gu gr gf size high early most A c b p T a out tx af an w) (hb : Below w.heap.size w w') : UAt w0 N gu gr gf size high early most A c b p T a out tx af an w' :=
  h.read ((Upd.of_fresh hb).mono (fun _ _ e => e.elim)) (h.rdr.upd (Upd.of_fresh hb) id (fun _ _ => id)) (Nat.le_refl _)
theorem UAt.drew (h : UAt w0 N gu gr gf size high early most A c b p T a out tx af an w) : UAt w0 N gu gr gf size high early most A c b p T a out tx af an w.drew := h.read (Upd.refl _ _).drew h.rdr (Nat.le_refl _)
/-- The unpacker went on. -/
theorem UAt.wrote (h : UAt w0 N gu gr gf size high early most A c b p T a out tx af an w) (u : Upd (US gu N) w w') {T' : List (List UInt8)} {a' out' : List UInt8} {tx' : List (Nat × Nat)} {af' an' : Nat} (hu : UpkO w' N gu size high early most out' tx' af' an')
    (h1 : Cuts out' tx' T') (h2 : Ahead out' af' an' a') (h3 : an' = 0 → tx' = []) (h4 : clr size + 2 + tx'.length ≤ 4096) (h5 : Len T' a') (h6 : out'.length ≤ 4096 * p) : UAt w0 N gu gr gf size high early most A c b p T' a' out' tx' af' an' w' := by
  obtain ⟨A1, c1, T1, d1, hs⟩ := h.upk
  refine ⟨hu, h.rdr.upd u (fun e => ?_) (fun k hk e => ?_), h.box.upd u (fun e => ?_), h1, h2, h3, h4, h5, h6, h.below.trans (u.below h.below.size (fun k hk e => ?_)), h.ltr, h.ltf, h.lta, h.old⟩
  · rcases e with e | e
    · exact Blk.ne_ hs.blk h.rdr.1 (by decide) e.symm
    · have := h.ltr; omega
  · rcases e with e | e
    · subst e; exact own_blk_ne h.rdr.2.1 hs.blk (by decide) hk
    · have := h.lta k (by rw [← own_block_sl]; exact hk); omega
  · rcases e with e | e
    · exact Blk.ne_ hs.blk h.box (by decide) e.symm
    · have := h.ltf; omega
  · have := h.old
    have := h.below.size
    rcases e with e | e
    · omega
    · have := hs.lt; omega
end
theorem own_mono {w : World} {base base' : Nat} {e : TypeId} {size : Nat} {v : Value} {n : Nat} {xs : List Value} (h : w.ownsRow base e size v n xs) (hb : base' ≤ base) : w.ownsRow base' e size v n xs := by
  refine ⟨h.1, ?_⟩
  rcases h.2 with h2 | ⟨g, cap, cur, h2, h3, h4⟩
  · exact .inl h2
  · exact .inr ⟨g, cap, cur, h2, Nat.le_trans hb h3, h4⟩
theorem Rdr.mono {w : World} {base base' g : Nat} {A : Option Addr} {c : Nat} {l : List UInt8} {high : Bool} {at_ : Nat} (h : Rdr w base g A c l high at_) (hb : base' ≤ base) : Rdr w base' g A c l high at_ :=
  ⟨h.1, own_mono h.2.1 hb, Nat.le_trans hb h.2.2.1, h.2.2.2⟩
/-- The table is forgotten. -/
theorem Upk.reset {w : World} {N gu size : Nat} {high : Bool} {early : Nat} {most : Int} {Ao : Option Addr} {co : Nat} {out : List UInt8} {At : Option Addr} {ct : Nat} {tx : List (Nat × Nat)} {af an : Nat}
    (h : Upk w N gu size high early most Ao co out At ct tx af an) : UpkO (((w.setCell ⟨gu, 5, none⟩ (.slice none 0 0)).setCell ⟨gu, 6, none⟩ (.int .i64 0)).setCell ⟨gu, 7, none⟩ (.int .i64 0)) N gu size high early most out [] 0 0 ∧
      Upd (US gu N) w (((w.setCell ⟨gu, 5, none⟩ (.slice none 0 0)).setCell ⟨gu, 6, none⟩ (.int .i64 0)).setCell ⟨gu, 7, none⟩ (.int .i64 0)) := by
  have hs : Upd (· = gu) w (((w.setCell ⟨gu, 5, none⟩ (.slice none 0 0)).setCell ⟨gu, 6, none⟩ (.int .i64 0)).setCell ⟨gu, 7, none⟩ (.int .i64 0)) :=
    (((Upd.refl (· = gu) w).setCell (p := ⟨gu, 5, none⟩) (fun _ => rfl) _).setCell (p := ⟨gu, 6, none⟩) (fun _ => rfl) _).setCell (p := ⟨gu, 7, none⟩) (fun _ => rfl) _
  refine ⟨⟨Ao, co, none, 0, ((h.blk.set_ 5 _).set_ 6 _).set_ 7 _, own_upd h.own hs (fun k hk e => ?_), World.ownsRow_nil _ _ _ _, h.lt, Nat.le_trans h.room hs.size⟩, hs.mono (fun k _ e => .inl e)⟩
  subst e; exact own_blk_ne h.own h.blk (by decide) hk
theorem UpdNo.up {w w' : World} {g : Nat} (h : Upd No w w') : Upd (· = g) w w' := h.mono (fun _ _ e => e.elim)
/-- What unpack answers and leaves, by x. -/
def UnpackR (w : World) (x : Except Nat (List UInt8)) (e : Ending) (w' : World) : Prop :=
  match x with
  | .error k => e = .returned (.tuple #[.slice none 0 0, .int .i64 (k : Int)]) ∧ Below w.heap.size w w'
  | .ok out => ∃ Ao co, e = .returned (.tuple #[.slice Ao out.length co, .int .i64 0]) ∧ w'.ownsRow w.heap.size 5 1 (.slice Ao out.length co) out.length (bytesV out) ∧ Below w.heap.size w w'
set_option maxHeartbeats 4000000 in
set_option maxRecDepth 100000 in
theorem unpack_any (w : World) (A : Option Addr) (c : Nat) (b : List UInt8) (size : Nat) (high : Bool) (early : Nat) (most : Int) (h : Bs w w.heap.size A b) (hb : b.length ≤ 4000000) (h1 : 2 ≤ size) (h2 : size ≤ 8) (he : early ≤ 1) :
    Calls Try.prog 23 #[.slice A b.length c, .agg #[.int .i64 (size : Int), .bool high, .int .i64 (early : Int)], .int .i64 most] w (UnpackR w (unpackM b high (clr size) early most.toNat)) := by
  have HB := Lib.hid h
  clear h
  obtain ⟨X, HX⟩ : ∃ X, Hid (unpackM b high (clr size) early most.toNat = X) := ⟨_, Lib.hid rfl⟩
  rw [HX.out]
  go_enter Try.func23, Try.ntmps23
  go_wp2_with fail
  refine (newReader_any A c b high w.heap.size _ ((HB.out.alloc (Nat.le_refl _) _).alloc (by simp) _) (by simp; omega) (by omega)).mono ?_
  rintro e w1 ⟨gr, A', c', rfl, hr, hb1⟩
  have hz : w.heap.size + 2 ≤ w1.heap.size := by have := hb1.size; simp at this; omega
  have HU0 : Hid (UAt w w1.heap.size (w.heap.size + 1) gr w.heap.size size high early most A' c' b 0 [] [] [] [] 0 0 w1) := by
    have hbw := (((Below.refl w.heap.size w).alloc (Nat.le_refl _) (.cells #[.int .i64 (size : Int), .bool high, .int .i64 (early : Int)] 42)).alloc (by simp) (.cells #[.int .i64 (size : Int), .bool high, .int .i64 (early : Int), .slice none 0 0, .int .i64 most, .slice none 0 0, .int .i64 0, .int .i64 0] 63)).trans (hb1.mono (by simp; omega))
    have hcl := clr_le h1 h2
    have hB1 := ((Blk.new w 42 #[.int .i64 (size : Int), .bool high, .int .i64 (early : Int)]).alloc (.cells #[.int .i64 (size : Int), .bool high, .int .i64 (early : Int), .slice none 0 0, .int .i64 most, .slice none 0 0, .int .i64 0, .int .i64 0] 63)).upd (Upd.of_fresh hb1) id
    have hB2 := (Blk.new (w.alloc (.cells #[.int .i64 (size : Int), .bool high, .int .i64 (early : Int)] 42)) 63 #[.int .i64 (size : Int), .bool high, .int .i64 (early : Int), .slice none 0 0, .int .i64 most, .slice none 0 0, .int .i64 0, .int .i64 0]).upd (Upd.of_fresh hb1) id
    rw [World.size_alloc] at hB2
    refine Lib.hid ⟨⟨none, 0, none, 0, hB2, World.ownsRow_nil _ _ _ _, World.ownsRow_nil _ _ _ _, by omega, Nat.le_refl _⟩, hr.mono (by simp; omega), hB1, Cuts.nil_, Ahead.none_, fun _ => rfl, by simp; omega, ⟨fun _ hs => (by cases hs), (by simp)⟩, by simp, hbw, hr.1.lt, by omega, fun k hk => (hr.2.1.lt k (by rw [own_block_sl]; exact hk)).2, by omega⟩
  have HX0 : Hid (runM b high (clr size) early most.toNat (8 * b.length + 1 - 0) 0 [] [] [] = X) := HX
  clear hr hb1 HX
  generalize w.heap.size + 1 = gu at *
  obtain ⟨gf, hgf⟩ : ∃ gf, gf = w.heap.size := ⟨_, rfl⟩
  rw [← hgf] at HU0 ⊢
  have HGF := Lib.hid hgf
  clear hgf
  go_wp2_with fail
  obtain ⟨N, hN⟩ : ∃ N, N = w1.heap.size := ⟨_, rfl⟩
  rw [← hN] at HU0
  clear hN
  go_loopg [] (8 * b.length) (fun gk wr => ∃ (p : Nat) (T : List (List UInt8)) (a out : List UInt8) (tx : List (Nat × Nat)) (af an : Nat), gk = 8 * b.length - p ∧ p ≤ 8 * b.length ∧ Hid (UAt w N gu gr gf size high early most A' c' b p T a out tx af an wr) ∧ Hid (runM b high (clr size) early most.toNat (8 * b.length + 1 - p) p T a out = X))
  case atStart => exact ⟨0, [], [], [], [], 0, 0, rfl, by omega, HU0, HX0⟩
  case round =>
    obtain ⟨p, T, a, out, tx, af, an, rfl, hp, HU, HXr⟩ := hrel
    clear HU0 HX0
    have hcl := clr_le h1 h2
    obtain ⟨n, hn⟩ : ∃ n, clr size + 2 + tx.length = n := ⟨_, rfl⟩
    have hTn : clr size + 2 + T.length = n := by rw [HU.out.cuts.len]; exact hn
    have hw := wM_one early n (by omega)
    have HCd : Hid (∀ w', Upd No wr w' → Calls Try.prog 39 #[.pointer (some ⟨gu, 0, none⟩)] w' (AnswersB (n : Int) w')) := Lib.hid fun w' hu => by
      obtain ⟨A1, c1, T1, d1, hs⟩ := (HU.out.fresh hu.fresh).upk
      rw [← hn]
      exact codes_any w' N gu size high early most A1 c1 out T1 d1 tx af an hs h1 h2 (by have := HU.out.room; omega)
    have hnl : n ≤ 4096 := by have := HU.out.room; omega
    have HWd : Hid (∀ w', Calls Try.prog 38 #[.agg #[.int .i64 (size : Int), .bool high, .int .i64 (early : Int)], .int .i64 (n : Int)] w' (AnswersB (wM early n : Nat) w')) := Lib.hid fun w' => width_any size high early n w' (by omega)
    have HTn := Lib.hid hTn
    clear hTn hn
    have f0 : wr.cell? ⟨gf, 0, none⟩ = some (.int .i64 (size : Int)) := by rw [HU.out.box.cell]; rfl
    have f1 : wr.cell? ⟨gf, 1, none⟩ = some (.bool high) := by rw [HU.out.box.cell]; rfl
    have f2 : wr.cell? ⟨gf, 2, none⟩ = some (.int .i64 (early : Int)) := by rw [HU.out.box.cell]; rfl
    have hfull : Hid (∀ w', Upd (· = gr) wr w' → (Upd (· = gr) wr w' ∧ w'.cell? ⟨gf, 0, none⟩ = some (.int .i64 (size : Int)) ∧ w'.cell? ⟨gf, 1, none⟩ = some (.bool high) ∧ w'.cell? ⟨gf, 2, none⟩ = some (.int .i64 (early : Int)))) := Lib.hid fun w' hu => by
      have hb := HU.out.box.upd hu (Blk.ne_ HU.out.box HU.out.rdr.1 (by decide))
      exact ⟨hu, (hb.cell 0).trans rfl, (hb.cell 1).trans rfl, (hb.cell 2).trans rfl⟩
    by_cases hq : p + wM early n ≤ 8 * b.length
    · have hlt : num high (fun i => bitAt b high (p + i)) (wM early n) < 65536 := Nat.lt_of_lt_of_le (num_lt _ _ _) (Nat.pow_le_pow_right (n := 2) (by omega) (by omega : wM early n ≤ 16))
      have htk : takeO b high p (wM early n) = .ok (num high (fun i => bitAt b high (p + i)) (wM early n), p + wM early n) := by unfold takeO; rw [if_pos hq]
      have HTk : Hid (∀ w', Upd No wr w' → Calls Try.prog 37 #[.pointer (some ⟨gr, 0, none⟩), .int .i64 (wM early n : Nat)] w' (fun e w'' => e = .returned (.tuple #[.int .u32 ((num high (fun i => bitAt b high (p + i)) (wM early n) : Nat) : Int), .int .i64 0]) ∧ Rdr w'' w.heap.size gr A' c' b high (p + wM early n) ∧ Upd (· = gr) w' w'')) := Lib.hid fun w' hu =>
        take_any w' w.heap.size gr A' c' b high p (wM early n) (HU.out.fresh hu.fresh).rdr (by omega) hq
      have hxr := HXr.out
      rw [show 8 * b.length + 1 - p = 8 * b.length - p + 1 by omega, runM, HTn.out, htk] at hxr
      replace hxr : (if num high (fun i => bitAt b high (p + i)) (wM early n) = clr size then runM b high (clr size) early most.toNat (8 * b.length - p) (p + wM early n) [] [] out else if num high (fun i => bitAt b high (p + i)) (wM early n) = clr size + 1 then .ok out else match writeM (clr size) most.toNat T a out (num high (fun i => bitAt b high (p + i)) (wM early n)) with
        | .error e => .error e
        | .ok (T', a', out') => runM b high (clr size) early most.toNat (8 * b.length - p) (p + wM early n) T' a' out' : Except Nat (List UInt8)) = X := hxr
      have HXc := Lib.hid hxr
      have ho := HU.out.outl
      clear HXr hxr htk
      generalize num high (fun i => bitAt b high (p + i)) (wM early n) = code at *
      generalize wM early n = W at *
      go_wp2_with fail
      go_region_held3 (fun w' => Upd (· = gr) wr w' ∧ w'.cell? ⟨gf, 0, none⟩ = some (.int .i64 (size : Int)) ∧ w'.cell? ⟨gf, 1, none⟩ = some (.bool high) ∧ w'.cell? ⟨gf, 2, none⟩ = some (.int .i64 (early : Int)))
        (first | exact hfull.out _ (Upd.refl _ _) | exact hfull.out _ (Upd.refl _ _).drew | exact hfull.out _ (Upd.drew (And.left (by assumption))) | exact hfull.out _ (UpdNo.up (by assumption)) | exact hfull.out _ (by assumption))
        ((first
          | (go_at_call 39; refine (HCd.out _ (by first | exact Upd.refl No _ | exact (Upd.refl No _).drew)).mono ?_; rintro e w6 ⟨rfl, hb6⟩; have hN6 : Upd No wr w6 := Upd.trans (by first | exact Upd.refl No _ | exact (Upd.refl No _).drew) (Upd.of_fresh hb6))
          | (go_at_call 38; refine (HWd.out _).mono ?_; rintro e w7 ⟨rfl, hb7⟩; have hN7 : Upd No wr w7 := hN6.trans (Upd.of_fresh hb7))
          | (go_at_call 37; refine (HTk.out _ hN7).mono ?_; rintro e w8 ⟨rfl, hr8, hu8⟩; have hU8 : Upd (· = gr) wr w8 := (UpdNo.up hN7).trans hu8)))
      have HU8 := Lib.hid (HU.out.read hU8 hr8 (by omega))
      clear hU8 hr8 hu8 hN7 hb7 hN6 hb6 f0 f1 f2 hfull HTk HWd HCd HU
      have f0 : w8.cell? ⟨gf, 0, none⟩ = some (.int .i64 (size : Int)) := by rw [HU8.out.box.cell]; rfl
      have f1 : w8.cell? ⟨gf, 1, none⟩ = some (.bool high) := by rw [HU8.out.box.cell]; rfl
      have f2 : w8.cell? ⟨gf, 2, none⟩ = some (.int .i64 (early : Int)) := by rw [HU8.out.box.cell]; rfl
      have hq1 : p + 1 ≤ p + W := by omega
      by_cases c1 : code = clr size
      · have HXn : Hid (runM b high (clr size) early most.toNat (8 * b.length + 1 - (p + W)) (p + W) [] [] out = X) := Lib.hid (by
          rw [← HXc.out, if_pos c1]; exact runM_fuel _ _ _ _ _ _ _ _ _ _ _ (by omega) (by omega))
        have d1 : ((code : Int) == ((clr size : Nat) : Int)) = true := by simp; omega
        clear HXc c1
        go_wp2_with fail
        refine (clear_any size high early _ h1 h2).mono ?_
        rintro e w9 ⟨rfl, hb9⟩
        have HU9 := Lib.hid (HU8.out.fresh hb9)
        clear hb9 HU8 f0 f1 f2
        obtain ⟨A1, c1, T1, t1, hs⟩ := HU9.out.upk
        have g5 := hs.c5
        have g6 := hs.c6
        have g7 := hs.c7
        have k5 := hs.blk.frozen 5
        have k6 := hs.blk.frozen 6
        have k7 := hs.blk.frozen 7
        obtain ⟨hr1, hr2⟩ := hs.reset
        have HUA : Hid (UAt w N gu gr gf size high early most A' c' b (p + W) [] [] out [] 0 0 _) := Lib.hid (HU9.out.wrote hr2 hr1 Cuts.nil_ Ahead.none_ (fun _ => rfl) (by have := HU9.out.room; simp; omega) ⟨fun _ hs => (by cases hs), (by simp)⟩ HU9.out.outl)
        clear hs hr1 hr2
        go_wp2_with fail
        go_roundg (8 * b.length - (p + W))
        case measure => omega
        case rel => exact ⟨p + W, [], [], out, [], 0, 0, rfl, by omega, HUA, HXn⟩
      have d1 : ((code : Int) == ((clr size : Nat) : Int)) = false := by simp; omega
      by_cases c2 : code = clr size + 1
      · have HXn : Hid (X = .ok out) := Lib.hid (by rw [← HXc.out, if_neg c1, if_pos c2])
        have d2 : ((code : Int) == ((clr size : Nat) : Int) + 1) = true := by simp; omega
        clear HXc c1 c2
        go_wp2_with fail
        refine (clear_any size high early _ h1 h2).mono ?_
        rintro e w9 ⟨rfl, hb9⟩
        have HU9 := Lib.hid (HU8.out.fresh hb9)
        clear hb9 HU8 f0 f1 f2
        have f0 : w9.cell? ⟨gf, 0, none⟩ = some (.int .i64 (size : Int)) := by rw [HU9.out.box.cell]; rfl
        have f1 : w9.cell? ⟨gf, 1, none⟩ = some (.bool high) := by rw [HU9.out.box.cell]; rfl
        have f2 : w9.cell? ⟨gf, 2, none⟩ = some (.int .i64 (early : Int)) := by rw [HU9.out.box.cell]; rfl
        go_wp2_with fail
        refine (end_any size high early _ h1 h2).mono ?_
        rintro e w10 ⟨rfl, hb10⟩
        have HU10 := Lib.hid (HU9.out.fresh hb10)
        clear hb10 HU9 f0 f1 f2
        obtain ⟨A1, c1, T1, t1, hs⟩ := HU10.out.upk
        have g3 := hs.c3
        have HO := Lib.hid (own_mono hs.own (show w.heap.size ≤ N by have := hs.lt; have := HU10.out.old; omega))
        clear hs
        go_wp2_with fail
        go_ret2
        rw [HXn.out]
        exact ⟨A1, c1, rfl, HO.out, HU10.out.below⟩
      have d2 : ((code : Int) == ((clr size : Nat) : Int) + 1) = false := by simp; omega
      have HXn := HXc.out
      rw [if_neg c1, if_neg c2] at HXn
      have HXm := Lib.hid HXn
      have HC1 := Lib.hid c1
      have HC2 := Lib.hid c2
      clear HXc HXn c1 c2
      go_wp2_with fail
      refine (clear_any size high early _ h1 h2).mono ?_
      rintro e w9 ⟨rfl, hb9⟩
      have HU9 := Lib.hid (HU8.out.fresh hb9)
      clear hb9 HU8 f0 f1 f2
      have f0 : w9.cell? ⟨gf, 0, none⟩ = some (.int .i64 (size : Int)) := by rw [HU9.out.box.cell]; rfl
      have f1 : w9.cell? ⟨gf, 1, none⟩ = some (.bool high) := by rw [HU9.out.box.cell]; rfl
      have f2 : w9.cell? ⟨gf, 2, none⟩ = some (.int .i64 (early : Int)) := by rw [HU9.out.box.cell]; rfl
      go_wp2_with fail
      refine (end_any size high early _ h1 h2).mono ?_
      rintro e w10 ⟨rfl, hb10⟩
      have HU10 := Lib.hid (HU9.out.fresh hb10)
      clear hb10 HU9 f0 f1 f2
      have HWr := Lib.hid (write_any w10 N gu size high early most out tx af an HU10.out.upk h1 h2 T a HU10.out.cuts HU10.out.ahead HU10.out.none_ HU10.out.room (by have := HU10.out.outl; omega) code HC1.out HC2.out)
      go_wp2_with fail
      rcases hx : writeM (clr size) most.toNat T a out code with ke | ⟨T', a', out'⟩
      · rw [hx] at HWr HXm
        clear hx
        refine HWr.out.mono ?_
        rintro e w11 ⟨rfl, hk, hu11⟩
        have d3 : ((ke : Int) != 0) = true := by simp; omega
        have HXn : Hid (X = .error ke) := Lib.hid HXm.out.symm
        obtain ⟨A1, c1, T1, t1, hs⟩ := HU10.out.upk
        have hb11 := HU10.out.below.trans (hu11.below HU10.out.below.size (fun k hk e => by
          have := HU10.out.old; have := hs.lt
          rcases e with e | e <;> omega))
        clear hs HXm HWr hk hu11
        go_wp2_with fail
        go_ret2
        rw [HXn.out]
        exact ⟨rfl, hb11⟩
      · rw [hx] at HWr HXm
        have hwl := write_len hx HU10.out.len (by rw [HU10.out.cuts.len]; exact HU10.out.room)
        clear hx
        refine HWr.out.mono ?_
        rintro e w11 ⟨rfl, ⟨tx', af', an', hs11, k1, k2, k3, k4⟩, hu11⟩
        have HUA : Hid (UAt w N gu gr gf size high early most A' c' b (p + W) T' a' out' tx' af' an' w11) := Lib.hid (HU10.out.wrote hu11 hs11 k1 k2 (fun h => by omega) k4 hwl.1 (by have := hwl.2; omega))
        have HXn : Hid (runM b high (clr size) early most.toNat (8 * b.length + 1 - (p + W)) (p + W) T' a' out' = X) := Lib.hid (by
          rw [← HXm.out]; exact runM_fuel _ _ _ _ _ _ _ _ _ _ _ (by omega) (by omega))
        clear hs11 k1 k2 k3 k4 hu11 hwl HWr HXm HU10
        go_wp2_with fail
        go_roundg (8 * b.length - (p + W))
        case measure => omega
        case rel => exact ⟨p + W, T', a', out', tx', af', an', rfl, by omega, HUA, HXn⟩
    · have htk : takeO b high p (wM early n) = .error 5 := by unfold takeO; rw [if_neg hq]
      have HTk : Hid (∀ w', Upd No wr w' → Calls Try.prog 37 #[.pointer (some ⟨gr, 0, none⟩), .int .i64 (wM early n : Nat)] w' (fun e w'' => e = .returned (.tuple #[.int .u32 0, .int .i64 5]) ∧ ∃ k, w'' = w'.drewN k)) := Lib.hid fun w' hu =>
        take_end w' w.heap.size gr A' c' b high p (wM early n : Nat) (HU.out.fresh hu.fresh).rdr (by omega) (by omega) (by omega)
      have HXs : Hid (X = .error 5) := Lib.hid (by
        have e := HXr.out
        rw [show 8 * b.length + 1 - p = 8 * b.length - p + 1 by omega, runM, HTn.out, htk] at e
        exact e.symm)
      clear HXr htk
      generalize wM early n = W at *
      go_wp2_with fail
      go_region_held3 (fun w' => Upd (· = gr) wr w' ∧ w'.cell? ⟨gf, 0, none⟩ = some (.int .i64 (size : Int)) ∧ w'.cell? ⟨gf, 1, none⟩ = some (.bool high) ∧ w'.cell? ⟨gf, 2, none⟩ = some (.int .i64 (early : Int)))
        (first | exact hfull.out _ (Upd.refl _ _) | exact hfull.out _ (Upd.refl _ _).drew | exact hfull.out _ (Upd.drew (And.left (by assumption))) | exact hfull.out _ (UpdNo.up (by assumption)) | exact hfull.out _ (by assumption))
        ((first
          | (go_at_call 39; refine (HCd.out _ (by first | exact Upd.refl No _ | exact (Upd.refl No _).drew)).mono ?_; rintro e w6 ⟨rfl, hb6⟩; have hN6 : Upd No wr w6 := Upd.trans (by first | exact Upd.refl No _ | exact (Upd.refl No _).drew) (Upd.of_fresh hb6))
          | (go_at_call 38; refine (HWd.out _).mono ?_; rintro e w7 ⟨rfl, hb7⟩; have hN7 : Upd No wr w7 := hN6.trans (Upd.of_fresh hb7))
          | (go_at_call 37; refine (HTk.out _ hN7).mono ?_; rintro e w8 ⟨rfl, k8, rfl⟩; have hU8 : Upd (· = gr) wr (w7.drewN k8) := (UpdNo.up hN7).drewN k8)))
      have hb8 := HU.out.below.trans ((hN7.drewN k8).fresh.mono HU.out.below.size)
      go_wp2_with fail
      go_ret2
      rw [HXs.out]
      exact ⟨rfl, hb8⟩
end Go.Proofs.Ythnfnfaiicfenaa
