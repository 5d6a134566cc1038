/- Contracts of the stream's stored and repeat: what was written grows. -/
import Derived.Test.YthbdhpciibjnmaaIc
import Derived.Deep.RegionLaw
namespace Go.Proofs.Ythbdhpciibjnmaa
open Go.ChangeShapes Go.WideShapes Go.ChangeAt Go.RowKit

/-- The method's answer by x: (place, what was written). -/
def Grew (w : World) (B gs gr : Nat) (A : Option Addr) (c : Nat) (b : List UInt8) (most : Nat) (x : Except Nat (Nat × List UInt8)) (e : Ending) (w' : World) : Prop :=
  match x with
  | .error k => e = gaveUp k ∧ Left w B w'
  | .ok (q, out) => e = .returned (.tuple #[]) ∧ Strm w' B gs gr A c b most q out ∧ Left w B w'
section
variable {w w' wm : World} {B gs gr : Nat} {A : Option Addr} {c : Nat} {b : List UInt8} {most p : Nat} {Ao : Option Addr} {co : Nat} {out : List UInt8} {fx : Option Addr}
/-- The stream's block stays while what was written grows. -/
theorem Str.grown (h : Str w B gs gr A c b most p Ao co out fx) (hg : w.grownBy wm (Value.slice Ao out.length co).ownBlock) : Blk wm gs 48 #[.pointer (some ⟨gr, 0, none⟩), .slice Ao out.length co, .int .i64 (most : Int), .pointer fx] :=
  h.blk.upd (Upd.of_grown hg) (fun e => own_blk_ne h.own h.blk (by decide) e.symm)
/-- What was written is appended to, and the field is written. -/
theorem Str.grow (h : Str w B gs gr A c b most p Ao co out fx) {A2 : Option Addr} {c2 n : Nat} {out2 : List UInt8} (hn : out2.length = n) (hO : wm.ownsRow B 5 1 (.slice A2 n c2) n (bytesV out2))
    (hg : w.grownBy wm (Value.slice Ao out.length co).ownBlock) (hA : (Value.slice A2 n c2).ownBlock = (Value.slice Ao out.length co).ownBlock ∨ ∃ k, (Value.slice A2 n c2).ownBlock = some k ∧ w.heap.size ≤ k) :
    Str (wm.setCell ⟨gs, 1, none⟩ (.slice A2 n c2)) B gs gr A c b most p A2 c2 out2 fx ∧ Left w B (wm.setCell ⟨gs, 1, none⟩ (.slice A2 n c2)) := by
  subst hn
  have hu0 := Upd.of_grown hg
  have hbs : (Value.slice Ao out.length co).ownBlock = Ao.map (·.block) := own_block_sl _ _ _
  have hu : Upd (fun k => k = gs ∨ Ao.map (·.block) = some k) w (wm.setCell ⟨gs, 1, none⟩ (.slice A2 out2.length c2)) :=
    (hu0.mono (fun k _ e => .inr (by rw [← hbs]; exact e.symm))).setCell (p := ⟨gs, 1, none⟩) (fun _ => .inl rfl) _
  have hgs : ∀ k, Ao.map (·.block) = some k → k ≠ gs := fun k hk e => by
    subst e; exact own_blk_ne h.own h.blk (by decide) (by rw [hbs]; exact hk)
  have hgr : ∀ k, Ao.map (·.block) = some k → k ≠ gr := fun k hk e => by
    subst e; exact own_blk_ne h.own h.rdr.1 (by decide) (by rw [hbs]; exact hk)
  have hsr : gs ≠ gr := Blk.ne_ h.blk h.rdr.1 (by decide)
  have hblk : Blk wm gs 48 #[.pointer (some ⟨gr, 0, none⟩), .slice Ao out.length co, .int .i64 (most : Int), .pointer fx] := h.blk.upd hu0 (fun e => hgs gs (by rw [← hbs]; exact e.symm) rfl)
  have hkeep : Keep TS w (wm.setCell ⟨gs, 1, none⟩ (.slice A2 out2.length c2)) := Keep.of_upd hu (fun k cs t e hb => by
    rcases e with rfl | e
    · have h1 := h.blk
      unfold Blk at hb h1
      rw [h1] at hb
      injection hb with hb
      injection hb with _ hb
      subst hb
      decide
    · rcases h.own.2 with ⟨h2, _⟩ | ⟨g, cap, cur, h2, _, h4, _⟩
      · injection h2 with h2 _ _; subst h2; cases e
      · injection h2 with h2 _ _
        subst h2
        simp at e
        subst e
        unfold Blk at hb
        rw [h4] at hb
        injection hb with hb
        injection hb with _ hb
        subst hb
        decide)
  have hAg : ∀ k, A2.map (·.block) = some k → Ao.map (·.block) = some k ∨ w.heap.size ≤ k := fun k hk => by
    rw [hbs, own_block_sl] at hA
    rcases hA with h1 | ⟨j, h1, h2⟩
    · exact .inl (by rw [← h1]; exact hk)
    · rw [hk] at h1
      injection h1 with h1
      exact .inr (by omega)
  refine ⟨⟨?_, ?_, ?_, h.base, Nat.le_trans h.size hu.size, h.fix.keep hkeep, ?_⟩, hu.below h.size (fun k hk e => ?_), hkeep⟩
  · exact hblk.set_ 1 _
  · refine h.rdr.upd hu (fun e => ?_) (fun k hk e => ?_)
    · rcases e with e | e
      · exact hsr e.symm
      · exact hgr gr e rfl
    · rw [own_block_sl] at hk
      rcases e with e | e
      · subst e; exact own_blk_ne h.rdr.2.1 h.blk (by decide) (by rw [own_block_sl]; exact hk)
      · exact h.ne k e hk
  · refine own_upd hO ((Upd.refl (· = gs) wm).setCell (p := ⟨gs, 1, none⟩) (fun _ => rfl) _) (fun k hk e => ?_)
    subst e
    exact own_blk_ne hO hblk (by decide) hk
  · intro k hk hk2
    rcases hAg k hk with e | e
    · exact h.ne k e hk2
    · have := h.rdr.2.1.lt k (by rw [own_block_sl]; exact hk2); omega
  · rcases e with e | e
    · have := h.base; omega
    · have := h.own.lt k (by rw [hbs]; exact e); omega
end
theorem takeM_lt {b : List UInt8} {p n v q : Nat} (h : takeM b p n = .ok (v, q)) (hn : n ≤ 16) : v < 65536 := by
  have h1 := (takeM_ok h).1
  have h2 : 2 ^ n ≤ 2 ^ 16 := Nat.pow_le_pow_right (by omega) hn
  omega
set_option maxHeartbeats 4000000 in
theorem stored_any (w : World) (B gs gr : Nat) (A : Option Addr) (c : Nat) (b : List UInt8) (most p : Nat) (out : List UInt8) (h : Strm w B gs gr A c b most p out) (hm : most ≤ 9223372036854775807) (hol : out.length ≤ most) (hcap : out.length + b.length ≤ 140737488355328) :
    Calls Try.prog 35 #[.pointer (some ⟨gs, 0, none⟩)] w (Grew w B gs gr A c b most (storedM b most p out)) := by
  obtain ⟨Ao, co, fx, h⟩ := h
  obtain ⟨i0, hi, hz0, hz1, hz2⟩ := info_parts info_u8
  obtain ⟨X, HX⟩ : ∃ X, Hid (storedM b most p out = X) := ⟨_, Lib.hid rfl⟩
  rw [HX.out]
  have hc := h.in_
  have HA := Lib.hid (align_any w B gr A c b false p h.rdr)
  have HH := Lib.hid h; clear h
  go_enter Try.func35, Try.ntmps35
  go_wp2_with fail
  refine HA.out.mono ?_
  rintro e w1 ⟨rfl, hr, hu⟩
  obtain ⟨hs1, hl1⟩ := HH.out.read hu hr
  have HL1 : Hid (Left w B w1) := Lib.hid hl1
  have HT := Lib.hid (take_num w1 B gs gr A c b most _ Ao co out fx hs1 16 (by omega))
  clear hr hu hs1 hl1 HA hc HH
  go_wp2_with fail
  unfold storedM at HX
  rcases hx : takeM b ((p + 7) / 8 * 8) 16 with ke | ⟨n, q⟩
  · rw [hx] at HT HX
    clear hx
    refine HT.out.mono ?_
    rintro e w2 ⟨rfl, hl⟩
    refine ⟨rfl, ?_⟩
    rw [← HX.out]
    exact ⟨rfl, HL1.out.trans hl⟩
  rw [hx] at HT HX
  have hn := takeM_lt hx (by omega)
  clear hx
  refine HT.out.mono ?_
  rintro e w2 ⟨rfl, hs, hl⟩
  have HL2 : Hid (Left w B w2) := Lib.hid (HL1.out.trans hl)
  have HT := Lib.hid (take_num w2 B gs gr A c b most q Ao co out fx hs 16 (by omega))
  clear hs hl HL1
  go_wp2_with fail
  rcases hx : takeM b q 16 with ke | ⟨m, q2⟩
  · replace HX : Hid ((match takeM b q 16 with | .error e => .error e | .ok (m, q) => if m + n ≠ 65535 then .error 40 else if most - out.length < n then .error 3 else if b.length < (q + 7) / 8 + n then .error 5 else .ok (8 * ((q + 7) / 8 + n), out ++ (b.drop ((q + 7) / 8)).take n) : Except Nat (Nat × List UInt8)) = X) := HX
    rw [hx] at HT HX
    clear hx
    refine HT.out.mono ?_
    rintro e w3 ⟨rfl, hl⟩
    refine ⟨rfl, ?_⟩
    rw [← HX.out]
    exact ⟨rfl, HL2.out.trans hl⟩
  replace HX : Hid ((match takeM b q 16 with | .error e => .error e | .ok (m, q) => if m + n ≠ 65535 then .error 40 else if most - out.length < n then .error 3 else if b.length < (q + 7) / 8 + n then .error 5 else .ok (8 * ((q + 7) / 8 + n), out ++ (b.drop ((q + 7) / 8)).take n) : Except Nat (Nat × List UInt8)) = X) := HX
  rw [hx] at HT HX
  replace HX : Hid ((if m + n ≠ 65535 then .error 40 else if most - out.length < n then .error 3 else if b.length < (q2 + 7) / 8 + n then .error 5 else .ok (8 * ((q2 + 7) / 8 + n), out ++ (b.drop ((q2 + 7) / 8)).take n) : Except Nat (Nat × List UInt8)) = X) := HX
  have hm2 := takeM_lt hx (by omega)
  clear hx
  refine HT.out.mono ?_
  rintro e w3 ⟨rfl, hs, hl⟩
  have HL3 : Hid (Left w B w3) := Lib.hid (HL2.out.trans hl)
  have HS3 := Lib.hid hs
  clear hs hl HL2 HT
  by_cases h1 : m + n ≠ 65535
  · have d1 : ((m : Int) != 65535 - (n : Int)) = true := by simp; omega
    have HX2 : Hid (X = .error 40) := Lib.hid (by rw [← HX.out, if_pos h1])
    clear h1 HX
    go_wp2_with fail
    refine ⟨rfl, ?_⟩
    rw [HX2.out]
    exact ⟨rfl, HL3.out⟩
  have d1 : ((m : Int) != 65535 - (n : Int)) = false := by simp; omega
  have HX1 := HX.out
  rw [if_neg h1] at HX1
  have HXa := Lib.hid HX1
  clear HX1 HX h1
  by_cases h2 : most - out.length < n
  · have HX2 : Hid (X = .error 3) := Lib.hid (by rw [← HXa.out, if_pos h2])
    have HR := Lib.hid (room_no w3 B gs gr A c b most q2 Ao co out fx HS3.out n (by omega) hm hol)
    clear HXa h2
    go_wp2_with fail
    refine HR.out.mono ?_
    rintro e w4 ⟨rfl, k, rfl⟩
    refine ⟨rfl, ?_⟩
    rw [HX2.out]
    exact ⟨rfl, HL3.out.drewN k⟩
  have HX1 := HXa.out
  rw [if_neg h2] at HX1
  have HXb := Lib.hid HX1
  have HR := Lib.hid (room_ok w3 B gs gr A c b most q2 Ao co out fx HS3.out n (by omega) hm hol)
  clear HX1 HXa
  go_wp2_with fail
  refine HR.out.mono ?_
  rintro e w4 ⟨rfl, k, rfl⟩
  have HS4 := Lib.hid (HS3.out.drewN k)
  have HL4 := Lib.hid (HL3.out.drewN k)
  have hc := HS4.out.in_
  clear HS3 HL3 HR
  generalize w3.drewN k = w4 at *
  by_cases h3 : b.length < (q2 + 7) / 8 + n
  · have HX2 : Hid (X = .error 5) := Lib.hid (by rw [← HXb.out, if_pos h3])
    have HBE := Lib.hid (bytes_end w4 B gr A c b false q2 (n : Int) HS4.out.rdr (by omega) (by omega))
    clear HXb h3
    go_wp2_with fail
    refine HBE.out.mono ?_
    rintro e w5 ⟨rfl, k5, rfl⟩
    go_wp2_with fail
    refine (must_no 5 (by decide) _).mono ?_
    rintro e w6 ⟨rfl, rfl⟩
    refine ⟨rfl, ?_⟩
    rw [HX2.out]
    exact ⟨rfl, HL4.out.drewN k5⟩
  have HX2 : Hid (X = .ok (8 * ((q2 + 7) / 8 + n), out ++ (b.drop ((q2 + 7) / 8)).take n)) := Lib.hid (by rw [← HXb.out, if_neg h3])
  have HBA := Lib.hid (bytes_any w4 B gr A c b false q2 n HS4.out.rdr (by omega))
  have hlen : ((b.drop ((q2 + 7) / 8)).take n).length = n := by rw [List.length_take, List.length_drop]; omega
  have HLEN := Lib.hid hlen; clear hlen
  have hnb : n ≤ b.length := by omega
  clear HXb h3
  go_wp2_with fail
  refine HBA.out.mono ?_
  rintro e w5 ⟨A5, c5, rfl, o5, hr5, hu5⟩
  obtain ⟨hs5, hl5⟩ := HS4.out.read hu5 hr5
  have HL5 := Lib.hid (HL4.out.trans hl5)
  have HS5 := Lib.hid hs5
  have hbs5 : Bs w5 w5.heap.size A5 ((b.drop ((q2 + 7) / 8)).take n) := Bs.of_own (by rw [HLEN.out]; exact o5)
  have HB5 := Lib.hid hbs5
  have hc := HS5.out.out_
  have hsz := HS5.out.size
  clear hr5 hu5 hl5 hs5 o5 hbs5 HBA HS4 HL4
  go_wp2_with fail
  refine (must_ok w5).mono ?_
  rintro e w6 ⟨rfl, rfl⟩
  generalize (b.drop ((q2 + 7) / 8)).take n = pc at *
  have hO5 := HS5.out.own
  go_wp2_with (at_builtin; refine wpList_append_bs _ rfl (.tmp 36) (.tmp 37) _ rfl B 5 i0 Try.underlying22 hi hz0 hz1 hz2 (.slice Ao out.length co) out.length (bytesV out) rfl hO5 w5.heap.size A5 c5 pc (by rw [HLEN.out]; rfl) HB5.out (by rw [HLEN.out]; omega) hsz ?_; intro A6 c6 w6 o6 hg6 hat6; have hb6 := HS5.out.grown hg6; have hc6 : w6.cell? ⟨gs, 1, none⟩ = some (.slice Ao out.length co) := (hb6.cell 1).trans rfl; have hf6 := hb6.frozen 1)
  obtain ⟨hs7, hl7⟩ := HS5.out.grow (A2 := A6) (c2 := c6) (out2 := out ++ pc) (by rw [List.length_append]) (by rw [bytesV_append]; exact o6) hg6 (hat6.imp id (fun e => ⟨_, e, Nat.le_refl _⟩))
  go_end0
  rw [HX2.out]
  exact ⟨rfl, hs7.strm, HL5.out.trans hl7⟩
end Go.Proofs.Ythbdhpciibjnmaa
