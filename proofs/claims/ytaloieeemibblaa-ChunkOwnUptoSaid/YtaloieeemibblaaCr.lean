/- The contracts of CRC-32 from nothing, for seats of later layers. -/
import Derived.Test.YtaloieeemibblaaSd
namespace Go.Proofs.Ytaloieeemibblaa
open Go.ChangeShapes Go.WideShapes Go.ChangeAt Go.RowKit

set_option maxHeartbeats 400000 in
theorem crc_any (A : Option Addr) (c : Nat) (l : List UInt8) (B : Nat) (w : World) (hbs : Bs w B A l) (hB : B ≤ w.heap.size) (hl : l.length ≤ maxLen) :
    Calls Try.prog 36 #[.slice A l.length c] w fun e w' => e = .returned (.int .u32 ((crcOn 0 l : Nat) : Int)) ∧ Below w.heap.size w w' := by
  go_enter Try.func36, Try.ntmps36
  go_wp2_with fail
  refine (crcOn_any 0 A c l B w hbs hB (by omega) hl).mono ?_
  rintro e w1 ⟨rfl, hb1⟩
  go_wp2_with fail
  go_ret
  exact ⟨rfl, hb1⟩
set_option maxHeartbeats 400000 in
theorem refCrc_any (A : Option Addr) (c : Nat) (l : List UInt8) (B : Nat) (w : World) (hbs : Bs w B A l) (hl : l.length ≤ maxLen) :
    Calls Try.prog 33 #[.slice A l.length c] w fun e w' => e = .returned (.int .u32 ((crcOn 0 l : Nat) : Int)) ∧ w = w' := by
  go_enter Try.func33, Try.ntmps33
  go_wp2_with fail
  refine (refCrcOn_any 0 A c l B w hbs (by omega) hl).mono ?_
  rintro e w1 ⟨rfl, rfl⟩
  go_wp2_with fail
  go_ret
  exact ⟨rfl, rfl⟩
theorem crc_n (A : Option Addr) (c n : Nat) (l : List UInt8) (hn : l.length = n) (B : Nat) (w : World) (hbs : Bs w B A l) (hB : B ≤ w.heap.size) (hl : n ≤ maxLen) :
    Calls Try.prog 36 #[.slice A n c] w fun e w' => e = .returned (.int .u32 ((crcOn 0 l : Nat) : Int)) ∧ Below w.heap.size w w' := by
  subst hn
  exact crc_any A c l B w hbs hB hl
theorem refCrc_n (A : Option Addr) (c n : Nat) (l : List UInt8) (hn : l.length = n) (B : Nat) (w : World) (hbs : Bs w B A l) (hl : n ≤ maxLen) :
    Calls Try.prog 33 #[.slice A n c] w fun e w' => e = .returned (.int .u32 ((crcOn 0 l : Nat) : Int)) ∧ w = w' := by
  subst hn
  exact refCrc_any A c l B w hbs hl
end Go.Proofs.Ytaloieeemibblaa
