/- Plain mathematics of deflated bytes: what a stream says, step by step, or the first fault that is met. No program, no memory (but for the imports). -/
import Derived.Test.YthbdhpciibjnmaaCp
namespace Go.Proofs.Ythbdhpciibjnmaa

/-- The n bits from place p on, as a number. -/
def numAt (b : List UInt8) (p n : Nat) : Nat := num false (fun i => bitAt b false (p + i)) n
theorem numAt_lt (b : List UInt8) (p n : Nat) : numAt b p n < 2 ^ n := by unfold numAt; exact num_lt _ _ _
def takeM (b : List UInt8) (p n : Nat) : Except Nat (Nat × Nat) := if p + n ≤ 8 * b.length then .ok (numAt b p n, p + n) else .error 5
def nextM (b : List UInt8) (l : List Int) (p : Nat) : Except Nat (Nat × Nat) :=
  if (nextOf l (fun i => bitAt b false (p + i)) (8 * b.length - p)).2.2 = 0 then .ok ((nextOf l (fun i => bitAt b false (p + i)) (8 * b.length - p)).2.1, p + (nextOf l (fun i => bitAt b false (p + i)) (8 * b.length - p)).1)
  else .error (nextOf l (fun i => bitAt b false (p + i)) (8 * b.length - p)).2.2
/-- What the symbol at place k of groups of g stands for, above the least one. -/
def steppedM (b : List UInt8) (k g p : Nat) : Except Nat (Nat × Nat) :=
  if k < 2 * g then .ok (k, p) else match takeM b p (k / g - 1) with
    | .error e => .error e
    | .ok (x, q) => .ok ((g + k % g) * 2 ^ (k / g - 1) + x, q)
def lengthM (b : List UInt8) (v p : Nat) : Except Nat (Nat × Nat) :=
  if 285 < v then .error 32 else if v = 285 then .ok (258, p) else match steppedM b (v - 257) 4 p with
    | .error e => .error e
    | .ok (x, q) => .ok (3 + x, q)
def distM (b : List UInt8) (l : List Int) (p : Nat) : Except Nat (Nat × Nat) :=
  match nextM b l p with
    | .error e => .error e
    | .ok (d, q) => match steppedM b d 2 q with
      | .error e => .error e
      | .ok (x, q) => .ok (1 + x, q)
/-- n bytes more, each the one that stands so far ahead. -/
def copyM (far : Nat) : Nat → List UInt8 → List UInt8
  | 0, out => out
  | n + 1, out => copyM far n (out ++ [out.getD (out.length - far) 0])
def repeatM (most n far : Nat) (out : List UInt8) : Except Nat (List UInt8) :=
  if out.length < far then .error 42 else if most - out.length < n then .error 3 else .ok (copyM far n out)
/-- A symbol's round: .ok (p, out, last). -/
def symM (b : List UInt8) (most : Nat) (ll ld : List Int) (p : Nat) (out : List UInt8) : Except Nat (Nat × List UInt8 × Bool) :=
  match nextM b ll p with
  | .error e => .error e
  | .ok (v, q) =>
    if v < 256 then (if most - out.length < 1 then .error 3 else .ok (q, out ++ [UInt8.ofNat v], false))
    else if v = 256 then .ok (q, out, true)
    else match lengthM b v q with
      | .error e => .error e
      | .ok (n, q) => match distM b ld q with
        | .error e => .error e
        | .ok (far, q) => match repeatM most n far out with
          | .error e => .error e
          | .ok out => .ok (q, out, false)
def symsF (b : List UInt8) (most : Nat) (ll ld : List Int) : Nat → Nat → List UInt8 → Except Nat (Nat × List UInt8)
  | 0, _, _ => .error 0
  | r + 1, p, out => match symM b most ll ld p out with
    | .error e => .error e
    | .ok (q, out, true) => .ok (q, out)
    | .ok (q, out, false) => symsF b most ll ld r q out
def symsM (b : List UInt8) (most : Nat) (ll ld : List Int) (p : Nat) (out : List UInt8) : Except Nat (Nat × List UInt8) := symsF b most ll ld (8 * b.length + 1 - p) p out
def storedM (b : List UInt8) (most p : Nat) (out : List UInt8) : Except Nat (Nat × List UInt8) :=
  match takeM b ((p + 7) / 8 * 8) 16 with
  | .error e => .error e
  | .ok (n, q) => match takeM b q 16 with
    | .error e => .error e
    | .ok (m, q) => if m + n ≠ 65535 then .error 40 else if most - out.length < n then .error 3
      else if b.length < (q + 7) / 8 + n then .error 5 else .ok (8 * ((q + 7) / 8 + n), out ++ (b.drop ((q + 7) / 8)).take n)
def fixedL : List Int := (List.range 288).map fun i => if i ≤ 143 then 8 else if i ≤ 255 then 9 else if i ≤ 279 then 7 else 8
def fixedD : List Int := List.replicate 30 5
/-- What a symbol of the lengths' code says behind a row: a length, and how often. -/
def runM (b : List UInt8) (v : Nat) (row : List Int) (p : Nat) : Except Nat ((Int × Nat) × Nat) :=
  if v = 16 then (match row.getLast? with
    | none => .error 41
    | some x => match takeM b p 2 with
      | .error e => .error e
      | .ok (k, q) => .ok ((x, 3 + k), q))
  else if v = 17 then (match takeM b p 3 with
    | .error e => .error e
    | .ok (k, q) => .ok ((0, 3 + k), q))
  else if v = 18 then (match takeM b p 7 with
    | .error e => .error e
    | .ok (k, q) => .ok ((0, 11 + k), q))
  else .ok (((v : Int), 1), p)
def rowF (b : List UInt8) (lc : List Int) (n : Nat) : Nat → Nat → List Int → Except Nat (Nat × List Int)
  | 0, _, _ => .error 0
  | r + 1, p, row => if n ≤ row.length then .ok (p, row) else match nextM b lc p with
    | .error e => .error e
    | .ok (v, q) => match runM b v row q with
      | .error e => .error e
      | .ok ((x, k), q) => if n - row.length < k then .error 41 else rowF b lc n r q (row ++ List.replicate k x)
def rowM (b : List UInt8) (lc : List Int) (n p : Nat) (row : List Int) : Except Nat (Nat × List Int) := rowF b lc n (8 * b.length + 1 - p) p row
/-- May these lengths be a code's? -/
def mayM (l : List Int) (none : Bool) : Bool := decide (roomOf l = 0) || decide (l.sum = 1) || (none && decide (l.sum = 0))
def orderL : List Nat := [16, 17, 18, 0, 8, 7, 9, 6, 10, 5, 11, 4, 12, 3, 13, 2, 14, 1, 15]
/-- So many lengths of three bits from place p on, laid at their symbols. -/
def lensF (b : List UInt8) : Nat → Nat → Nat → List Int → Except Nat (Nat × List Int)
  | 0, _, p, l => .ok (p, l)
  | r + 1, i, p, l => match takeM b p 3 with
    | .error e => .error e
    | .ok (x, q) => lensF b r (i + 1) q (l.set (orderL.getD i 0) (x : Int))
def lensM (b : List UInt8) (n p : Nat) : Except Nat (Nat × List Int) :=
  match lensF b n 0 p (List.replicate 19 0) with
  | .error e => .error e
  | .ok (q, l) => if mayM l false then .ok (q, l) else .error 41
/-- The head of kind 2: both codes' lengths. -/
def toldM (b : List UInt8) (p : Nat) : Except Nat (Nat × List Int × List Int) :=
  match takeM b p 5 with
  | .error e => .error e
  | .ok (hl, p) => match takeM b p 5 with
    | .error e => .error e
    | .ok (hd, p) => match takeM b p 4 with
      | .error e => .error e
      | .ok (hc, p) => if 29 < hl ∨ 29 < hd then .error 41 else match lensM b (hc + 4) p with
        | .error e => .error e
        | .ok (p, lc) => match rowM b lc (hl + 257 + (hd + 1)) p [] with
          | .error e => .error e
          | .ok (p, row) => if row.getD 256 0 = 0 then .error 41 else if mayM (row.take (hl + 257)) false then (if mayM (row.drop (hl + 257)) true then .ok (p, row.take (hl + 257), row.drop (hl + 257)) else .error 41) else .error 41
/-- A block: .ok (p, out, last). -/
def blockM (b : List UInt8) (most p : Nat) (out : List UInt8) : Except Nat (Nat × List UInt8 × Bool) :=
  match takeM b p 1 with
  | .error e => .error e
  | .ok (last, p) => match takeM b p 2 with
    | .error e => .error e
    | .ok (kind, p) =>
      match (if kind = 0 then storedM b most p out else if kind = 1 then symsM b most fixedL fixedD p out else if kind = 2 then
        (match toldM b p with
        | .error e => .error e
        | .ok (p, ll, ld) => symsM b most ll ld p out) else .error 40) with
      | .error e => .error e
      | .ok (q, out) => .ok (q, out, decide (last = 1))
def rawF (b : List UInt8) (most : Nat) : Nat → Nat → List UInt8 → Except Nat (Nat × List UInt8)
  | 0, _, _ => .error 0
  | r + 1, p, out => match blockM b most p out with
    | .error e => .error e
    | .ok (q, out, true) => .ok (q, out)
    | .ok (q, out, false) => rawF b most r q out
/-- What Raw answers: the bytes and how many bytes were begun, or an error. -/
def rawM (b : List UInt8) (most : Nat) : Except Nat (List UInt8 × Nat) := match rawF b most (8 * b.length + 1) 0 [] with
  | .error e => .error e
  | .ok (p, out) => .ok (out, (p + 7) / 8)
end Go.Proofs.Ythbdhpciibjnmaa
