/- The plain mathematics of prefixes' texts: numerals, reading, writing. Nothing of the program. -/
namespace Go.Proofs.YtnfkgnjeamnhfaaDoor

/-- A digit's worth; 16: it is none. -/
def dgt (n : Nat) : Nat := if 48 ≤ n ∧ n ≤ 57 then n - 48 else if 97 ≤ n ∧ n ≤ 102 then n - 87 else 16

/-- Reading a number: v so far; b: has a digit been read? -/
def readN (base greatest : Nat) : Nat → Bool → List UInt8 → Option (Nat × List UInt8)
  | v, b, [] => if b = true then some (v, []) else none
  | v, b, c :: r =>
    if base ≤ dgt c.toNat then (if b = true then some (v, c :: r) else none)
    else if b = true ∧ v = 0 then none
    else if greatest < v * base + dgt c.toNat then none
    else readN base greatest (v * base + dgt c.toNat) true r

/-- What stands behind a byte, if the text begins with it. -/
def skipB (sep : UInt8) : List UInt8 → Option (List UInt8)
  | [] => none
  | c :: r => if c = sep then some r else none
/-- The next part of an address: a mark ahead of it but for the first one. -/
def nextPart (sep : UInt8) (base greatest : Nat) (first : Bool) (l : List UInt8) : Option (Nat × List UInt8) :=
  match (if first = true then some l else skipB sep l) with
  | none => none
  | some l1 => readN base greatest 0 false l1
/-- n parts. -/
def rdA (sep : UInt8) (base greatest : Nat) (step : Nat × Nat → Nat → Nat × Nat) : Nat → Bool → Nat × Nat → List UInt8 → Option ((Nat × Nat) × List UInt8)
  | 0, _, a, l => some (a, l)
  | n + 1, first, a, l =>
    match nextPart sep base greatest first l with
    | none => none
    | some (v, l2) => rdA sep base greatest step n false (step a v) l2

end Go.Proofs.YtnfkgnjeamnhfaaDoor
