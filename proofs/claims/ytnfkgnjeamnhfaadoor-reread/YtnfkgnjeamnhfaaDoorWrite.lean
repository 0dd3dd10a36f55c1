import Derived.Test.YtnfkgnjeamnhfaaDoorAddr
import Derived.Test.YtnfkgnjeamnhfaaDoorFmt10
import Derived.Test.YtnfkgnjeamnhfaaDoorHex
import Derived.Lib.SmallJoins
namespace Go.Proofs.YtnfkgnjeamnhfaaDoor
open Go.RowKit
/-- Writing an address from its lowest part up. -/
def wrA (sep : UInt8) (dig : Nat → List UInt8) (low : Nat × Nat → Nat) (pop : Nat × Nat → Nat × Nat) : Nat → Bool → Nat × Nat → List UInt8 → List UInt8
  | 0, _, _, acc => acc
  | n + 1, first, a, acc => wrA sep dig low pop n false (pop a) (dig (low a) ++ (if first = true then acc else sep :: acc))
def low4 (a : Nat × Nat) : Nat := a.2 % 256
def low6 (a : Nat × Nat) : Nat := a.2 % 65536
def pop4f (a : Nat × Nat) : Nat × Nat := (0, a.2 / 256)
def pop6f (a : Nat × Nat) : Nat × Nat := (a.1 / 65536, q16l a.1 a.2)
theorem gpow : Tryd.prog.globalNamed "internal/strconv.uint64pow10" = some 0 := by kernel_rfl
theorem decDigits_255 (p : Nat) (h : p ≤ 255) : (Lib.decDigits p).length ≤ 3 := by
  rw [Lib.decDigits_length]
  have : Lib.nDigits p ≤ 3 := by
    rcases Nat.lt_or_ge p 10 with h1 | h1
    · rw [Lib.nDigits_small h1]; decide
    · rw [Lib.nDigits_big (by omega)]
      rcases Nat.lt_or_ge (p / 10) 10 with h2 | h2
      · rw [Lib.nDigits_small h2]; decide
      · rw [Lib.nDigits_big (by omega), Lib.nDigits_small (by omega)]; decide
  exact this
theorem hexD_65535 (p : Nat) (h : p ≤ 65535) : (hexD p).length ≤ 4 := by
  by_cases c1 : p < 16
  · rw [hexD_lt c1]; simp
  · rw [hexD_ge c1]
    by_cases c2 : p / 16 < 16
    · rw [hexD_lt c2]; simp
    · rw [hexD_ge c2]
      by_cases c3 : p / 16 / 16 < 16
      · rw [hexD_lt c3]; simp
      · rw [hexD_ge c3, hexD_lt (show p / 16 / 16 / 16 < 16 by omega)]; simp
end Go.Proofs.YtnfkgnjeamnhfaaDoor
