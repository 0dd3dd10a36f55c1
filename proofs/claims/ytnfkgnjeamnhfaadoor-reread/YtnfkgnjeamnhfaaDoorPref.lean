import Derived.Test.YtnfkgnjeamnhfaaDoorAddr
namespace Go.Proofs.YtnfkgnjeamnhfaaDoor
open Go.RowKit
/-- A prefix in a style: the address's two halves and the length. -/
def rdP (sep : UInt8) (base greatest : Nat) (step : Nat × Nat → Nat → Nat × Nat) (n width : Nat) (l : List UInt8) : Option (Nat × Nat × Nat) :=
  match rdA sep base greatest step n true (0, 0) l with
  | none => none
  | some (a, r) =>
    match skipB 47 r with
    | none => none
    | some r1 =>
      match readN 10 width 0 false r1 with
      | some (v, []) => some (a.1, a.2, v)
      | _ => none
def PrefPost (f : Int) (o : Option (Nat × Nat × Nat)) (e : Ending) : Prop :=
  match o with
  | some (hi, lo, n) => e = .returned (.tuple #[pref f hi lo n, .bool true])
  | none => e = .returned (.tuple #[pref 0 0 0 0, .bool false])
theorem skipB_length {c : UInt8} {l r : List UInt8} (h : skipB c l = some r) : r.length ≤ l.length := by
  cases l with
  | nil => cases h
  | cons x xs =>
    simp only [skipB] at h
    split at h
    · cases h; simp
    · cases h
theorem nextPart_length {sep : UInt8} {base g : Nat} {b : Bool} {l r : List UInt8} {v : Nat} (h : nextPart sep base g b l = some (v, r)) : r.length ≤ l.length := by
  unfold nextPart at h
  split at h
  · cases h
  · rename_i l1 h1
    have h2 := (readN_bound h (Nat.zero_le _)).2
    split at h1
    · cases h1; exact h2
    · exact Nat.le_trans h2 (skipB_length h1)
theorem rdA_length {sep : UInt8} {base g : Nat} {step : Nat × Nat → Nat → Nat × Nat} : ∀ {n : Nat} {b : Bool} {a a' : Nat × Nat} {l r : List UInt8}, rdA sep base g step n b a l = some (a', r) → r.length ≤ l.length
  | 0, b, a, a', l, r, h => by cases h; exact Nat.le_refl _
  | n + 1, b, a, a', l, r, h => by
    simp only [rdA] at h
    split at h
    · cases h
    · rename_i v l2 h1
      exact Nat.le_trans (rdA_length h) (nextPart_length h1)
end Go.Proofs.YtnfkgnjeamnhfaaDoor
