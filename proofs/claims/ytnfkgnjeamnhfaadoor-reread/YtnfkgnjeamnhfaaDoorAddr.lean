import Derived.Test.YtnfkgnjeamnhfaaDoorRead
namespace Go.Proofs.YtnfkgnjeamnhfaaDoor
open Go.RowKit
/-- What readAddress hands back. -/
def AddrPost (f : Int) (sep : UInt8) (base greatest : Nat) (step : Nat × Nat → Nat → Nat × Nat) (n : Nat) (l : List UInt8) (e : Ending) : Prop :=
  match rdA sep base greatest step n true (0, 0) l with
  | some (a, r) => e = .returned (.tuple #[addr f a.1 a.2, .string ⟨r.toArray⟩, .bool true])
  | none => e = .returned (.tuple #[addr 0 0 0, .string ⟨#[]⟩, .bool false])
abbrev sty4 : Value := .agg #[.int .i64 4, .int .i64 4, .int .u64 8, .int .i64 255, .int .i64 10, .string { data := #[46] }]
abbrev sty6 : Value := .agg #[.int .i64 6, .int .i64 8, .int .u64 16, .int .i64 65535, .int .i64 16, .string { data := #[58] }]
def step4 (a : Nat × Nat) (v : Nat) : Nat × Nat := (0, a.2 * 256 + v)
def step6 (a : Nat × Nat) (v : Nat) : Nat × Nat := (p16h a.1 a.2, p16l a.2 v)

theorem mk_size (l : List UInt8) : (⟨l.toArray⟩ : ByteArray).size = l.length := rfl
theorem readN_bound {base g : Nat} : ∀ {l : List UInt8} {v0 : Nat} {b : Bool} {v : Nat} {r : List UInt8}, readN base g v0 b l = some (v, r) → v0 ≤ g → v ≤ g ∧ r.length ≤ l.length
  | [], v0, b, v, r, h, hv => by
    simp only [readN] at h
    split at h
    · simp at h; obtain ⟨rfl, rfl⟩ := h; exact ⟨hv, Nat.le_refl _⟩
    · cases h
  | c :: l, v0, b, v, r, h, hv => by
    simp only [readN] at h
    split at h
    · split at h
      · simp at h; obtain ⟨rfl, rfl⟩ := h; exact ⟨hv, Nat.le_refl _⟩
      · cases h
    · split at h
      · cases h
      · split at h
        · cases h
        · rename_i hg
          obtain ⟨h1, h2⟩ := readN_bound h (by omega)
          exact ⟨h1, by simp; omega⟩
theorem num_10_some (t : ByteArray) (g : Nat) (hs : t.size ≤ maxLen) (hg : g ≤ 65535) {v : Nat} {r : List UInt8} (h : readN 10 g 0 false t.data.toList = some (v, r)) (w : World) :
    Calls Tryd.prog 35 #[.string t, .int .i64 10, .int .i64 g] w fun e w' => e = .returned (.tuple #[.int .i64 v, .string ⟨r.toArray⟩, .bool true]) ∧ w' = w := by
  refine (num_10 t g w hs hg).mono ?_
  rintro e w' ⟨hp, rfl⟩
  unfold NumPost at hp
  rw [h] at hp
  exact ⟨hp, rfl⟩
theorem num_10_none (t : ByteArray) (g : Nat) (hs : t.size ≤ maxLen) (hg : g ≤ 65535) (h : readN 10 g 0 false t.data.toList = none) (w : World) :
    Calls Tryd.prog 35 #[.string t, .int .i64 10, .int .i64 g] w fun e w' => (∃ v u, e = .returned (.tuple #[.int .i64 v, .string u, .bool false])) ∧ w' = w := by
  refine (num_10 t g w hs hg).mono ?_
  rintro e w' ⟨hp, rfl⟩
  unfold NumPost at hp
  rw [h] at hp
  exact ⟨hp, rfl⟩
theorem num_16_some (t : ByteArray) (g : Nat) (hs : t.size ≤ maxLen) (hg : g ≤ 65535) {v : Nat} {r : List UInt8} (h : readN 16 g 0 false t.data.toList = some (v, r)) (w : World) :
    Calls Tryd.prog 35 #[.string t, .int .i64 16, .int .i64 g] w fun e w' => e = .returned (.tuple #[.int .i64 v, .string ⟨r.toArray⟩, .bool true]) ∧ w' = w := by
  refine (num_16 t g w hs hg).mono ?_
  rintro e w' ⟨hp, rfl⟩
  unfold NumPost at hp
  rw [h] at hp
  exact ⟨hp, rfl⟩
theorem num_16_none (t : ByteArray) (g : Nat) (hs : t.size ≤ maxLen) (hg : g ≤ 65535) (h : readN 16 g 0 false t.data.toList = none) (w : World) :
    Calls Tryd.prog 35 #[.string t, .int .i64 16, .int .i64 g] w fun e w' => (∃ v u, e = .returned (.tuple #[.int .i64 v, .string u, .bool false])) ∧ w' = w := by
  refine (num_16 t g w hs hg).mono ?_
  rintro e w' ⟨hp, rfl⟩
  unfold NumPost at hp
  rw [h] at hp
  exact ⟨hp, rfl⟩
end Go.Proofs.YtnfkgnjeamnhfaaDoor
