import Derived.Test.YtnfkgnjeamnhfaaDoorMath
namespace Go.Proofs.YtnfkgnjeamnhfaaDoor

theorem len4 {vs : List Nat} (h : vs.length = 4) : ∃ a b c d, vs = [a, b, c, d] := by
  match vs, h with
  | [a, b, c, d], _ => exact ⟨a, b, c, d, rfl⟩
theorem len8 {vs : List Nat} (h : vs.length = 8) : ∃ a b c d e f g i, vs = [a, b, c, d, e, f, g, i] := by
  match vs, h with
  | [a, b, c, d, e, f, g, i], _ => exact ⟨a, b, c, d, e, f, g, i, rfl⟩

/-- An address as one number. -/
def nn (a : Nat × Nat) : Nat := a.1 * 18446744073709551616 + a.2
theorem nn_low6 (a : Nat × Nat) : low6 a = nn a % 65536 := by unfold low6 nn; omega
theorem nn_pop6 (a : Nat × Nat) : nn (pop6f a) = nn a / 65536 := by unfold nn pop6f q16l; simp only []; omega
theorem nn_step6 (a : Nat × Nat) (v : Nat) (h1 : a.1 ≤ 281474976710655) (hl : a.2 ≤ 18446744073709551615) (hv : v ≤ 65535) : nn (step6 a v) = nn a * 65536 + v ∧ (step6 a v).2 ≤ 18446744073709551615 := by
  unfold nn step6 p16h p16l; simp only []; omega
theorem nn_hi (a : Nat × Nat) (hl : a.2 ≤ 18446744073709551615) : a.1 = nn a / 18446744073709551616 ∧ a.2 = nn a % 18446744073709551616 := by unfold nn; omega

/-- Eight parts come to their number. -/
theorem fold6 (vs : List Nat) (h8 : vs.length = 8) (hv : ∀ v ∈ vs, v ≤ 65535) : nn (vs.foldl step6 (0, 0)) = vs.foldl (fun n v => n * 65536 + v) 0 ∧ (vs.foldl step6 (0, 0)).2 ≤ 18446744073709551615 := by
  obtain ⟨a, b, c, d, e, f, g, i, rfl⟩ := len8 h8
  have ha := hv a (by simp)
  have hb := hv b (by simp)
  have hc := hv c (by simp)
  have hd := hv d (by simp)
  have he := hv e (by simp)
  have hf := hv f (by simp)
  have hg := hv g (by simp)
  have hi := hv i (by simp)
  clear hv h8
  simp only [List.foldl_cons, List.foldl_nil]
  have up : ∀ (x : Nat × Nat) (B : Nat), nn x ≤ B → B ≤ 5192296858534827628530496329220095 → x.1 ≤ 281474976710655 := by intro x B h1 h2; unfold nn at h1; omega
  obtain ⟨e1, l1⟩ := nn_step6 (0, 0) a (by decide) (by decide) ha
  rw [show nn (0, 0) = 0 from rfl] at e1
  obtain ⟨e2, l2⟩ := nn_step6 (step6 (0, 0) a) b (up _ 65535 (by omega) (by omega)) l1 hb
  obtain ⟨e3, l3⟩ := nn_step6 _ c (up _ 4294967295 (by omega) (by omega)) l2 hc
  obtain ⟨e4, l4⟩ := nn_step6 _ d (up _ 281474976710655 (by omega) (by omega)) l3 hd
  obtain ⟨e5, l5⟩ := nn_step6 _ e (up _ 18446744073709551615 (by omega) (by omega)) l4 he
  obtain ⟨e6, l6⟩ := nn_step6 _ f (up _ 1208925819614629174706175 (by omega) (by omega)) l5 hf
  obtain ⟨e7, l7⟩ := nn_step6 _ g (up _ 79228162514264337593543950335 (by omega) (by omega)) l6 hg
  obtain ⟨e8, l8⟩ := nn_step6 _ i (up _ 5192296858534827628530496329220095 (by omega) (by omega)) l7 hi
  exact ⟨by rw [e8, e7, e6, e5, e4, e3, e2, e1], l8⟩
def parts6 (N : Nat) : List Nat := [N / 65536 / 65536 / 65536 / 65536 / 65536 / 65536 / 65536 % 65536, N / 65536 / 65536 / 65536 / 65536 / 65536 / 65536 % 65536, N / 65536 / 65536 / 65536 / 65536 / 65536 % 65536, N / 65536 / 65536 / 65536 / 65536 % 65536, N / 65536 / 65536 / 65536 % 65536, N / 65536 / 65536 % 65536, N / 65536 % 65536, N % 65536]
def parts4 (N : Nat) : List Nat := [N / 256 / 256 / 256 % 256, N / 256 / 256 % 256, N / 256 % 256, N % 256]
theorem wrA4 (sep : UInt8) (dig : Nat → List UInt8) (low : Nat × Nat → Nat) (pop : Nat × Nat → Nat × Nat) (a : Nat × Nat) :
    wrA sep dig low pop 4 true a [] = ptxt sep dig true [low (pop (pop (pop a))), low (pop (pop a)), low (pop a), low a] := by
  simp [wrA, ptxt]
theorem wrA8 (sep : UInt8) (dig : Nat → List UInt8) (low : Nat × Nat → Nat) (pop : Nat × Nat → Nat × Nat) (a : Nat × Nat) :
    wrA sep dig low pop 8 true a [] = ptxt sep dig true [low (pop (pop (pop (pop (pop (pop (pop a))))))), low (pop (pop (pop (pop (pop (pop a)))))), low (pop (pop (pop (pop (pop a))))), low (pop (pop (pop (pop a)))), low (pop (pop (pop a))), low (pop (pop a)), low (pop a), low a] := by
  simp [wrA, ptxt]
theorem txt4_eq (lo : Nat) : txt4 lo = ptxt 46 Lib.decDigits true (parts4 lo) := wrA4 _ _ _ _ _
theorem parts6_eq (a : Nat × Nat) : [low6 (pop6f (pop6f (pop6f (pop6f (pop6f (pop6f (pop6f a))))))), low6 (pop6f (pop6f (pop6f (pop6f (pop6f (pop6f a)))))), low6 (pop6f (pop6f (pop6f (pop6f (pop6f a))))), low6 (pop6f (pop6f (pop6f (pop6f a)))), low6 (pop6f (pop6f (pop6f a))), low6 (pop6f (pop6f a)), low6 (pop6f a), low6 a] = parts6 (nn a) := by
  simp only [nn_low6, nn_pop6]
  generalize nn a = N
  rfl
theorem txt6_eq (hi lo : Nat) : txt6 hi lo = ptxt 58 hexD true (parts6 (nn (hi, lo))) := by
  rw [← parts6_eq (hi, lo), ← wrA8]
  rfl
end Go.Proofs.YtnfkgnjeamnhfaaDoor
