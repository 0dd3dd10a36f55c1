import Derived.Test.YtnfkgnjeamnhfaaDoorParse
import Derived.Test.YtnfkgnjeamnhfaaDoorFormat
namespace Go.Proofs.YtnfkgnjeamnhfaaDoor

/-- What a numeral is: the base, its letters. -/
structure Numer (b : Nat) (dig : Nat → List UInt8) (ch : Nat → UInt8) : Prop where
  two : 2 ≤ b
  one : ∀ v, v < b → dig v = [ch v]
  more : ∀ v, ¬ v < b → dig v = dig (v / b) ++ [ch (v % b)]
  worth : ∀ d, d < b → dgt (ch d).toNat = d
  letter : ∀ c : UInt8, dgt c.toNat < b → ch (dgt c.toNat) = c
/-- What stands there does not go on with a digit. -/
def NDH (b : Nat) : List UInt8 → Prop
  | [] => True
  | c :: _ => b ≤ dgt c.toNat

def ch10 (n : Nat) : UInt8 := UInt8.ofNat (48 + n)
theorem numer10 : Numer 10 Lib.decDigits ch10 where
  two := by decide
  one v h := by rw [Lib.decDigits_one h]; rfl
  more v h := by rw [Lib.decDigits, dif_neg h]; rfl
  worth d h := by
    have : ∀ i : Fin 10, dgt (ch10 i.val).toNat = i.val := by decide +kernel
    exact this ⟨d, h⟩
  letter c h := by
    have : ∀ i : Fin 256, dgt i.val < 10 → (ch10 (dgt i.val)).toNat = i.val := by decide +kernel
    have := this ⟨c.toNat, c.toNat_lt⟩ h
    exact UInt8.toNat_inj.1 this
theorem numer16 : Numer 16 hexD hexc where
  two := by decide
  one v h := hexD_lt h
  more v h := hexD_ge h
  worth d h := by
    have : ∀ i : Fin 16, dgt (hexc i.val).toNat = i.val := by decide +kernel
    exact this ⟨d, h⟩
  letter c h := by
    have : ∀ i : Fin 256, dgt i.val < 16 → (hexc (dgt i.val)).toNat = i.val := by decide +kernel
    have := this ⟨c.toNat, c.toNat_lt⟩ h
    exact UInt8.toNat_inj.1 this

section
variable {b : Nat} {dig : Nat → List UInt8} {ch : Nat → UInt8}
theorem readN_stop {g v : Nat} {l : List UInt8} (h : NDH b l) : readN b g v true l = some (v, l) := by
  cases l with
  | nil => rfl
  | cons c r => simp [readN, show b ≤ dgt c.toNat from h]
theorem readN_cons {g v : Nat} {bl : Bool} {c : UInt8} {r : List UInt8} {d : Nat} (hd : dgt c.toNat = d) (hb : d < b) (hz : ¬ (bl = true ∧ v = 0)) (hg : v * b + d ≤ g) : readN b g v bl (c :: r) = readN b g (v * b + d) true r := by
  subst hd
  simp only [readN]
  rw [if_neg (by omega), if_neg hz, if_neg (by omega)]
theorem readN_dig (N : Numer b dig ch) {g : Nat} : ∀ (v : Nat), v ≤ g → ∀ r, readN b g 0 false (dig v ++ r) = readN b g v true r := by
  intro v
  induction v using Nat.strongRecOn with
  | _ v ih =>
    intro hv r
    have h2 := N.two
    by_cases h : v < b
    · rw [N.one v h]
      show readN b g 0 false (ch v :: r) = _
      rw [readN_cons (N.worth v h) h (by simp) (by omega)]
      simp
    · rw [N.more v h, List.append_assoc]
      have hdm := Nat.div_add_mod v b
      have hlt : v % b < b := Nat.mod_lt _ (by omega)
      have hdv : v / b < v := Nat.div_lt_self (by omega) (by omega)
      have hpos : 0 < v / b := Nat.div_pos (by omega) (by omega)
      rw [ih (v / b) hdv (by omega)]
      show readN b g (v / b) true (ch (v % b) :: r) = _
      have e : v / b * b + v % b = v := by rw [Nat.mul_comm]; exact hdm
      rw [readN_cons (N.worth _ hlt) hlt (by omega) (by omega), e]
theorem readN_numeral (N : Numer b dig ch) {g v : Nat} (hv : v ≤ g) {r : List UInt8} (hr : NDH b r) : readN b g 0 false (dig v ++ r) = some (v, r) := by
  rw [readN_dig N v hv, readN_stop hr]
theorem readN_zero_true {g v : Nat} {l r : List UInt8} (h : readN b g 0 true l = some (v, r)) : v = 0 ∧ r = l ∧ NDH b r := by
  cases l with
  | nil => simp [readN] at h; obtain ⟨rfl, rfl⟩ := h; exact ⟨rfl, rfl, trivial⟩
  | cons c l =>
    simp only [readN] at h
    split at h
    · rename_i hd; simp at h; obtain ⟨rfl, rfl⟩ := h; exact ⟨rfl, rfl, hd⟩
    · simp at h
theorem readN_pos (N : Numer b dig ch) {g : Nat} : ∀ (l : List UInt8) (x v : Nat) (r : List UInt8), 0 < x → readN b g x true l = some (v, r) → dig v ++ r = dig x ++ l ∧ NDH b r
  | [], x, v, r, hx, h => by simp [readN] at h; obtain ⟨rfl, rfl⟩ := h; exact ⟨rfl, trivial⟩
  | c :: l, x, v, r, hx, h => by
    simp only [readN] at h
    split at h
    · rename_i hd; simp at h; obtain ⟨rfl, rfl⟩ := h; exact ⟨rfl, hd⟩
    · rename_i hd
      rw [if_neg (by omega)] at h
      split at h
      · cases h
      · have h2 := N.two
        have hd' : dgt c.toNat < b := by omega
        have hm : b ≤ x * b := Nat.le_mul_of_pos_left b hx
        obtain ⟨h3, h4⟩ := readN_pos N l (x * b + dgt c.toNat) v r (by omega) h
        refine ⟨?_, h4⟩
        rw [h3, N.more _ (by omega)]
        have e1 : (x * b + dgt c.toNat) / b = x := by
          rw [Nat.mul_comm, Nat.mul_add_div (by omega), Nat.div_eq_of_lt hd']; omega
        have e2 : (x * b + dgt c.toNat) % b = dgt c.toNat := by
          rw [Nat.mul_comm, Nat.mul_add_mod, Nat.mod_eq_of_lt hd']
        rw [e1, e2, N.letter c hd']
        simp
theorem readN_inv (N : Numer b dig ch) {g v : Nat} {l r : List UInt8} (h : readN b g 0 false l = some (v, r)) : l = dig v ++ r ∧ v ≤ g ∧ NDH b r := by
  have hv := (readN_bound h (Nat.zero_le _)).1
  cases l with
  | nil => simp [readN] at h
  | cons c l =>
    simp only [readN] at h
    split at h
    · simp at h
    · rename_i hd
      have h2 := N.two
      have hd' : dgt c.toNat < b := by omega
      rw [if_neg (by simp)] at h
      split at h
      · cases h
      · by_cases hz : dgt c.toNat = 0
        · simp only [hz, Nat.zero_mul, Nat.add_zero] at h
          obtain ⟨rfl, rfl, h5⟩ := readN_zero_true h
          refine ⟨?_, hv, h5⟩
          rw [N.one 0 (by omega)]
          have := N.letter c hd'
          rw [hz] at this
          rw [this]; rfl
        · simp only [Nat.zero_mul, Nat.zero_add] at h
          obtain ⟨h3, h4⟩ := readN_pos N l (dgt c.toNat) v r (by omega) h
          refine ⟨?_, hv, h4⟩
          rw [h3, N.one _ hd', N.letter c hd']; rfl

/-- The text of some parts. -/
def ptxt (sep : UInt8) (dig : Nat → List UInt8) : Bool → List Nat → List UInt8
  | _, [] => []
  | first, v :: vs => (if first = true then [] else [sep]) ++ (dig v ++ ptxt sep dig false vs)
theorem ndh_ptxt {sep : UInt8} (hs : b ≤ dgt sep.toNat) (vs : List Nat) {r : List UInt8} (hr : NDH b r) : NDH b (ptxt sep dig false vs ++ r) := by
  cases vs with
  | nil => exact hr
  | cons v vs => exact hs
theorem rdA_ptxt (N : Numer b dig ch) {g : Nat} {sep : UInt8} (hs : b ≤ dgt sep.toNat) {step : Nat × Nat → Nat → Nat × Nat} :
    ∀ (vs : List Nat) (first : Bool) (a : Nat × Nat) (r : List UInt8), (∀ v ∈ vs, v ≤ g) → NDH b r → rdA sep b g step vs.length first a (ptxt sep dig first vs ++ r) = some (vs.foldl step a, r)
  | [], first, a, r, _, _ => rfl
  | v :: vs, first, a, r, hv, hr => by
    have h1 : nextPart sep b g first (ptxt sep dig first (v :: vs) ++ r) = some (v, ptxt sep dig false vs ++ r) := by
      have h2 := readN_numeral N (hv v (by simp)) (ndh_ptxt (dig := dig) hs vs hr)
      cases first
      · simp only [ptxt, nextPart]; simpa [skipB] using h2
      · simp only [ptxt, nextPart]; simpa using h2
    simp only [List.length_cons, rdA, h1, List.foldl_cons]
    exact rdA_ptxt N hs vs false (step a v) r (fun x hx => hv x (by simp [hx])) hr
theorem nextPart_inv (N : Numer b dig ch) {g : Nat} {sep : UInt8} {first : Bool} {l r : List UInt8} {v : Nat} (h : nextPart sep b g first l = some (v, r)) : l = (if first = true then [] else [sep]) ++ (dig v ++ r) ∧ v ≤ g ∧ NDH b r := by
  cases first
  · cases l with
    | nil => simp [nextPart, skipB] at h
    | cons c l =>
      simp only [nextPart, skipB] at h
      by_cases hc : c = sep
      · subst hc
        simp at h
        obtain ⟨h1, h2, h3⟩ := readN_inv N h
        exact ⟨by rw [h1]; rfl, h2, h3⟩
      · simp [hc] at h
  · simp only [nextPart] at h
    exact readN_inv N (by simpa using h)
theorem rdA_back (N : Numer b dig ch) {g : Nat} {sep : UInt8} {step : Nat × Nat → Nat → Nat × Nat} :
    ∀ (n : Nat) (first : Bool) (a a' : Nat × Nat) (l r : List UInt8), rdA sep b g step n first a l = some (a', r) → ∃ vs : List Nat, vs.length = n ∧ (∀ v ∈ vs, v ≤ g) ∧ a' = vs.foldl step a ∧ l = ptxt sep dig first vs ++ r ∧ (1 ≤ n → NDH b r)
  | 0, first, a, a', l, r, h => by cases h; exact ⟨[], rfl, by simp, rfl, rfl, by omega⟩
  | n + 1, first, a, a', l, r, h => by
    simp only [rdA] at h
    split at h
    · cases h
    · rename_i v l2 h1
      obtain ⟨h2, h3, h4⟩ := nextPart_inv N h1
      obtain ⟨vs, k1, k2, k3, k4, k5⟩ := rdA_back N n false (step a v) a' l2 r h
      refine ⟨v :: vs, by simp [k1], ?_, by simpa using k3, ?_, fun _ => ?_⟩
      · intro x hx
        rcases List.mem_cons.1 hx with rfl | hx
        · exact h3
        · exact k2 x hx
      · rw [h2, k4]; simp [ptxt]
      · rcases n with _ | n
        · have : vs = [] := List.length_eq_zero_iff.1 k1
          subst this
          simp only [ptxt, List.nil_append] at k4
          rw [← k4]; exact h4
        · exact k5 (by omega)
end
end Go.Proofs.YtnfkgnjeamnhfaaDoor
