import Derived.Test.YtnfkgnjeamnhfaaDoorRfD
import Derived.Test.YtnfkgnjeamnhfaaDoorMath3
namespace Go.Proofs.YtnfkgnjeamnhfaaDoor

theorem split_none (c : UInt8) : ∀ (x cur : List UInt8), c ∉ x → splitG c cur x = [cur ++ x]
  | [], cur, _ => by simp [splitG]
  | y :: x, cur, h => by
    simp only [splitG]
    rw [if_neg (fun e => h (by simp [e])), split_none c x _ (fun hm => h (by simp [hm]))]
    simp
theorem split_one (c : UInt8) : ∀ (x cur r : List UInt8), c ∉ x → splitG c cur (x ++ c :: r) = (cur ++ x) :: splitG c [] r
  | [], cur, r, _ => by simp [splitG]
  | y :: x, cur, r, h => by
    show splitG c cur (y :: (x ++ c :: r)) = _
    simp only [splitG]
    rw [if_neg (fun e => h (by simp [e])), split_one c x _ r (fun hm => h (by simp [hm]))]
    simp
/-- Pieces put together again. -/
def joinC (c : UInt8) : List (List UInt8) → List UInt8
  | [] => []
  | [x] => x
  | x :: y :: r => x ++ c :: joinC c (y :: r)
theorem join_split (c : UInt8) : ∀ (l cur : List UInt8), joinC c (splitG c cur l) = cur ++ l
  | [], cur => by simp [splitG, joinC]
  | y :: l, cur => by
    simp only [splitG]
    split
    · rename_i e
      have h := join_split c l []
      rcases hs : splitG c [] l with _ | ⟨a, r⟩
      · have := splitG_pos c l []; rw [hs] at this; simp at this
      · rw [hs] at h
        simp only [joinC]
        rw [h, e]; simp
    · rw [join_split c l (cur ++ [y])]; simp
theorem split_ptxt (sep : UInt8) (dig : Nat → List UInt8) (hd : ∀ v, sep ∉ dig v) : ∀ (vs : List Nat) (v : Nat), splitG sep [] (ptxt sep dig true (v :: vs)) = (v :: vs).map dig
  | [], v => by simp [ptxt, split_none sep (dig v) [] (hd v)]
  | w :: vs, v => by
    have e : ptxt sep dig true (v :: w :: vs) = dig v ++ sep :: ptxt sep dig true (w :: vs) := by simp [ptxt]
    rw [e, split_one sep (dig v) [] _ (hd v), split_ptxt sep dig hd vs w]; simp
theorem join_ptxt (sep : UInt8) (dig : Nat → List UInt8) : ∀ (vs : List Nat) (v : Nat), joinC sep ((v :: vs).map dig) = ptxt sep dig true (v :: vs)
  | [], v => by simp [ptxt, joinC]
  | w :: vs, v => by
    have e : ptxt sep dig true (v :: w :: vs) = dig v ++ sep :: ptxt sep dig true (w :: vs) := by simp [ptxt]
    rw [e, ← join_ptxt sep dig vs w]; rfl

section
variable {b : Nat} {dig : Nat → List UInt8} {ch : Nat → UInt8}
theorem digs_dig (N : Numer b dig ch) : ∀ (v : Nat) (r : List UInt8), digsF b 0 (dig v ++ r) = digsF b v r := by
  intro v
  induction v using Nat.strongRecOn with
  | _ v ih =>
    intro r
    have h2 := N.two
    by_cases h : v < b
    · rw [N.one v h]
      show digsF b 0 (ch v :: r) = _
      simp only [digsF]
      rw [N.worth v h, if_neg (by omega)]; simp
    · have hlt : v % b < b := Nat.mod_lt _ (by omega)
      rw [N.more v h, List.append_assoc, ih (v / b) (Nat.div_lt_self (by omega) (by omega))]
      show digsF b (v / b) (ch (v % b) :: r) = _
      simp only [digsF]
      rw [N.worth _ hlt, if_neg (by omega), Nat.div_add_mod v b]
theorem dig_head (N : Numer b dig ch) : ∀ v : Nat, 0 < v → ∃ d r, dig v = ch d :: r ∧ 0 < d ∧ d < b := by
  intro v
  induction v using Nat.strongRecOn with
  | _ v ih =>
    intro hv
    have h2 := N.two
    by_cases h : v < b
    · exact ⟨v, [], N.one v h, hv, h⟩
    · obtain ⟨d, r, h3, h4, h5⟩ := ih (v / b) (Nat.div_lt_self (by omega) (by omega)) (Nat.div_pos (by omega) (by omega))
      exact ⟨d, r ++ [ch (v % b)], by rw [N.more v h, h3]; rfl, h4, h5⟩
theorem digs_pos (N : Numer b dig ch) : ∀ (l : List UInt8) (x v : Nat), 0 < x → digsF b x l = some v → dig v = dig x ++ l
  | [], x, v, _, h => by simp [digsF] at h; rw [h]; simp
  | c :: l, x, v, hx, h => by
    simp only [digsF] at h
    split at h
    · cases h
    · rename_i hd
      have h2 := N.two
      have hd' : dgt c.toNat < b := by omega
      have hm : b ≤ b * x := Nat.le_mul_of_pos_right b hx
      rw [digs_pos N l (b * x + dgt c.toNat) v (by omega) h, N.more _ (by omega)]
      have e1 : (b * x + dgt c.toNat) / b = x := by rw [Nat.mul_add_div (by omega), Nat.div_eq_of_lt hd']; omega
      have e2 : (b * x + dgt c.toNat) % b = dgt c.toNat := by rw [Nat.mul_add_mod, Nat.mod_eq_of_lt hd']
      rw [e1, e2, N.letter c hd']; simp
theorem val_dig (N : Numer b dig ch) {g v : Nat} (hv : v ≤ g) (hl : (dig v).length ≤ 5) : valF b g (dig v) = v := by
  have h2 := N.two
  have hd : digsF b 0 (dig v) = some v := by have := digs_dig N v []; rw [List.append_nil] at this; rw [this]; rfl
  unfold valF
  rw [if_neg, hd]
  · show (if g < v then (-1 : Int) else v) = v
    rw [if_neg (by omega)]
  · rintro (h | h | ⟨h, h'⟩)
    · rcases Nat.eq_zero_or_pos v with rfl | hp
      · rw [N.one 0 (by omega)] at h; simp at h
      · obtain ⟨d, r, h3, _, _⟩ := dig_head N v hp; rw [h3] at h; simp at h
    · omega
    · rcases Nat.eq_zero_or_pos v with rfl | hp
      · rw [N.one 0 (by omega)] at h; simp at h
      · obtain ⟨d, r, h3, h4, h5⟩ := dig_head N v hp
        rw [h3] at h'
        simp at h'
        have := N.worth d h5
        rw [h'] at this
        have e : dgt (48 : UInt8).toNat = 0 := by decide
        omega
theorem val_inv (N : Numer b dig ch) {g : Nat} {l : List UInt8} (h : 0 ≤ valF b g l) : l = dig (valF b g l).toNat ∧ (valF b g l).toNat ≤ g := by
  unfold valF at h ⊢
  split at h
  · omega
  · rename_i hn
    rw [if_neg hn]
    rcases hd : digsF b 0 l with _ | v
    · rw [hd] at h; simp at h
    · rw [hd] at h
      simp only [] at h ⊢
      split at h
      · omega
      · rename_i hg
        rw [if_neg hg, Int.toNat_natCast]
        refine ⟨?_, by omega⟩
        cases l with
        | nil => simp at hn
        | cons c r =>
          simp only [digsF] at hd
          split at hd
          · cases hd
          · rename_i hb
            have h2 := N.two
            have hd' : dgt c.toNat < b := by omega
            rw [Nat.mul_zero, Nat.zero_add] at hd
            have hch := N.letter c hd'
            by_cases hz : dgt c.toNat = 0
            · have hc48 : c = 48 := by
                have e48 : dgt (48 : UInt8).toNat = 0 := by decide
                have l48 := N.letter 48 (by omega)
                rw [e48] at l48
                rw [hz] at hch
                rw [← hch, l48]
              cases r with
              | nil =>
                rw [hz] at hd hch
                simp [digsF] at hd
                rw [← hd, N.one 0 (by omega), hch]
              | cons y r => exact absurd (Or.inr (Or.inr ⟨by simp, by simp [hc48]⟩)) hn
            · rw [digs_pos N r (dgt c.toNat) v (by omega) hd, N.one _ hd', hch]; rfl
end
end Go.Proofs.YtnfkgnjeamnhfaaDoor
