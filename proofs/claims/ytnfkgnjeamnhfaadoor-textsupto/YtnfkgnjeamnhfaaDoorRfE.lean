import Derived.Test.YtnfkgnjeamnhfaaDoorRef9
import Derived.Test.YtnfkgnjeamnhfaaDoorRef6
import Derived.Test.YtnfkgnjeamnhfaaDoorMath3
namespace Go.Proofs.YtnfkgnjeamnhfaaDoor
open Go.RowKit

theorem ptxt_snoc (sep : UInt8) (dig : Nat → List UInt8) : ∀ (vs : List Nat) (b : Bool) (v : Nat), ptxt sep dig b (vs ++ [v]) = ptxt sep dig b vs ++ ((if b = true ∧ vs = [] then [] else [sep]) ++ dig v)
  | [], b, v => by cases b <;> simp [ptxt]
  | x :: vs, b, v => by
    show (if b = true then [] else [sep]) ++ (dig x ++ ptxt sep dig false (vs ++ [v])) = _
    rw [ptxt_snoc sep dig vs false v]
    simp [ptxt]
theorem bitN_add (v a k : Nat) : bitN (v / 2 ^ a) k = bitN v (a + k) := by
  unfold bitN; rw [Nat.div_div_eq_div_mul, ← Nat.pow_add]
/-- m bits in the middle. -/
theorem numF_mid (v s m : Nat) : numF (fun j => bitN v (s + (m - 1 - j))) m = v / 2 ^ s % 2 ^ m := by
  have h := numF_bits (v / 2 ^ s % 2 ^ m) m (Nat.mod_lt _ (Nat.two_pow_pos _)) m (Nat.le_refl _)
  rw [Nat.sub_self, Nat.pow_zero, Nat.div_one] at h
  rw [← h]
  refine numF_congr m (fun j hj => ?_)
  show bitN v (s + (m - 1 - j)) = bitN (v / 2 ^ s % 2 ^ m) (m - 1 - j)
  rw [← bitN_add]
  generalize v / 2 ^ s = x
  unfold bitN
  have h := Nat.testBit_mod_two_pow x m (m - 1 - j)
  rw [Nat.testBit_eq_decide_div_mod_eq, Nat.testBit_eq_decide_div_mod_eq, decide_eq_true (show m - 1 - j < m by omega), Bool.true_and] at h
  have h2 := decide_eq_decide.1 h
  omega
/-- A V4 address's parts, out of its bits. -/
theorem bits4_parts (lo : Nat) : ∀ k x, (parts4 lo)[k]? = some x → x = numF (fun j => bitN lo (31 - (8 * k + j))) 8 := by
  intro k x hx
  have hk : k < 4 := (List.getElem?_eq_some_iff.1 hx).1
  have h1 := numF_mid lo (24 - 8 * k) 8
  rw [numF_congr (bg := fun j => bitN lo (31 - (8 * k + j))) 8 (fun j hj => by show bitN lo _ = bitN lo _; congr 1; omega)] at h1
  rw [h1]
  rcases (show k = 0 ∨ k = 1 ∨ k = 2 ∨ k = 3 by omega) with rfl | rfl | rfl | rfl
  all_goals
    simp [parts4] at hx
    rw [← hx] <;> (try simp) <;> (try omega)
/-- A V6 address's parts, out of its bits. -/
theorem bits6_parts (hi lo : Nat) (hl : lo ≤ 18446744073709551615) : ∀ k x, (parts6 (nn (hi, lo)))[k]? = some x → x = numF (fun j => bits6 hi lo (16 * k + j)) 16 := by
  intro k x hx
  have hk : k < 8 := (List.getElem?_eq_some_iff.1 hx).1
  have hN : nn (hi, lo) = hi * 18446744073709551616 + lo := rfl
  generalize nn (hi, lo) = N at hx hN
  by_cases h4 : k < 4
  · have h1 := numF_mid hi (48 - 16 * k) 16
    rw [numF_congr (bg := fun j => bits6 hi lo (16 * k + j)) 16 (fun j hj => by show bitN hi _ = bits6 hi lo _; unfold bits6; rw [if_pos (by omega)]; congr 1; omega)] at h1
    rw [h1]
    rcases (show k = 0 ∨ k = 1 ∨ k = 2 ∨ k = 3 by omega) with rfl | rfl | rfl | rfl
    · have e : N / 65536 / 65536 / 65536 / 65536 / 65536 / 65536 / 65536 % 65536 = x := by simpa only [parts6, List.getElem?_cons_zero, Option.some.injEq] using hx
      rw [← e]; simp only [Nat.reducePow, Nat.reduceMul, Nat.reduceSub]; omega
    · have e : N / 65536 / 65536 / 65536 / 65536 / 65536 / 65536 % 65536 = x := by simpa only [parts6, List.getElem?_cons_succ, List.getElem?_cons_zero, Option.some.injEq] using hx
      rw [← e]; simp only [Nat.reducePow, Nat.reduceMul, Nat.reduceSub]; omega
    · have e : N / 65536 / 65536 / 65536 / 65536 / 65536 % 65536 = x := by simpa only [parts6, List.getElem?_cons_succ, List.getElem?_cons_zero, Option.some.injEq] using hx
      rw [← e]; simp only [Nat.reducePow, Nat.reduceMul, Nat.reduceSub]; omega
    · have e : N / 65536 / 65536 / 65536 / 65536 % 65536 = x := by simpa only [parts6, List.getElem?_cons_succ, List.getElem?_cons_zero, Option.some.injEq] using hx
      rw [← e]; simp only [Nat.reducePow, Nat.reduceMul, Nat.reduceSub]; omega
  · have h1 := numF_mid lo (112 - 16 * k) 16
    rw [numF_congr (bg := fun j => bits6 hi lo (16 * k + j)) 16 (fun j hj => by show bitN lo _ = bits6 hi lo _; unfold bits6; rw [if_neg (by omega)]; congr 1; omega)] at h1
    rw [h1]
    rcases (show k = 4 ∨ k = 5 ∨ k = 6 ∨ k = 7 by omega) with rfl | rfl | rfl | rfl
    · have e : N / 65536 / 65536 / 65536 % 65536 = x := by simpa only [parts6, List.getElem?_cons_succ, List.getElem?_cons_zero, Option.some.injEq] using hx
      rw [← e]; simp only [Nat.reducePow, Nat.reduceMul, Nat.reduceSub]; omega
    · have e : N / 65536 / 65536 % 65536 = x := by simpa only [parts6, List.getElem?_cons_succ, List.getElem?_cons_zero, Option.some.injEq] using hx
      rw [← e]; simp only [Nat.reducePow, Nat.reduceMul, Nat.reduceSub]; omega
    · have e : N / 65536 % 65536 = x := by simpa only [parts6, List.getElem?_cons_succ, List.getElem?_cons_zero, Option.some.injEq] using hx
      rw [← e]; simp only [Nat.reducePow, Nat.reduceMul, Nat.reduceSub]; omega
    · have e : N % 65536 = x := by simpa only [parts6, List.getElem?_cons_succ, List.getElem?_cons_zero, Option.some.injEq] using hx
      rw [← e]; simp only [Nat.reducePow, Nat.reduceMul, Nat.reduceSub]; omega
end Go.Proofs.YtnfkgnjeamnhfaaDoor
