import Derived.Test.YtnmmbbkaamfgpaaDoorCheck
import Derived.Test.YtnmmbbkaamfgpaaDoorCheck4
namespace Go.Proofs.YtnmmbbkaamfgpaaDoor
open Go.RowKit

theorem ne_beq {a b : Nat} (h : ¬ a = b) : ((a : Int) == (b : Int)) = false := by
  rw [Bool.eq_false_iff]; intro e; simp at e; exact h (by omega)
theorem toNat_small {k : Int} (h : k ≤ 0) : k.toNat = 0 := by omega
theorem clr_0 (x : Nat) : clr x 0 = x := by simp [clr]

/-- Check, whole. -/
theorem check_any (f : Int) (hi lo : Nat) (n : Int) (w : World) (hh : hi ≤ 18446744073709551615) (hl : lo ≤ 18446744073709551615) :
    Calls Tryd.prog 25 #[pref f hi lo n] w fun e w' => e = .returned (.int .i64 (chk f hi lo n)) ∧ Below w.heap.size w w' := by
  by_cases h4 : f = 4
  · subst h4
    by_cases hn : n < 0 ∨ 32 < n
    · have e : chk 4 hi lo n = 3 := by simp only [chk, if_pos, hn]
      rw [e]
      exact check_4len hi lo n w hn
    · have h0 : 0 ≤ n := by omega
      have h1 : n ≤ 32 := by omega
      by_cases hhi : hi = 0
      · subst hhi
        by_cases hlo : lo < 4294967296
        · have hc : ∀ w, Calls Tryd.prog 37 #[addr 4 0 lo, .int .i64 n] w fun e w' => e = .returned (addr 4 0 (clr lo (32 - n).toNat)) ∧ Below w.heap.size w w' := fun w => cut_4 0 lo n w hh hl h0 h1
          by_cases hcl : clr lo (32 - n).toNat = lo
          · have e : chk 4 0 lo n = 0 := by unfold chk; rw [if_pos rfl, if_neg hn, if_pos ⟨rfl, hlo, hcl⟩]
            rw [e]
            rw [hcl] at hc
            exact check_4eq lo n w hlo h0 h1 hc
          · have e : chk 4 0 lo n = 4 := by unfold chk; rw [if_pos rfl, if_neg hn, if_neg (fun h => hcl h.2.2)]
            rw [e]
            exact check_4lo lo _ n w hlo h0 h1 (ne_beq hcl) hc
        · have e : chk 4 0 lo n = 4 := by unfold chk; rw [if_pos rfl, if_neg hn, if_neg (fun h => hlo h.2.1)]
          rw [e]
          exact check_4fit 0 lo n w h0 h1 (fun w => fits_4n lo w hlo)
      · have e : chk 4 hi lo n = 4 := by unfold chk; rw [if_pos rfl, if_neg hn, if_neg (fun h => hhi h.1)]
        rw [e]
        exact check_4fit hi lo n w h0 h1 (fun w => fits_41 hi lo w (by omega))
  · by_cases h6 : f = 6
    · subst h6
      by_cases hn : n < 0 ∨ 128 < n
      · have e : chk 6 hi lo n = 3 := by unfold chk; rw [if_neg (by decide), if_pos rfl, if_pos hn]
        rw [e]
        exact check_6len hi lo n w hn
      · have h0 : 0 ≤ n := by omega
        have h1 : n ≤ 128 := by omega
        have hc : ∀ w, Calls Tryd.prog 37 #[addr 6 hi lo, .int .i64 n] w fun e w' => e = .returned (addr 6 (clr hi (128 - n - 64).toNat) (clr lo (128 - n).toNat)) ∧ Below w.heap.size w w' := fun w => cut_6 hi lo n w hh hl h0 h1
        by_cases hch : clr hi (128 - n - 64).toNat = hi
        · by_cases hcl : clr lo (128 - n).toNat = lo
          · have e : chk 6 hi lo n = 0 := by unfold chk; rw [if_neg (by decide), if_pos rfl, if_neg hn, if_pos ⟨hch, hcl⟩]
            rw [e]
            rw [hch, hcl] at hc
            exact check_6eq hi lo n w h0 h1 hc
          · have e : chk 6 hi lo n = 4 := by unfold chk; rw [if_neg (by decide), if_pos rfl, if_neg hn, if_neg (fun h => hcl h.2)]
            rw [e]
            rw [hch] at hc
            exact check_6lo hi lo _ n w h0 h1 (ne_beq hcl) hc
        · have e : chk 6 hi lo n = 4 := by unfold chk; rw [if_neg (by decide), if_pos rfl, if_neg hn, if_neg (fun h => hch h.1)]
          rw [e]
          exact check_6hi hi lo _ _ n w h0 h1 (ne_beq hch) hc
    · have e : chk f hi lo n = 2 := by unfold chk; rw [if_neg h4, if_neg h6]
      rw [e]
      exact check_no f hi lo n w h4 h6
theorem chk_le (f : Int) (hi lo : Nat) (n : Int) : 0 ≤ chk f hi lo n ∧ chk f hi lo n ≤ 4 := by
  unfold chk; repeat' split
  all_goals omega
end Go.Proofs.YtnmmbbkaamfgpaaDoor
