import Derived.Test.YtnfkgnjeamnhfaaDoorRef4
import Derived.Test.YtnfkgnjeamnhfaaDoorRef5
import Derived.Test.YtnfkgnjeamnhfaaDoorKeep
namespace Go.Proofs.YtnfkgnjeamnhfaaDoor
open Go.RowKit

theorem numF_bits (v n : Nat) (hv : v < 2 ^ n) : ∀ k, k ≤ n → numF (fun j => bitN v (n - 1 - j)) k = v / 2 ^ (n - k)
  | 0, _ => by simp only [numF, Nat.sub_zero]; rw [Nat.div_eq_of_lt hv]
  | k + 1, hk => by
    simp only [numF]
    rw [numF_bits v n hv k (by omega)]
    have e1 : n - k = (n - (k + 1)) + 1 := by omega
    have e2 : n - 1 - k = n - (k + 1) := by omega
    rw [e1, e2, Nat.pow_succ, ← Nat.div_div_eq_div_mul]
    unfold bitN
    omega
theorem numF_zeros (bf : Nat → Nat) (m : Nat) (h : ∀ j, m ≤ j → bf j = 0) : ∀ d, numF bf (m + d) = numF bf m * 2 ^ d
  | 0 => by simp
  | d + 1 => by
    show 2 * numF bf (m + d) + bf (m + d) = _
    rw [numF_zeros bf m h d, h (m + d) (by omega), Nat.pow_succ, Nat.add_zero, Nat.mul_comm 2, Nat.mul_assoc]
theorem numF_cut (v n m : Nat) (hv : v < 2 ^ n) (hm : m ≤ n) : numF (cutB m (fun j => bitN v (n - 1 - j))) n = clr v (n - m) := by
  have h1 := numF_zeros (cutB m (fun j => bitN v (n - 1 - j))) m (fun j hj => by unfold cutB; rw [if_neg (by omega)]) (n - m)
  rw [show m + (n - m) = n by omega] at h1
  rw [h1, numF_congr (bg := fun j => bitN v (n - 1 - j)) m (fun j hj => by unfold cutB; rw [if_pos hj]), numF_bits v n hv m hm]
  rfl
theorem cut_hi (hi lo m : Nat) (hh : hi ≤ 18446744073709551615) : numF (cutB m (bits6 hi lo)) 64 = clr hi (64 - m) := by
  by_cases h : m ≤ 64
  · rw [← numF_cut hi 64 m (by omega) h]
    refine numF_congr 64 (fun j hj => ?_)
    unfold cutB bits6
    rw [if_pos hj]
  · rw [show 64 - m = 64 - 64 by omega, ← numF_cut hi 64 64 (by omega) (by omega)]
    refine numF_congr 64 (fun j hj => ?_)
    unfold cutB bits6
    rw [if_pos hj, if_pos (by omega), if_pos hj]
theorem cut_lo (hi lo m : Nat) (hl : lo ≤ 18446744073709551615) (hm : m ≤ 128) : numF (fun j => cutB m (bits6 hi lo) (64 + j)) 64 = clr lo (128 - m) := by
  by_cases h : m ≤ 64
  · rw [clr_64 hl (by omega)]
    have := numF_zeros (fun j => cutB m (bits6 hi lo) (64 + j)) 0 (fun j hj => by show cutB m _ _ = 0; unfold cutB; rw [if_neg (by omega)]) 64
    rw [Nat.zero_add] at this
    rw [this]
    simp [numF]
  · rw [show 128 - m = 64 - (m - 64) by omega, ← numF_cut lo 64 (m - 64) (by omega) (by omega)]
    refine numF_congr 64 (fun j hj => ?_)
    show cutB m (bits6 hi lo) (64 + j) = cutB (m - 64) _ j
    unfold cutB bits6
    by_cases hj2 : 64 + j < m
    · rw [if_pos hj2, if_neg (by omega), if_pos (by omega), show 127 - (64 + j) = 64 - 1 - j by omega]
    · rw [if_neg hj2, if_neg (by omega)]

/-- The document's Good, whole: as the program's Check. -/
theorem rgood_any (f : Int) (hi lo : Nat) (n : Int) (w : World) (hh : hi ≤ 18446744073709551615) (hl : lo ≤ 18446744073709551615) :
    Calls Tryd.prog 16 #[pref f hi lo n] w fun e w' => e = .returned (.int .i64 (chk f hi lo n)) ∧ Below w.heap.size w w' := by
  by_cases h4 : f = 4
  · subst h4
    by_cases hn : n < 0 ∨ 32 < n
    · have e : chk 4 hi lo n = 3 := by unfold chk; rw [if_pos rfl, if_pos hn]
      rw [e]
      exact rgood_len 4 32 hi lo n w (by decide) rsize_4 hn
    · obtain ⟨m, rfl⟩ : ∃ m : Nat, n = (m : Int) := ⟨n.toNat, by omega⟩
      have hm : m ≤ 32 := by omega
      by_cases hhi : hi = 0
      · subst hhi
        by_cases hlo : lo ≤ 4294967295
        · have hc := fun w => rcut4 0 lo m w hl hm
          have e := numF_cut lo 32 m (by omega) hm
          rw [e] at hc
          refine rgood_cut 4 32 0 lo 0 _ m _ w (by decide) (by omega) (by omega) rsize_4 (fun w => raddr_4y lo w hlo) hc ?_
          have e2 : (32 - (m : Int)).toNat = 32 - m := by omega
          by_cases hcl : clr lo (32 - m) = lo
          · refine Or.inr (Or.inr ⟨rfl, hcl, ?_⟩)
            unfold chk; rw [if_pos rfl, if_neg hn, if_pos ⟨rfl, by omega, by rw [e2]; exact hcl⟩]
          · refine Or.inr (Or.inl ⟨rfl, ne_beq hcl, ?_⟩)
            unfold chk; rw [if_pos rfl, if_neg hn, if_neg (fun h => hcl (by rw [← e2]; exact h.2.2))]
        · have e : chk 4 0 lo m = 4 := by unfold chk; rw [if_pos rfl, if_neg hn, if_neg (fun h => hlo (by omega))]
          rw [e]
          exact rgood_addr 4 32 0 lo m w (by decide) (by omega) (by omega) rsize_4 (fun w => raddr_4n lo w hlo)
      · have e : chk 4 hi lo m = 4 := by unfold chk; rw [if_pos rfl, if_neg hn, if_neg (fun h => hhi h.1)]
        rw [e]
        exact rgood_addr 4 32 hi lo m w (by decide) (by omega) (by omega) rsize_4 (fun w => raddr_4h hi lo w (by omega))
  · by_cases h6 : f = 6
    · subst h6
      by_cases hn : n < 0 ∨ 128 < n
      · have e : chk 6 hi lo n = 3 := by unfold chk; rw [if_neg h4, if_pos rfl, if_pos hn]
        rw [e]
        exact rgood_len 6 128 hi lo n w (by decide) rsize_6 hn
      · obtain ⟨m, rfl⟩ : ∃ m : Nat, n = (m : Int) := ⟨n.toNat, by omega⟩
        have hm : m ≤ 128 := by omega
        have hc := fun w => rcut6 hi lo m w hh hl hm
        rw [cut_hi hi lo m hh, cut_lo hi lo m hl hm] at hc
        refine rgood_cut 6 128 hi lo _ _ m _ w (by decide) (by omega) (by omega) rsize_6 (fun w => raddr_6 hi lo w) hc ?_
        have e1 : (128 - (m : Int) - 64).toNat = 64 - m := by omega
        have e2 : (128 - (m : Int)).toNat = 128 - m := by omega
        by_cases hch : clr hi (64 - m) = hi
        · by_cases hcl : clr lo (128 - m) = lo
          · refine Or.inr (Or.inr ⟨hch, hcl, ?_⟩)
            unfold chk; rw [if_neg h4, if_pos rfl, if_neg hn, if_pos ⟨by rw [e1]; exact hch, by rw [e2]; exact hcl⟩]
          · refine Or.inr (Or.inl ⟨hch, ne_beq hcl, ?_⟩)
            unfold chk; rw [if_neg h4, if_pos rfl, if_neg hn, if_neg (fun h => hcl (by rw [← e2]; exact h.2))]
        · refine Or.inl ⟨ne_beq hch, ?_⟩
          unfold chk; rw [if_neg h4, if_pos rfl, if_neg hn, if_neg (fun h => hch (by rw [← e1]; exact h.1))]
    · have e : chk f hi lo n = 2 := by unfold chk; rw [if_neg h4, if_neg h6]
      rw [e]
      exact rgood_no f hi lo n w h4 h6
end Go.Proofs.YtnfkgnjeamnhfaaDoor
