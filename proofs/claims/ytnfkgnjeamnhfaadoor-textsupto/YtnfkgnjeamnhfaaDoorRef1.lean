import Derived.Test.YtnfkgnjeamnhfaaDoorLeaf
import Derived.Lib.Hide
namespace Go.Proofs.YtnfkgnjeamnhfaaDoor
open Go.RowKit

/-- Bit k of v. -/
def bitN (v k : Nat) : Nat := v / 2 ^ k % 2
/-- The number of some bits, the highest first. -/
def numF (bf : Nat → Nat) : Nat → Nat
  | 0 => 0
  | k + 1 => 2 * numF bf k + bf k
theorem numF_lt {bf : Nat → Nat} (h : ∀ j, bf j ≤ 1) : ∀ k, numF bf k < 2 ^ k
  | 0 => by simp [numF]
  | k + 1 => by have := numF_lt h k; have := h k; rw [Nat.pow_succ]; simp only [numF]; omega
theorem numF_congr {bf bg : Nat → Nat} : ∀ k, (∀ j, j < k → bf j = bg j) → numF bf k = numF bg k
  | 0, _ => rfl
  | k + 1, h => by simp only [numF]; rw [numF_congr k (fun j hj => h j (by omega)), h k (by omega)]
theorem bitN_le (v k : Nat) : bitN v k ≤ 1 := by unfold bitN; omega

theorem mk32 (w : World) : (Instr.makeSlice 46 (.int .i64 32) (.int .i64 32)).run Tryd.prog w = .ok (.slice (some ⟨w.heap.size, 0, none⟩) 32 32) (w.alloc (.cells (Array.replicate 32 (.int .i64 0)) 3)) := by kernel_rfl
theorem mk64 (w : World) : (Instr.makeSlice 46 (.int .i64 64) (.int .i64 64)).run Tryd.prog w = .ok (.slice (some ⟨w.heap.size, 0, none⟩) 64 64) (w.alloc (.cells (Array.replicate 64 (.int .i64 0)) 3)) := by kernel_rfl

/-- A row of n bits in a block. -/
def RowB (w : World) (b n : Nat) (bf : Nat → Nat) : Prop := ∀ j, j < n → w.cell? ⟨b, j, none⟩ = some (.int .i64 (bf j : Int))
def RowF (w : World) (b n : Nat) : Prop := ∀ j, j < n → w.frozen? ⟨b, j, none⟩ = false
theorem RowB.set {w : World} {b n : Nat} {bf bg : Nat → Nat} (h : RowB w b n bf) {k : Nat} (hk : k < n) {x : Int} (hx : x = (bg k : Int)) (hg : ∀ j, j ≠ k → bg j = bf j) : RowB (w.setCell ⟨b, k, none⟩ (.int .i64 x)) b n bg := by
  intro j hj
  by_cases e : j = k
  · subst e; rw [World.cell?_setCell_same _ _ _ (h j hj), hx]
  · rw [World.cell?_setCell_other (w := w) (a := ⟨b, k, none⟩) (b := ⟨b, j, none⟩) _ (by intro hh; injection hh with _ h2; exact e h2.symm), h j hj, hg j e]
theorem RowF.set {w : World} {b n : Nat} (h : RowF w b n) (k : Nat) (x : Value) : RowF (w.setCell ⟨b, k, none⟩ x) b n := by
  intro j hj; rw [World.frozen?_setCell]; exact h j hj
theorem RowB.below {w w' : World} {B b n : Nat} {bf : Nat → Nat} (h : RowB w b n bf) (hb : Below B w w') (hlt : b < B) : RowB w' b n bf := fun j hj => (hb.cell (p := ⟨b, j, none⟩) hlt).trans (h j hj)
theorem RowF.below {w w' : World} {B b n : Nat} (h : RowF w b n) (hb : Below B w w') (hlt : b < B) : RowF w' b n := fun j hj => (hb.frozen (p := ⟨b, j, none⟩) hlt).trans (h j hj)

set_option maxHeartbeats 1000000 in
theorem bits32 (v : Nat) (w : World) (hv : v ≤ 18446744073709551615) :
    Calls Tryd.prog 31 #[.int .u64 v, .int .i64 32] w fun e w' => e = .returned (.slice (some ⟨w.heap.size, 0, none⟩) 32 32) ∧ w.heap.size < w'.heap.size ∧ RowB w' w.heap.size 32 (fun j => bitN v (31 - j)) ∧ RowF w' w.heap.size 32 ∧ Below w.heap.size w w' := by
  have hmk := mk32
  go_enter Tryd.func31, Tryd.ntmps31
  go_wp2
  go_loopw [0, 6] (fun x i wr => ∃ r q : Nat, r ≤ 32 ∧ i = .int .i64 ((r : Int) - 1) ∧ x = .int .u64 q ∧ q ≤ 18446744073709551615 ∧ Hid (q = v / 2 ^ (32 - r)) ∧ w.heap.size < wr.heap.size ∧ RowB wr w.heap.size 32 (fun j => if r ≤ j then bitN v (31 - j) else 0) ∧ RowF wr w.heap.size 32 ∧ Below w.heap.size w wr) (fun _ i _ => (intOf i + 1).toNat)
  case atStart =>
    refine ⟨32, v, Nat.le_refl _, rfl, rfl, hv, by show _ = _; simp, by simp, ?_, ?_, (Below.refl _ _).alloc (Nat.le_refl _) _⟩
    · intro j hj
      rw [World.cell?_alloc_new]
      simp [hj, show ¬ 32 ≤ j by omega]
    · intro j hj
      exact World.frozen?_alloc_new _ _ _ _
  case round =>
    obtain ⟨r, q, hr, hi, rfl, hq, HQ, hz, hB, hF, hb⟩ := hrel
    have HB := Lib.hid hB
    have HF := Lib.hid hF
    have HW := Lib.hid hb
    rcases r with _ | m
    · have e : ((0 : Nat) : Int) - 1 = -1 := rfl
      rw [e] at hi
      subst hi
      clear hB hF hb
      go_wp2
      go_ret
      refine ⟨rfl, hz, ?_, HF.out, HW.out⟩
      intro j hj
      have := HB.out j hj
      simpa using this
    · have e : ((m + 1 : Nat) : Int) - 1 = (m : Int) := by omega
      rw [e] at hi
      subst hi
      have hc := hB m (by omega)
      have hf := hF m (by omega)
      clear hB hF hb
      go_wp2
      go_roundw
      case rel =>
        refine ⟨m, q / 2, by omega, rfl, by go_num, by omega, ?_, by simpa using hz, HB.out.set (by omega) ?_ ?_, HF.out.set _ _, HW.out.setCell (Nat.le_refl _) _⟩
        · show _ = _
          rw [HQ.out, Nat.div_div_eq_div_mul, ← Nat.pow_succ]
          rw [show (32 - (m + 1)).succ = 32 - m by omega]
        · rw [if_pos (Nat.le_refl _)]
          have : (32 - (m + 1)) = 31 - m := by omega
          unfold bitN
          rw [← this, ← HQ.out]
          simp
        · intro j hj
          by_cases h1 : m + 1 ≤ j
          · simp [h1, show m ≤ j by omega]
          · simp [h1, show ¬ m ≤ j by omega]
      case measure => simp [intOf] <;> omega

set_option maxHeartbeats 1000000 in
theorem bits64 (v : Nat) (w : World) (hv : v ≤ 18446744073709551615) :
    Calls Tryd.prog 31 #[.int .u64 v, .int .i64 64] w fun e w' => e = .returned (.slice (some ⟨w.heap.size, 0, none⟩) 64 64) ∧ w.heap.size < w'.heap.size ∧ RowB w' w.heap.size 64 (fun j => bitN v (63 - j)) ∧ RowF w' w.heap.size 64 ∧ Below w.heap.size w w' := by
  have hmk := mk64
  go_enter Tryd.func31, Tryd.ntmps31
  go_wp2
  go_loopw [0, 6] (fun x i wr => ∃ r q : Nat, r ≤ 64 ∧ i = .int .i64 ((r : Int) - 1) ∧ x = .int .u64 q ∧ q ≤ 18446744073709551615 ∧ Hid (q = v / 2 ^ (64 - r)) ∧ w.heap.size < wr.heap.size ∧ RowB wr w.heap.size 64 (fun j => if r ≤ j then bitN v (63 - j) else 0) ∧ RowF wr w.heap.size 64 ∧ Below w.heap.size w wr) (fun _ i _ => (intOf i + 1).toNat)
  case atStart =>
    refine ⟨64, v, Nat.le_refl _, rfl, rfl, hv, by show _ = _; simp, by simp, ?_, ?_, (Below.refl _ _).alloc (Nat.le_refl _) _⟩
    · intro j hj
      rw [World.cell?_alloc_new]
      simp [hj, show ¬ 64 ≤ j by omega]
    · intro j hj
      exact World.frozen?_alloc_new _ _ _ _
  case round =>
    obtain ⟨r, q, hr, hi, rfl, hq, HQ, hz, hB, hF, hb⟩ := hrel
    have HB := Lib.hid hB
    have HF := Lib.hid hF
    have HW := Lib.hid hb
    rcases r with _ | m
    · have e : ((0 : Nat) : Int) - 1 = -1 := rfl
      rw [e] at hi
      subst hi
      clear hB hF hb
      go_wp2
      go_ret
      refine ⟨rfl, hz, ?_, HF.out, HW.out⟩
      intro j hj
      have := HB.out j hj
      simpa using this
    · have e : ((m + 1 : Nat) : Int) - 1 = (m : Int) := by omega
      rw [e] at hi
      subst hi
      have hc := hB m (by omega)
      have hf := hF m (by omega)
      clear hB hF hb
      go_wp2
      go_roundw
      case rel =>
        refine ⟨m, q / 2, by omega, rfl, by go_num, by omega, ?_, by simpa using hz, HB.out.set (by omega) ?_ ?_, HF.out.set _ _, HW.out.setCell (Nat.le_refl _) _⟩
        · show _ = _
          rw [HQ.out, Nat.div_div_eq_div_mul, ← Nat.pow_succ]
          rw [show (64 - (m + 1)).succ = 64 - m by omega]
        · rw [if_pos (Nat.le_refl _)]
          have : (64 - (m + 1)) = 63 - m := by omega
          unfold bitN
          rw [← this, ← HQ.out]
          simp
        · intro j hj
          by_cases h1 : m + 1 ≤ j
          · simp [h1, show m ≤ j by omega]
          · simp [h1, show ¬ m ≤ j by omega]
      case measure => simp [intOf] <;> omega
set_option maxHeartbeats 1000000 in
theorem number_any (b off len cap : Nat) (bf : Nat → Nat) (w : World) (hb : ∀ j, bf j ≤ 1) (hl : len ≤ 64) (hc : ∀ j, j < len → w.cell? ⟨b, off + j, none⟩ = some (.int .i64 (bf j : Int))) :
    Calls Tryd.prog 20 #[.slice (some ⟨b, off, none⟩) len cap] w fun e w' => e = .returned (.int .u64 (numF bf len : Int)) ∧ w' = w := by
  have HC : Hid _ := hc
  clear hc
  go_enter Tryd.func20, Tryd.ntmps20
  go_wp2
  go_loop [3, 4] (fun v i => ∃ k : Nat, k ≤ len ∧ i = .int .i64 k ∧ v = .int .u64 (numF bf k : Int)) (fun _ i => len - (intOf i).toNat)
  case atStart => exact ⟨0, Nat.zero_le _, rfl, rfl⟩
  case round =>
    obtain ⟨k, hk, rfl, rfl⟩ := hrel
    by_cases hlt : k < len
    · have hn := numF_lt hb k
      have h2 : (2 : Nat) ^ k ≤ 2 ^ 63 := Nat.pow_le_pow_right (by decide) (by omega)
      have hn2 : numF bf k < 9223372036854775808 := by omega
      have hbk := hb k
      have hck := HC.out k hlt
      clear hn h2
      go_wp2
      go_round
      case rel => exact ⟨k + 1, by omega, by go_num, by simp only [numF]; go_num⟩
      case measure => simp [intOf]; omega
    · obtain rfl : k = len := by omega
      go_wp2
      go_ret
      exact ⟨rfl, rfl⟩
end Go.Proofs.YtnfkgnjeamnhfaaDoor
