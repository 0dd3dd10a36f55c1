import Derived.Test.YtnfkgnjeamnhfaaDoorRef3
namespace Go.Proofs.YtnfkgnjeamnhfaaDoor
open Go.RowKit

theorem bits6_le (hi lo j : Nat) : bits6 hi lo j ≤ 1 := by unfold bits6; split <;> exact bitN_le _ _
set_option maxHeartbeats 2000000 in
set_option maxRecDepth 100000 in
theorem rcut6 (hi lo m : Nat) (w : World) (hh : hi ≤ 18446744073709551615) (hl : lo ≤ 18446744073709551615) (hm : m ≤ 128) :
    Calls Tryd.prog 28 #[addr 6 hi lo, .int .i64 m] w fun e w' => e = .returned (addr 6 (numF (cutB m (bits6 hi lo)) 64) (numF (fun j => cutB m (bits6 hi lo) (64 + j)) 64)) ∧ Below w.heap.size w w' := by
  go_enter Tryd.func28, Tryd.ntmps28
  go_wp2_with (go_at_call 18; refine (Bits6 _ _ _ _ hh hl rfl).mono ?_; rintro e w1 ⟨b, c, hcc, hb0, hbz, rfl, hB, hF, hb⟩; refine Hid.out ?_)
  refine Lib.hid ?_
  have hFc : Fc w.heap.size ((w.alloc (.cells #[.int .i64 6, .int .u64 hi, .int .u64 lo] 24)).alloc (.cells #[.int .i64 0, .int .u64 0, .int .u64 0] 24)) 6 := by constructor <;> go_simp
  have e1 : ((w.alloc (.cells #[.int .i64 6, .int .u64 hi, .int .u64 lo] 24)).alloc (.cells #[.int .i64 0, .int .u64 0, .int .u64 0] 24)).heap.size = w.heap.size + 2 := by simp
  rw [e1] at hb hb0
  have HFc := Lib.hid (hFc.below hb (by omega))
  have HB := Lib.hid hB
  have HF := Lib.hid hF
  have HW := Lib.hid ((((Below.refl w.heap.size w).alloc (Nat.le_refl _) _).alloc (by simp) _).trans (hb.mono (by omega)))
  clear hFc e1 hB hF hb
  go_wp2
  go_loopw [6] (fun i wr => ∃ k : Nat, m ≤ k ∧ k ≤ 128 ∧ i = .int .i64 k ∧ b < wr.heap.size ∧ Fc w.heap.size wr 6 ∧ RowB wr b 128 (fun j => if m ≤ j ∧ j < k then 0 else bits6 hi lo j) ∧ RowF wr b 128 ∧ Below w.heap.size w wr) (fun i _ => 128 - (intOf i).toNat)
  case atStart =>
    refine ⟨m, Nat.le_refl _, hm, rfl, hbz, HFc.out, ?_, HF.out, HW.out⟩
    intro j hj
    have := HB.out j hj
    rw [this]
    simp [show ¬ (m ≤ j ∧ j < m) by omega]
  case round =>
    obtain ⟨k, hk0, hk, rfl, hz, hFc, hB, hF, hW⟩ := hrel
    have HFc2 := Lib.hid hFc
    have HB2 := Lib.hid hB
    have HF2 := Lib.hid hF
    have HW2 := Lib.hid hW
    by_cases hlt : k < 128
    · have hc := hB k hlt
      have hf := hF k hlt
      clear hFc hB hF hW HFc HB HF HW
      go_wp2
      go_roundw
      case rel =>
        refine ⟨k + 1, by omega, by omega, by go_num, by simpa using hz, HFc2.out.set (by omega) _, HB2.out.set hlt ?_ ?_, HF2.out.set _ _, HW2.out.setCell (by show _ ≤ b; omega) _⟩
        · simp [hk0]
        · intro j hj
          by_cases h1 : m ≤ j ∧ j < k
          · simp [h1, show j < k + 1 by omega]
          · simp [h1, show ¬ (m ≤ j ∧ j < k + 1) by omega]
      case measure => simp [intOf] <;> omega
    · obtain rfl : k = 128 := by omega
      obtain ⟨a0, r0, r1, r2, f0, f1, f2⟩ := hFc
      have hcell : ∀ j, j < 128 → wr.cell? ⟨b, j, none⟩ = some (.int .i64 (cutB m (bits6 hi lo) j : Int)) := by
        intro j hj
        have := HB2.out j hj
        rw [this]
        unfold cutB
        by_cases h1 : j < m
        · simp [h1, show ¬ (m ≤ j ∧ j < 128) by omega]
        · simp [h1, show m ≤ j by omega, hj]
      have HN := Lib.hid (fun (off c : Nat) (W : World) (hW : ∀ a, W.cell? a = wr.cell? a) (ho : off ≤ 64) => number_any b off 64 c (fun j => cutB m (bits6 hi lo) (off + j)) W (fun j => cutB_le (bits6_le hi lo) (off + j)) (by decide) (fun j hj => by rw [hW]; exact hcell (off + j) (by omega)))
      clear hB hF hW HFc HB HF HW hcell
      go_wp2
      go_region_with (go_at_call 20; refine (HN.out _ _ _ ?h1 ?h2).mono ?_; (case h1 => exact fun _ => rfl); (case h2 => decide); rintro e w2 ⟨rfl, rfl⟩)
      all_goals go_wp2
      all_goals refine bodyPost_ret (v := .agg #[.int .i64 6, .int .u64 (numF (fun j => cutB m (bits6 hi lo) j) 64 : Int), .int .u64 (numF (fun j => cutB m (bits6 hi lo) (64 + j)) 64 : Int)]) (by simp [results, Tryd.results28, go_sem, r0, r1, r2]) rfl ⟨rfl, ?_⟩
      all_goals exact (((HW2.out.setCell (by dsimp only; omega) _).setCell (by dsimp only; omega) _).setCell (by dsimp only; omega) _).drew
end Go.Proofs.YtnfkgnjeamnhfaaDoor
