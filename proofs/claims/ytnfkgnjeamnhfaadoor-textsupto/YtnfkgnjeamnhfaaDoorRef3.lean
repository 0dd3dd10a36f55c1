import Derived.Test.YtnfkgnjeamnhfaaDoorRef2
import Derived.Deep.RegionWith
import Derived.Deep.QuietTactic
import Derived.BigQuiet
namespace Go.Proofs.YtnfkgnjeamnhfaaDoor
open Go.RowKit

/-- Cut's own two blocks: the address, the result. -/
structure Fc (B : Nat) (wr : World) (f : Int) : Prop where
  a0 : wr.cell? ⟨B, 0, none⟩ = some (.int .i64 f)
  r0 : wr.cell? ⟨B + 1, 0, none⟩ = some (.int .i64 0)
  r1 : wr.cell? ⟨B + 1, 1, none⟩ = some (.int .u64 0)
  r2 : wr.cell? ⟨B + 1, 2, none⟩ = some (.int .u64 0)
  f0 : wr.frozen? ⟨B + 1, 0, none⟩ = false
  f1 : wr.frozen? ⟨B + 1, 1, none⟩ = false
  f2 : wr.frozen? ⟨B + 1, 2, none⟩ = false
theorem Fc.below {B D : Nat} {wr w2 : World} {f : Int} (h : Fc B wr f) (hb : Below D wr w2) (hz : B + 1 < D) : Fc B w2 f := by
  have hc : ∀ b o, b < D → w2.cell? ⟨b, o, none⟩ = wr.cell? ⟨b, o, none⟩ := fun b o h => hb.cell (p := ⟨b, o, none⟩) h
  have hf : ∀ b o, b < D → w2.frozen? ⟨b, o, none⟩ = wr.frozen? ⟨b, o, none⟩ := fun b o h => hb.frozen (p := ⟨b, o, none⟩) h
  exact ⟨(hc _ _ (by omega)).trans h.a0, (hc _ _ (by omega)).trans h.r0, (hc _ _ (by omega)).trans h.r1, (hc _ _ (by omega)).trans h.r2, (hf _ _ (by omega)).trans h.f0, (hf _ _ (by omega)).trans h.f1, (hf _ _ (by omega)).trans h.f2⟩
theorem Fc.set {B : Nat} {wr : World} {f : Int} (h : Fc B wr f) {b k : Nat} (hb : B + 1 < b) (x : Value) : Fc B (wr.setCell ⟨b, k, none⟩ x) f :=
  h.below ((Below.refl (B + 2) wr).setCell (by show _ ≤ b; omega) x) (by omega)

/-- The bits behind the first m are noughts. -/
def cutB (m : Nat) (bf : Nat → Nat) (j : Nat) : Nat := if j < m then bf j else 0
theorem cutB_le {m : Nat} {bf : Nat → Nat} (h : ∀ j, bf j ≤ 1) (j : Nat) : cutB m bf j ≤ 1 := by unfold cutB; split; exact h j; omega
set_option maxHeartbeats 2000000 in
theorem rcut4 (hi lo m : Nat) (w : World) (hl : lo ≤ 18446744073709551615) (hm : m ≤ 32) :
    Calls Tryd.prog 28 #[addr 4 hi lo, .int .i64 m] w fun e w' => e = .returned (addr 4 0 (numF (cutB m (fun j => bitN lo (31 - j))) 32)) ∧ Below w.heap.size w w' := by
  go_enter Tryd.func28, Tryd.ntmps28
  go_wp2_with (go_at_call 18; refine (Bits4 _ _ _ hl).mono ?_; rintro e w1 ⟨b, hb0, hbz, rfl, hB, hF, hb⟩; refine Hid.out ?_)
  refine Lib.hid ?_
  have hFc : Fc w.heap.size ((w.alloc (.cells #[.int .i64 4, .int .u64 hi, .int .u64 lo] 24)).alloc (.cells #[.int .i64 0, .int .u64 0, .int .u64 0] 24)) 4 := by constructor <;> go_simp
  have e1 : ((w.alloc (.cells #[.int .i64 4, .int .u64 hi, .int .u64 lo] 24)).alloc (.cells #[.int .i64 0, .int .u64 0, .int .u64 0] 24)).heap.size = w.heap.size + 2 := by simp
  rw [e1] at hb hb0
  have HFc := Lib.hid (hFc.below hb (by omega))
  have HB := Lib.hid hB
  have HF := Lib.hid hF
  have HW := Lib.hid ((((Below.refl w.heap.size w).alloc (Nat.le_refl _) _).alloc (by simp) _).trans (hb.mono (by omega)))
  clear hFc e1 hB hF hb
  go_wp2
  go_loopw [6] (fun i wr => ∃ k : Nat, m ≤ k ∧ k ≤ 32 ∧ i = .int .i64 k ∧ b < wr.heap.size ∧ Fc w.heap.size wr 4 ∧ RowB wr b 32 (fun j => if m ≤ j ∧ j < k then 0 else bitN lo (31 - j)) ∧ RowF wr b 32 ∧ Below w.heap.size w wr) (fun i _ => 32 - (intOf i).toNat)
  case atStart =>
    refine ⟨m, Nat.le_refl _, hm, rfl, hbz, HFc.out, ?_, HF.out, HW.out⟩
    intro j hj
    have := HB.out j hj
    rw [this]
    simp [show ¬ (m ≤ j ∧ j < m) by omega]
  case round =>
    obtain ⟨k, hk0, hk, rfl, hz, hFc, hB, hF, hW⟩ := hrel
    have HFc2 := Lib.hid hFc
    have HB2 := Lib.hid hB
    have HF2 := Lib.hid hF
    have HW2 := Lib.hid hW
    by_cases hlt : k < 32
    · have hc := hB k hlt
      have hf := hF k hlt
      clear hFc hB hF hW HFc HB HF HW
      go_wp2
      go_roundw
      case rel =>
        refine ⟨k + 1, by omega, by omega, by go_num, by simpa using hz, HFc2.out.set (by omega) _, HB2.out.set hlt ?_ ?_, HF2.out.set _ _, HW2.out.setCell (by show _ ≤ b; omega) _⟩
        · simp [hk0]
        · intro j hj
          by_cases h1 : m ≤ j ∧ j < k
          · simp [h1, show j < k + 1 by omega]
          · simp [h1, show ¬ (m ≤ j ∧ j < k + 1) by omega]
      case measure => simp [intOf] <;> omega
    · obtain rfl : k = 32 := by omega
      obtain ⟨a0, r0, r1, r2, f0, f1, f2⟩ := hFc
      have HN := Lib.hid (fun (c : Nat) => number_any b 0 32 c (cutB m (fun j => bitN lo (31 - j))) wr (cutB_le (fun j => bitN_le _ _)) (by decide) (fun j hj => by
        have := HB2.out j hj
        rw [Nat.zero_add, this]
        unfold cutB
        by_cases h1 : j < m
        · simp [h1, show ¬ (m ≤ j ∧ j < 32) by omega]
        · simp [h1, show m ≤ j by omega, hj]))
      clear hB hF hW HFc HB HF HW
      go_wp2_with (go_at_call 20; refine (HN.out _).mono ?_; rintro e w2 ⟨rfl, rfl⟩)
      refine bodyPost_ret (v := .agg #[.int .i64 4, .int .u64 0, .int .u64 (numF (cutB m (fun j => bitN lo (31 - j))) 32 : Int)]) (by simp [results, Tryd.results28, go_sem, r0, r1, r2]) rfl ⟨rfl, ?_⟩
      exact ((HW2.out.setCell (by dsimp only; omega) _).setCell (by dsimp only; omega) _).setCell (by dsimp only; omega) _
end Go.Proofs.YtnfkgnjeamnhfaaDoor
