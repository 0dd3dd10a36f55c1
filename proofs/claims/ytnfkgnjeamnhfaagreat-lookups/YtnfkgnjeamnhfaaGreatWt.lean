import Derived.Test.YtnfkgnjeamnhfaaGreatWo
import Derived.Test.YtnfkgnjeamnhfaaGreatWr
namespace Go.Proofs.YtnfkgnjeamnhfaaGreat
open Go.RowKit

set_option maxRecDepth 4000 in
set_option maxHeartbeats 4000000 in
theorem stepq_arm10 {w : World} {W : Nat} {i : Int} {x : Nat → Value} {h : Value} {m : Bool} {P : World → Prop}
    (HG : Calls Tryz.prog 13 #[.pointer (some ⟨W, 0, none⟩), .agg (opA 10 i x h m)] (w.alloc (.cells (opA 10 i x h m) 39)) (fun e w' => e = .returned (.bool true) ∧ P w')) :
    Calls Tryz.prog 12 #[.pointer (some ⟨W, 0, none⟩), .agg (opA 10 i x h m)] w (fun e w' => e = .returned (.bool true) ∧ P w') := by
  simp only [opA] at HG
  have HG := Lib.hid HG
  unfold opA
  go_enter Tryz.func12, Tryz.ntmps12
  go_wp2_with fail
  refine HG.out.mono ?_
  rintro e w1 ⟨rfl, hp⟩
  go_wp2
  go_ret
  exact ⟨rfl, hp⟩
theorem stepOk10 : StepOk 10 := by
  intro N ρ w W T R B rT rR s gs cs rs lim k i x m ao n cap hN hF h15 hW hB hs hT hT2 hR hR2 hne ho hρ hk
  by_cases hk9 : k ≤ 9
  · exact stepOk9 N ρ w W T R B rT rR s gs cs rs lim k i x m ao n cap hN hF h15 hW hB hs hT hT2 hR hR2 hne ho hρ hk9
  · obtain rfl : k = 10 := by omega
    obtain ⟨ρ0, w0, hw0, hNz, hsz, hE0, hF0, h150, hb0, hW0, hB0, hS0⟩ := boxq 10 i x (.slice ao n cap) m hN hF h15 hW hB hT hT2 hR hR2
    have hbox : ∀ e w', SPq N ρ0 w0 W T R B rT rR lim s e w' → SPq N ρ w W T R B rT rR lim s e w' := fun e w' h => h.box hE0
    obtain ⟨a, hfit, x8, x9, x10⟩ := ho.adr
    have HG := asksq_look N ρ0 w0 W T R B rT rR s gs cs rs lim i x a hfit x8 x9 x10 (.slice ao n cap) m hNz hF0 h150 hW0 hB0 hs hT hT2 hR hR2
    rw [hw0] at HG hbox
    exact (stepq_arm10 HG).mono hbox
/-- Lookups: the law. -/
theorem lookups_law (N : Nat) (ρ : Nat → Nat) (limit seed own : Int) (so : Option Addr) (z scap : Nat) (w : World) (hN : N ≤ w.heap.size) (hF : Fr ρ w) (h15 : ∀ k, ρ k ≠ 15) (hρ : ∀ b, b < N → ρ b = 0) (hS : Scriptq N w so z) (hz : z ≤ 837728385445) (hsn : Rg seed own) :
    Calls Tryz.prog 6 #[.int .i64 limit, .int .u64 seed, .int .u32 own, .slice so z scap] w fun e w' => e = .returned (.bool true) ∧ ∃ ρ', Ev (fun q => 1 ≤ q) ρ w ρ' w' := by
  have H : Calls Tryz.prog 10 #[.int .i64 limit, .int .u64 seed, .int .u32 own, .slice so z scap, .int .i64 10] w fun e w' => e = .returned (.bool true) ∧ ∃ ρ', Ev (fun q => 1 ≤ q) ρ w ρ' w' := by
    by_cases h : limit < 1 ∨ 256 < limit
    · exact playsq_no ρ limit seed own so z scap w h 10
    · exact playsq_any N ρ limit seed own so z scap w hN hF h15 hρ hS hz hsn (by omega) (by omega) 10 (by decide) stepOk10 (by decide)
  have HH := Lib.hid H
  clear H hN hF h15 hρ hS hz hsn
  go_enter Tryz.func6, Tryz.ntmps6
  go_wp2_with (go_at_call 10; refine HH.out.mono ?_; rintro e w1 ⟨rfl, hp⟩; have H2 := Lib.hid hp; clear hp)
  go_ret
  exact ⟨rfl, H2.out⟩
end Go.Proofs.YtnfkgnjeamnhfaaGreat
