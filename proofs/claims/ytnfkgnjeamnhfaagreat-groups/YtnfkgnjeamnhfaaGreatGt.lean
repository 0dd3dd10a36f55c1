import Derived.Test.YtnfkgnjeamnhfaaGreatGs
namespace Go.Proofs.YtnfkgnjeamnhfaaGreat
open Go.RowKit

theorem SPost.box {N : Nat} {ρ ρ0 : Nat → Nat} {w w0 : World} {W T R B rT rR s : Nat} {e : Ending} {w' : World} (h : SPost N ρ0 w0 W T R B rT rR s e w') (hE : ∀ R, Ev R ρ w ρ0 w0) : SPost N ρ w W T R B rT rR s e w' := by
  obtain ⟨h1, ρ', gs', h2, h3, h4, h5, h6⟩ := h
  exact ⟨h1, ρ', gs', h2, h3, h4, h5, (hE _).trans h6⟩
theorem groups_any (N : Nat) (ρ : Nat → Nat) (w : World) (W T R B rT rR s : Nat) (gs : Nat → List Int) (k i : Int) (x : Nat → Value) (m : Bool) (ao : Option Addr) (n cap : Nat) (xs : List Int)
    (hN : N ≤ w.heap.size) (hF : Fr ρ w) (h15 : ∀ k, ρ k ≠ 15) (hW : Wd N ρ w W T R B rT rR gs) (hB : BkX N ρ w B s) (hs : s ≤ 1000000000000) (hT : 8 ≤ rT) (hT2 : rT ≤ 11) (hR : 8 ≤ rR) (hR2 : rR ≤ 11) (hne : rT ≠ rR)
    (hr : Rd w ao n xs) (hn : n ≤ 17592186044415) (hA : 0 < n → ∀ b off, ao = some ⟨b, off, none⟩ → b < N) (hρ : ∀ b, b < N → ρ b = 0) (hk : k = 1 ∨ k = 2 ∨ k = 3) :
    Calls Tryz.prog 17 #[.pointer (some ⟨W, 0, none⟩), .agg (opA k i x (.slice ao n cap) m)] w (SPost N ρ w W T R B rT rR s) := by
  rcases hk with rfl | rfl | rfl
  · exact groups_group N ρ w W T R B rT rR s gs i x m ao n cap xs hN hF h15 hW hB hs hT hT2 hR hR2 hne hr hn hA hρ
  · exact groups_hops N ρ w W T R B rT rR s gs i x _ m hN hF h15 hW hB hs hT hT2 hR hR2
  · exact groups_drop N ρ w W T R B rT rR s gs i x _ m hN hF h15 hW hB hT hT2 hR hR2 hne
set_option maxRecDepth 4000 in
set_option maxHeartbeats 2000000 in
theorem step_any (N : Nat) (ρ : Nat → Nat) (w : World) (W T R B rT rR s : Nat) (gs : Nat → List Int) (k i : Int) (x : Nat → Value) (m : Bool) (ao : Option Addr) (n cap : Nat) (xs : List Int)
    (hN : N ≤ w.heap.size) (hF : Fr ρ w) (h15 : ∀ k, ρ k ≠ 15) (hW : Wd N ρ w W T R B rT rR gs) (hB : BkX N ρ w B s) (hs : s ≤ 1000000000000) (hT : 8 ≤ rT) (hT2 : rT ≤ 11) (hR : 8 ≤ rR) (hR2 : rR ≤ 11) (hne : rT ≠ rR)
    (hr : Rd w ao n xs) (hn : n ≤ 17592186044415) (hA : 0 < n → ∀ b off, ao = some ⟨b, off, none⟩ → b < N) (hρ : ∀ b, b < N → ρ b = 0) (hk : k ≤ 3) :
    Calls Tryz.prog 12 #[.pointer (some ⟨W, 0, none⟩), .agg (opA k i x (.slice ao n cap) m)] w (SPost N ρ w W T R B rT rR s) := by
  obtain ⟨ρ0, w0, hw0, hNz, hsz, hE0, hF0, h150, hb0, hW0, hB0, hS0⟩ := boxed k i x (.slice ao n cap) m hN hF h15 hW hB hT2 hR2
  have hρ0 : ∀ b, b < N → ρ0 b = 0 := fun b hb => by rw [(hE0 (fun _ => False)).role b (by omega) (by rw [hρ b hb]; decide), hρ b hb]
  have hr0 : Rd w0 ao n xs := hr.ev (hE0 (fun _ => False)) hA hρ id
  have HE := Lib.hid hE0
  by_cases hk1 : k = 1 ∨ k = 2 ∨ k = 3
  · have HG := Lib.hid (groups_any N ρ0 w0 W T R B rT rR s gs k i x m ao n cap xs hNz hF0 h150 hW0 hB0 hs hT hT2 hR hR2 hne hr0 hn hA hρ0 hk1)
    simp only [opA] at hw0 HG
    have Hw0 := Lib.hid hw0
    clear hW hB hF h15 hE0 hF0 h150 hb0 hW0 hB0 hS0 hN hr hr0 hA hρ hρ0 hw0 hk hNz hsz
    unfold opA
    rcases hk1 with rfl | rfl | rfl
    all_goals
      go_enter Tryz.func12, Tryz.ntmps12
      go_wp2_with fail
      rw [← Hw0.out]
      refine HG.out.mono ?_
      intro e w1 hp
      have HP := Lib.hid (hp.box HE.out)
      obtain ⟨rfl, -⟩ := hp
      go_wp2
      go_ret
      exact HP.out
  · have HB := Lib.hid (hB0.more (Nat.le_succ s))
    have HW := Lib.hid hW0
    have HF := Lib.hid hF0
    have H15 := Lib.hid h150
    simp only [opA] at hw0
    have Hw0 := Lib.hid hw0
    have e1 : (k == 1) = false := ine_beq (by omega)
    have e2 : (k == 2) = false := ine_beq (by omega)
    have e3 : (k == 3) = false := ine_beq (by omega)
    have e4 : (k == 4) = false := ine_beq (by omega)
    have e5 : (k == 5) = false := ine_beq (by omega)
    have e6 : (k == 6) = false := ine_beq (by omega)
    have e7 : (k == 7) = false := ine_beq (by omega)
    have e8 : (k == 8) = false := ine_beq (by omega)
    have e9 : (k == 9) = false := ine_beq (by omega)
    have e10 : (k == 10) = false := ine_beq (by omega)
    have e11 : (k == 11) = false := ine_beq (by omega)
    have e12 : (k == 12) = false := ine_beq (by omega)
    clear hW hB hF h15 hE0 hF0 h150 hb0 hW0 hB0 hS0 hN hr hr0 hA hρ hρ0 hw0 hk hNz hsz hk1
    unfold opA
    go_enter Tryz.func12, Tryz.ntmps12
    go_wp2
    go_ret
    rw [← Hw0.out]
    exact ⟨rfl, ρ0, gs, HW.out, HB.out, HF.out, H15.out, HE.out _⟩
end Go.Proofs.YtnfkgnjeamnhfaaGreat
