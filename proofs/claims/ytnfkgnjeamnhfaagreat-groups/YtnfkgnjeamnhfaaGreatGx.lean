import Derived.Test.YtnfkgnjeamnhfaaGreatGw
namespace Go.Proofs.YtnfkgnjeamnhfaaGreat
open Go.RowKit

/-- A step of a script, as it lies in memory. -/
def OpAt (N : Nat) (w : World) (b off : Nat) (k i : Int) (x : Nat → Value) (ao : Option Addr) (n cap : Nat) (m : Bool) (xs : List Int) : Prop :=
  b < N ∧ (∀ j, j < 16 → w.cell? ⟨b, off + j, none⟩ = some ((opA k i x (.slice ao n cap) m).getD j undef)) ∧ Rd w ao n xs ∧ n ≤ 17592186044415 ∧ (0 < n → ∀ b off, ao = some ⟨b, off, none⟩ → b < N)
def Script (N : Nat) (w : World) (so : Option Addr) (z : Nat) : Prop := ∀ q, q < z → ∃ b off k i x ao n cap m xs, so = some ⟨b, off, none⟩ ∧ OpAt N w b (off + q * 16) k i x ao n cap m xs
theorem OpAt.ev {N : Nat} {ρ ρ' : Nat → Nat} {w w' : World} {b off : Nat} {k i : Int} {x : Nat → Value} {ao : Option Addr} {n cap : Nat} {m : Bool} {xs : List Int} (h : OpAt N w b off k i x ao n cap m xs) (hN : N ≤ w.heap.size) (he : Ev (fun q => 1 ≤ q) ρ w ρ' w') (hρ : ∀ b, b < N → ρ b = 0) : OpAt N w' b off k i x ao n cap m xs :=
  ⟨h.1, fun j hj => (he.cell (off + j) (Nat.lt_of_lt_of_le h.1 hN) (by rw [hρ b h.1]; decide) (by rw [hρ b h.1]; decide)).trans (h.2.1 j hj), h.2.2.1.ev he h.2.2.2.2 hρ (by decide), h.2.2.2⟩
theorem Two.more {N : Nat} {ρ : Nat → Nat} {w : World} {W V B s s' : Nat} {w' : World} (h : Two N ρ w W V B s w') (hs : s ≤ s') : Two N ρ w W V B s' w' := by
  obtain ⟨T, R, T', R', ρ', gs, gs', h1, h2, h3, h4⟩ := h
  exact ⟨T, R, T', R', ρ', gs, gs', h1, h2, h3.more hs, h4⟩
theorem Two.below {N : Nat} {ρ : Nat → Nat} {w : World} {W V B s : Nat} {w1 w2 : World} (h : Two N ρ w W V B s w1) (hb : Below w1.heap.size w1 w2) : Two N ρ w W V B s w2 := by
  obtain ⟨T, R, T', R', ρ', gs, gs', h1, h2, h3, h4, h5, h6⟩ := h
  exact ⟨T, R, T', R', ρ', gs, gs', h1.ev (Ev.of_below (R := fun _ => False) ρ' hb) id id id id (by decide) (by decide), h2.ev (Ev.of_below (R := fun _ => False) ρ' hb) id id id id (by decide) (by decide), h3.ev (Ev.of_below (R := fun _ => False) ρ' hb) (fun _ _ _ => id), h4.grow hb.size, h5, h6.trans (Ev.of_below ρ' hb)⟩
theorem Two.one {N : Nat} {ρ ρ1 : Nat → Nat} {w w1 : World} {W V B s s' T R T' R' : Nat} {gs' : Nat → List Int} {w2 : World} (hv : Wd N ρ1 w1 V T' R' B 10 11 gs') (he : Ev (fun q => 1 ≤ q) ρ w ρ1 w1) (h : Then N ρ1 w1 W T R B 8 9 s' w2) (_ : s = s') : Two N ρ w W V B s w2 := by
  subst_vars
  obtain ⟨ρ2, gs2, a1, a2, a3, a4, a5⟩ := h
  exact ⟨T, R, T', R', ρ2, gs2, gs', a1, hv.ev a5 (by decide) (by decide) (by decide) (by decide) (by decide) (by decide), a2, a3, a4, he.trans (a5.mono fun q h => by omega)⟩
theorem Two.other {N : Nat} {ρ ρ1 : Nat → Nat} {w w1 : World} {W V B s s' T R T' R' : Nat} {gs : Nat → List Int} {w2 : World} (hv : Wd N ρ1 w1 W T R B 8 9 gs) (he : Ev (fun q => 1 ≤ q) ρ w ρ1 w1) (h : Then N ρ1 w1 V T' R' B 10 11 s' w2) (_ : s = s') : Two N ρ w W V B s w2 := by
  subst_vars
  obtain ⟨ρ2, gs2, a1, a2, a3, a4, a5⟩ := h
  exact ⟨T, R, T', R', ρ2, gs, gs2, hv.ev a5 (by decide) (by decide) (by decide) (by decide) (by decide) (by decide), a1, a2, a3, a4, he.trans (a5.mono fun q h => by omega)⟩
/-- The step on either table, and what is looked up behind it. -/
theorem Two.step {N : Nat} {ρ : Nat → Nat} {w : World} {W V B s : Nat} {w1 : World} (h : Two N ρ w W V B s w1) (hN : N ≤ w.heap.size) (hs : s ≤ 1000000000000) (hρ : ∀ b, b < N → ρ b = 0) {b off : Nat} {k i : Int} {x : Nat → Value} {ao : Option Addr} {n cap : Nat} {m : Bool} {xs : List Int} (ho : OpAt N w b off k i x ao n cap m xs) (hk : k ≤ 3) :
    Calls Tryz.prog 12 #[.pointer (some ⟨W, 0, none⟩), .agg (opA k i x (.slice ao n cap) m)] w1 (fun e w2 => e = .returned (.bool true) ∧ Two N ρ w W V B (s + 1) w2) ∧
    Calls Tryz.prog 12 #[.pointer (some ⟨V, 0, none⟩), .agg (opA k i x (.slice ao n cap) m)] w1 (fun e w2 => e = .returned (.bool true) ∧ Two N ρ w W V B (s + 1) w2) := by
  obtain ⟨T, R, T', R', ρ1, gs, gs', h1, h2, h3, h4, h5, h6⟩ := h
  have ho1 := ho.ev hN h6 hρ
  have hρ1 : ∀ b, b < N → ρ1 b = 0 := fun b hb => by rw [h6.role b (by omega) (by rw [hρ b hb]; decide), hρ b hb]
  have hN1 := Nat.le_trans hN h6.size
  exact ⟨(step_any N ρ1 w1 W T R B 8 9 s gs k i x m ao n cap xs hN1 h4 h5 h1 h3 hs (by decide) (by decide) (by decide) (by decide) (by decide) ho1.2.2.1 ho1.2.2.2.1 ho1.2.2.2.2 hρ1 hk).mono fun e w2 hp => ⟨hp.1, Two.one h2 h6 hp.2 rfl⟩,
    (step_any N ρ1 w1 V T' R' B 10 11 s gs' k i x m ao n cap xs hN1 h4 h5 h2 h3 hs (by decide) (by decide) (by decide) (by decide) (by decide) ho1.2.2.1 ho1.2.2.2.1 ho1.2.2.2.2 hρ1 hk).mono fun e w2 hp => ⟨hp.1, Two.other h1 h6 hp.2 rfl⟩⟩
theorem Two.looks {N : Nat} {ρ : Nat → Nat} {w : World} {W V B s : Nat} {w1 : World} (h : Two N ρ w W V B s w1) (hs : s ≤ 1000000000000) : Calls Tryz.prog 14 #[.pointer (some ⟨B, 0, none⟩)] w1 fun e w2 => e = .returned (.bool true) ∧ Two N ρ w W V B s w2 := by
  obtain ⟨T, R, T', R', ρ1, gs, gs', h1, h2, h3, h4⟩ := id h
  refine (looks_one h3 hs).mono ?_
  rintro e w2 ⟨rfl, d, rfl⟩
  exact ⟨rfl, h.below (below_drewN _ _)⟩
theorem Two.ends {N : Nat} {ρ : Nat → Nat} {w : World} {W V B s : Nat} {w1 : World} (h : Two N ρ w W V B s w1) (hN : N ≤ w.heap.size) (hs : s + 32 ≤ 1000000000000) :
    Calls Tryz.prog 15 #[.pointer (some ⟨W, 0, none⟩), .int .i64 3] w1 (fun e w2 => e = .returned (.bool true) ∧ Two N ρ w W V B (s + 32) w2) ∧
    Calls Tryz.prog 15 #[.pointer (some ⟨V, 0, none⟩), .int .i64 3] w1 (fun e w2 => e = .returned (.bool true) ∧ Two N ρ w W V B (s + 32) w2) := by
  obtain ⟨T, R, T', R', ρ1, gs, gs', h1, h2, h3, h4, h5, h6⟩ := h
  have hN1 := Nat.le_trans hN h6.size
  exact ⟨(ends_any N ρ1 w1 W T R B 8 9 s gs hN1 h4 h5 h1 h3 hs (by decide) (by decide) (by decide) (by decide)).mono fun e w2 hp => ⟨hp.1, Two.one h2 h6 hp.2 rfl⟩,
    (ends_any N ρ1 w1 V T' R' B 10 11 s gs' hN1 h4 h5 h2 h3 hs (by decide) (by decide) (by decide) (by decide)).mono fun e w2 hp => ⟨hp.1, Two.other h1 h6 hp.2 rfl⟩⟩
theorem Two.cell {N : Nat} {ρ : Nat → Nat} {w : World} {W V B s : Nat} {w1 : World} (h : Two N ρ w W V B s w1) : w1.cell? ⟨W, 2, none⟩ = some (.pointer (some ⟨B, 0, none⟩)) := by
  obtain ⟨T, R, T', R', ρ1, gs, gs', h1, _⟩ := h
  exact (h1.st 2 (by decide)).1
end Go.Proofs.YtnfkgnjeamnhfaaGreat
