import Derived.Test.YteocfjiijmdjcaaGreatWk
import Derived.Test.YteocfjiijmdjcaaGreatWm
namespace Go.Proofs.YteocfjiijmdjcaaGreat
open Go.RowKit

/-- A step of a script, as it lies in memory. -/
def OpAtq (N : Nat) (w : World) (b off : Nat) (k i : Int) (x : Nat → Value) (ao : Option Addr) (n cap : Nat) (m : Bool) : Prop :=
  b < N ∧ (∀ j, j < 16 → w.cell? ⟨b, off + j, none⟩ = some ((opA k i x (.slice ao n cap) m).getD j undef)) ∧ Opq N w x ao n
def Scriptq (N : Nat) (w : World) (so : Option Addr) (z : Nat) : Prop := ∀ q, q < z → ∃ b off k i x ao n cap m, so = some ⟨b, off, none⟩ ∧ OpAtq N w b (off + q * 16) k i x ao n cap m
theorem OpAtq.ev {N : Nat} {ρ ρ' : Nat → Nat} {w w' : World} {b off : Nat} {k i : Int} {x : Nat → Value} {ao : Option Addr} {n cap : Nat} {m : Bool} (h : OpAtq N w b off k i x ao n cap m) (hN : N ≤ w.heap.size) (he : Ev (fun q => 1 ≤ q) ρ w ρ' w') (hρ : ∀ b, b < N → ρ b = 0) : OpAtq N w' b off k i x ao n cap m :=
  ⟨h.1, fun j hj => (evc he (off + j) (Nat.lt_of_lt_of_le h.1 hN) (by rw [hρ b h.1]; decide) (by rw [hρ b h.1]; decide)).trans (h.2.1 j hj), h.2.2.ev he hρ (by decide)⟩
theorem Twoq.more {N : Nat} {ρ : Nat → Nat} {w : World} {W V B s s' : Nat} {l l' : Int} {w' : World} (h : Twoq N ρ w W V B l l' s w') (hs : s ≤ s') : Twoq N ρ w W V B l l' s' w' := by
  obtain ⟨T, R, T', R', ρ', gs, gs', cs, cs', rs, rs', h1, h2, h3, h4⟩ := h
  exact ⟨T, R, T', R', ρ', gs, gs', cs, cs', rs, rs', h1, h2, h3.more hs, h4⟩
theorem Twoq.below {N : Nat} {ρ : Nat → Nat} {w : World} {W V B s : Nat} {l l' : Int} {w1 w2 : World} (h : Twoq N ρ w W V B l l' s w1) (hb : Below w1.heap.size w1 w2) : Twoq N ρ w W V B l l' s w2 := by
  obtain ⟨T, R, T', R', ρ', gs, gs', cs, cs', rs, rs', h1, h2, h3, h4, h5, h6⟩ := h
  exact ⟨T, R, T', R', ρ', gs, gs', cs, cs', rs, rs', h1.ev (Ev.of_below (R := fun _ => False) ρ' hb) id id id id id id (by decide) (by decide) (by decide) (by decide), h2.ev (Ev.of_below (R := fun _ => False) ρ' hb) id id id id id id (by decide) (by decide) (by decide) (by decide), h3.ev (Ev.of_below (R := fun _ => False) ρ' hb) (fun _ _ => id), h4.grow hb.size, h5, h6.trans (Ev.of_below ρ' hb)⟩
theorem Twoq.one {N : Nat} {ρ ρ1 : Nat → Nat} {w w1 : World} {W V B s s' T R T' R' : Nat} {l l' : Int} {gs' : Nat → List Int} {cs' rs' : List Rt} {w2 : World} (hv : Wq N ρ1 w1 V T' R' B 10 11 gs' cs' rs' l') (he : Ev (fun q => 1 ≤ q) ρ w ρ1 w1) (h : Thenq N ρ1 w1 W T R B 8 9 l s' w2) (_ : s = s') : Twoq N ρ w W V B l l' s w2 := by
  subst_vars
  obtain ⟨ρ2, gs2, cs2, rs2, a1, a2, a3, a4, a5⟩ := h
  exact ⟨T, R, T', R', ρ2, gs2, gs', cs2, cs', rs2, rs', a1, hv.ev a5 (by unfold stR; omega) (by unfold stR; omega) (by unfold stR; omega) (by unfold stR; omega) (by unfold stR; omega) (by unfold stR; omega) (by decide) (by decide) (by decide) (by decide), a2, a3, a4, he.trans (a5.mono fun q h => by unfold stR at h; omega)⟩
theorem Twoq.other {N : Nat} {ρ ρ1 : Nat → Nat} {w w1 : World} {W V B s s' T R T' R' : Nat} {l l' : Int} {gs : Nat → List Int} {cs rs : List Rt} {w2 : World} (hv : Wq N ρ1 w1 W T R B 8 9 gs cs rs l) (he : Ev (fun q => 1 ≤ q) ρ w ρ1 w1) (h : Thenq N ρ1 w1 V T' R' B 10 11 l' s' w2) (_ : s = s') : Twoq N ρ w W V B l l' s w2 := by
  subst_vars
  obtain ⟨ρ2, gs2, cs2, rs2, a1, a2, a3, a4, a5⟩ := h
  exact ⟨T, R, T', R', ρ2, gs, gs2, cs, cs2, rs, rs2, hv.ev a5 (by unfold stR; omega) (by unfold stR; omega) (by unfold stR; omega) (by unfold stR; omega) (by unfold stR; omega) (by unfold stR; omega) (by decide) (by decide) (by decide) (by decide), a1, a2, a3, a4, he.trans (a5.mono fun q h => by unfold stR at h; omega)⟩
theorem Thenq.step {N : Nat} {ρ : Nat → Nat} {w : World} {W T R B rT rR s : Nat} {lim : Int} {e : Ending} {w2 : World} (h : SPq N ρ w W T R B rT rR lim s e w2) : Thenq N ρ w W T R B rT rR lim (s + 1) w2 := Thenq.of (Ev.refl _ _ _) h
/-- The step on either table, and what is looked up behind it. -/
theorem Twoq.step {N : Nat} {ρ : Nat → Nat} {w : World} {W V B s : Nat} {l l' : Int} {w1 : World} (h : Twoq N ρ w W V B l l' s w1) (hN : N ≤ w.heap.size) (hs : s ≤ 1000000000000) (hρ : ∀ b, b < N → ρ b = 0) {b off : Nat} {k i : Int} {x : Nat → Value} {ao : Option Addr} {n cap : Nat} {m : Bool} (ho : OpAtq N w b off k i x ao n cap m) (hk : k ≤ 7) :
    Calls Tryz.prog 9 #[.pointer (some ⟨W, 0, none⟩), .agg (opA k i x (.slice ao n cap) m)] w1 (fun e w2 => e = .returned (.bool true) ∧ Twoq N ρ w W V B l l' (s + 1) w2) ∧
    Calls Tryz.prog 9 #[.pointer (some ⟨V, 0, none⟩), .agg (opA k i x (.slice ao n cap) m)] w1 (fun e w2 => e = .returned (.bool true) ∧ Twoq N ρ w W V B l l' (s + 1) w2) := by
  obtain ⟨T, R, T', R', ρ1, gs, gs', cs, cs', rs, rs', h1, h2, h3, h4, h5, h6⟩ := h
  have ho1 := ho.ev hN h6 hρ
  have hρ1 : ∀ b, b < N → ρ1 b = 0 := fun b hb => by rw [h6.role b (by omega) (by rw [hρ b hb]; decide), hρ b hb]
  have hN1 := Nat.le_trans hN h6.size
  exact ⟨(stepq_any N ρ1 w1 W T R B 8 9 s gs cs rs l k i x m ao n cap hN1 h4 h5 h1 h3 hs (by decide) (by decide) (by decide) (by decide) (by decide) ho1.2.2 hρ1 hk).mono fun e w2 hp => ⟨hp.1, Twoq.one h2 h6 (Thenq.step hp) rfl⟩,
    (stepq_any N ρ1 w1 V T' R' B 10 11 s gs' cs' rs' l' k i x m ao n cap hN1 h4 h5 h2 h3 hs (by decide) (by decide) (by decide) (by decide) (by decide) ho1.2.2 hρ1 hk).mono fun e w2 hp => ⟨hp.1, Twoq.other h1 h6 (Thenq.step hp) rfl⟩⟩
theorem Twoq.looks {N : Nat} {ρ : Nat → Nat} {w : World} {W V B s : Nat} {l l' : Int} {w1 : World} (h : Twoq N ρ w W V B l l' s w1) (hs : s ≤ 1000000000000) : Calls Tryz.prog 10 #[.pointer (some ⟨B, 0, none⟩)] w1 fun e w2 => e = .returned (.bool true) ∧ Twoq N ρ w W V B l l' s w2 := by
  obtain ⟨T, R, T', R', ρ', gs, gs', cs, cs', rs, rs', h1, h2, h3, h4⟩ := id h
  refine (h3.looks hs).mono ?_
  rintro e w2 ⟨rfl, hb⟩
  exact ⟨rfl, h.below hb⟩
theorem Twoq.ends {N : Nat} {ρ : Nat → Nat} {w : World} {W V B s : Nat} {l l' : Int} {w1 : World} (h : Twoq N ρ w W V B l l' s w1) (hN : N ≤ w.heap.size) (hs : s + 34 ≤ 1000000000000) :
    Calls Tryz.prog 11 #[.pointer (some ⟨W, 0, none⟩), .int .i64 7] w1 (fun e w2 => e = .returned (.bool true) ∧ Twoq N ρ w W V B l l' (s + 34) w2) ∧
    Calls Tryz.prog 11 #[.pointer (some ⟨V, 0, none⟩), .int .i64 7] w1 (fun e w2 => e = .returned (.bool true) ∧ Twoq N ρ w W V B l l' (s + 34) w2) := by
  obtain ⟨T, R, T', R', ρ1, gs, gs', cs, cs', rs, rs', h1, h2, h3, h4, h5, h6⟩ := h
  have hN1 := Nat.le_trans hN h6.size
  exact ⟨(endsq_any N ρ1 w1 W T R B 8 9 s gs cs rs l hN1 h4 h5 h1 h3 hs (by decide) (by decide) (by decide) (by decide)).mono fun e w2 hp => ⟨hp.1, Twoq.one h2 h6 hp.2 rfl⟩,
    (endsq_any N ρ1 w1 V T' R' B 10 11 s gs' cs' rs' l' hN1 h4 h5 h2 h3 hs (by decide) (by decide) (by decide) (by decide)).mono fun e w2 hp => ⟨hp.1, Twoq.other h1 h6 hp.2 rfl⟩⟩
theorem Twoq.cell {N : Nat} {ρ : Nat → Nat} {w : World} {W V B s : Nat} {l l' : Int} {w1 : World} (h : Twoq N ρ w W V B l l' s w1) : w1.cell? ⟨W, 2, none⟩ = some (.pointer (some ⟨B, 0, none⟩)) := by
  obtain ⟨T, R, T', R', ρ1, gs, gs', cs, cs', rs, rs', h1, _⟩ := h
  exact (h1.st 2 (by decide)).1
theorem Twoq.evs {N : Nat} {ρ : Nat → Nat} {w : World} {W V B s : Nat} {l l' : Int} {w1 : World} (h : Twoq N ρ w W V B l l' s w1) : ∃ ρ', Ev (fun q => 1 ≤ q) ρ w ρ' w1 := by
  obtain ⟨T, R, T', R', ρ1, gs, gs', cs, cs', rs, rs', _, _, _, _, _, h6⟩ := h
  exact ⟨ρ1, h6⟩
end Go.Proofs.YteocfjiijmdjcaaGreat
