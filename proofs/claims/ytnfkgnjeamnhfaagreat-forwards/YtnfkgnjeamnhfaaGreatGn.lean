import Derived.Test.YtnfkgnjeamnhfaaGreatGk
import Derived.Test.YtnfkgnjeamnhfaaGreatGm
namespace Go.Proofs.YtnfkgnjeamnhfaaGreat
open Go.RowKit

abbrev ptr (b : Nat) : Value := .pointer (some ⟨b, 0, none⟩)
def wF (T R B : Nat) : Nat → Value
  | 0 => ptr T
  | 1 => ptr R
  | _ => ptr B
/-- A table of the program's and one of the document's, with the same groups. -/
structure Wd (N : Nat) (ρ : Nat → Nat) (w : World) (W T R B rT rR : Nat) (gs : Nat → List Int) : Prop where
  role : ρ W = 12
  st : St w W 3 (wF T R B)
  t : ∃ f, Tb N ρ w T rT 3 35 gs f
  r : ∃ f, Tb N ρ w R rR 4 3 gs f
theorem Wd.ev {Q : Nat → Prop} {N : Nat} {ρ ρ' : Nat → Nat} {w w' : World} {W T R B rT rR : Nat} {gs : Nat → List Int} (h : Wd N ρ w W T R B rT rR gs) (he : Ev Q ρ w ρ' w') (h12 : ¬ Q 12) (h7 : ¬ Q 7) (hT : ¬ Q rT) (hR : ¬ Q rR) (hT14 : rT ≠ 14) (hR14 : rR ≠ 14) : Wd N ρ' w' W T R B rT rR gs := by
  obtain ⟨f, hf⟩ := h.t
  obtain ⟨g, hg⟩ := h.r
  have hlt := h.st.lt (by decide)
  exact ⟨by rw [he.role W hlt (by rw [h.role]; decide), h.role], h.st.ev (by decide) he (by rw [h.role]; exact h12) (by rw [h.role]; decide), ⟨f, hf.ev he hT hT14 h7⟩, ⟨g, hg.ev he hR hR14 h7⟩⟩
/-- The book behind s steps. -/
def BkX (N : Nat) (ρ : Nat → Nat) (w : World) (B s : Nat) : Prop := ∃ mark vI vM vH vU L K, Bk N ρ w B mark vI vM vH vU L K ∧ L.length ≤ 4 * s ∧ K.length ≤ s ∧ -1000 - (s : Int) ≤ mark ∧ mark ≤ 0
theorem BkX.ev {Q : Nat → Prop} {N : Nat} {ρ ρ' : Nat → Nat} {w w' : World} {B s : Nat} (h : BkX N ρ w B s) (he : Ev Q ρ w ρ' w') (hr : ∀ r, 1 ≤ r → r ≤ 7 → ¬ Q r) : BkX N ρ' w' B s := by
  obtain ⟨mark, vI, vM, vH, vU, L, K, h1, h2⟩ := h
  exact ⟨mark, vI, vM, vH, vU, L, K, h1.ev he hr, h2⟩
theorem BkX.more {N : Nat} {ρ : Nat → Nat} {w : World} {B s s' : Nat} (h : BkX N ρ w B s) (hs : s ≤ s') : BkX N ρ w B s' := by
  obtain ⟨mark, vI, vM, vH, vU, L, K, h1, h2, h3, h4, h5⟩ := h
  exact ⟨mark, vI, vM, vH, vU, L, K, h1, by omega, by omega, by omega, h5⟩

/-- What Hops answers. -/
def hopsOf (gs : Nat → List Int) (g : Int) : List Int := if hasB gs g then gs g.toNat else []
def codeOf (gs : Nat → List Int) (g : Int) : Int := if hasB gs g then 0 else 7
theorem hops_one {N : Nat} {ρ : Nat → Nat} {w : World} {T rT : Nat} {gs : Nat → List Int} {f : Nat → Value} (h : Tb N ρ w T rT 3 35 gs f) (hN : N ≤ w.heap.size) (g : Int) :
    Calls Tryz.prog 43 #[.pointer (some ⟨T, 0, none⟩), .int .i64 g] w fun e w' => ∃ ao n cap, e = .returned (.tuple #[.slice ao n cap, .int .i64 (codeOf gs g)]) ∧ n = (hopsOf gs g).length ∧ w'.ownsRow N 3 1 (.slice ao n cap) n (ints (hopsOf gs g)) ∧ (∀ b, (Value.slice ao n cap).ownBlock = some b → w.heap.size ≤ b) ∧ Below w.heap.size w w' := by
  refine (hops_any T f gs g w h.st h.Ls).mono ?_
  rintro e w' (⟨h1, rfl, h3⟩ | ⟨h1, b, c, rfl, h3, h4, h5, h6⟩)
  · simp only [codeOf, hopsOf, h1]
    exact ⟨none, 0, 0, rfl, rfl, World.ownsRow_nil _ _ _ _, fun b hb => by simp [Value.ownBlock] at hb, h3⟩
  · simp only [codeOf, hopsOf, h1, if_true]
    refine ⟨_, _, _, rfl, rfl, ⟨h5.1, ?_⟩, fun b' hb => by simp [Value.ownBlock] at hb; omega, h6⟩
    rcases h5.2 with ⟨h', _⟩ | ⟨g', cap', cur, hv, hb, rest⟩
    · cases h'
    · exact .inr ⟨g', cap', cur, hv, by omega, rest⟩
theorem hopsOf_le {N : Nat} {ρ : Nat → Nat} {w : World} {T rT o rt : Nat} {gs : Nat → List Int} {f : Nat → Value} (h : Tb N ρ w T rT o rt gs f) (g : Int) : (hopsOf gs g).length ≤ 8 := by
  unfold hopsOf
  split
  · rename_i hg
    obtain ⟨k, rfl, hk, _⟩ := hasB_some hg
    rw [Int.toNat_natCast]; exact (h.ls k hk).2
  · simp
theorem rhops_one {N : Nat} {ρ : Nat → Nat} {w : World} {T rT : Nat} {gs : Nat → List Int} {f : Nat → Value} (h : Tb N ρ w T rT 4 3 gs f) (g : Int) :
    Calls Tryz.prog 44 #[.pointer (some ⟨T, 0, none⟩), .int .i64 g] w fun e w' => ∃ ao n cap, e = .returned (.tuple #[.slice ao n cap, .int .i64 (codeOf gs g)]) ∧ n = (hopsOf gs g).length ∧ Rd w ao n (hopsOf gs g) ∧ w' = w := by
  refine (rhops_any T f gs g w h.st h.Ls).mono ?_
  rintro e w' ⟨⟨h1, rfl⟩ | ⟨h1, rfl⟩, rfl⟩
  · simp only [codeOf, hopsOf, h1]
    exact ⟨none, 0, 0, rfl, rfl, ⟨rfl, .inl rfl⟩, trivial⟩
  · simp only [codeOf, hopsOf, h1, if_true]
    obtain ⟨k, rfl, hk, _⟩ := hasB_some h1
    rw [Int.toNat_natCast]
    obtain ⟨ao, cap, h2, h3, _⟩ := (h.ls k hk).1.rd
    rw [h2]
    exact ⟨ao, _, cap, rfl, rfl, h3, trivial⟩
theorem own_rd {w : World} {N : Nat} {ao : Option Addr} {n cap : Nat} {xs : List Int} (h : w.ownsRow N 3 1 (.slice ao n cap) n (ints xs)) (hn : n = xs.length) : Rd w ao n xs := by
  have := Own.rd (N := N) (ρ := fun _ => 0) (w := w) (r := 0) (v := .slice ao n cap) (xs := xs) ⟨by rw [← hn]; exact h, fun _ _ => rfl⟩
  obtain ⟨ao', cap', h1, h2, _⟩ := this
  simp at h1
  rw [h1.1, hn]; exact h2

/-- An Op's cells. -/
def opA (k n : Int) (x : Nat → Value) (h : Value) (m : Bool) : Array Value := #[.int .i64 k, .int .i64 n, x 2, x 3, x 4, x 5, x 6, x 7, x 8, x 9, x 10, x 11, h, x 13, x 14, .bool m]
/-- A box of the call's own. -/
theorem box_ev {ρ : Nat → Nat} {w : World} (hF : Fr ρ w) (h15 : ∀ k, ρ k ≠ 15) (o : Obj) : ∃ ρ', (∀ R, Ev R ρ w ρ' (w.alloc o)) ∧ Fr ρ' (w.alloc o) ∧ ρ' w.heap.size = 13 ∧ (∀ k, ρ' k ≠ 15) := by
  have hal : Below w.heap.size w (w.alloc o) := (Below.refl _ _).alloc (Nat.le_refl _) _
  refine ⟨YtnfkgnjeamnhfaaGreat.rl ρ w.heap.size 13, fun R => (Ev.of_below ρ hal).trans (Ev.rl _ 13 (.inl (hF _ (Nat.le_refl _)))), (hF.grow hal.size).rl (by simp) 13, rl_same _ _ _, fun k => ?_⟩
  unfold YtnfkgnjeamnhfaaGreat.rl; split
  · decide
  · exact h15 k
end Go.Proofs.YtnfkgnjeamnhfaaGreat
