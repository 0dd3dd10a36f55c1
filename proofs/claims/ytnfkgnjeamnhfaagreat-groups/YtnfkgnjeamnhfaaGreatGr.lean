import Derived.Test.YtnfkgnjeamnhfaaGreatGq
namespace Go.Proofs.YtnfkgnjeamnhfaaGreat
open Go.RowKit

/-- What a call of Group leaves, with the roles. -/
def GPost2 (N : Nat) (ρ : Nat → Nat) (w : World) (T rT o rt : Nat) (gs : Nat → List Int) (xs : List Int) (a b : Int) (w' : World) : Prop :=
  ∃ ρ' gs' f', GOut gs xs a b gs' ∧ Tb N ρ' w' T rT o rt gs' f' ∧ Fr ρ' w' ∧ ((∀ k, ρ k ≠ 15) → ∀ k, ρ' k ≠ 15) ∧ Ev (fun q => q = rT) ρ w ρ' w' ∧ (∀ k, k < w.heap.size → ρ' k = ρ k) ∧ (∀ k, k < w.heap.size → k ≠ T → w'.heap[k]? = w.heap[k]?)
theorem group_one {N : Nat} {ρ : Nat → Nat} {w : World} {T rT : Nat} {gs : Nat → List Int} {f : Nat → Value} (h : Tb N ρ w T rT 3 35 gs f) (hF : Fr ρ w) (hN : N ≤ w.heap.size) (hT : 8 ≤ rT) (hT2 : rT ≤ 11) {ao : Option Addr} {n cap : Nat} {xs : List Int} (hr : Rd w ao n xs) (hm : n ≤ maxLen) :
    Calls Tryz.prog 40 #[.pointer (some ⟨T, 0, none⟩), .slice ao n cap] w fun e w' => ∃ a b, e = .returned (.tuple #[.int .i64 a, .int .i64 b]) ∧ GPost2 N ρ w T rT 3 35 gs xs a b w' := by
  refine (group_any T f gs ao n cap xs w h.st h.Ls hr hm).mono fun e w' hp => ?_
  obtain ⟨ρ', a, b, gs', f', h1, h2, h3, h4, h5, h6⟩ := h.group hF hN (by omega) (by omega) (by omega) hp
  exact ⟨a, b, h1, ρ', gs', f', h2, h3, h4, h5, h6⟩
theorem rgroup_one {N : Nat} {ρ : Nat → Nat} {w : World} {T rT : Nat} {gs : Nat → List Int} {f : Nat → Value} (h : Tb N ρ w T rT 4 3 gs f) (hF : Fr ρ w) (hN : N ≤ w.heap.size) (hT : 8 ≤ rT) (hT2 : rT ≤ 11) {ao : Option Addr} {n cap : Nat} {xs : List Int} (hr : Rd w ao n xs) (hm : n ≤ maxLen) :
    Calls Tryz.prog 41 #[.pointer (some ⟨T, 0, none⟩), .slice ao n cap] w fun e w' => ∃ a b, e = .returned (.tuple #[.int .i64 a, .int .i64 b]) ∧ GPost2 N ρ w T rT 4 3 gs xs a b w' := by
  refine (rgroup_any T f gs ao n cap xs w h.st h.Ls hr hm).mono fun e w' hp => ?_
  obtain ⟨ρ', a, b, gs', f', h1, h2, h3, h4, h5, h6⟩ := h.group hF hN (by omega) (by omega) (by omega) hp
  exact ⟨a, b, h1, ρ', gs', f', h2, h3, h4, h5, h6⟩
theorem turn_one {N : Nat} {ρ : Nat → Nat} {w : World} {B s g : Nat} {ao : Option Addr} {n cap : Nat} {xs : List Int} (hN : N ≤ w.heap.size) (hF : Fr ρ w) (hB : BkX N ρ w B s) (hs : s ≤ 1000000000000) (hgN : N ≤ g) (hg : w.heap[g]? = some (.cells (ints (xs ++ [-7])).toArray 3 (0, 0))) (h14 : ρ g = 14) (hr : Rd w ao n xs) (hrg : 0 < n → ∀ b off, ao = some ⟨b, off, none⟩ → b ≠ g) (hn : n ≤ 17592186044415) (h15 : ∀ k, ρ k ≠ 15) :
    Calls Tryz.prog 42 #[.pointer (some ⟨B, 0, none⟩), .slice (some ⟨g, 0, none⟩) (n + 1) (n + 1), .slice ao n cap] w fun e w' => e = .returned (.bool true) ∧ ∃ ρ', BkX N ρ' w' B (s + 1) ∧ Fr ρ' w' ∧ (∀ k, ρ' k ≠ 15) ∧ Ev (fun q => q = 1 ∨ q = 4 ∨ q = 5) ρ w ρ' w' := by
  obtain ⟨mark, vI, vM, vH, vU, L, K, h1, h2, h3, h4, h5⟩ := hB
  refine (turn_any N ρ w B mark vI vM vH vU L K g ao n cap xs hN hF h1 hgN hg h14 hr hrg hn (by omega)).mono ?_
  rintro e w' ⟨rfl, ρ', vH', vU', p, k1, k2, k3, k4⟩
  exact ⟨rfl, ρ', ⟨_, _, _, _, _, _, _, k1, by omega, by simp; omega, by omega, h5⟩, k2, k3 h15, k4⟩
theorem Ev.same {Q : Nat → Prop} {ρ ρ' : Nat → Nat} {w w1 w' : World} (h : Ev Q ρ w1 ρ' w') (h1 : Below w.heap.size w w1) : Ev Q ρ w ρ' w' := (Ev.of_below ρ h1).trans h
theorem group_fin {N : Nat} {ρ ρ0 ρ2 ρ3 : Nat → Nat} {w w0 w1 w2 w3 w4 : World} {W T R B rT rR s : Nat} {gs gs' : Nat → List Int} {f1 f2 : Nat → Value} (hE : ∀ R, Ev R ρ w ρ0 w0) (hW : Wd N ρ0 w0 W T R B rT rR gs) (hb1 : Below w0.heap.size w0 w1)
    (e1 : Ev (fun q => q = rT) ρ0 w1 ρ2 w2) (e2 : Ev (fun q => q = rR) ρ2 w2 ρ3 w3) (h1 : Tb N ρ2 w2 T rT 3 35 gs' f1) (h2 : Tb N ρ3 w3 R rR 4 3 gs' f2)
    (hK : ∃ ρ', BkX N ρ' w4 B (s + 1) ∧ Fr ρ' w4 ∧ (∀ k, ρ' k ≠ 15) ∧ Ev (fun q => q = 1 ∨ q = 4 ∨ q = 5) ρ3 w3 ρ' w4) (hT : 8 ≤ rT) (hT2 : rT ≤ 11) (hR : 8 ≤ rR) (hR2 : rR ≤ 11) (hne : rT ≠ rR) : SPost N ρ w W T R B rT rR s (.returned (.bool true)) w4 := by
  obtain ⟨ρ', k1, k2, k3, k4⟩ := hK
  have e3 : Ev (fun q => q = rT ∨ q = rR ∨ (1 ≤ q ∧ q ≤ 5)) ρ0 w0 ρ' w4 := (((e1.mono fun _ h => .inl h).same hb1).trans (e2.mono fun _ h => .inr (.inl h))).trans (k4.mono fun _ h => by omega)
  have hlt := hW.st.lt (by decide)
  refine ⟨rfl, ρ', gs', ⟨by rw [e3.role W hlt (by rw [hW.role]; decide), hW.role], hW.st.ev (by decide) e3 (by rw [hW.role]; omega) (by rw [hW.role]; decide), ⟨f1, (h1.ev e2 hne (by omega) (by omega)).ev k4 (by omega) (by omega) (by omega)⟩, ⟨f2, h2.ev k4 (by omega) (by omega) (by omega)⟩⟩, k1, k2, k3, (hE _).trans e3⟩
theorem Rd.take {w : World} {g n : Nat} {xs : List Int} (h : w.heap[g]? = some (.cells (ints (xs ++ [-7])).toArray 3 (0, 0))) (hl : xs.length = n) (hm : n + 1 ≤ maxLen) : Rd w (some ⟨g, 0, none⟩) n xs := by
  have h1 := own_rd (full_own (base := 0) (n := n + 1) h (Nat.zero_le _) (by simp [hl]) hm) (by simp [hl])
  refine ⟨hl, .inr ⟨g, 0, rfl, fun j x hx => ?_⟩⟩
  have hj : j < xs.length := (List.getElem?_eq_some_iff.1 hx).1
  rcases h1.2 with h0 | ⟨b, off, hb, hc⟩
  · omega
  · simp only [Option.some.injEq, Addr.mk.injEq, and_true] at hb
    obtain ⟨rfl, rfl⟩ := hb
    exact hc j x (by rw [List.getElem?_append_left hj]; exact hx)
theorem Rd.ev {Q : Nat → Prop} {N : Nat} {ρ ρ' : Nat → Nat} {w w' : World} {ao : Option Addr} {n : Nat} {xs : List Int} (h : Rd w ao n xs) (he : Ev Q ρ w ρ' w') (hA : 0 < n → ∀ b off, ao = some ⟨b, off, none⟩ → b < N) (hρ : ∀ b, b < N → ρ b = 0) (hQ : ¬ Q 0) : Rd w' ao n xs := by
  rcases Nat.eq_zero_or_pos n with h0 | h0
  · exact ⟨h.1, .inl h0⟩
  · exact h.same fun b off e hlt => he.block b hlt (by rw [hρ b (hA h0 b off e)]; decide) (by rw [hρ b (hA h0 b off e)]; exact hQ)
theorem turn_drew {N : Nat} {ρ : Nat → Nat} {w w' : World} {B s : Nat} (h : ∃ ρ', BkX N ρ' w' B (s + 1) ∧ Fr ρ' w' ∧ (∀ k, ρ' k ≠ 15) ∧ Ev (fun q => q = 1 ∨ q = 4 ∨ q = 5) ρ w.drew ρ' w') : ∃ ρ', BkX N ρ' w' B (s + 1) ∧ Fr ρ' w' ∧ (∀ k, ρ' k ≠ 15) ∧ Ev (fun q => q = 1 ∨ q = 4 ∨ q = 5) ρ w ρ' w' := by
  obtain ⟨ρ', h1, h2, h3, h5⟩ := h
  exact ⟨ρ', h1, h2, h3, ⟨h5.os, h5.tape, h5.output, h5.size, h5.role, h5.block⟩⟩
theorem GPost2.drew {N : Nat} {ρ : Nat → Nat} {w : World} {T rT o rt : Nat} {gs : Nat → List Int} {xs : List Int} {a b : Int} {w' : World} (h : GPost2 N ρ w.drew T rT o rt gs xs a b w') : GPost2 N ρ w T rT o rt gs xs a b w' := by
  obtain ⟨ρ', gs', f', h1, h2, h3, h4, h5, h6, h7⟩ := h
  exact ⟨ρ', gs', f', h1, h2, h3, h4, ⟨h5.os, h5.tape, h5.output, h5.size, h5.role, h5.block⟩, h6, h7⟩
end Go.Proofs.YtnfkgnjeamnhfaaGreat
