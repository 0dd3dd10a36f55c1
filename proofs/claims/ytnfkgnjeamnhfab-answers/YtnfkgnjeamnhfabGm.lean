import Derived.Test.YtnfkgnjeamnhfabGi
namespace Go.Proofs.Ytnfkgnjeamnhfab
open Go.RowKit

theorem own_cell {N : Nat} {ρ : Nat → Nat} {w : World} {r e : Nat} {v : Value} {n : Nat} {xs : List Value} (h : Own N ρ w r e v n xs) {j : Nat} {u : Value} (hj : xs[j]? = some u) : ∃ g cap, v = .slice (some ⟨g, 0, none⟩) n cap ∧ w.cell? ⟨g, j, none⟩ = some u := by
  have hl := h.1.1
  have hlt := (List.getElem?_eq_some_iff.1 hj).1
  obtain ⟨g, cap, rfl, -, -⟩ := h.1.form (by omega)
  refine ⟨g, cap, rfl, ?_⟩
  have := h.1.cells (g := g) rfl j u hj
  rwa [Lib.add_plain, Nat.zero_add] at this

end Go.Proofs.Ytnfkgnjeamnhfab
namespace Go.Proofs.Ytnfkgnjeamnhfab
open Go.RowKit

/-- A group's list in a table; none: nil. -/
def CL (N : Nat) (ρ : Nat → Nat) (w : World) (v : Value) (xs : List Int) : Prop := Own N ρ w 7 3 v xs.length (ints xs) ∧ (xs.length = 0 → v = nilS)
/-- A table: its groups' lists lie from offset o on, its routes (none) at rt. -/
structure Tb (N : Nat) (ρ : Nat → Nat) (w : World) (T rT o rt : Nat) (gs : Nat → List Int) (f : Nat → Value) : Prop where
  role : ρ T = rT
  st : St w T 36 f
  none : f rt = nilS
  ls : ∀ j, j < 32 → CL N ρ w (f (o + j)) (gs j) ∧ (gs j).length ≤ 8
theorem CL.ev {R : Nat → Prop} {N : Nat} {ρ ρ' : Nat → Nat} {w w' : World} {v : Value} {xs : List Int} (h : CL N ρ w v xs) (he : Ev R ρ w ρ' w') (hr : ¬ R 7) : CL N ρ' w' v xs := ⟨h.1.ev he hr (by decide), h.2⟩
theorem Tb.ev {R : Nat → Prop} {N : Nat} {ρ ρ' : Nat → Nat} {w w' : World} {T rT o rt : Nat} {gs : Nat → List Int} {f : Nat → Value} (h : Tb N ρ w T rT o rt gs f) (he : Ev R ρ w ρ' w') (hr : ¬ R rT) (h14 : rT ≠ 14) (h7 : ¬ R 7) : Tb N ρ' w' T rT o rt gs f := by
  have hlt := h.st.lt (by decide)
  exact ⟨by rw [he.role T hlt (by rw [h.role]; exact h14), h.role], h.st.ev (by decide) he (by rw [h.role]; exact hr) (by rw [h.role]; exact h14), h.none, fun j hj => ⟨(h.ls j hj).1.ev he h7, (h.ls j hj).2⟩⟩
theorem CL.rd {N : Nat} {ρ : Nat → Nat} {w : World} {v : Value} {xs : List Int} (h : CL N ρ w v xs) : ∃ ao cap, v = .slice ao xs.length cap ∧ Rd w ao xs.length xs ∧ (xs.length = 0 → ao = none ∧ cap = 0) := by
  obtain ⟨ao, cap, rfl, hr, _⟩ := h.1.rd
  refine ⟨ao, cap, rfl, hr, fun h0 => ?_⟩
  have := h.2 h0
  simp at this
  exact ⟨this.1, this.2.2⟩
theorem Tb.Ls {N : Nat} {ρ : Nat → Nat} {w : World} {T rT o rt : Nat} {gs : Nat → List Int} {f : Nat → Value} (h : Tb N ρ w T rT o rt gs f) : Ls w f o gs := by
  intro j hj
  obtain ⟨ao, cap, h1, h2, h3⟩ := (h.ls j hj).1.rd
  exact ⟨ao, _, cap, h1, h2, (h.ls j hj).2, h3⟩
def updG (gs : Nat → List Int) (i : Nat) (xs : List Int) : Nat → List Int := fun j => if j = i then xs else gs j
/-- What Group answers, and the groups behind it. -/
def GOut (gs : Nat → List Int) (xs : List Int) (a b : Int) (gs' : Nat → List Int) : Prop :=
  (goodB xs = false ∧ a = 0 ∧ b = 6 ∧ gs' = gs) ∨ (goodB xs = true ∧ (∀ j, j < 32 → (gs j).length ≠ 0) ∧ a = 0 ∧ b = 9 ∧ gs' = gs) ∨
  (goodB xs = true ∧ ∃ i : Nat, i < 32 ∧ (∀ j, j < i → (gs j).length ≠ 0) ∧ (gs i).length = 0 ∧ a = i ∧ b = 0 ∧ gs' = updG gs i xs)
theorem GOut.one {gs gs1 gs2 : Nat → List Int} {xs : List Int} {a b c d : Int} (h : GOut gs xs a b gs1) (k : GOut gs xs c d gs2) : a = c ∧ b = d ∧ gs1 = gs2 := by
  rcases h with ⟨h1, rfl, rfl, rfl⟩ | ⟨h1, h2, rfl, rfl, rfl⟩ | ⟨h1, i, h2, h3, h4, rfl, rfl, rfl⟩ <;> rcases k with ⟨k1, rfl, rfl, rfl⟩ | ⟨k1, k2, rfl, rfl, rfl⟩ | ⟨k1, j, k2, k3, k4, rfl, rfl, rfl⟩
  · exact ⟨rfl, rfl, rfl⟩
  · rw [h1] at k1; cases k1
  · rw [h1] at k1; cases k1
  · rw [h1] at k1; cases k1
  · exact ⟨rfl, rfl, rfl⟩
  · exact absurd k4 (h2 j k2)
  · rw [h1] at k1; cases k1
  · exact absurd h4 (k2 i h2)
  · have e : i = j := by
      rcases Nat.lt_trichotomy i j with h | h | h
      · exact absurd h4 (k3 i h)
      · exact h
      · exact absurd k4 (h3 j h)
    subst e; exact ⟨rfl, rfl, rfl⟩
theorem GOut.bound {gs gs' : Nat → List Int} {xs : List Int} {a b : Int} (h : GOut gs xs a b gs') : 0 ≤ a ∧ a ≤ 32 ∧ 0 ≤ b ∧ b ≤ 9 := by
  rcases h with ⟨h1, rfl, rfl, rfl⟩ | ⟨h1, h2, rfl, rfl, rfl⟩ | ⟨h1, i, h2, h3, h4, rfl, rfl, rfl⟩ <;> omega

theorem Tb.group {N : Nat} {ρ : Nat → Nat} {w w' : World} {T rT o rt : Nat} {gs : Nat → List Int} {f : Nat → Value} {xs : List Int} {e : Ending} (h : Tb N ρ w T rT o rt gs f) (hF : Fr ρ w) (hN : N ≤ w.heap.size) (hr : rT ≠ 14) (hr7 : rT ≠ 7) (hrt : ∀ i, i < 32 → rt ≠ o + i)
    (hp : GPost T o f gs xs w e w') :
    ∃ ρ' a b gs' f', e = two a b ∧ GOut gs xs a b gs' ∧ Tb N ρ' w' T rT o rt gs' f' ∧ Fr ρ' w' ∧ ((∀ k, ρ k ≠ 15) → ∀ k, ρ' k ≠ 15) ∧ Ev (fun q => q = rT) ρ w ρ' w' ∧ (∀ k, k < w.heap.size → ρ' k = ρ k) ∧ (∀ k, k < w.heap.size → k ≠ T → w'.heap[k]? = w.heap[k]?) := by
  rcases hp with ⟨h1, h2, h3⟩ | ⟨h1, h2, h3, h4⟩ | ⟨h1, i, g, c, h2, h3, h4, h5, h6, h7, h8, h9⟩
  · exact ⟨ρ, 0, 6, gs, f, h2, .inl ⟨h1, rfl, rfl, rfl⟩, h.ev (Ev.of_below (R := fun _ => False) ρ h3) id hr id, hF.grow h3.size, id, Ev.of_below ρ h3, fun _ _ => rfl, fun k hk _ => h3.block k hk⟩
  · exact ⟨ρ, 0, 9, gs, f, h3, .inr (.inl ⟨h1, h2, rfl, rfl, rfl⟩), h.ev (Ev.of_below (R := fun _ => False) ρ h4) id hr id, hF.grow h4.size, id, Ev.of_below ρ h4, fun _ _ => rfl, fun k hk _ => h4.block k hk⟩
  · have hg14 : ρ g = 14 := hF g h6
    have hgl := (h7.lt g rfl).2
    have hTl := h.st.lt (by decide)
    have e1 : Ev (fun q => q = rT) ρ w ρ w' := Ev.of_grown ρ h8 (fun k hk => by cases hk; exact .inr h.role)
    have e2 : Ev (fun q => q = rT) ρ w (rl ρ g 7) w' := e1.trans (Ev.rl w' 7 (.inl hg14))
    have hTg : T ≠ g := by omega
    refine ⟨rl ρ g 7, i, 0, updG gs i xs, _, h5, .inr (.inr ⟨h1, i, h2, h3, h4, rfl, rfl, rfl⟩), ⟨by rw [rl_ne hTg]; exact h.role, h9, ?_, fun j hj => ?_⟩, (hF.grow h8.size).rl hgl 7, fun h15 k => ?_, e2, fun k hk => rl_ne (by omega), fun k hk hne => h8.block k hk (fun e => hne (by simpa using e))⟩
    · rw [upd_ne (hrt i h2)]; exact h.none
    · by_cases ej : j = i
      · subst ej
        rw [upd_same]
        simp only [updG, if_true]
        refine ⟨⟨⟨⟨h7.1, ?_⟩, fun k hk => ?_⟩, fun h0 => ?_⟩, (goodB_len h1).2⟩
        · rcases h7.2 with ⟨h', _⟩ | ⟨g', cap', cur, hv, hb, rest⟩
          · cases h'
          · exact .inr ⟨g', cap', cur, hv, by omega, rest⟩
        · simp [Value.ownBlock] at hk; subst hk; exact rl_same _ _ _
        · have := (goodB_len h1).1; omega
      · rw [upd_ne (by omega)]
        simp only [updG, ej, if_false]
        exact ⟨(h.ls j hj).1.ev e2 (fun h => hr7 h.symm), (h.ls j hj).2⟩
    · unfold rl; split
      · decide
      · exact h15 k
/-- What Drop answers. -/
def DOut (gs : Nat → List Int) (k c : Int) (gs' : Nat → List Int) : Prop := (hasB gs k = false ∧ c = 7 ∧ gs' = gs) ∨ (hasB gs k = true ∧ c = 0 ∧ gs' = updG gs k.toNat [])
theorem DOut.one {gs gs1 gs2 : Nat → List Int} {k c d : Int} (h : DOut gs k c gs1) (h' : DOut gs k d gs2) : c = d ∧ gs1 = gs2 := by
  rcases h with ⟨h1, rfl, rfl⟩ | ⟨h1, rfl, rfl⟩ <;> rcases h' with ⟨k1, rfl, rfl⟩ | ⟨k1, rfl, rfl⟩ <;> simp_all
theorem Tb.drop {N : Nat} {ρ : Nat → Nat} {w w' : World} {T rT o rt : Nat} {gs : Nat → List Int} {f : Nat → Value} {k : Int} {e : Ending} (h : Tb N ρ w T rT o rt gs f) (hF : Fr ρ w) (hr : rT ≠ 14) (hr7 : rT ≠ 7) (hrt : ∀ i, i < 32 → rt ≠ o + i)
    (hp : DPost T o f gs k w e w') :
    ∃ c gs' f', e = .returned (.int .i64 c) ∧ DOut gs k c gs' ∧ Tb N ρ w' T rT o rt gs' f' ∧ Fr ρ w' ∧ Ev (fun q => q = rT) ρ w ρ w' := by
  rcases hp with ⟨h1, h2, h3⟩ | ⟨h1, h2, h3, h4⟩
  · exact ⟨7, gs, f, h2, .inl ⟨h1, rfl, rfl⟩, h.ev (Ev.of_below (R := fun _ => False) ρ h3) id hr id, hF.grow h3.size, Ev.of_below ρ h3⟩
  · obtain ⟨i, rfl, hi, _⟩ := hasB_some h1
    rw [Int.toNat_natCast] at h4
    have e1 : Ev (fun q => q = rT) ρ w ρ w' := Ev.of_grown ρ h3 (fun k hk => by cases hk; exact .inr h.role)
    refine ⟨0, updG gs i [], _, h2, .inr ⟨h1, rfl, by rw [Int.toNat_natCast]⟩, ⟨h.role, h4, ?_, fun j hj => ?_⟩, hF.grow h3.size, e1⟩
    · rw [upd_ne (hrt i hi)]; exact h.none
    · by_cases ej : j = i
      · subst ej
        rw [upd_same]
        simp only [updG, if_true]
        exact ⟨⟨Own.nil _ _ _ _ _, fun _ => rfl⟩, by simp⟩
      · rw [upd_ne (by omega)]
        simp only [updG, ej, if_false]
        exact ⟨(h.ls j hj).1.ev e1 (fun h => hr7 h.symm), (h.ls j hj).2⟩
theorem Tb.new {N : Nat} {ρ : Nat → Nat} {w w' : World} {rT o rt : Nat} (hr15 : rT ≠ 15) (hF : Fr ρ w) (h : NewT o rt w w') :
    ∃ ρ' f, Tb N ρ' w' w.heap.size rT o rt (fun _ => []) f ∧ Fr ρ' w' ∧ ((∀ k, ρ k ≠ 15) → ∀ k, ρ' k ≠ 15) ∧ (∀ R, Ev R ρ w ρ' w') := by
  obtain ⟨f, h1, h2, h3, h4, h5⟩ := h
  have hg := hF w.heap.size (Nat.le_refl _)
  refine ⟨rl ρ w.heap.size rT, f, ⟨rl_same _ _ _, h1, h3, fun j hj => ⟨?_, by simp⟩⟩, (hF.grow h4.size).rl (by omega) rT, fun h k => ?_, fun R => (Ev.of_below ρ h4).trans (Ev.rl w' rT (.inl hg))⟩
  · rw [h2 j hj]; exact ⟨Own.nil _ _ _ _ _, fun _ => rfl⟩
  · unfold rl; split
    · exact hr15
    · exact h k
end Go.Proofs.Ytnfkgnjeamnhfab
