import Derived.Test.YteocfjiijmdjcaaGreatRd
namespace Go.Proofs.YteocfjiijmdjcaaGreat
open Go.RowKit Go.Sort

theorem set_app {α : Type} (a b : List α) (k : Nat) (x : α) (h : a.length = k) (y : α) : (a ++ y :: b).set k x = a ++ x :: b := by
  subst h; simp
theorem flat_split {rs : List Rt} {k : Nat} (r : Rt) (hk : k < rs.length) : flat (rs.set k r) = flat (rs.take k) ++ (rc r ++ flat (rs.drop (k + 1))) := by
  rw [List.set_eq_take_append_cons_drop, if_pos hk, flat_append, flat_cons]
theorem flat_set {rs : List Rt} {k : Nat} (r : Rt) (hk : k < rs.length) :
    (((((flat rs).set (k * 5) (.int .i64 r.f)).set (k * 5 + 1) (.int .u64 r.hi)).set (k * 5 + 2) (.int .u64 r.lo)).set (k * 5 + 3) (.int .i64 r.n)).set (k * 5 + 4) (.int .i64 r.g) = flat (rs.set k r) := by
  have h0 : flat rs = flat (rs.take k) ++ (rc rs[k] ++ flat (rs.drop (k + 1))) := by
    conv => lhs; rw [← List.take_append_drop k rs, List.drop_eq_getElem_cons hk, flat_append, flat_cons]
  rw [h0, flat_split r hk]
  have hl : (flat (rs.take k)).length = k * 5 := by rw [flat_len, List.length_take]; omega
  generalize flat (rs.take k) = A at hl ⊢
  simp only [rc, List.cons_append, List.nil_append]
  rw [← hl]
  simp [List.set_append_right]
/-- A route stored into a row. -/
theorem RwO.set {w : World} {N g n cap : Nat} {rs : List Rt} (h : RwO w N (.slice (some ⟨g, 0, none⟩) n cap) rs) {k : Nat} (hk : k < rs.length) (r : Rt) :
    RwO (((((w.setCell ⟨g, k * 5, none⟩ (.int .i64 r.f)).setCell ⟨g, k * 5 + 1, none⟩ (.int .u64 r.hi)).setCell ⟨g, k * 5 + 2, none⟩ (.int .u64 r.lo)).setCell ⟨g, k * 5 + 3, none⟩ (.int .i64 r.n)).setCell ⟨g, k * 5 + 4, none⟩ (.int .i64 r.g)) N (.slice (some ⟨g, 0, none⟩) n cap) (rs.set k r) := by
  obtain ⟨g', cap', e, -⟩ := World.ownsRow.form h (by omega)
  obtain ⟨e1, e2, e3⟩ : g = g' ∧ n = rs.length ∧ cap = cap' := by simpa using e
  subst e1 e2 e3
  have h1 := (((((h.stored (k * 5) (.int .i64 r.f)).1.stored (k * 5 + 1) (.int .u64 r.hi)).1.stored (k * 5 + 2) (.int .u64 r.lo)).1.stored (k * 5 + 3) (.int .i64 r.n)).1.stored (k * 5 + 4) (.int .i64 r.g)).1
  rw [flat_set r hk] at h1
  rw [RwO, List.length_set]
  exact h1
/-- A route's group. -/
theorem RwO.setG {w : World} {N g n cap : Nat} {rs : List Rt} (h : RwO w N (.slice (some ⟨g, 0, none⟩) n cap) rs) {k : Nat} {r : Rt} (hk : rs[k]? = some r) (x : Int) :
    RwO (w.setCell ⟨g, k * 5 + 4, none⟩ (.int .i64 x)) N (.slice (some ⟨g, 0, none⟩) n cap) (rs.set k { r with g := x }) := by
  have hk2 := (List.getElem?_eq_some_iff.1 hk).1
  obtain ⟨g', cap', e, -⟩ := World.ownsRow.form h (by omega)
  obtain ⟨e1, e2, e3⟩ : g = g' ∧ n = rs.length ∧ cap = cap' := by simpa using e
  subst e1 e2 e3
  have h1 := (h.stored (k * 5 + 4) (.int .i64 x)).1
  rw [RwO, List.length_set, ← flat_set _ hk2]
  have s : ∀ i, i < 4 → ∀ u, (rc r)[i]? = some u → (flat rs).set (k * 5 + i) u = flat rs := fun i hi u hu => by
    have := flat_get hk (i := i) (by omega)
    rw [hu] at this
    obtain ⟨hl, e⟩ := List.getElem?_eq_some_iff.1 this
    rw [← e]; exact List.set_getElem_self hl
  rw [show (flat rs).set (k * 5) (.int .i64 r.f) = flat rs from s 0 (by decide) _ rfl, s 1 (by decide) _ rfl, s 2 (by decide) _ rfl, s 3 (by decide) _ rfl]
  exact h1

/-- A box of the call's own. -/
theorem boxE {ρ : Nat → Nat} {w : World} (hF : Fr ρ w) (h15 : ∀ k, ρ k ≠ 15) (o : Obj) : ∃ ρ', (∀ R, Ev R ρ w ρ' (w.alloc o)) ∧ Fr ρ' (w.alloc o) ∧ ρ' w.heap.size = 13 ∧ (∀ k, ρ' k ≠ 15) := by
  have hal : Below w.heap.size w (w.alloc o) := (Below.refl _ _).alloc (Nat.le_refl _) _
  refine ⟨YteocfjiijmdjcaaGreat.rl ρ w.heap.size 13, fun R => (Ev.of_below ρ hal).trans (Ev.rl _ 13 (.inl (hF _ (Nat.le_refl _)))), (hF.grow hal.size).rl (by simp) 13, rl_same _ _ _, fun k => ?_⟩
  unfold YteocfjiijmdjcaaGreat.rl; split
  · decide
  · exact h15 k
/-- 'x.f = append(x.f, y)' on a row of a struct's, of the roles rB and r. -/
theorem pushZ {N : Nat} {ρ : Nat → Nat} {w w1 w2 : World} {B m c rB r e z : Nat} {F : Nat → Value} {v : Value} {n k : Nat} {xs ys : List Value} {g cap : Nat}
    (hF : Fr ρ w) (hB : ρ B = rB) (hB14 : rB ≠ 14) (hst : St w B m F) (hc : c < m) (hr1 : r ≠ rB) (ho : OwnZ N ρ w r e z v n xs) (hw1 : Below w.heap.size w w1)
    (hown : w2.ownsRow N e z (.slice (some ⟨g, 0, none⟩) k cap) k ys) (hg : w1.grownBy w2 v.ownBlock) (hat : v.ownBlock = some g ∨ g = w1.heap.size) (hlt : g < w2.heap.size) :
    St w2 B m F ∧ ∃ ρ3, Fr ρ3 (w2.setCell ⟨B, c, none⟩ (.slice (some ⟨g, 0, none⟩) k cap)) ∧ Ev (fun q => q = rB ∨ q = r) ρ w ρ3 (w2.setCell ⟨B, c, none⟩ (.slice (some ⟨g, 0, none⟩) k cap)) ∧ ρ3 B = rB ∧
      St (w2.setCell ⟨B, c, none⟩ (.slice (some ⟨g, 0, none⟩) k cap)) B m (upd F c (.slice (some ⟨g, 0, none⟩) k cap)) ∧ OwnZ N ρ3 (w2.setCell ⟨B, c, none⟩ (.slice (some ⟨g, 0, none⟩) k cap)) r e z (.slice (some ⟨g, 0, none⟩) k cap) k ys ∧ (r ≠ 15 → (∀ k, ρ k ≠ 15) → ∀ k, ρ3 k ≠ 15) := by
  have hBlt := hst.lt (Nat.lt_of_le_of_lt (Nat.zero_le _) hc)
  have hgρ : ρ g = 14 ∨ ρ g = r := by
    rcases hat with h | h
    · exact .inr (ho.2 g h)
    · exact .inl (hF g (by rw [h]; exact hw1.size))
  have hgB : g ≠ B := by
    rintro rfl
    rcases hgρ with h | h
    · rw [hB] at h; exact hB14 h
    · rw [hB] at h; exact hr1 h.symm
  have hvB : ∀ k, v.ownBlock = some k → k ≠ B := fun k hk e => by have := ho.2 k hk; rw [e, hB] at this; exact hr1 this.symm
  have hs12 : w1.heap.size ≤ w2.heap.size := hg.size
  have e12 : Ev (fun q => q = rB ∨ q = r) ρ w ρ w2 := (Ev.of_below ρ hw1).trans (Ev.of_grown ρ hg (fun k hk => .inr (.inr (ho.2 k hk))))
  have e3 : Ev (fun q => q = rB ∨ q = r) ρ w ρ (w2.setCell ⟨B, c, none⟩ (.slice (some ⟨g, 0, none⟩) k cap)) := e12.trans (Ev.of_set ρ w2 B c _ (.inr (.inl hB)))
  have hsz : (w2.setCell ⟨B, c, none⟩ (.slice (some ⟨g, 0, none⟩) k cap)).heap.size = w2.heap.size := by simp [World.setCell]
  have hstB : St w2 B m F := (hst.below hw1 hBlt).same (hg.block B (Nat.lt_of_lt_of_le hBlt hw1.size) (fun e => hvB B e.symm rfl))
  refine ⟨hstB, rl ρ g r, ?_, ?_, by rw [rl_ne (fun e => hgB e.symm)]; exact hB, hstB.set hc _, ⟨?_, fun k hk => ?_⟩, fun h h' k => ?_⟩
  · exact ((hF.grow (Nat.le_trans hw1.size hs12)).grow (Nat.le_of_eq hsz.symm)).rl (by rw [hsz]; exact hlt) r
  · exact e3.trans (Ev.rl _ r hgρ)
  · obtain ⟨h1, h2⟩ := hown
    refine ⟨h1, ?_⟩
    rcases h2 with ⟨h', _⟩ | ⟨g', cap', cur, hv, hb, hgg, rest⟩
    · cases h'
    · have : g' = g := by simp at hv; exact hv.1.symm
      subst this
      exact .inr ⟨g', cap', cur, hv, hb, by rw [Below.heap_setCell _ _ _ _ hgB]; exact hgg, rest⟩
  · simp [Value.ownBlock] at hk; subst hk; exact rl_same _ _ _
  · unfold rl; split
    · exact h
    · exact h' k
end Go.Proofs.YteocfjiijmdjcaaGreat
