import Derived.Test.YteocfjiijmdjcaaGreatGf
namespace Go.Proofs.YteocfjiijmdjcaaGreat
open Go.RowKit

/-! ### Who holds which block: each block has a role; 14: nobody's. -/
/-- Since w (with the roles ρ) only blocks of the roles R, and nobody's, have turned. -/
structure Ev (R : Nat → Prop) (ρ : Nat → Nat) (w : World) (ρ' : Nat → Nat) (w' : World) : Prop where
  os : w'.os = w.os
  tape : w'.tape = w.tape
  output : w'.output = w.output
  size : w.heap.size ≤ w'.heap.size
  role : ∀ k, k < w.heap.size → ρ k ≠ 14 → ρ' k = ρ k
  block : ∀ k, k < w.heap.size → ρ k ≠ 14 → ¬ R (ρ k) → w'.heap[k]? = w.heap[k]?
/-- What is not there yet is nobody's. -/
def Fr (ρ : Nat → Nat) (w : World) : Prop := ∀ k, w.heap.size ≤ k → ρ k = 14
theorem Ev.refl (R : Nat → Prop) (ρ : Nat → Nat) (w : World) : Ev R ρ w ρ w := ⟨rfl, rfl, rfl, Nat.le_refl _, fun _ _ _ => rfl, fun _ _ _ _ => rfl⟩
theorem Ev.trans {R : Nat → Prop} {ρ ρ1 ρ2 : Nat → Nat} {w w1 w2 : World} (h : Ev R ρ w ρ1 w1) (k : Ev R ρ1 w1 ρ2 w2) : Ev R ρ w ρ2 w2 :=
  ⟨k.os.trans h.os, k.tape.trans h.tape, k.output.trans h.output, Nat.le_trans h.size k.size,
    fun i hi hr => by have := h.role i hi hr; rw [k.role i (Nat.lt_of_lt_of_le hi h.size) (by rw [this]; exact hr), this],
    fun i hi hr hR => by have e := h.role i hi hr; rw [k.block i (Nat.lt_of_lt_of_le hi h.size) (by rw [e]; exact hr) (by rw [e]; exact hR), h.block i hi hr hR]⟩
theorem Ev.mono {R R' : Nat → Prop} {ρ ρ1 : Nat → Nat} {w w1 : World} (h : Ev R ρ w ρ1 w1) (hR : ∀ r, R r → R' r) : Ev R' ρ w ρ1 w1 :=
  ⟨h.os, h.tape, h.output, h.size, h.role, fun i hi hr hn => h.block i hi hr (fun hh => hn (hR _ hh))⟩
theorem Ev.of_below {R : Nat → Prop} (ρ : Nat → Nat) {w w' : World} (h : Below w.heap.size w w') : Ev R ρ w ρ w' :=
  ⟨h.os, h.tape, h.output, h.size, fun _ _ _ => rfl, fun i hi _ _ => h.block i hi⟩
theorem Ev.of_grown {R : Nat → Prop} (ρ : Nat → Nat) {w w' : World} {row : Option Nat} (h : w.grownBy w' row) (hr : ∀ g, row = some g → ρ g = 14 ∨ R (ρ g)) : Ev R ρ w ρ w' :=
  ⟨h.os, h.tape, h.output, h.size, fun _ _ _ => rfl, fun i hi h1 h2 => h.block i hi (fun e => by rcases hr i e.symm with h' | h'; exact h1 h'; exact h2 h')⟩
theorem Ev.of_set {R : Nat → Prop} (ρ : Nat → Nat) (w : World) (b k : Nat) (v : Value) (hr : ρ b = 14 ∨ R (ρ b)) : Ev R ρ w ρ (w.setCell ⟨b, k, none⟩ v) :=
  Ev.of_grown ρ (grownBy_set (Below.refl _ _) v) (fun g e => by cases e; exact hr)
theorem Fr.grow {ρ : Nat → Nat} {w w' : World} (h : Fr ρ w) (hs : w.heap.size ≤ w'.heap.size) : Fr ρ w' := fun k hk => h k (Nat.le_trans hs hk)
/-- A block of nobody's gets a role. -/
def rl (ρ : Nat → Nat) (g r : Nat) : Nat → Nat := fun k => if k = g then r else ρ k
theorem rl_same (ρ : Nat → Nat) (g r : Nat) : rl ρ g r g = r := by simp [rl]
theorem rl_ne {ρ : Nat → Nat} {g r k : Nat} (h : k ≠ g) : rl ρ g r k = ρ k := by simp [rl, h]
theorem Ev.rl {R : Nat → Prop} {ρ : Nat → Nat} (w : World) {g : Nat} (r : Nat) (h : ρ g = 14 ∨ ρ g = r) : Ev R ρ w (rl ρ g r) w := by
  refine ⟨rfl, rfl, rfl, Nat.le_refl _, fun k _ hk => ?_, fun _ _ _ _ => rfl⟩
  by_cases e : k = g
  · subst e
    rw [rl_same]
    rcases h with h | h
    · exact absurd h hk
    · exact h.symm
  · exact rl_ne e
theorem Fr.rl {ρ : Nat → Nat} {w : World} (h : Fr ρ w) {g : Nat} (hg : g < w.heap.size) (r : Nat) : Fr (rl ρ g r) w := fun k hk => by rw [rl_ne (by omega)]; exact h k hk

/-- A row of the role r. -/
def Own (N : Nat) (ρ : Nat → Nat) (w : World) (r e : Nat) (v : Value) (n : Nat) (xs : List Value) : Prop := w.ownsRow N e 1 v n xs ∧ ∀ g, v.ownBlock = some g → ρ g = r
theorem Own.ev {N : Nat} {ρ ρ' : Nat → Nat} {w w' : World} {r e : Nat} {v : Value} {n : Nat} {xs : List Value} {R : Nat → Prop} (h : Own N ρ w r e v n xs) (he : Ev R ρ w ρ' w') (hr : ¬ R r) (h14 : r ≠ 14) : Own N ρ' w' r e v n xs := by
  obtain ⟨h1, h2⟩ := h
  refine ⟨⟨h1.1, ?_⟩, fun g hg => ?_⟩
  · rcases h1.2 with hn | ⟨g, cap, cur, rfl, hb, hgg, rest⟩
    · exact .inl hn
    · have hρ := h2 g rfl
      refine .inr ⟨g, cap, cur, rfl, hb, ?_, rest⟩
      rw [he.block g (Array.getElem?_eq_some_iff.1 hgg).1 (by rw [hρ]; exact h14) (by rw [hρ]; exact hr)]
      exact hgg
  · have := h2 g hg
    rw [he.role g (h1.lt g hg).2 (by rw [this]; exact h14), this]
theorem Own.nil (N : Nat) (ρ : Nat → Nat) (w : World) (r e : Nat) : Own N ρ w r e nilS 0 [] := ⟨World.ownsRow_nil _ _ _ _, fun g hg => by simp [Value.ownBlock] at hg⟩
theorem Own.rd {N : Nat} {ρ : Nat → Nat} {w : World} {r : Nat} {v : Value} {xs : List Int} (h : Own N ρ w r 3 v xs.length (ints xs)) : ∃ ao cap, v = .slice ao xs.length cap ∧ Rd w ao xs.length xs ∧ xs.length ≤ maxLen := by
  rcases h.1.2 with ⟨rfl, h0⟩ | ⟨g, cap, cur, rfl, hb, hgg, hc, hm, _⟩
  · rw [h0]; exact ⟨none, 0, rfl, ⟨h0, .inl rfl⟩, by unfold maxLen; omega⟩
  · refine ⟨_, cap, rfl, ⟨rfl, .inr ⟨g, 0, rfl, fun j x hx => ?_⟩⟩, Nat.le_trans hc hm⟩
    have := h.1.cells (g := g) rfl j (.int .i64 x) (by simp [hx])
    rwa [Lib.add_plain] at this
theorem St.ev {R : Nat → Prop} {ρ ρ' : Nat → Nat} {w w' : World} {b n : Nat} {f : Nat → Value} (h : St w b n f) (hn : 0 < n) (he : Ev R ρ w ρ' w') (hr : ¬ R (ρ b)) (h14 : ρ b ≠ 14) : St w' b n f :=
  h.same (he.block b (h.lt hn) h14 hr)

/-- 'x.f = append(x.f, y)' on a row of a struct's. -/
theorem push_cell15 {N : Nat} {ρ : Nat → Nat} {w w1 w2 : World} {B m c r e : Nat} {F : Nat → Value} {v : Value} {n : Nat} {xs : List Value} {x : Value} {g cap : Nat}
    (hF : Fr ρ w) (hB : ρ B = 1) (hst : St w B m F) (hc : c < m) (hr1 : r ≠ 1) (ho : Own N ρ w r e v n xs) (hw1 : Below w.heap.size w w1)
    (hown : w2.ownsRow N e 1 (.slice (some ⟨g, 0, none⟩) (n + 1) cap) (n + 1) (xs ++ [x])) (hg : w1.grownBy w2 v.ownBlock) (hat : v.ownBlock = some g ∨ g = w1.heap.size) (hlt : g < w2.heap.size) :
    St w2 B m F ∧ ∃ ρ3, Fr ρ3 (w2.setCell ⟨B, c, none⟩ (.slice (some ⟨g, 0, none⟩) (n + 1) cap)) ∧ Ev (fun q => q = 1 ∨ q = r) ρ w ρ3 (w2.setCell ⟨B, c, none⟩ (.slice (some ⟨g, 0, none⟩) (n + 1) cap)) ∧
      St (w2.setCell ⟨B, c, none⟩ (.slice (some ⟨g, 0, none⟩) (n + 1) cap)) B m (upd F c (.slice (some ⟨g, 0, none⟩) (n + 1) cap)) ∧ Own N ρ3 (w2.setCell ⟨B, c, none⟩ (.slice (some ⟨g, 0, none⟩) (n + 1) cap)) r e (.slice (some ⟨g, 0, none⟩) (n + 1) cap) (n + 1) (xs ++ [x]) ∧ (r ≠ 15 → (∀ k, ρ k ≠ 15) → ∀ k, ρ3 k ≠ 15) := by
  have hBlt := hst.lt (Nat.lt_of_le_of_lt (Nat.zero_le _) hc)
  have hgρ : ρ g = 14 ∨ ρ g = r := by
    rcases hat with h | h
    · exact .inr (ho.2 g h)
    · exact .inl (hF g (by rw [h]; exact hw1.size))
  have hgB : g ≠ B := by
    rintro rfl
    rcases hgρ with h | h
    · rw [hB] at h; omega
    · rw [hB] at h; exact hr1 h.symm
  have hvB : ∀ k, v.ownBlock = some k → k ≠ B := fun k hk e => by have := ho.2 k hk; rw [e, hB] at this; exact hr1 this.symm
  have hs12 : w1.heap.size ≤ w2.heap.size := hg.size
  have e12 : Ev (fun q => q = 1 ∨ q = r) ρ w ρ w2 := (Ev.of_below ρ hw1).trans (Ev.of_grown ρ hg (fun k hk => .inr (.inr (ho.2 k hk))))
  have e3 : Ev (fun q => q = 1 ∨ q = r) ρ w ρ (w2.setCell ⟨B, c, none⟩ (.slice (some ⟨g, 0, none⟩) (n + 1) cap)) := e12.trans (Ev.of_set ρ w2 B c _ (.inr (.inl hB)))
  have hsz : (w2.setCell ⟨B, c, none⟩ (.slice (some ⟨g, 0, none⟩) (n + 1) cap)).heap.size = w2.heap.size := by simp [World.setCell]
  have hstB : St w2 B m F := (hst.below hw1 hBlt).same (hg.block B (Nat.lt_of_lt_of_le hBlt hw1.size) (fun e => hvB B e.symm rfl))
  refine ⟨hstB, rl ρ g r, ?_, ?_, hstB.set hc _, ⟨?_, fun k hk => ?_⟩, fun h h' k => ?_⟩
  · exact ((hF.grow (Nat.le_trans hw1.size hs12)).grow (Nat.le_of_eq hsz.symm)).rl (by rw [hsz]; exact hlt) r
  · exact e3.trans (Ev.rl _ r hgρ)
  · obtain ⟨h1, h2⟩ := hown
    refine ⟨h1, ?_⟩
    rcases h2 with ⟨h', _⟩ | ⟨g', cap', cur, hv, hb, hgg, rest⟩
    · cases h'
    · have : g' = g := by simp at hv; exact hv.1.symm
      subst this
      exact .inr ⟨g', cap', cur, hv, hb, by rw [Below.heap_setCell _ _ _ _ hgB]; exact hgg, rest⟩
  · simp [Value.ownBlock] at hk; subst hk; exact rl_same _ _ _
  · unfold rl; split
    · exact h
    · exact h' k
/-- 'x.f = append(x.f, y)' on a row of a struct's. -/
theorem push_cell {N : Nat} {ρ : Nat → Nat} {w w1 w2 : World} {B m c r e : Nat} {F : Nat → Value} {v : Value} {n : Nat} {xs : List Value} {x : Value} {g cap : Nat}
    (hF : Fr ρ w) (hB : ρ B = 1) (hst : St w B m F) (hc : c < m) (hr1 : r ≠ 1) (ho : Own N ρ w r e v n xs) (hw1 : Below w.heap.size w w1)
    (hown : w2.ownsRow N e 1 (.slice (some ⟨g, 0, none⟩) (n + 1) cap) (n + 1) (xs ++ [x])) (hg : w1.grownBy w2 v.ownBlock) (hat : v.ownBlock = some g ∨ g = w1.heap.size) (hlt : g < w2.heap.size) :
    St w2 B m F ∧ ∃ ρ3, Fr ρ3 (w2.setCell ⟨B, c, none⟩ (.slice (some ⟨g, 0, none⟩) (n + 1) cap)) ∧ Ev (fun q => q = 1 ∨ q = r) ρ w ρ3 (w2.setCell ⟨B, c, none⟩ (.slice (some ⟨g, 0, none⟩) (n + 1) cap)) ∧
      St (w2.setCell ⟨B, c, none⟩ (.slice (some ⟨g, 0, none⟩) (n + 1) cap)) B m (upd F c (.slice (some ⟨g, 0, none⟩) (n + 1) cap)) ∧ Own N ρ3 (w2.setCell ⟨B, c, none⟩ (.slice (some ⟨g, 0, none⟩) (n + 1) cap)) r e (.slice (some ⟨g, 0, none⟩) (n + 1) cap) (n + 1) (xs ++ [x]) := by
  obtain ⟨h1, ρ3, h2, h3, h4, h5, _⟩ := push_cell15 hF hB hst hc hr1 ho hw1 hown hg hat hlt
  exact ⟨h1, ρ3, h2, h3, h4, h5⟩

/-! ### The book -/
def bookF (mark : Int) (vI vM vH vU : Value) : Nat → Value
  | 0 => .int .i64 mark
  | 1 => vI
  | 2 => vM
  | 7 => vH
  | 8 => vU
  | _ => nilS
/-- A list that is full of its mark. -/
def Mk (N : Nat) (ρ : Nat → Nat) (w : World) (r : Nat) (v : Value) (m : Int) : Prop := ∃ n xs, Own N ρ w r 3 v n xs ∧ ∀ x ∈ xs, x = .int .i64 m
/-- A list that was handed in, and what it must read as. -/
def Ct (N : Nat) (ρ : Nat → Nat) (w : World) (v u : Value) : Prop := ∃ xs : List Int, Own N ρ w 7 3 v xs.length (ints xs) ∧ Own N ρ w 7 3 u xs.length (ints xs)
structure Bk (N : Nat) (ρ : Nat → Nat) (w : World) (B : Nat) (mark : Int) (vI vM vH vU : Value) (L : List (Value × Int)) (K : List (Value × Value)) : Prop where
  rB : ρ B = 1
  st : St w B 11 (bookF mark vI vM vH vU)
  oI : Own N ρ w 2 36 vI L.length (L.map (·.1))
  oM : Own N ρ w 3 3 vM L.length (L.map fun p => .int .i64 p.2)
  oH : Own N ρ w 4 36 vH K.length (K.map (·.1))
  oU : Own N ρ w 5 36 vU K.length (K.map (·.2))
  mks : ∀ p ∈ L, Mk N ρ w 6 p.1 p.2
  cts : ∀ p ∈ K, Ct N ρ w p.1 p.2
theorem Mk.ev {R : Nat → Prop} {N : Nat} {ρ ρ' : Nat → Nat} {w w' : World} {r : Nat} {v : Value} {m : Int} (h : Mk N ρ w r v m) (he : Ev R ρ w ρ' w') (hr : ¬ R r) (h14 : r ≠ 14) : Mk N ρ' w' r v m := by
  obtain ⟨n, xs, h1, h2⟩ := h
  exact ⟨n, xs, h1.ev he hr h14, h2⟩
theorem Ct.ev {R : Nat → Prop} {N : Nat} {ρ ρ' : Nat → Nat} {w w' : World} {v u : Value} (h : Ct N ρ w v u) (he : Ev R ρ w ρ' w') (hr : ¬ R 7) : Ct N ρ' w' v u := by
  obtain ⟨xs, h1, h2⟩ := h
  exact ⟨xs, h1.ev he hr (by decide), h2.ev he hr (by decide)⟩
theorem Bk.ev {R : Nat → Prop} {N : Nat} {ρ ρ' : Nat → Nat} {w w' : World} {B : Nat} {mark : Int} {vI vM vH vU : Value} {L : List (Value × Int)} {K : List (Value × Value)} (h : Bk N ρ w B mark vI vM vH vU L K) (he : Ev R ρ w ρ' w') (hr : ∀ r, 1 ≤ r → r ≤ 7 → ¬ R r) : Bk N ρ' w' B mark vI vM vH vU L K := by
  have hlt := h.st.lt (by decide)
  exact ⟨by rw [he.role B hlt (by rw [h.rB]; decide), h.rB], h.st.ev (by decide) he (by rw [h.rB]; exact hr 1 (by decide) (by decide)) (by rw [h.rB]; decide),
    h.oI.ev he (hr 2 (by decide) (by decide)) (by decide), h.oM.ev he (hr 3 (by decide) (by decide)) (by decide), h.oH.ev he (hr 4 (by decide) (by decide)) (by decide), h.oU.ev he (hr 5 (by decide) (by decide)) (by decide),
    fun p hp => (h.mks p hp).ev he (hr 6 (by decide) (by decide)) (by decide), fun p hp => (h.cts p hp).ev he (hr 7 (by decide) (by decide))⟩
end Go.Proofs.YteocfjiijmdjcaaGreat
