import Derived.Test.YteocfjiijmdjcaaGreatGh
namespace Go.Proofs.YteocfjiijmdjcaaGreat
open Go.RowKit

/-- A row of nobody's gets an owner. -/
theorem adopt {N : Nat} {ρ : Nat → Nat} {w : World} {e : Nat} {v : Value} {n : Nat} {xs : List Value} (r : Nat) (hF : Fr ρ w) (h : w.ownsRow N e 1 v n xs) (h14 : ∀ g, v.ownBlock = some g → ρ g = 14) :
    ∃ ρ1, Own N ρ1 w r e v n xs ∧ (∀ R, Ev R ρ w ρ1 w) ∧ Fr ρ1 w := by
  cases hv : v.ownBlock with
  | none => exact ⟨ρ, ⟨h, fun g hg => by rw [hv] at hg; cases hg⟩, fun R => Ev.refl _ _ _, hF⟩
  | some g => exact ⟨rl ρ g r, ⟨h, fun g' hg => by rw [hv] at hg; cases hg; exact rl_same _ _ _⟩, fun R => Ev.rl w r (.inl (h14 g hv)), hF.rl (h.lt g hv).2 r⟩
theorem own_slice {w : World} {N e n : Nat} {v : Value} {xs : List Value} (h : w.ownsRow N e 1 v n xs) : ∃ ao cap, v = .slice ao n cap ∧ (0 < n → ∃ g, ao = some ⟨g, 0, none⟩) := by
  rcases h.2 with ⟨rfl, rfl⟩ | ⟨g, cap, cur, rfl, _⟩
  · exact ⟨none, 0, rfl, fun h => by omega⟩
  · exact ⟨_, cap, rfl, fun _ => ⟨g, rfl⟩⟩
/-- The list in the making is done: its blocks are the book's now. -/
def doneR (ρ : Nat → Nat) : Nat → Nat := fun k => if ρ k = 15 then 6 else ρ k
theorem upd_mark (m m' : Int) (vI vM vH vU : Value) : ∀ j, j < 11 → upd (bookF m vI vM vH vU) 0 (.int .i64 m') j = bookF m' vI vM vH vU j := by
  intro j hj; iterate 11 (rcases j with _ | j; · rfl)
  omega
theorem upd_ints (m : Int) (vI vM vH vU v : Value) : ∀ j, j < 11 → upd (bookF m vI vM vH vU) 1 v j = bookF m v vM vH vU j := by
  intro j hj; iterate 11 (rcases j with _ | j; · rfl)
  omega
theorem upd_marks (m : Int) (vI vM vH vU v : Value) : ∀ j, j < 11 → upd (bookF m vI vM vH vU) 2 v j = bookF m vI v vH vU j := by
  intro j hj; iterate 11 (rcases j with _ | j; · rfl)
  omega
theorem upd_hops (m : Int) (vI vM vH vU v : Value) : ∀ j, j < 11 → upd (bookF m vI vM vH vU) 7 v j = bookF m vI vM v vU j := by
  intro j hj; iterate 11 (rcases j with _ | j; · rfl)
  omega
theorem upd_must (m : Int) (vI vM vH vU v : Value) : ∀ j, j < 11 → upd (bookF m vI vM vH vU) 8 v j = bookF m vI vM vH v j := by
  intro j hj; iterate 11 (rcases j with _ | j; · rfl)
  omega
theorem own_setOther {w : World} {N e n b k : Nat} {v : Value} {xs : List Value} (h : w.ownsRow N e 1 v n xs) (hne : ∀ g, v.ownBlock = some g → g ≠ b) (u : Value) : (w.setCell ⟨b, k, none⟩ u).ownsRow N e 1 v n xs := by
  refine h.kept (grownBy_set (Below.refl _ _) u) ?_
  cases hv : v.ownBlock with
  | none => exact .inl rfl
  | some g => exact .inr (fun e => hne g hv (by simpa using e))
theorem get_set {ys : List Value} {k j : Nat} {u : Value} (h : ∀ j, j < k → ys[j]? = some u) (hk : k < ys.length) (hj : j < k + 1) : (ys.set k u)[j]? = some u := by
  by_cases e : j = k
  · subst e; simp [hk]
  · rw [List.getElem?_set_ne (by omega)]; exact h j (by omega)
theorem all_of_get {ys : List Value} {n : Nat} {u : Value} (h : ∀ j, j < n → ys[j]? = some u) (hl : ys.length = n) : ∀ y ∈ ys, y = u := by
  intro y hy
  obtain ⟨j, hj, rfl⟩ := List.getElem_of_mem hy
  have := h j (by omega)
  rw [List.getElem?_eq_getElem hj] at this
  exact Option.some.inj this

/-- In the second loop of keepInts, k lists noted. -/
structure Mid (N : Nat) (ρ : Nat → Nat) (w : World) (B : Nat) (m : Int) (vH vU : Value) (L : List (Value × Int)) (n0 : Nat) (l : Value) (k : Nat) (ρ' : Nat → Nat) (wr : World) (vI vM : Value) (L' : List (Value × Int)) (n : Nat) (ys : List Value) : Prop where
  ev : Ev (fun q => q = 1 ∨ q = 2 ∨ q = 3 ∨ q = 15) ρ w ρ' wr
  fr : Fr ρ' wr
  rB : ρ' B = 1
  st : St wr B 11 (bookF m vI vM vH vU)
  oI : Own N ρ' wr 2 36 vI (L ++ L').length ((L ++ L').map (·.1))
  oM : Own N ρ' wr 3 3 vM (L ++ L').length ((L ++ L').map fun p => .int .i64 p.2)
  len : L'.length = k
  nt : ∀ p ∈ L', Noted N ρ' wr m l p
  ol : Own N ρ' wr 15 3 l n ys
  all : ∀ y ∈ ys, y = .int .i64 m
  le : n ≤ n0 + k

theorem Ev.drop15 {R : Nat → Prop} {ρ ρ' : Nat → Nat} {w w' : World} (h : Ev (fun q => R q ∨ q = 15) ρ w ρ' w') (h15 : ∀ k, ρ k ≠ 15) : Ev R ρ w ρ' w' :=
  ⟨h.os, h.tape, h.output, h.size, h.role, fun k hk h14 hR => h.block k hk h14 (fun e => e.elim hR (h15 k))⟩
theorem mid_next {N : Nat} {ρ : Nat → Nat} {w : World} {B : Nat} {m : Int} {vH vU : Value} {L : List (Value × Int)} {n0 : Nat} {l : Value} {q : Nat} {ρ2 ρ3 ρ4 : Nat → Nat} {wr w3 w5 w6 : World} {vI vM vI' vM' : Value} {L2 : List (Value × Int)} {n : Nat} {ys : List Value} {z : Nat} {xI xM : List Value} {g cap : Nat}
    (hM : Mid N ρ w B m vH vU L n0 l q ρ2 wr vI vM L2 n ys) (hrB3 : ρ3 B = 1) (hE3 : Ev (fun q => q = 1 ∨ q = 2) ρ2 wr ρ3 w3) (hE4 : Ev (fun q => q = 1 ∨ q = 3) ρ3 w3 ρ4 w5) (hF4 : Fr ρ4 w5) (hS5 : St w5 B 11 (bookF m vI' vM' vH vU)) (hBl : B < wr.heap.size)
    (hz : z = (L ++ L2).length) (hxI : xI = (L ++ L2).map (·.1)) (hxM : xM = (L ++ L2).map fun p => Value.int .i64 p.2)
    (hO3 : Own N ρ3 w3 2 36 vI' (z + 1) (xI ++ [l])) (hO4 : Own N ρ4 w5 3 3 vM' (z + 1) (xM ++ [.int .i64 m]))
    (hown : w6.ownsRow N 3 1 (.slice (some ⟨g, 0, none⟩) (n + 1) cap) (n + 1) (ys ++ [.int .i64 m])) (hgz : g < w6.heap.size)
    (harm : (l = .slice (some ⟨g, 0, none⟩) n cap ∧ (w5.alloc (.cells #[.int .i64 m] 3)).grownBy w6 (some g)) ∨ (g = w5.heap.size + 1 ∧ (w5.alloc (.cells #[.int .i64 m] 3)).grownBy w6 none)) :
    Mid N ρ w B m vH vU L n0 (.slice (some ⟨g, 0, none⟩) (n + 1) cap) (q + 1) (rl ρ4 g 15) w6 vI' vM' (L2 ++ [(l, m)]) (n + 1) (ys ++ [.int .i64 m]) := by
  have hal : Below w5.heap.size w5 (w5.alloc (.cells #[.int .i64 m] 3)) := (Below.refl _ _).alloc (Nat.le_refl _) _
  have hF5 : Fr ρ4 (w5.alloc (.cells #[.int .i64 m] 3)) := hF4.grow hal.size
  have hol5 : Own N ρ4 (w5.alloc (.cells #[.int .i64 m] 3)) 15 3 l n ys := ((hM.ol.ev hE3 (by decide) (by decide)).ev hE4 (by decide) (by decide)).ev (Ev.of_below (R := fun _ => False) ρ4 hal) (by simp) (by decide)
  have hsz : (w5.alloc (.cells #[.int .i64 m] 3)).heap.size = w5.heap.size + 1 := by simp
  have hgρ : ρ4 g = 14 ∨ ρ4 g = 15 := by
    rcases harm with ⟨rfl, _⟩ | ⟨rfl, _⟩
    · exact .inr (hol5.2 g rfl)
    · exact .inl (hF4 _ (by omega))
  have eA : Ev (fun q => q = 15) ρ4 w5 (rl ρ4 g 15) w6 := by
    rcases harm with ⟨h1, h2⟩ | ⟨h1, h2⟩
    · exact (Ev.of_below ρ4 hal).trans (Ev.trans (Ev.of_grown ρ4 h2 (fun g' hg' => by cases hg'; exact hgρ)) (Ev.rl w6 15 hgρ))
    · exact (Ev.of_below ρ4 hal).trans (Ev.trans (Ev.of_grown ρ4 h2 (fun g' hg' => by cases hg')) (Ev.rl w6 15 hgρ))
  have hrB4 : ρ4 B = 1 := by rw [hE4.role B (Nat.lt_of_lt_of_le hBl hE3.size) (by rw [hrB3]; decide)]; exact hrB3
  have hgB : B ≠ g := by rintro rfl; rcases hgρ with h | h <;> rw [hrB4] at h <;> omega
  refine ⟨((hM.ev.trans (hE3.mono ?_)).trans (hE4.mono ?_)).trans (eA.mono ?_), ?_, ?_, ?_, ?_, ?_, ?_, ?_, ⟨hown, ?_⟩, ?_, ?_⟩
  · intro r h; rcases h with h | h; exact .inl h; exact .inr (.inl h)
  · intro r h; rcases h with h | h; exact .inl h; exact .inr (.inr (.inl h))
  · intro r h; exact .inr (.inr (.inr h))
  · exact Fr.rl (hF4.grow eA.size) hgz 15
  · rw [rl_ne hgB]; exact hrB4
  · exact hS5.ev (by decide) eA (by rw [hrB4]; decide) (by rw [hrB4]; decide)
  · have := (hO3.ev hE4 (by decide) (by decide)).ev eA (by decide) (by decide)
    rw [hz, hxI] at this
    simpa [← List.append_assoc, Nat.add_assoc] using this
  · have := hO4.ev eA (by decide) (by decide)
    rw [hz, hxM] at this
    simpa [← List.append_assoc, Nat.add_assoc] using this
  · simp [hM.len]
  · intro p hp
    have harm' : (l = .slice (some ⟨g, 0, none⟩) n cap ∧ (w5.alloc (.cells #[.int .i64 m] 3)).grownBy w6 (some g)) ∨ (g = (w5.alloc (.cells #[.int .i64 m] 3)).heap.size ∧ (w5.alloc (.cells #[.int .i64 m] 3)).grownBy w6 none) := by rw [hsz]; exact harm
    rcases List.mem_append.1 hp with hp | hp
    · exact Noted.more ((((hM.nt p hp).ev hE3 (by decide)).ev hE4 (by decide)).ev (Ev.of_below (R := fun _ => False) ρ4 hal) (by simp)) hol5 hM.all harm'
    · obtain rfl : p = (l, m) := by simpa using hp
      exact Noted.more (Noted.self hol5) hol5 hM.all harm'
  · intro g' hg'; simp [Value.ownBlock] at hg'; subst hg'; exact rl_same _ _ _
  · intro y hy
    rcases List.mem_append.1 hy with hy | hy
    · exact hM.all y hy
    · simpa using hy
  · have := hM.le; omega
theorem Own.done {N : Nat} {ρ : Nat → Nat} {w : World} {r e : Nat} {v : Value} {n : Nat} {xs : List Value} (h : Own N ρ w r e v n xs) (hr : r ≠ 15) : Own N (doneR ρ) w r e v n xs :=
  ⟨h.1, fun g hg => by have := h.2 g hg; simp [doneR, this, hr]⟩
theorem Own.done15 {N : Nat} {ρ : Nat → Nat} {w : World} {e : Nat} {v : Value} {n : Nat} {xs : List Value} (h : Own N ρ w 15 e v n xs) : Own N (doneR ρ) w 6 e v n xs :=
  ⟨h.1, fun g hg => by have := h.2 g hg; simp [doneR, this]⟩
theorem mid_done {N : Nat} {ρ : Nat → Nat} {w : World} {B : Nat} {mark m : Int} {vI vM vH vU : Value} {L : List (Value × Int)} {K : List (Value × Value)} {n0 : Nat} {l : Value} {ρ2 : Nat → Nat} {wr : World} {vI2 vM2 : Value} {L2 : List (Value × Int)} {n : Nat} {ys : List Value}
    (hb : Bk N ρ w B mark vI vM vH vU L K) (h15 : ∀ k, ρ k ≠ 15) (hM : Mid N ρ w B m vH vU L n0 l 4 ρ2 wr vI2 vM2 L2 n ys) :
    ∃ ρ' vI' vM' L', Bk N ρ' wr B m vI' vM' vH vU (L ++ L') K ∧ L'.length = 4 ∧ Fr ρ' wr ∧ (∀ k, ρ' k ≠ 15) ∧ Ev (fun q => q = 1 ∨ q = 2 ∨ q = 3) ρ w ρ' wr := by
  have hev : Ev (fun q => q = 1 ∨ q = 2 ∨ q = 3) ρ w ρ2 wr := Ev.drop15 (hM.ev.mono (fun r h => by rcases h with h | h | h | h; exact .inl (.inl h); exact .inl (.inr (.inl h)); exact .inl (.inr (.inr h)); exact .inr h)) h15
  refine ⟨doneR ρ2, vI2, vM2, L2, ⟨?_, hM.st, hM.oI.done (by decide), hM.oM.done (by decide), (hb.oH.ev hev (by decide) (by decide)).done (by decide), (hb.oU.ev hev (by decide) (by decide)).done (by decide), ?_, ?_⟩, hM.len, ?_, ?_, ?_⟩
  · simp [doneR, hM.rB]
  · intro p hp
    rcases List.mem_append.1 hp with hp | hp
    · obtain ⟨k, zs, h1, h2⟩ := hb.mks p hp
      exact ⟨k, zs, (h1.ev hev (by decide) (by decide)).done (by decide), h2⟩
    · obtain ⟨k, zs, h1, h2⟩ := (hM.nt p hp).mk hM.ol hM.all
      exact ⟨k, zs, h1.done15, h2⟩
  · intro p hp
    obtain ⟨zs, h1, h2⟩ := hb.cts p hp
    exact ⟨zs, (h1.ev hev (by decide) (by decide)).done (by decide), (h2.ev hev (by decide) (by decide)).done (by decide)⟩
  · intro k hk; simp [doneR, hM.fr k hk]
  · intro k; unfold doneR; split
    · decide
    · assumption
  · refine ⟨hev.os, hev.tape, hev.output, hev.size, fun k hk h14 => ?_, hev.block⟩
    have := hev.role k hk h14
    unfold doneR
    rw [this, if_neg (h15 k)]

end Go.Proofs.YteocfjiijmdjcaaGreat
