import Derived.Test.YtnfkgnjeamnhfabGf
namespace Go.Proofs.Ytnfkgnjeamnhfab
open Go.RowKit

/-! ### Who holds which block: each block has a role; 14: nobody's. -/
/-- Since w (with the roles ρ) only blocks of the roles R, and nobody's, have turned. -/
structure Ev (R : Nat → Prop) (ρ : Nat → Nat) (w : World) (ρ' : Nat → Nat) (w' : World) : Prop where
  os : w'.os = w.os
  tape : w'.tape = w.tape
  output : w'.output = w.output
  size : w.heap.size ≤ w'.heap.size
  role : ∀ k, k < w.heap.size → ρ k ≠ 14 → ρ' k = ρ k
  block : ∀ k, k < w.heap.size → ρ k ≠ 14 → ¬ R (ρ k) → w'.heap[k]? = w.heap[k]?
/-- What is not there yet is nobody's. -/
def Fr (ρ : Nat → Nat) (w : World) : Prop := ∀ k, w.heap.size ≤ k → ρ k = 14
theorem Ev.refl (R : Nat → Prop) (ρ : Nat → Nat) (w : World) : Ev R ρ w ρ w := ⟨rfl, rfl, rfl, Nat.le_refl _, fun _ _ _ => rfl, fun _ _ _ _ => rfl⟩
theorem Ev.trans {R : Nat → Prop} {ρ ρ1 ρ2 : Nat → Nat} {w w1 w2 : World} (h : Ev R ρ w ρ1 w1) (k : Ev R ρ1 w1 ρ2 w2) : Ev R ρ w ρ2 w2 :=
  ⟨k.os.trans h.os, k.tape.trans h.tape, k.output.trans h.output, Nat.le_trans h.size k.size,
    fun i hi hr => by have := h.role i hi hr; rw [k.role i (Nat.lt_of_lt_of_le hi h.size) (by rw [this]; exact hr), this],
    fun i hi hr hR => by have e := h.role i hi hr; rw [k.block i (Nat.lt_of_lt_of_le hi h.size) (by rw [e]; exact hr) (by rw [e]; exact hR), h.block i hi hr hR]⟩
theorem Ev.mono {R R' : Nat → Prop} {ρ ρ1 : Nat → Nat} {w w1 : World} (h : Ev R ρ w ρ1 w1) (hR : ∀ r, R r → R' r) : Ev R' ρ w ρ1 w1 :=
  ⟨h.os, h.tape, h.output, h.size, h.role, fun i hi hr hn => h.block i hi hr (fun hh => hn (hR _ hh))⟩
theorem Ev.of_below {R : Nat → Prop} (ρ : Nat → Nat) {w w' : World} (h : Below w.heap.size w w') : Ev R ρ w ρ w' :=
  ⟨h.os, h.tape, h.output, h.size, fun _ _ _ => rfl, fun i hi _ _ => h.block i hi⟩
theorem Ev.of_grown {R : Nat → Prop} (ρ : Nat → Nat) {w w' : World} {row : Option Nat} (h : w.grownBy w' row) (hr : ∀ g, row = some g → ρ g = 14 ∨ R (ρ g)) : Ev R ρ w ρ w' :=
  ⟨h.os, h.tape, h.output, h.size, fun _ _ _ => rfl, fun i hi h1 h2 => h.block i hi (fun e => by rcases hr i e.symm with h' | h'; exact h1 h'; exact h2 h')⟩
theorem Ev.of_set {R : Nat → Prop} (ρ : Nat → Nat) (w : World) (b k : Nat) (v : Value) (hr : ρ b = 14 ∨ R (ρ b)) : Ev R ρ w ρ (w.setCell ⟨b, k, none⟩ v) :=
  Ev.of_grown ρ (grownBy_set (Below.refl _ _) v) (fun g e => by cases e; exact hr)
theorem Fr.grow {ρ : Nat → Nat} {w w' : World} (h : Fr ρ w) (hs : w.heap.size ≤ w'.heap.size) : Fr ρ w' := fun k hk => h k (Nat.le_trans hs hk)
/-- A block of nobody's gets a role. -/
def rl (ρ : Nat → Nat) (g r : Nat) : Nat → Nat := fun k => if k = g then r else ρ k
theorem rl_same (ρ : Nat → Nat) (g r : Nat) : rl ρ g r g = r := by simp [rl]
theorem rl_ne {ρ : Nat → Nat} {g r k : Nat} (h : k ≠ g) : rl ρ g r k = ρ k := by simp [rl, h]
theorem Ev.rl {R : Nat → Prop} {ρ : Nat → Nat} (w : World) {g : Nat} (r : Nat) (h : ρ g = 14 ∨ ρ g = r) : Ev R ρ w (rl ρ g r) w := by
  refine ⟨rfl, rfl, rfl, Nat.le_refl _, fun k _ hk => ?_, fun _ _ _ _ => rfl⟩
  by_cases e : k = g
  · subst e
    rw [rl_same]
    rcases h with h | h
    · exact absurd h hk
    · exact h.symm
  · exact rl_ne e
theorem Fr.rl {ρ : Nat → Nat} {w : World} (h : Fr ρ w) {g : Nat} (hg : g < w.heap.size) (r : Nat) : Fr (rl ρ g r) w := fun k hk => by rw [rl_ne (by omega)]; exact h k hk

/-- A row of the role r. -/
def Own (N : Nat) (ρ : Nat → Nat) (w : World) (r e : Nat) (v : Value) (n : Nat) (xs : List Value) : Prop := w.ownsRow N e 1 v n xs ∧ ∀ g, v.ownBlock = some g → ρ g = r
theorem Own.ev {N : Nat} {ρ ρ' : Nat → Nat} {w w' : World} {r e : Nat} {v : Value} {n : Nat} {xs : List Value} {R : Nat → Prop} (h : Own N ρ w r e v n xs) (he : Ev R ρ w ρ' w') (hr : ¬ R r) (h14 : r ≠ 14) : Own N ρ' w' r e v n xs := by
  obtain ⟨h1, h2⟩ := h
  refine ⟨⟨h1.1, ?_⟩, fun g hg => ?_⟩
  · rcases h1.2 with hn | ⟨g, cap, cur, rfl, hb, hgg, rest⟩
    · exact .inl hn
    · have hρ := h2 g rfl
      refine .inr ⟨g, cap, cur, rfl, hb, ?_, rest⟩
      rw [he.block g (Array.getElem?_eq_some_iff.1 hgg).1 (by rw [hρ]; exact h14) (by rw [hρ]; exact hr)]
      exact hgg
  · have := h2 g hg
    rw [he.role g (h1.lt g hg).2 (by rw [this]; exact h14), this]
theorem Own.nil (N : Nat) (ρ : Nat → Nat) (w : World) (r e : Nat) : Own N ρ w r e nilS 0 [] := ⟨World.ownsRow_nil _ _ _ _, fun g hg => by simp [Value.ownBlock] at hg⟩
theorem Own.rd {N : Nat} {ρ : Nat → Nat} {w : World} {r : Nat} {v : Value} {xs : List Int} (h : Own N ρ w r 3 v xs.length (ints xs)) : ∃ ao cap, v = .slice ao xs.length cap ∧ Rd w ao xs.length xs ∧ xs.length ≤ maxLen := by
  rcases h.1.2 with ⟨rfl, h0⟩ | ⟨g, cap, cur, rfl, hb, hgg, hc, hm, _⟩
  · rw [h0]; exact ⟨none, 0, rfl, ⟨h0, .inl rfl⟩, by unfold maxLen; omega⟩
  · refine ⟨_, cap, rfl, ⟨rfl, .inr ⟨g, 0, rfl, fun j x hx => ?_⟩⟩, Nat.le_trans hc hm⟩
    have := h.1.cells (g := g) rfl j (.int .i64 x) (by simp [hx])
    rwa [Lib.add_plain] at this
theorem St.ev {R : Nat → Prop} {ρ ρ' : Nat → Nat} {w w' : World} {b n : Nat} {f : Nat → Value} (h : St w b n f) (hn : 0 < n) (he : Ev R ρ w ρ' w') (hr : ¬ R (ρ b)) (h14 : ρ b ≠ 14) : St w' b n f :=
  h.same (he.block b (h.lt hn) h14 hr)

/-- 'x.f = append(x.f, y)' on a row of a struct's. -/
theorem push_cell15 {N : Nat} {ρ : Nat → Nat} {w w1 w2 : World} {B m c r e : Nat} {F : Nat → Value} {v : Value} {n : Nat} {xs : List Value} {x : Value} {g cap : Nat}
    (hF : Fr ρ w) (hB : ρ B = 1) (hst : St w B m F) (hc : c < m) (hr1 : r ≠ 1) (ho : Own N ρ w r e v n xs) (hw1 : Below w.heap.size w w1)
    (hown : w2.ownsRow N e 1 (.slice (some ⟨g, 0, none⟩) (n + 1) cap) (n + 1) (xs ++ [x])) (hg : w1.grownBy w2 v.ownBlock) (hat : v.ownBlock = some g ∨ g = w1.heap.size) (hlt : g < w2.heap.size) :
    St w2 B m F ∧ ∃ ρ3, Fr ρ3 (w2.setCell ⟨B, c, none⟩ (.slice (some ⟨g, 0, none⟩) (n + 1) cap)) ∧ Ev (fun q => q = 1 ∨ q = r) ρ w ρ3 (w2.setCell ⟨B, c, none⟩ (.slice (some ⟨g, 0, none⟩) (n + 1) cap)) ∧
      St (w2.setCell ⟨B, c, none⟩ (.slice (some ⟨g, 0, none⟩) (n + 1) cap)) B m (upd F c (.slice (some ⟨g, 0, none⟩) (n + 1) cap)) ∧ Own N ρ3 (w2.setCell ⟨B, c, none⟩ (.slice (some ⟨g, 0, none⟩) (n + 1) cap)) r e (.slice (some ⟨g, 0, none⟩) (n + 1) cap) (n + 1) (xs ++ [x]) ∧ (r ≠ 15 → (∀ k, ρ k ≠ 15) → ∀ k, ρ3 k ≠ 15) := by
  have hBlt := hst.lt (Nat.lt_of_le_of_lt (Nat.zero_le _) hc)
  have hgρ : ρ g = 14 ∨ ρ g = r := by
    rcases hat with h | h
    · exact .inr (ho.2 g h)
    · exact .inl (hF g (by rw [h]; exact hw1.size))
  have hgB : g ≠ B := by
    rintro rfl
    rcases hgρ with h | h
    · rw [hB] at h; omega
    · rw [hB] at h; exact hr1 h.symm
  have hvB : ∀ k, v.ownBlock = some k → k ≠ B := fun k hk e => by have := ho.2 k hk; rw [e, hB] at this; exact hr1 this.symm
  have hs12 : w1.heap.size ≤ w2.heap.size := hg.size
  have e12 : Ev (fun q => q = 1 ∨ q = r) ρ w ρ w2 := (Ev.of_below ρ hw1).trans (Ev.of_grown ρ hg (fun k hk => .inr (.inr (ho.2 k hk))))
  have e3 : Ev (fun q => q = 1 ∨ q = r) ρ w ρ (w2.setCell ⟨B, c, none⟩ (.slice (some ⟨g, 0, none⟩) (n + 1) cap)) := e12.trans (Ev.of_set ρ w2 B c _ (.inr (.inl hB)))
  have hsz : (w2.setCell ⟨B, c, none⟩ (.slice (some ⟨g, 0, none⟩) (n + 1) cap)).heap.size = w2.heap.size := by simp [World.setCell]
  have hstB : St w2 B m F := (hst.below hw1 hBlt).same (hg.block B (Nat.lt_of_lt_of_le hBlt hw1.size) (fun e => hvB B e.symm rfl))
  refine ⟨hstB, rl ρ g r, ?_, ?_, hstB.set hc _, ⟨?_, fun k hk => ?_⟩, fun h h' k => ?_⟩
  · exact ((hF.grow (Nat.le_trans hw1.size hs12)).grow (Nat.le_of_eq hsz.symm)).rl (by rw [hsz]; exact hlt) r
  · exact e3.trans (Ev.rl _ r hgρ)
  · obtain ⟨h1, h2⟩ := hown
    refine ⟨h1, ?_⟩
    rcases h2 with ⟨h', _⟩ | ⟨g', cap', cur, hv, hb, hgg, rest⟩
    · cases h'
    · have : g' = g := by simp at hv; exact hv.1.symm
      subst this
      exact .inr ⟨g', cap', cur, hv, hb, by rw [Below.heap_setCell _ _ _ _ hgB]; exact hgg, rest⟩
  · simp [Value.ownBlock] at hk; subst hk; exact rl_same _ _ _
  · unfold rl; split
    · exact h
    · exact h' k
/-- 'x.f = append(x.f, y)' on a row of a struct's. -/
theorem push_cell {N : Nat} {ρ : Nat → Nat} {w w1 w2 : World} {B m c r e : Nat} {F : Nat → Value} {v : Value} {n : Nat} {xs : List Value} {x : Value} {g cap : Nat}
    (hF : Fr ρ w) (hB : ρ B = 1) (hst : St w B m F) (hc : c < m) (hr1 : r ≠ 1) (ho : Own N ρ w r e v n xs) (hw1 : Below w.heap.size w w1)
    (hown : w2.ownsRow N e 1 (.slice (some ⟨g, 0, none⟩) (n + 1) cap) (n + 1) (xs ++ [x])) (hg : w1.grownBy w2 v.ownBlock) (hat : v.ownBlock = some g ∨ g = w1.heap.size) (hlt : g < w2.heap.size) :
    St w2 B m F ∧ ∃ ρ3, Fr ρ3 (w2.setCell ⟨B, c, none⟩ (.slice (some ⟨g, 0, none⟩) (n + 1) cap)) ∧ Ev (fun q => q = 1 ∨ q = r) ρ w ρ3 (w2.setCell ⟨B, c, none⟩ (.slice (some ⟨g, 0, none⟩) (n + 1) cap)) ∧
      St (w2.setCell ⟨B, c, none⟩ (.slice (some ⟨g, 0, none⟩) (n + 1) cap)) B m (upd F c (.slice (some ⟨g, 0, none⟩) (n + 1) cap)) ∧ Own N ρ3 (w2.setCell ⟨B, c, none⟩ (.slice (some ⟨g, 0, none⟩) (n + 1) cap)) r e (.slice (some ⟨g, 0, none⟩) (n + 1) cap) (n + 1) (xs ++ [x]) := by
  obtain ⟨h1, ρ3, h2, h3, h4, h5, _⟩ := push_cell15 hF hB hst hc hr1 ho hw1 hown hg hat hlt
  exact ⟨h1, ρ3, h2, h3, h4, h5⟩

/-! ### The book -/
def bookF (mark : Int) (vI vM vH vU : Value) : Nat → Value
  | 0 => .int .i64 mark
  | 1 => vI
  | 2 => vM
  | 7 => vH
  | 8 => vU
  | _ => nilS
/-- A list that is full of its mark. -/
def Mk (N : Nat) (ρ : Nat → Nat) (w : World) (r : Nat) (v : Value) (m : Int) : Prop := ∃ n xs, Own N ρ w r 3 v n xs ∧ ∀ x ∈ xs, x = .int .i64 m
/-- A list that was handed in, and what it must read as. -/
def Ct (N : Nat) (ρ : Nat → Nat) (w : World) (v u : Value) : Prop := ∃ xs : List Int, Own N ρ w 7 3 v xs.length (ints xs) ∧ Own N ρ w 7 3 u xs.length (ints xs)
structure Bk (N : Nat) (ρ : Nat → Nat) (w : World) (B : Nat) (mark : Int) (vI vM vH vU : Value) (L : List (Value × Int)) (K : List (Value × Value)) : Prop where
  rB : ρ B = 1
  st : St w B 11 (bookF mark vI vM vH vU)
  oI : Own N ρ w 2 31 vI L.length (L.map (·.1))
  oM : Own N ρ w 3 3 vM L.length (L.map fun p => .int .i64 p.2)
  oH : Own N ρ w 4 31 vH K.length (K.map (·.1))
  oU : Own N ρ w 5 31 vU K.length (K.map (·.2))
  mks : ∀ p ∈ L, Mk N ρ w 6 p.1 p.2
  cts : ∀ p ∈ K, Ct N ρ w p.1 p.2
theorem Mk.ev {R : Nat → Prop} {N : Nat} {ρ ρ' : Nat → Nat} {w w' : World} {r : Nat} {v : Value} {m : Int} (h : Mk N ρ w r v m) (he : Ev R ρ w ρ' w') (hr : ¬ R r) (h14 : r ≠ 14) : Mk N ρ' w' r v m := by
  obtain ⟨n, xs, h1, h2⟩ := h
  exact ⟨n, xs, h1.ev he hr h14, h2⟩
theorem Ct.ev {R : Nat → Prop} {N : Nat} {ρ ρ' : Nat → Nat} {w w' : World} {v u : Value} (h : Ct N ρ w v u) (he : Ev R ρ w ρ' w') (hr : ¬ R 7) : Ct N ρ' w' v u := by
  obtain ⟨xs, h1, h2⟩ := h
  exact ⟨xs, h1.ev he hr (by decide), h2.ev he hr (by decide)⟩
theorem Bk.ev {R : Nat → Prop} {N : Nat} {ρ ρ' : Nat → Nat} {w w' : World} {B : Nat} {mark : Int} {vI vM vH vU : Value} {L : List (Value × Int)} {K : List (Value × Value)} (h : Bk N ρ w B mark vI vM vH vU L K) (he : Ev R ρ w ρ' w') (hr : ∀ r, 1 ≤ r → r ≤ 7 → ¬ R r) : Bk N ρ' w' B mark vI vM vH vU L K := by
  have hlt := h.st.lt (by decide)
  exact ⟨by rw [he.role B hlt (by rw [h.rB]; decide), h.rB], h.st.ev (by decide) he (by rw [h.rB]; exact hr 1 (by decide) (by decide)) (by rw [h.rB]; decide),
    h.oI.ev he (hr 2 (by decide) (by decide)) (by decide), h.oM.ev he (hr 3 (by decide) (by decide)) (by decide), h.oH.ev he (hr 4 (by decide) (by decide)) (by decide), h.oU.ev he (hr 5 (by decide) (by decide)) (by decide),
    fun p hp => (h.mks p hp).ev he (hr 6 (by decide) (by decide)) (by decide), fun p hp => (h.cts p hp).ev he (hr 7 (by decide) (by decide))⟩
end Go.Proofs.Ytnfkgnjeamnhfab
namespace Go.Proofs.Ytnfkgnjeamnhfab
open Go.RowKit

/-- append onto a row of the call's own, the arms apart: there is room, in the row itself; or there is a new row, and all else stays. -/
theorem run_append_arms {P : Program} (w : World) (base : Nat) (t ty e : TypeId) (i : TypeInfo) (z : Value) (bytes : Nat) (ht : P.underlying t = some (.slice e)) (hi : P.info? e = some i) (hz : i.zero = some z)
    (hsize : i.size = 1) (hby : i.bytes = bytes) (hzs : z.cells.size = 1)
    (v : Value) (n : Nat) (xs : List Value) (hown : w.ownsRow base e 1 v n xs)
    (a : Addr) (m c : Nat) (news : List Value) (hl : news.length = m * 1) (hnews : ∀ j u, news[j]? = some u → w.cell? (a.add j) = some u) (h1 : ∀ u ∈ news, u.oneCell' = true)
    (hm : 0 < m) (h63 : n + m ≤ maxLen) (hbytes : (n + m) * bytes ≤ 140737488355328) (hbase : base ≤ w.heap.size) :
    ∃ g cap w', (Builtin.append_ #[t, t] ty #[v, .slice (some a) m c]).run P w = .ok (.slice (some ⟨g, 0, none⟩) (n + m) cap) w' ∧ w'.ownsRow base e 1 (.slice (some ⟨g, 0, none⟩) (n + m) cap) (n + m) (xs ++ news) ∧ g < w'.heap.size ∧
      ((v = .slice (some ⟨g, 0, none⟩) n cap ∧ w.grownBy w' (some g)) ∨ (g = w.heap.size ∧ w.grownBy w' none)) := by
  subst hby
  have hsmall : n + m ≤ 9223372036854775807 := by simp only [maxLen] at h63; omega
  have hlen : (xs ++ news).length = (n + m) * 1 := by rw [List.length_append, hown.1, hl, Nat.add_mul]
  have grown : ∀ (old : Nat), old < n + m →
      (w.drew.alloc (.cells (xs.toArray ++ news.toArray ++ Builtin.zeroCells z.cells (grownCap w (n + m) old e - (n + m))) e)).ownsRow base e 1
        (.slice (some ⟨w.heap.size, 0, none⟩) (n + m) (grownCap w (n + m) old e)) (n + m) (xs ++ news) ∧
      w.grownBy (w.drew.alloc (.cells (xs.toArray ++ news.toArray ++ Builtin.zeroCells z.cells (grownCap w (n + m) old e - (n + m))) e)) none := by
    intro old ho
    have hge := grownCap_ge w (n + m) old e
    have hcm : grownCap w (n + m) old e ≤ maxLen := grownCap_le_maxLen w (n + m) old e h63
    refine ⟨⟨hlen, .inr ⟨w.heap.size, _, _, rfl, hbase, heap_alloc_new w.drew _, hge, hcm, ?_, ?_⟩⟩, ⟨rfl, rfl, rfl, by simp, fun k hk _ => Below.heap_alloc w.drew _ k hk⟩⟩
    · simp only [Array.size_append, List.size_toArray, size_zeroCells, hzs, hown.1, hl, ← Nat.add_mul]
      omega
    · simp only [Array.toList_append, List.append_assoc]
      rw [← List.append_assoc, ← hlen]
      exact List.take_left
  rcases hown.2 with ⟨rfl, rfl⟩ | ⟨g, cap, cur, rfl, hbg, hg, hnc, hcm, hcs, htake⟩
  · have hx : xs = [] := List.eq_nil_of_length_eq_zero (by simpa using hown.1)
    subst hx
    have hr := run_append_nil (P := P) w t ty e i z ht hi hz a m c news (by rw [hsize]; exact hl) hnews (by omega) (by omega) (by have hb := hbytes; simp only [Nat.zero_add] at hb; omega)
    have hgr := grown 0 (by omega)
    simp only [Nat.zero_add, List.nil_append, Array.empty_append] at hgr ⊢
    exact ⟨_, _, _, hr, hgr.1, by simp, .inr ⟨rfl, hgr.2⟩⟩
  · by_cases hroom : n + m ≤ cap
    · have hfit : n * i.size + news.length ≤ cur.size := by rw [hl, hcs, hsize]; omega
      have hr := run_append_room (P := P) w t ty e i ht hi g n cap cur hg a m c news (by rw [hsize]; exact hl) hnews h1 hroom hfit
      have hgl : g < w.heap.size := (Array.getElem?_eq_some_iff.1 hg).1
      refine ⟨g, cap, _, hr, ⟨hlen, .inr ⟨g, cap, _, rfl, hbg, setRow_heap w g cur _ e _ hg, hroom, hcm, ?_, ?_⟩⟩, by simpa [World.setRow] using hgl, .inl ⟨rfl, ⟨rfl, rfl, rfl, by simp, fun k _ hk => setRow_other w g k _ (fun e => hk (by rw [e]))⟩⟩⟩
      · rw [hsize]
        simp only [List.size_toArray, List.length_append, List.length_take, List.length_drop, Array.length_toList]
        omega
      · rw [hsize, htake, ← hlen]
        exact List.take_left
    · have holds : ∀ j u, xs[j]? = some u → w.cell? ((⟨g, 0, none⟩ : Addr).add j) = some u := hown.cells (g := g) rfl
      have hr := run_append_grow (P := P) w t ty e i z ht hi hz ⟨g, 0, none⟩ n cap xs (by rw [hsize]; exact hown.1) holds a m c news (by rw [hsize]; exact hl) hnews (by omega) (by omega) (growslice_fits (by omega) hbytes)
      have hgr := grown cap (by omega)
      exact ⟨_, _, _, hr, hgr.1, by simp, .inr ⟨rfl, hgr.2⟩⟩

theorem wpList_append_arms {P : Program} (w : World) {ops : Array Oper} {rest : List Oper} {o : Oper} {a : Act} {Q : Exit → Act → World → Prop} (hgd : o.guard = none) (s x : Operand) (t : TypeId)
    (ho : o.op = .call { callee := .builtin .append, args := #[s, x], argTypes := #[t, t] })
    (base : Nat) (e : TypeId) (i : TypeInfo) (z : Value) (bytes : Nat) (ht : P.underlying t = some (.slice e)) (hi : P.info? e = some i) (hz : i.zero = some z)
    (hsize : i.size = 1) (hby : i.bytes = bytes) (hzs : z.cells.size = 1)
    (v : Value) (n : Nat) (xs : List Value) (hs : a.eval s = v) (hown : w.ownsRow base e 1 v n xs)
    (ad : Addr) (m c : Nat) (news : List Value) (hx : a.eval x = .slice (some ad) m c) (hl : news.length = m * 1) (hnews : ∀ j u, news[j]? = some u → w.cell? (ad.add j) = some u) (h1 : ∀ u ∈ news, u.oneCell' = true)
    (hm : 0 < m) (h63 : n + m ≤ maxLen) (hbytes : (n + m) * bytes ≤ 140737488355328) (hbase : base ≤ w.heap.size)
    (h : ∀ g cap w', w'.ownsRow base e 1 (.slice (some ⟨g, 0, none⟩) (n + m) cap) (n + m) (xs ++ news) → g < w'.heap.size → ((v = .slice (some ⟨g, 0, none⟩) n cap ∧ w.grownBy w' (some g)) ∨ (g = w.heap.size ∧ w.grownBy w' none)) → wpList P ops Q rest (a.put o.dst (.slice (some ⟨g, 0, none⟩) (n + m) cap)) w') : wpList P ops Q (o :: rest) a w :=
  wpList_plain hgd fun _ hK => by
    obtain ⟨g, cap, w', hr, h2, h3, h4⟩ := run_append_arms (P := P) w base t o.type e i z bytes ht hi hz hsize hby hzs v n xs hown ad m c news hl hnews h1 hm h63 hbytes hbase
    unfold Oper.wp execOp
    simp only [ho, resolve, invoke, builtin, Sem.run_bind, Sem.run_pure, Result.andThen_ok, List.map_toArray, List.map_cons, List.map_nil, hs, hx, hr]
    exact hK _ _ (h g cap w' h2 h3 h4)

/-- What was laid into a new block, one cell. -/
theorem news_one (w : World) (u : Value) (t : TypeId) : ∀ j x, [u][j]? = some x → (w.alloc (.cells #[u] t)).cell? ((⟨w.heap.size, 0, none⟩ : Addr).add j) = some x := by
  intro j x hx
  rw [Lib.add_plain, World.cell?_alloc_new]
  cases j with
  | zero => simpa using hx
  | succ j => simp at hx

/-- A list in the making (role 15): it is full of the mark; what was noted of it: a head of it, or a list apart. -/
def Noted (N : Nat) (ρ : Nat → Nat) (w : World) (m : Int) (l : Value) (p : Value × Int) : Prop :=
  p.2 = m ∧ ((∃ g n c k, l = .slice (some ⟨g, 0, none⟩) n c ∧ p.1 = .slice (some ⟨g, 0, none⟩) k c ∧ k ≤ n) ∨ (Mk N ρ w 15 p.1 m ∧ ∀ g, p.1.ownBlock = some g → l.ownBlock ≠ some g))
theorem own_prefix {w : World} {base e g n c k : Nat} {xs : List Value} (h : w.ownsRow base e 1 (.slice (some ⟨g, 0, none⟩) n c) n xs) (hk : k ≤ n) : w.ownsRow base e 1 (.slice (some ⟨g, 0, none⟩) k c) k (xs.take k) := by
  rcases h.2 with ⟨h', _⟩ | ⟨g', cap, cur, hv, hb, hg, hnc, hcm, hcs, ht⟩
  · cases h'
  · simp only [Value.slice.injEq, Option.some.injEq, Addr.mk.injEq, and_true, true_and] at hv
    obtain ⟨rfl, rfl⟩ := hv
    have hl := h.1
    refine ⟨by simp; omega, .inr ⟨g, c, cur, rfl, hb, hg, by omega, hcm, hcs, ?_⟩⟩
    rw [← ht, List.take_take]
    congr 1
    omega
/-- A mark more behind the list. -/
theorem Noted.more {N : Nat} {ρ : Nat → Nat} {w w' : World} {m : Int} {l : Value} {n : Nat} {xs : List Value} {p : Value × Int} {g cap : Nat} (h : Noted N ρ w m l p) (hl : Own N ρ w 15 3 l n xs) (hx : ∀ x ∈ xs, x = .int .i64 m)
    (ha : (l = .slice (some ⟨g, 0, none⟩) n cap ∧ w.grownBy w' (some g)) ∨ (g = w.heap.size ∧ w.grownBy w' none)) : Noted N (rl ρ g 15) w' m (.slice (some ⟨g, 0, none⟩) (n + 1) cap) p := by
  refine ⟨h.1, ?_⟩
  rcases ha with ⟨rfl, hg⟩ | ⟨rfl, hg⟩
  · have hρ := hl.2 g rfl
    rcases h.2 with ⟨g1, n1, c1, k, h1, h2, h3⟩ | ⟨⟨k, zs, h1, h2⟩, h3⟩
    · simp only [Value.slice.injEq, Option.some.injEq, Addr.mk.injEq, and_true] at h1
      obtain ⟨rfl, rfl, rfl⟩ := h1
      exact .inl ⟨g, n + 1, cap, k, rfl, h2, by omega⟩
    · refine .inr ⟨⟨k, zs, ⟨h1.1.kept hg ?_, fun g1 hg1 => ?_⟩, h2⟩, fun g1 hg1 => ?_⟩
      · cases hp : p.1.ownBlock with
        | none => exact .inl rfl
        | some g1 => exact .inr (fun e => h3 g1 hp (by simp [Value.ownBlock]; simpa using e.symm))
      · by_cases e : g1 = g
        · subst e; exact rl_same _ _ _
        · rw [rl_ne e]; exact h1.2 g1 hg1
      · have := h3 g1 hg1; simpa [Value.ownBlock] using this
  · have hsep : ∀ k, k < w.heap.size → (Value.slice (some ⟨w.heap.size, 0, none⟩) (n + 1) cap).ownBlock ≠ some k := by
      intro k hk e; simp [Value.ownBlock] at e; omega
    rcases h.2 with ⟨g1, n1, c1, k, h1, h2, h3⟩ | ⟨⟨k, zs, h1, h2⟩, h3⟩
    · subst h1
      have hlt := hl.1.lt g1 rfl
      have hρ := hl.2 g1 rfl
      have hn1 : n1 = n := by
        rcases hl.1.2 with ⟨h', _⟩ | ⟨g', cap', cur, hv, _⟩
        · cases h'
        · simp at hv; exact hv.2.1
      subst hn1
      refine .inr ⟨⟨k, xs.take k, ⟨?_, fun g2 hg2 => ?_⟩, fun x hx' => hx x (List.mem_of_mem_take hx')⟩, fun g2 hg2 => ?_⟩
      · rw [h2]; exact (own_prefix hl.1 h3).kept hg (.inr (by simp [Value.ownBlock]))
      · rw [h2] at hg2; simp [Value.ownBlock] at hg2; subst hg2; rw [rl_ne (by omega)]; exact hρ
      · rw [h2] at hg2; simp [Value.ownBlock] at hg2; subst hg2; exact hsep _ hlt.2
    · refine .inr ⟨⟨k, zs, ⟨h1.1.kept hg ?_, fun g1 hg1 => ?_⟩, h2⟩, fun g1 hg1 => hsep g1 (h1.1.lt g1 hg1).2⟩
      · cases hp : p.1.ownBlock with
        | none => exact .inl rfl
        | some g1 => exact .inr (by simp)
      · have := (h1.1.lt g1 hg1).2
        rw [rl_ne (by omega)]; exact h1.2 g1 hg1
theorem Noted.ev {R : Nat → Prop} {N : Nat} {ρ ρ' : Nat → Nat} {w w' : World} {m : Int} {l : Value} {p : Value × Int} (h : Noted N ρ w m l p) (he : Ev R ρ w ρ' w') (hr : ¬ R 15) : Noted N ρ' w' m l p :=
  ⟨h.1, h.2.imp id fun h2 => ⟨h2.1.ev he hr (by decide), h2.2⟩⟩
theorem Noted.self {N : Nat} {ρ : Nat → Nat} {w : World} {m : Int} {l : Value} {n : Nat} {xs : List Value} (hl : Own N ρ w 15 3 l n xs) : Noted N ρ w m l (l, m) := by
  refine ⟨rfl, ?_⟩
  rcases hl.1.2 with ⟨rfl, _⟩ | ⟨g, cap, cur, rfl, _⟩
  · exact .inr ⟨⟨0, [], Own.nil _ _ _ _ _, fun x hx => by cases hx⟩, fun g hg => by simp [Value.ownBlock] at hg⟩
  · exact .inl ⟨g, n, cap, n, rfl, rfl, Nat.le_refl _⟩
/-- All that was noted is full of the mark. -/
theorem Noted.mk {N : Nat} {ρ : Nat → Nat} {w : World} {m : Int} {l : Value} {n : Nat} {xs : List Value} {p : Value × Int} (h : Noted N ρ w m l p) (hl : Own N ρ w 15 3 l n xs) (hx : ∀ x ∈ xs, x = .int .i64 m) : Mk N ρ w 15 p.1 p.2 := by
  rw [h.1]
  rcases h.2 with ⟨g1, n1, c1, k, rfl, h2, h3⟩ | ⟨h1, _⟩
  · have hn1 : n1 = n := by
      rcases hl.1.2 with ⟨h', _⟩ | ⟨g', cap', cur, hv, _⟩
      · cases h'
      · simp at hv; exact hv.2.1
    subst hn1
    refine ⟨k, xs.take k, ⟨by rw [h2]; exact own_prefix hl.1 h3, fun g2 hg2 => ?_⟩, fun x hx' => hx x (List.mem_of_mem_take hx')⟩
    rw [h2] at hg2; simp [Value.ownBlock] at hg2; subst hg2; exact hl.2 g1 rfl
  · exact h1
end Go.Proofs.Ytnfkgnjeamnhfab
namespace Go.Proofs.Ytnfkgnjeamnhfab
open Go.RowKit

/-- A row of nobody's gets an owner. -/
theorem adopt {N : Nat} {ρ : Nat → Nat} {w : World} {e : Nat} {v : Value} {n : Nat} {xs : List Value} (r : Nat) (hF : Fr ρ w) (h : w.ownsRow N e 1 v n xs) (h14 : ∀ g, v.ownBlock = some g → ρ g = 14) :
    ∃ ρ1, Own N ρ1 w r e v n xs ∧ (∀ R, Ev R ρ w ρ1 w) ∧ Fr ρ1 w := by
  cases hv : v.ownBlock with
  | none => exact ⟨ρ, ⟨h, fun g hg => by rw [hv] at hg; cases hg⟩, fun R => Ev.refl _ _ _, hF⟩
  | some g => exact ⟨rl ρ g r, ⟨h, fun g' hg => by rw [hv] at hg; cases hg; exact rl_same _ _ _⟩, fun R => Ev.rl w r (.inl (h14 g hv)), hF.rl (h.lt g hv).2 r⟩
theorem own_slice {w : World} {N e n : Nat} {v : Value} {xs : List Value} (h : w.ownsRow N e 1 v n xs) : ∃ ao cap, v = .slice ao n cap ∧ (0 < n → ∃ g, ao = some ⟨g, 0, none⟩) := by
  rcases h.2 with ⟨rfl, rfl⟩ | ⟨g, cap, cur, rfl, _⟩
  · exact ⟨none, 0, rfl, fun h => by omega⟩
  · exact ⟨_, cap, rfl, fun _ => ⟨g, rfl⟩⟩
/-- The list in the making is done: its blocks are the book's now. -/
def doneR (ρ : Nat → Nat) : Nat → Nat := fun k => if ρ k = 15 then 6 else ρ k
theorem upd_mark (m m' : Int) (vI vM vH vU : Value) : ∀ j, j < 11 → upd (bookF m vI vM vH vU) 0 (.int .i64 m') j = bookF m' vI vM vH vU j := by
  intro j hj; iterate 11 (rcases j with _ | j; · rfl)
  omega
theorem upd_ints (m : Int) (vI vM vH vU v : Value) : ∀ j, j < 11 → upd (bookF m vI vM vH vU) 1 v j = bookF m v vM vH vU j := by
  intro j hj; iterate 11 (rcases j with _ | j; · rfl)
  omega
theorem upd_marks (m : Int) (vI vM vH vU v : Value) : ∀ j, j < 11 → upd (bookF m vI vM vH vU) 2 v j = bookF m vI v vH vU j := by
  intro j hj; iterate 11 (rcases j with _ | j; · rfl)
  omega
theorem upd_hops (m : Int) (vI vM vH vU v : Value) : ∀ j, j < 11 → upd (bookF m vI vM vH vU) 7 v j = bookF m vI vM v vU j := by
  intro j hj; iterate 11 (rcases j with _ | j; · rfl)
  omega
theorem upd_must (m : Int) (vI vM vH vU v : Value) : ∀ j, j < 11 → upd (bookF m vI vM vH vU) 8 v j = bookF m vI vM vH v j := by
  intro j hj; iterate 11 (rcases j with _ | j; · rfl)
  omega
theorem own_setOther {w : World} {N e n b k : Nat} {v : Value} {xs : List Value} (h : w.ownsRow N e 1 v n xs) (hne : ∀ g, v.ownBlock = some g → g ≠ b) (u : Value) : (w.setCell ⟨b, k, none⟩ u).ownsRow N e 1 v n xs := by
  refine h.kept (grownBy_set (Below.refl _ _) u) ?_
  cases hv : v.ownBlock with
  | none => exact .inl rfl
  | some g => exact .inr (fun e => hne g hv (by simpa using e))
theorem get_set {ys : List Value} {k j : Nat} {u : Value} (h : ∀ j, j < k → ys[j]? = some u) (hk : k < ys.length) (hj : j < k + 1) : (ys.set k u)[j]? = some u := by
  by_cases e : j = k
  · subst e; simp [hk]
  · rw [List.getElem?_set_ne (by omega)]; exact h j (by omega)
theorem all_of_get {ys : List Value} {n : Nat} {u : Value} (h : ∀ j, j < n → ys[j]? = some u) (hl : ys.length = n) : ∀ y ∈ ys, y = u := by
  intro y hy
  obtain ⟨j, hj, rfl⟩ := List.getElem_of_mem hy
  have := h j (by omega)
  rw [List.getElem?_eq_getElem hj] at this
  exact Option.some.inj this

/-- In the second loop of keepInts, k lists noted. -/
structure Mid (N : Nat) (ρ : Nat → Nat) (w : World) (B : Nat) (m : Int) (vH vU : Value) (L : List (Value × Int)) (n0 : Nat) (l : Value) (k : Nat) (ρ' : Nat → Nat) (wr : World) (vI vM : Value) (L' : List (Value × Int)) (n : Nat) (ys : List Value) : Prop where
  ev : Ev (fun q => q = 1 ∨ q = 2 ∨ q = 3 ∨ q = 15) ρ w ρ' wr
  fr : Fr ρ' wr
  rB : ρ' B = 1
  st : St wr B 11 (bookF m vI vM vH vU)
  oI : Own N ρ' wr 2 31 vI (L ++ L').length ((L ++ L').map (·.1))
  oM : Own N ρ' wr 3 3 vM (L ++ L').length ((L ++ L').map fun p => .int .i64 p.2)
  len : L'.length = k
  nt : ∀ p ∈ L', Noted N ρ' wr m l p
  ol : Own N ρ' wr 15 3 l n ys
  all : ∀ y ∈ ys, y = .int .i64 m
  le : n ≤ n0 + k

theorem Ev.drop15 {R : Nat → Prop} {ρ ρ' : Nat → Nat} {w w' : World} (h : Ev (fun q => R q ∨ q = 15) ρ w ρ' w') (h15 : ∀ k, ρ k ≠ 15) : Ev R ρ w ρ' w' :=
  ⟨h.os, h.tape, h.output, h.size, h.role, fun k hk h14 hR => h.block k hk h14 (fun e => e.elim hR (h15 k))⟩
theorem mid_next {N : Nat} {ρ : Nat → Nat} {w : World} {B : Nat} {m : Int} {vH vU : Value} {L : List (Value × Int)} {n0 : Nat} {l : Value} {q : Nat} {ρ2 ρ3 ρ4 : Nat → Nat} {wr w3 w5 w6 : World} {vI vM vI' vM' : Value} {L2 : List (Value × Int)} {n : Nat} {ys : List Value} {z : Nat} {xI xM : List Value} {g cap : Nat}
    (hM : Mid N ρ w B m vH vU L n0 l q ρ2 wr vI vM L2 n ys) (hrB3 : ρ3 B = 1) (hE3 : Ev (fun q => q = 1 ∨ q = 2) ρ2 wr ρ3 w3) (hE4 : Ev (fun q => q = 1 ∨ q = 3) ρ3 w3 ρ4 w5) (hF4 : Fr ρ4 w5) (hS5 : St w5 B 11 (bookF m vI' vM' vH vU)) (hBl : B < wr.heap.size)
    (hz : z = (L ++ L2).length) (hxI : xI = (L ++ L2).map (·.1)) (hxM : xM = (L ++ L2).map fun p => Value.int .i64 p.2)
    (hO3 : Own N ρ3 w3 2 31 vI' (z + 1) (xI ++ [l])) (hO4 : Own N ρ4 w5 3 3 vM' (z + 1) (xM ++ [.int .i64 m]))
    (hown : w6.ownsRow N 3 1 (.slice (some ⟨g, 0, none⟩) (n + 1) cap) (n + 1) (ys ++ [.int .i64 m])) (hgz : g < w6.heap.size)
    (harm : (l = .slice (some ⟨g, 0, none⟩) n cap ∧ (w5.alloc (.cells #[.int .i64 m] 3)).grownBy w6 (some g)) ∨ (g = w5.heap.size + 1 ∧ (w5.alloc (.cells #[.int .i64 m] 3)).grownBy w6 none)) :
    Mid N ρ w B m vH vU L n0 (.slice (some ⟨g, 0, none⟩) (n + 1) cap) (q + 1) (rl ρ4 g 15) w6 vI' vM' (L2 ++ [(l, m)]) (n + 1) (ys ++ [.int .i64 m]) := by
  have hal : Below w5.heap.size w5 (w5.alloc (.cells #[.int .i64 m] 3)) := (Below.refl _ _).alloc (Nat.le_refl _) _
  have hF5 : Fr ρ4 (w5.alloc (.cells #[.int .i64 m] 3)) := hF4.grow hal.size
  have hol5 : Own N ρ4 (w5.alloc (.cells #[.int .i64 m] 3)) 15 3 l n ys := ((hM.ol.ev hE3 (by decide) (by decide)).ev hE4 (by decide) (by decide)).ev (Ev.of_below (R := fun _ => False) ρ4 hal) (by simp) (by decide)
  have hsz : (w5.alloc (.cells #[.int .i64 m] 3)).heap.size = w5.heap.size + 1 := by simp
  have hgρ : ρ4 g = 14 ∨ ρ4 g = 15 := by
    rcases harm with ⟨rfl, _⟩ | ⟨rfl, _⟩
    · exact .inr (hol5.2 g rfl)
    · exact .inl (hF4 _ (by omega))
  have eA : Ev (fun q => q = 15) ρ4 w5 (rl ρ4 g 15) w6 := by
    rcases harm with ⟨h1, h2⟩ | ⟨h1, h2⟩
    · exact (Ev.of_below ρ4 hal).trans (Ev.trans (Ev.of_grown ρ4 h2 (fun g' hg' => by cases hg'; exact hgρ)) (Ev.rl w6 15 hgρ))
    · exact (Ev.of_below ρ4 hal).trans (Ev.trans (Ev.of_grown ρ4 h2 (fun g' hg' => by cases hg')) (Ev.rl w6 15 hgρ))
  have hrB4 : ρ4 B = 1 := by rw [hE4.role B (Nat.lt_of_lt_of_le hBl hE3.size) (by rw [hrB3]; decide)]; exact hrB3
  have hgB : B ≠ g := by rintro rfl; rcases hgρ with h | h <;> rw [hrB4] at h <;> omega
  refine ⟨((hM.ev.trans (hE3.mono ?_)).trans (hE4.mono ?_)).trans (eA.mono ?_), ?_, ?_, ?_, ?_, ?_, ?_, ?_, ⟨hown, ?_⟩, ?_, ?_⟩
  · intro r h; rcases h with h | h; exact .inl h; exact .inr (.inl h)
  · intro r h; rcases h with h | h; exact .inl h; exact .inr (.inr (.inl h))
  · intro r h; exact .inr (.inr (.inr h))
  · exact Fr.rl (hF4.grow eA.size) hgz 15
  · rw [rl_ne hgB]; exact hrB4
  · exact hS5.ev (by decide) eA (by rw [hrB4]; decide) (by rw [hrB4]; decide)
  · have := (hO3.ev hE4 (by decide) (by decide)).ev eA (by decide) (by decide)
    rw [hz, hxI] at this
    simpa [← List.append_assoc, Nat.add_assoc] using this
  · have := hO4.ev eA (by decide) (by decide)
    rw [hz, hxM] at this
    simpa [← List.append_assoc, Nat.add_assoc] using this
  · simp [hM.len]
  · intro p hp
    have harm' : (l = .slice (some ⟨g, 0, none⟩) n cap ∧ (w5.alloc (.cells #[.int .i64 m] 3)).grownBy w6 (some g)) ∨ (g = (w5.alloc (.cells #[.int .i64 m] 3)).heap.size ∧ (w5.alloc (.cells #[.int .i64 m] 3)).grownBy w6 none) := by rw [hsz]; exact harm
    rcases List.mem_append.1 hp with hp | hp
    · exact Noted.more ((((hM.nt p hp).ev hE3 (by decide)).ev hE4 (by decide)).ev (Ev.of_below (R := fun _ => False) ρ4 hal) (by simp)) hol5 hM.all harm'
    · obtain rfl : p = (l, m) := by simpa using hp
      exact Noted.more (Noted.self hol5) hol5 hM.all harm'
  · intro g' hg'; simp [Value.ownBlock] at hg'; subst hg'; exact rl_same _ _ _
  · intro y hy
    rcases List.mem_append.1 hy with hy | hy
    · exact hM.all y hy
    · simpa using hy
  · have := hM.le; omega
theorem Own.done {N : Nat} {ρ : Nat → Nat} {w : World} {r e : Nat} {v : Value} {n : Nat} {xs : List Value} (h : Own N ρ w r e v n xs) (hr : r ≠ 15) : Own N (doneR ρ) w r e v n xs :=
  ⟨h.1, fun g hg => by have := h.2 g hg; simp [doneR, this, hr]⟩
theorem Own.done15 {N : Nat} {ρ : Nat → Nat} {w : World} {e : Nat} {v : Value} {n : Nat} {xs : List Value} (h : Own N ρ w 15 e v n xs) : Own N (doneR ρ) w 6 e v n xs :=
  ⟨h.1, fun g hg => by have := h.2 g hg; simp [doneR, this]⟩
theorem mid_done {N : Nat} {ρ : Nat → Nat} {w : World} {B : Nat} {mark m : Int} {vI vM vH vU : Value} {L : List (Value × Int)} {K : List (Value × Value)} {n0 : Nat} {l : Value} {ρ2 : Nat → Nat} {wr : World} {vI2 vM2 : Value} {L2 : List (Value × Int)} {n : Nat} {ys : List Value}
    (hb : Bk N ρ w B mark vI vM vH vU L K) (h15 : ∀ k, ρ k ≠ 15) (hM : Mid N ρ w B m vH vU L n0 l 4 ρ2 wr vI2 vM2 L2 n ys) :
    ∃ ρ' vI' vM' L', Bk N ρ' wr B m vI' vM' vH vU (L ++ L') K ∧ L'.length = 4 ∧ Fr ρ' wr ∧ (∀ k, ρ' k ≠ 15) ∧ Ev (fun q => q = 1 ∨ q = 2 ∨ q = 3) ρ w ρ' wr := by
  have hev : Ev (fun q => q = 1 ∨ q = 2 ∨ q = 3) ρ w ρ2 wr := Ev.drop15 (hM.ev.mono (fun r h => by rcases h with h | h | h | h; exact .inl (.inl h); exact .inl (.inr (.inl h)); exact .inl (.inr (.inr h)); exact .inr h)) h15
  refine ⟨doneR ρ2, vI2, vM2, L2, ⟨?_, hM.st, hM.oI.done (by decide), hM.oM.done (by decide), (hb.oH.ev hev (by decide) (by decide)).done (by decide), (hb.oU.ev hev (by decide) (by decide)).done (by decide), ?_, ?_⟩, hM.len, ?_, ?_, ?_⟩
  · simp [doneR, hM.rB]
  · intro p hp
    rcases List.mem_append.1 hp with hp | hp
    · obtain ⟨k, zs, h1, h2⟩ := hb.mks p hp
      exact ⟨k, zs, (h1.ev hev (by decide) (by decide)).done (by decide), h2⟩
    · obtain ⟨k, zs, h1, h2⟩ := (hM.nt p hp).mk hM.ol hM.all
      exact ⟨k, zs, h1.done15, h2⟩
  · intro p hp
    obtain ⟨zs, h1, h2⟩ := hb.cts p hp
    exact ⟨zs, (h1.ev hev (by decide) (by decide)).done (by decide), (h2.ev hev (by decide) (by decide)).done (by decide)⟩
  · intro k hk; simp [doneR, hM.fr k hk]
  · intro k; unfold doneR; split
    · decide
    · assumption
  · refine ⟨hev.os, hev.tape, hev.output, hev.size, fun k hk h14 => ?_, hev.block⟩
    have := hev.role k hk h14
    unfold doneR
    rw [this, if_neg (h15 k)]

end Go.Proofs.Ytnfkgnjeamnhfab
