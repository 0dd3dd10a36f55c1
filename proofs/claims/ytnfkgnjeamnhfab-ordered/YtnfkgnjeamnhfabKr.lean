import Derived.Test.YtnfkgnjeamnhfabKs
namespace Go.Proofs.Ytnfkgnjeamnhfab
open Go.RowKit Go.Sort

/-- A group that is to be, for the time being. -/
def grK (gs : Nat → List Int) (j : Nat) : List Int := if hasB gs (j : Int) then gs j else [1]
theorem grK_good {gs : Nat → List Int} {rs : List Rt} {lim : Int} (h : Ok gs rs lim) {j : Nat} (hj : j < 32) : goodB (grK gs j) = true := by
  unfold grK
  split
  · rename_i hb
    have h1 := of_decide_eq_true hb
    rw [Int.toNat_natCast] at h1
    rcases h.hops j hj with h2 | h2
    · exact absurd h2 h1.2.2
    · exact h2
  · decide
theorem grK_pos {gs : Nat → List Int} {rs : List Rt} {lim : Int} (h : Ok gs rs lim) {j : Nat} (hj : j < 32) : (grK gs j).length ≠ 0 := by
  have := (goodB_len (grK_good h hj)).1; omega
def Inv1 (gs gU : Nat → List Int) (k : Nat) : Prop := (∀ j, j < k → gU j = grK gs j) ∧ ∀ j, k ≤ j → j < 32 → gU j = []
theorem Inv1.step {gs gU gU' : Nat → List Int} {rs : List Rt} {lim : Int} (ho : Ok gs rs lim) {k : Nat} (hk : k < 32) (h : Inv1 gs gU k) {a b : Int} (hg : GOut gU (grK gs k) a b gU') : a = k ∧ b = 0 ∧ Inv1 gs gU' (k + 1) := by
  have he : gU k = [] := h.2 k (Nat.le_refl _) hk
  rcases hg with ⟨h1, -⟩ | ⟨h1, h2, -⟩ | ⟨h1, i, h2, h3, h4, rfl, rfl, rfl⟩
  · rw [grK_good ho hk] at h1; cases h1
  · exact absurd (by rw [he]; rfl) (h2 k hk)
  · have hik : i = k := by
      rcases Nat.lt_trichotomy i k with hl | he' | hl
      · rw [h.1 i hl] at h4; exact absurd h4 (grK_pos ho h2)
      · exact he'
      · exact absurd (by rw [he]; rfl) (h3 k hl)
    subst hik
    refine ⟨rfl, rfl, fun j hj => ?_, fun j hj hj2 => ?_⟩
    · unfold updG
      split
      · rename_i e; rw [e]
      · exact h.1 j (by omega)
    · unfold updG
      rw [if_neg (by omega)]
      exact h.2 j (by omega) hj2
def Inv2 (gs gU : Nat → List Int) (k : Nat) : Prop := (∀ j, j < k → gU j = gs j) ∧ ∀ j, k ≤ j → j < 32 → gU j = grK gs j
theorem Inv1.end {gs gU : Nat → List Int} (h : Inv1 gs gU 32) : Inv2 gs gU 0 := ⟨fun j hj => by omega, fun j _ hj => h.1 j hj⟩
theorem Inv2.keep {gs gU : Nat → List Int} {k : Nat} (hk : k < 32) (h : Inv2 gs gU k) (hb : hasB gs (k : Int) = true) : Inv2 gs gU (k + 1) := by
  refine ⟨fun j hj => ?_, fun j hj hj2 => h.2 j (by omega) hj2⟩
  by_cases e : j = k
  · subst e; rw [h.2 j (Nat.le_refl _) hk]; unfold grK; rw [if_pos hb]
  · exact h.1 j (by omega)
theorem Inv2.drop {gs gU gU' : Nat → List Int} {k : Nat} (hk : k < 32) (h : Inv2 gs gU k) (hb : hasB gs (k : Int) = false) {c : Int} (hd : DOq gU [] (k : Int) c gU') : Inv2 gs gU' (k + 1) := by
  have h1 : gU k = [1] := by rw [h.2 k (Nat.le_refl _) hk]; unfold grK; rw [hb]; rfl
  have h2 : hasB gU (k : Int) = true := decide_eq_true ⟨by omega, by omega, by rw [Int.toNat_natCast, h1]; decide⟩
  have h0 : gs k = [] := by
    have := of_decide_eq_false hb
    rw [Int.toNat_natCast] at this
    exact List.length_eq_zero_iff.1 (by
      rcases Nat.eq_zero_or_pos (gs k).length with e | e
      · exact e
      · exact absurd ⟨by omega, by omega, by omega⟩ this)
  rcases hd with ⟨g1, rfl, rfl⟩ | ⟨g1, g2, rfl, rfl⟩ | ⟨g1, g2, rfl, rfl⟩
  · rw [h2] at g1; cases g1
  · cases g2
  · rw [Int.toNat_natCast]
    refine ⟨fun j hj => ?_, fun j hj hj2 => ?_⟩
    · unfold updG
      split
      · rename_i e; rw [e, h0]
      · exact h.1 j (by omega)
    · unfold updG
      rw [if_neg (by omega)]
      exact h.2 j (by omega) hj2
theorem srt_nodup {l : List Rt} (h : Srt l) : l.Nodup := h.imp (fun {a b} hab e => by subst e; exact klt_irrefl _ hab)
theorem nodup_le : ∀ {a b : List Rt}, a.Nodup → (∀ x ∈ a, x ∈ b) → a.length ≤ b.length
  | [], _, _, _ => Nat.zero_le _
  | x :: a, b, hn, hs => by
    obtain ⟨s, t, e⟩ := List.append_of_mem (hs x (by simp))
    obtain ⟨h1, h2⟩ := List.nodup_cons.1 hn
    have := nodup_le (a := a) (b := s ++ t) h2 (fun y hy => by
      have hb := hs y (by simp [hy])
      rw [e] at hb
      rcases List.mem_append.1 hb with h | h
      · exact List.mem_append.2 (.inl h)
      · rcases List.mem_cons.1 h with rfl | h
        · exact absurd hy h1
        · exact List.mem_append.2 (.inr h))
    rw [e]
    simp at this ⊢
    omega
theorem srt_ext : ∀ {a b : List Rt}, Srt a → Srt b → (∀ x, x ∈ a ↔ x ∈ b) → a = b
  | [], [], _, _, _ => rfl
  | [], y :: b, _, _, h => by have := (h y).2 (by simp); simp at this
  | x :: a, [], _, _, h => by have := (h x).1 (by simp); simp at this
  | x :: a, y :: b, ha, hb, h => by
    obtain ⟨a1, a2⟩ := List.pairwise_cons.1 ha
    obtain ⟨b1, b2⟩ := List.pairwise_cons.1 hb
    have e : x = y := by
      rcases List.mem_cons.1 ((h x).1 (by simp)) with h1 | h1
      · exact h1
      · rcases List.mem_cons.1 ((h y).2 (by simp)) with h2 | h2
        · exact h2.symm
        · exact absurd (klt_trans (b1 x h1) (a1 y h2)) (klt_irrefl _)
    subst e
    rw [srt_ext a2 b2 (fun z => ⟨fun hz => by
      rcases List.mem_cons.1 ((h z).1 (by simp [hz])) with h1 | h1
      · subst h1; exact absurd (a1 z hz) (klt_irrefl _)
      · exact h1, fun hz => by
      rcases List.mem_cons.1 ((h z).2 (by simp [hz])) with h1 | h1
      · subst h1; exact absurd (b1 z hz) (klt_irrefl _)
      · exact h1⟩)]
/-- A route of the other table's is put. -/
theorem put_new {gs gU : Nat → List Int} {rs rU : List Rt} {lim : Int} (hT : Ok gs rs lim) (hU : Ok gU rU lim) (hgg : ∀ j, j < 32 → gU j = gs j) (hsub : ∀ s ∈ rU, s ∈ rs) {r : Rt} (hr : r ∈ rs) (hnr : r ∉ rU) :
    (putT gU lim rU r).1 = 0 ∧ ∀ s, s ∈ (putT gU lim rU r).2 ↔ s = r ∨ s ∈ rU := by
  have hg := hT.gd r hr
  have hb : hasB gU r.g = true := by
    have h1 := of_decide_eq_true (hT.grp r hr)
    exact decide_eq_true ⟨h1.1, h1.2.1, by rw [hgg r.g.toNat (by omega)]; exact h1.2.2⟩
  have hk : ∀ s ∈ rU, key s ≠ key r := fun s hs e => by
    have := hT.srt.mem_eq (hsub s hs) hr e
    subst this; exact hnr hs
  have hlen : rU.length + 1 ≤ rs.length := by
    have := nodup_le (a := r :: rU) (b := rs) (List.nodup_cons.2 ⟨hnr, srt_nodup hU.srt⟩) (fun x hx => by
      rcases List.mem_cons.1 hx with rfl | hx
      · exact hr
      · exact hsub x hx)
    simpa using this
  have hl := hT.len
  unfold putT putC
  rw [if_pos hg.ok, hb, if_pos rfl, srt_not hk, if_neg Bool.false_ne_true, if_neg (by omega)]
  refine ⟨rfl, fun s => ?_⟩
  show s ∈ rU.take (plc rU r) ++ r :: rU.drop (plc rU r) ↔ _
  constructor
  · intro h
    rcases List.mem_append.1 h with h | h
    · exact .inr (List.mem_of_mem_take h)
    · rcases List.mem_cons.1 h with h | h
      · exact .inl h
      · exact .inr (List.mem_of_mem_drop h)
  · rintro (rfl | h)
    · simp
    · rw [← List.take_append_drop (plc rU r) rU] at h
      rcases List.mem_append.1 h with h | h
      · exact List.mem_append.2 (.inl h)
      · exact List.mem_append.2 (.inr (List.mem_cons.2 (.inr h)))
end Go.Proofs.Ytnfkgnjeamnhfab
