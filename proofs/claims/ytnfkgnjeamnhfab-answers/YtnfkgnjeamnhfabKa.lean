import Derived.Test.YtnfkgnjeamnhfabKw
namespace Go.Proofs.Ytnfkgnjeamnhfab
open Go.RowKit Go.Sort

/-- What holds of a table's groups and routes. -/
structure Ok (gs : Nat → List Int) (rs : List Rt) (lim : Int) : Prop where
  srt : Srt rs
  gd : ∀ r ∈ rs, Gd r
  len : (rs.length : Int) ≤ lim
  l1 : 1 ≤ lim
  l2 : lim ≤ 256
  grp : ∀ r ∈ rs, hasB gs r.g = true
  hops : ∀ j, j < 32 → (gs j).length = 0 ∨ goodB (gs j) = true
theorem Ok.rel {gs : Nat → List Int} {rs : List Rt} {lim : Int} (h : Ok gs rs lim) : Rel rs rs := ⟨h.srt, List.Perm.refl _, h.gd⟩
theorem Ok.len256 {gs : Nat → List Int} {rs : List Rt} {lim : Int} (h : Ok gs rs lim) : rs.length ≤ 256 := by have := h.len; have := h.l2; omega
theorem Ok.new {lim seed own : Int} (h1 : 1 ≤ lim) (h2 : lim ≤ 256) : Ok (gz seed own) [] lim :=
  ⟨List.Pairwise.nil, by simp, by simp; omega, h1, h2, by simp, fun j hj => .inl (by rw [gz_nil hj]; rfl)⟩
theorem putC_mem {rs : List Rt} {p : Rt} {lim : Int} : ∀ r ∈ (putC rs p lim).2, r ∈ rs ∨ r = p := by
  unfold putC
  intro r hr
  split at hr
  · rcases List.mem_or_eq_of_mem_set hr with h | h
    · exact .inl h
    · exact .inr h
  · split at hr
    · exact .inl hr
    · rcases List.mem_append.1 hr with h | h
      · exact .inl (List.mem_of_mem_take h)
      · rcases List.mem_cons.1 h with h | h
        · exact .inr h
        · exact .inl (List.mem_of_mem_drop h)
theorem putC_lim {rs : List Rt} {p : Rt} {lim : Int} (h : (rs.length : Int) ≤ lim) : ((putC rs p lim).2.length : Int) ≤ lim := by
  unfold putC
  split
  · simpa using h
  · split
    · exact h
    · simp only [List.length_append, List.length_cons, List.length_take, List.length_drop]; have := plc_le rs p; omega
theorem takeC_mem {rs : List Rt} {p : Rt} : ∀ r ∈ (takeC rs p).2, r ∈ rs := by
  unfold takeC
  intro r hr
  split at hr
  · exact List.mem_of_mem_eraseIdx hr
  · exact hr
theorem takeC_lim {rs : List Rt} {p : Rt} : (takeC rs p).2.length ≤ rs.length := by
  unfold takeC
  split
  · exact List.length_eraseIdx_le _ _
  · exact Nat.le_refl _
theorem Ok.put {gs : Nat → List Int} {rs : List Rt} {lim : Int} (h : Ok gs rs lim) (p : Rt) (hf : Fit p) : Ok gs (putT gs lim rs p).2 lim := by
  have hr := (h.rel.put gs lim p hf).2
  refine ⟨hr.srt, hr.gd, ?_, h.l1, h.l2, ?_, h.hops⟩
  · unfold putT
    split
    · split
      · exact putC_lim h.len
      · exact h.len
    · exact h.len
  · unfold putT
    split
    · split
      · rename_i hg
        intro r hm
        rcases putC_mem r hm with h1 | rfl
        · exact h.grp r h1
        · exact hg
      · exact h.grp
    · exact h.grp
theorem Ok.take {gs : Nat → List Int} {rs : List Rt} {lim : Int} (h : Ok gs rs lim) (p : Rt) : Ok gs (takeT rs p).2 lim := by
  have hr := (h.rel.take p).2
  refine ⟨hr.srt, hr.gd, ?_, h.l1, h.l2, ?_, h.hops⟩
  · unfold takeT
    split
    · have := takeC_lim (rs := rs) (p := p); have := h.len; omega
    · exact h.len
  · unfold takeT
    split
    · exact fun r hm => h.grp r (takeC_mem r hm)
    · exact h.grp
theorem Ok.step {gs : Nat → List Int} {rs : List Rt} {lim : Int} (h : Ok gs rs lim) (c : Ch) (hf : Fit c.r) : Ok gs (stepT gs lim rs c).2 lim := by
  unfold stepT
  split
  · exact h.put c.r hf
  · split
    · exact h.take c.r
    · exact h
theorem Ok.run {gs : Nat → List Int} {lim : Int} : ∀ {cs : List Ch} {rs rs' : List Rt}, Ok gs rs lim → (∀ c ∈ cs, Fit c.r) → runS (stepT gs lim) rs cs = some rs' → Ok gs rs' lim
  | [], rs, rs', h, _, hr => by cases hr; exact h
  | c :: cs, rs, rs', h, hf, hr => by
    rw [runS] at hr
    split at hr
    · exact Ok.run (h.step c (hf c (by simp))) (fun d hd => hf d (by simp [hd])) hr
    · cases hr
theorem Ok.bat {gs : Nat → List Int} {rs rs' : List Rt} {lim a b : Int} {cs : List Ch} (h : Ok gs rs lim) (hf : ∀ c ∈ cs, Fit c.r) (hb : Bat (stepT gs lim) rs cs a b rs') : Ok gs rs' lim := by
  rcases hb with ⟨h1, -, -⟩ | ⟨k, c, rs1, -, -, -, -, -, rfl⟩
  · exact h.run hf h1
  · exact h
theorem hasB_upd {gs : Nat → List Int} {i : Nat} {xs : List Int} {g : Int} (h : hasB gs g = true) (hx : 0 < xs.length) : hasB (updG gs i xs) g = true := by
  have h1 := of_decide_eq_true h
  refine decide_eq_true ⟨h1.1, h1.2.1, ?_⟩
  unfold updG
  split
  · omega
  · exact h1.2.2
theorem Ok.group {gs gs' : Nat → List Int} {rs : List Rt} {lim a b : Int} {xs : List Int} (h : Ok gs rs lim) (hg : GOut gs xs a b gs') : Ok gs' rs lim := by
  rcases hg with ⟨h1, rfl, rfl, rfl⟩ | ⟨h1, h2, rfl, rfl, rfl⟩ | ⟨h1, i, h2, h3, h4, rfl, rfl, rfl⟩
  · exact h
  · exact h
  · refine ⟨h.srt, h.gd, h.len, h.l1, h.l2, fun r hr => hasB_upd (h.grp r hr) (goodB_len h1).1, fun j hj => ?_⟩
    unfold updG
    split
    · exact .inr h1
    · exact h.hops j hj
theorem Ok.drop {gs gs' : Nat → List Int} {rs : List Rt} {lim k c : Int} (h : Ok gs rs lim) (hd : DOq gs rs k c gs') : Ok gs' rs lim := by
  rcases hd with ⟨h1, rfl, rfl⟩ | ⟨h1, h2, rfl, rfl⟩ | ⟨h1, h2, rfl, rfl⟩
  · exact h
  · exact h
  · refine ⟨h.srt, h.gd, h.len, h.l1, h.l2, fun r hr => ?_, fun j hj => ?_⟩
    · have hb : ¬ (r.g == k) = true := fun e => by
        have : busyB rs k = true := List.any_eq_true.2 ⟨r, hr, e⟩
        rw [h2] at this; cases this
      have hne : r.g ≠ k := fun e => hb (by simp [e])
      have h3 := of_decide_eq_true (h.grp r hr)
      have h4 := of_decide_eq_true h1
      refine decide_eq_true ⟨h3.1, h3.2.1, ?_⟩
      unfold updG
      rw [if_neg (by omega)]
      exact h3.2.2
    · unfold updG
      split
      · exact .inl rfl
      · exact h.hops j hj

/-- A step of a script. -/
structure AOp where
  k : Int
  n : Int
  r : Rt
  hops : List Int
  ch : List Ch
/-- What a step makes of groups and routes. -/
def stepA (lim : Int) (gs : Nat → List Int) (rs : List Rt) (o : AOp) (gs' : Nat → List Int) (rs' : List Rt) : Prop :=
  if o.k = 1 then (∃ a b, GOut gs o.hops a b gs') ∧ rs' = rs
  else if o.k = 2 then (∃ c, DOq gs rs o.n c gs') ∧ rs' = rs
  else if o.k = 3 then gs' = gs ∧ rs' = (putT gs lim rs o.r).2
  else if o.k = 4 then gs' = gs ∧ rs' = (takeT rs o.r).2
  else if o.k = 5 then gs' = gs ∧ ∃ a b, Bat (stepT gs lim) rs o.ch a b rs'
  else gs' = gs ∧ rs' = rs
theorem Bat.one {st : List Rt → Ch → Int × List Rt} {rs : List Rt} {cs : List Ch} {a b c d : Int} {r1 r2 : List Rt} (h : Bat st rs cs a b r1) (k : Bat st rs cs c d r2) : a = c ∧ b = d ∧ r1 = r2 := by
  rcases h with ⟨h1, rfl, rfl⟩ | ⟨i, x, s1, h1, h2, h3, rfl, rfl, rfl⟩ <;> rcases k with ⟨k1, rfl, rfl⟩ | ⟨j, y, s2, k1, k2, k3, rfl, rfl, rfl⟩
  · rw [h1] at k1; cases k1; exact ⟨rfl, rfl, rfl⟩
  · have hl := (List.getElem?_eq_some_iff.1 k2).1
    have := runS_take k1 k2 k3 cs.length hl
    rw [List.take_length, h1] at this; cases this
  · have hl := (List.getElem?_eq_some_iff.1 h2).1
    have := runS_take h1 h2 h3 cs.length hl
    rw [List.take_length, k1] at this; cases this
  · have e : i = j := by
      rcases Nat.lt_trichotomy i j with hl | he | hl
      · have := runS_take h1 h2 h3 j hl
        rw [k1] at this; cases this
      · exact he
      · have := runS_take k1 k2 k3 i hl
        rw [h1] at this; cases this
    subst e
    rw [h1] at k1; cases k1
    rw [h2] at k2; cases k2
    exact ⟨rfl, rfl, rfl⟩
theorem stepA.one {lim : Int} {gs gs1 gs2 : Nat → List Int} {rs rs1 rs2 : List Rt} {o : AOp} (h : stepA lim gs rs o gs1 rs1) (k : stepA lim gs rs o gs2 rs2) : gs1 = gs2 ∧ rs1 = rs2 := by
  unfold stepA at h k
  split at h
  · rename_i hk; rw [if_pos hk] at k
    obtain ⟨⟨a, b, h1⟩, rfl⟩ := h
    obtain ⟨⟨c, d, k1⟩, rfl⟩ := k
    exact ⟨(h1.one k1).2.2, rfl⟩
  · rename_i hk; rw [if_neg hk] at k
    split at h
    · rename_i hk; rw [if_pos hk] at k
      obtain ⟨⟨a, h1⟩, rfl⟩ := h
      obtain ⟨⟨c, k1⟩, rfl⟩ := k
      exact ⟨(h1.one rfl k1).2, rfl⟩
    · rename_i hk; rw [if_neg hk] at k
      split at h
      · rename_i hk; rw [if_pos hk] at k
        exact ⟨h.1.trans k.1.symm, h.2.trans k.2.symm⟩
      · rename_i hk; rw [if_neg hk] at k
        split at h
        · rename_i hk; rw [if_pos hk] at k
          exact ⟨h.1.trans k.1.symm, h.2.trans k.2.symm⟩
        · rename_i hk; rw [if_neg hk] at k
          split at h
          · rename_i hk; rw [if_pos hk] at k
            obtain ⟨rfl, a, b, h1⟩ := h
            obtain ⟨rfl, c, d, k1⟩ := k
            exact ⟨rfl, (h1.one k1).2.2⟩
          · rename_i hk; rw [if_neg hk] at k
            exact ⟨h.1.trans k.1.symm, h.2.trans k.2.symm⟩
theorem stepA_group {lim : Int} {gs gs' : Nat → List Int} {rs : List Rt} {o : AOp} {a b : Int} (hk : o.k = 1) (h : GOut gs o.hops a b gs') : stepA lim gs rs o gs' rs := by
  unfold stepA; rw [if_pos hk]; exact ⟨⟨a, b, h⟩, rfl⟩
theorem stepA_drop {lim : Int} {gs gs' : Nat → List Int} {rs : List Rt} {o : AOp} {c : Int} (hk : o.k = 2) (h : DOq gs rs o.n c gs') : stepA lim gs rs o gs' rs := by
  unfold stepA; rw [if_neg (show ¬ o.k = 1 by omega), if_pos hk]; exact ⟨⟨c, h⟩, rfl⟩
theorem stepA_put {lim : Int} {gs : Nat → List Int} {rs : List Rt} {o : AOp} (hk : o.k = 3) : stepA lim gs rs o gs (putT gs lim rs o.r).2 := by
  unfold stepA; rw [if_neg (show ¬ o.k = 1 by omega), if_neg (show ¬ o.k = 2 by omega), if_pos hk]; exact ⟨rfl, rfl⟩
theorem stepA_take {lim : Int} {gs : Nat → List Int} {rs : List Rt} {o : AOp} (hk : o.k = 4) : stepA lim gs rs o gs (takeT rs o.r).2 := by
  unfold stepA; rw [if_neg (show ¬ o.k = 1 by omega), if_neg (show ¬ o.k = 2 by omega), if_neg (show ¬ o.k = 3 by omega), if_pos hk]; exact ⟨rfl, rfl⟩
theorem stepA_batch {lim : Int} {gs : Nat → List Int} {rs rs' : List Rt} {o : AOp} {a b : Int} (hk : o.k = 5) (h : Bat (stepT gs lim) rs o.ch a b rs') : stepA lim gs rs o gs rs' := by
  unfold stepA; rw [if_neg (show ¬ o.k = 1 by omega), if_neg (show ¬ o.k = 2 by omega), if_neg (show ¬ o.k = 3 by omega), if_neg (show ¬ o.k = 4 by omega), if_pos hk]; exact ⟨rfl, a, b, h⟩
/-- What a script makes of them. -/
def playA (lim : Int) : (Nat → List Int) → List Rt → List AOp → (Nat → List Int) → List Rt → Prop
  | gs, rs, [], gs', rs' => gs' = gs ∧ rs' = rs
  | gs, rs, o :: l, gs', rs' => ∃ gs1 rs1, stepA lim gs rs o gs1 rs1 ∧ playA lim gs1 rs1 l gs' rs'
theorem playA.one {lim : Int} : ∀ {l : List AOp} {gs gs1 gs2 : Nat → List Int} {rs rs1 rs2 : List Rt}, playA lim gs rs l gs1 rs1 → playA lim gs rs l gs2 rs2 → gs1 = gs2 ∧ rs1 = rs2
  | [], _, _, _, _, _, _, h, k => ⟨h.1.trans k.1.symm, h.2.trans k.2.symm⟩
  | o :: l, _, _, _, _, _, _, ⟨g1, r1, h1, h2⟩, ⟨g2, r2, k1, k2⟩ => by
    obtain ⟨rfl, rfl⟩ := h1.one k1
    exact playA.one h2 k2
theorem playA.snoc {lim : Int} {o : AOp} : ∀ {l : List AOp} {gs gs1 gs2 : Nat → List Int} {rs rs1 rs2 : List Rt}, playA lim gs rs l gs1 rs1 → stepA lim gs1 rs1 o gs2 rs2 → playA lim gs rs (l ++ [o]) gs2 rs2
  | [], _, _, _, _, _, _, ⟨h1, h2⟩, k => by subst h1 h2; exact ⟨_, _, k, rfl, rfl⟩
  | x :: l, _, _, _, _, _, _, ⟨g1, r1, h1, h2⟩, k => ⟨g1, r1, h1, playA.snoc h2 k⟩
end Go.Proofs.Ytnfkgnjeamnhfab
