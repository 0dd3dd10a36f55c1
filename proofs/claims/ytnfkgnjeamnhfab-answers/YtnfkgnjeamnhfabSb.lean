import Derived.Test.YtnfkgnjeamnhfabRy
namespace Go.Proofs.Ytnfkgnjeamnhfab
open Go.RowKit Go.Sort

/-! ### The program's routes, in order, and the document's, as they came. -/
abbrev Key := Int × Nat × Nat × Int
def key (r : Rt) : Key := (r.f, r.hi, r.lo, r.n)
def klt (a b : Key) : Prop := a.1 < b.1 ∨ (a.1 = b.1 ∧ (a.2.1 < b.2.1 ∨ (a.2.1 = b.2.1 ∧ (a.2.2.1 < b.2.2.1 ∨ (a.2.2.1 = b.2.2.1 ∧ a.2.2.2 < b.2.2.2)))))
theorem ahd_iff (p q : Rt) : ahd p q = true ↔ klt (key p) (key q) := by
  unfold ahd klt key
  simp only []
  split
  · split
    · split
      · simp; omega
      · simp; omega
    · simp; omega
  · simp; omega
theorem ahd_no (p q : Rt) : ahd p q = false ↔ ¬ klt (key p) (key q) := by
  rw [← ahd_iff]; simp
theorem same_iff (p q : Rt) : sameP p q = true ↔ key p = key q := by
  rw [sameP_iff]; unfold key; simp
theorem klt_irrefl (a : Key) : ¬ klt a a := by unfold klt; omega
theorem klt_trans {a b c : Key} (h : klt a b) (k : klt b c) : klt a c := by unfold klt at *; omega
theorem klt_total {a b : Key} (h : ¬ klt a b) (hn : a ≠ b) : klt b a := by
  unfold klt at *
  have : ¬ (a.1 = b.1 ∧ a.2.1 = b.2.1 ∧ a.2.2.1 = b.2.2.1 ∧ a.2.2.2 = b.2.2.2) := fun ⟨h1, h2, h3, h4⟩ => hn (by ext <;> assumption)
  omega
/-- In order. -/
def Srt (l : List Rt) : Prop := l.Pairwise fun a b => klt (key a) (key b)
theorem Srt.uniq {l : List Rt} (h : Srt l) {i j : Nat} {a b : Rt} (hi : l[i]? = some a) (hj : l[j]? = some b) (hk : key a = key b) : i = j := by
  obtain ⟨hil, ei⟩ := List.getElem?_eq_some_iff.1 hi
  obtain ⟨hjl, ej⟩ := List.getElem?_eq_some_iff.1 hj
  have hp := List.pairwise_iff_getElem.1 h
  rcases Nat.lt_trichotomy i j with h1 | h1 | h1
  · have := hp i j hil hjl h1; rw [ei, ej, hk] at this; exact absurd this (klt_irrefl _)
  · exact h1
  · have := hp j i hjl hil h1; rw [ei, ej, hk] at this; exact absurd this (klt_irrefl _)
theorem Srt.mem_eq {l : List Rt} (h : Srt l) {a b : Rt} (ha : a ∈ l) (hb : b ∈ l) (hk : key a = key b) : a = b := by
  obtain ⟨i, hi, ei⟩ := List.getElem_of_mem ha
  obtain ⟨j, hj, ej⟩ := List.getElem_of_mem hb
  have := h.uniq (i := i) (j := j) (by rw [← ei]; exact List.getElem?_eq_getElem hi) (by rw [← ej]; exact List.getElem?_eq_getElem hj) hk
  subst this
  rw [← ei, ej]
theorem perm_eq : ∀ {a b : List Rt}, Srt a → Srt b → a.Perm b → a = b
  | [], b, _, _, hp => (List.nil_perm.1 hp).symm
  | x :: a, [], _, _, hp => absurd hp.length_eq (by simp)
  | x :: a, y :: b, ha, hb, hp => by
    have hxy : x = y := by
      have hx : x ∈ y :: b := hp.subset (List.mem_cons_self ..)
      have hy : y ∈ x :: a := hp.symm.subset (List.mem_cons_self ..)
      rcases List.mem_cons.1 hx with h | h
      · exact h
      · rcases List.mem_cons.1 hy with h' | h'
        · exact h'.symm
        · have h1 := (List.pairwise_cons.1 ha).1 y h'
          have h2 := (List.pairwise_cons.1 hb).1 x h
          exact absurd (klt_trans h1 h2) (klt_irrefl _)
    subst hxy
    rw [perm_eq (List.pairwise_cons.1 ha).2 (List.pairwise_cons.1 hb).2 ((List.perm_cons _).1 hp)]
/-- What a table's routes are. -/
structure Gd (r : Rt) : Prop where
  ok : chkR r = 0
  fit : Fit r
  g0 : 0 ≤ r.g
  g32 : r.g < 32
theorem Gd.of {gs : Nat → List Int} {p : Rt} (h : chkR p = 0) (hf : Fit p) (hg : hasB gs p.g = true) : Gd p := by
  have := of_decide_eq_true hg
  exact ⟨h, hf, this.1, this.2.1⟩
/-- The program's routes are the document's, in order. -/
structure Rel (cs rs : List Rt) : Prop where
  srt : Srt cs
  perm : cs.Perm rs
  gd : ∀ r ∈ cs, Gd r
theorem Rel.len {cs rs : List Rt} (h : Rel cs rs) : cs.length = rs.length := h.perm.length_eq
theorem Rel.nil : Rel [] [] := ⟨List.Pairwise.nil, List.Perm.nil, fun r hr => absurd hr (by simp)⟩
theorem Rel.busy {cs rs : List Rt} (h : Rel cs rs) (g : Int) : busyB cs g = busyB rs g := by
  unfold busyB
  rw [Bool.eq_iff_iff, List.any_eq_true, List.any_eq_true]
  exact ⟨fun ⟨x, hx, e⟩ => ⟨x, h.perm.subset hx, e⟩, fun ⟨x, hx, e⟩ => ⟨x, h.perm.symm.subset hx, e⟩⟩
theorem Rel.nodup {cs rs : List Rt} (h : Rel cs rs) : rs.Pairwise fun a b => key a ≠ key b := by
  have h1 : cs.Pairwise fun a b => key a ≠ key b := h.srt.imp fun {a b} hk e => by rw [e] at hk; exact klt_irrefl _ hk
  exact (h.perm.pairwise_iff (fun {a b} hab e => hab e.symm)).1 h1
/-- A prefix that is there. -/
theorem srt_found {cs : List Rt} {p : Rt} (h : Srt cs) {i : Nat} {r : Rt} (hi : cs[i]? = some r) (hk : key r = key p) : plc cs p = i ∧ isB cs (plc cs p) p = true := by
  have hp := List.pairwise_iff_getElem.1 h
  obtain ⟨hil, ei⟩ := List.getElem?_eq_some_iff.1 hi
  have e : plc cs p = i := plc_at (fun j x hj hx => by
    obtain ⟨hjl, ej⟩ := List.getElem?_eq_some_iff.1 hx
    rw [ahd_iff, ← hk, ← ej, ← ei]; exact hp j i hjl hil hj) hi (by rw [ahd_no, hk]; exact klt_irrefl _)
  refine ⟨e, ?_⟩
  rw [e]; unfold isB; rw [hi]
  exact (same_iff _ _).2 hk
theorem srt_not {cs : List Rt} {p : Rt} (h : ∀ r ∈ cs, key r ≠ key p) : isB cs (plc cs p) p = false := by
  unfold isB
  split
  · rename_i r hr
    rw [Bool.eq_false_iff]
    intro e
    exact h r (List.mem_of_getElem? hr) ((same_iff _ _).1 e)
  · rfl
/-- A new one, laid to its place. -/
theorem srt_ins {cs : List Rt} {p : Rt} (h : Srt cs) (hn : ∀ r ∈ cs, key r ≠ key p) {k : Nat} (h1 : ∀ r ∈ cs.take k, klt (key r) (key p)) (h2 : ∀ r ∈ cs.drop k, klt (key p) (key r)) : Srt (cs.take k ++ p :: cs.drop k) := by
  have _ := hn
  have h3 : (cs.take k ++ cs.drop k).Pairwise fun a b => klt (key a) (key b) := by rw [List.take_append_drop]; exact h
  obtain ⟨ha, hb, hab⟩ := List.pairwise_append.1 h3
  refine List.pairwise_append.2 ⟨ha, List.pairwise_cons.2 ⟨h2, hb⟩, fun a ha' b hb' => ?_⟩
  rcases List.mem_cons.1 hb' with rfl | hb'
  · exact h1 a ha'
  · exact hab a ha' b hb'
theorem plc_yes {a p : Rt} {t : List Rt} (h : ahd a p = true) : plc (a :: t) p = plc t p + 1 := by unfold plc; rw [List.takeWhile_cons, if_pos h, List.length_cons]
theorem plc_no {a p : Rt} {t : List Rt} (h : ahd a p = false) : plc (a :: t) p = 0 := by unfold plc; rw [List.takeWhile_cons, h]; rfl
theorem plc_take {p : Rt} : ∀ {cs : List Rt}, ∀ r ∈ cs.take (plc cs p), klt (key r) (key p)
  | [], r, hr => by simp at hr
  | a :: t, r, hr => by
    cases h : ahd a p with
    | true =>
      rw [plc_yes h, List.take_succ_cons] at hr
      rcases List.mem_cons.1 hr with rfl | hr
      · exact (ahd_iff _ _).1 h
      · exact plc_take r hr
    | false => rw [plc_no h] at hr; simp at hr
theorem plc_drop {p : Rt} : ∀ {cs : List Rt}, Srt cs → (∀ r ∈ cs, key r ≠ key p) → ∀ r ∈ cs.drop (plc cs p), klt (key p) (key r)
  | [], _, _, r, hr => by simp at hr
  | a :: t, hs, hn, r, hr => by
    cases h : ahd a p with
    | true =>
      rw [plc_yes h, List.drop_succ_cons] at hr
      exact plc_drop (List.pairwise_cons.1 hs).2 (fun x hx => hn x (List.mem_cons_of_mem _ hx)) r hr
    | false =>
      rw [plc_no h, List.drop_zero] at hr
      have h2 : klt (key p) (key a) := klt_total ((ahd_no _ _).1 h) (hn a (List.mem_cons_self ..))
      rcases List.mem_cons.1 hr with rfl | hr
      · exact h2
      · exact klt_trans h2 ((List.pairwise_cons.1 hs).1 r hr)
/-- Whether a prefix is there, in both. -/
theorem Rel.cases {cs rs : List Rt} (h : Rel cs rs) (p : Rt) :
    ((∀ r ∈ cs, key r ≠ key p) ∧ whr rs p = -1) ∨ ∃ (i j : Nat) (r : Rt), cs[i]? = some r ∧ rs[j]? = some r ∧ key r = key p ∧ plc cs p = i ∧ whr rs p = (j : Int) ∧ isB cs (plc cs p) p = true := by
  rcases whr_cases rs p with ⟨h1, h2⟩ | ⟨j, r, h1, h2, h3, -⟩
  · refine .inl ⟨fun r hr e => ?_, h1⟩
    have := h2 r (h.perm.subset hr)
    rw [(same_iff _ _).2 e] at this; cases this
  · have hk := (same_iff _ _).1 h3
    obtain ⟨i, hi, ei⟩ := List.getElem_of_mem (h.perm.symm.subset (List.mem_of_getElem? h2))
    have hi' : cs[i]? = some r := by rw [← ei]; exact List.getElem?_eq_getElem hi
    obtain ⟨e1, e2⟩ := srt_found h.srt hi' hk
    exact .inr ⟨i, j, r, hi', h2, hk, e1, h1, e2⟩
theorem erase_perm {l : List Rt} {i : Nat} {r : Rt} (h : l[i]? = some r) : (r :: l.eraseIdx i).Perm l := by
  obtain ⟨hl, e⟩ := List.getElem?_eq_some_iff.1 h
  have h1 : l = l.take i ++ r :: l.drop (i + 1) := by rw [← e, ← List.drop_eq_getElem_cons hl, List.take_append_drop]
  rw [List.eraseIdx_eq_take_drop_succ]
  conv => rhs; rw [h1]
  exact List.perm_middle.symm
theorem set_perm {l : List Rt} {i : Nat} {r : Rt} (p : Rt) (h : l[i]? = some r) : (l.set i p).Perm (p :: l.eraseIdx i) := by
  obtain ⟨hl, e⟩ := List.getElem?_eq_some_iff.1 h
  rw [List.set_eq_take_append_cons_drop, if_pos hl, List.eraseIdx_eq_take_drop_succ]
  exact List.perm_middle
theorem Rel.erase {cs rs : List Rt} (h : Rel cs rs) {i j : Nat} {r : Rt} (hi : cs[i]? = some r) (hj : rs[j]? = some r) : Rel (cs.eraseIdx i) (rs.eraseIdx j) :=
  ⟨List.Pairwise.sublist (List.eraseIdx_sublist ..) h.srt, (List.perm_cons r).1 (((erase_perm hi).trans h.perm).trans (erase_perm hj).symm), fun r hr => h.gd r (List.mem_of_mem_eraseIdx hr)⟩
theorem Rel.set {cs rs : List Rt} (h : Rel cs rs) {i j : Nat} {r p : Rt} (hi : cs[i]? = some r) (hj : rs[j]? = some r) (hk : key r = key p) (hp : Gd p) : Rel (cs.set i p) (rs.set j p) := by
  refine ⟨?_, (set_perm p hi).trans (((h.erase hi hj).perm.cons p).trans (set_perm p hj).symm), fun r hr => (List.mem_or_eq_of_mem_set hr).elim (h.gd r) (fun e => e ▸ hp)⟩
  have hm : (cs.set i p).map key = cs.map key := by
    rw [List.map_set]
    obtain ⟨hl, e⟩ := List.getElem?_eq_some_iff.1 hi
    have : (cs.map key)[i]'(by simpa using hl) = key p := by rw [List.getElem_map, e, hk]
    rw [← this]; exact List.set_getElem_self _
  have h1 : (cs.map key).Pairwise klt := List.pairwise_map.2 h.srt
  rw [← hm] at h1
  exact List.pairwise_map.1 h1
theorem Rel.put {cs rs : List Rt} (h : Rel cs rs) (gs : Nat → List Int) (lim : Int) (p : Rt) (hf : Fit p) : (putT gs lim cs p).1 = (putR gs lim rs p).1 ∧ Rel (putT gs lim cs p).2 (putR gs lim rs p).2 := by
  unfold putT putR
  split
  · rename_i hchk
    split
    · rename_i hhas
      have hgd : Gd p := Gd.of hchk hf hhas
      unfold putC
      rcases h.cases p with ⟨h1, h2⟩ | ⟨i, j, r, hi, hj, hk, e1, e2, e3⟩
      · rw [srt_not h1, h2, if_neg Bool.false_ne_true, if_neg (by decide : ¬ (0 : Int) ≤ -1), h.len]
        split
        · exact ⟨rfl, h⟩
        · refine ⟨rfl, srt_ins h.srt h1 plc_take (plc_drop h.srt h1), ?_, fun r hr => ?_⟩
          rotate_left
          · rcases List.mem_append.1 hr with hr | hr
            · exact h.gd r (List.mem_of_mem_take hr)
            · rcases List.mem_cons.1 hr with rfl | hr
              · exact hgd
              · exact h.gd r (List.mem_of_mem_drop hr)
          have : (cs.take (plc cs p) ++ p :: cs.drop (plc cs p)).Perm (p :: cs) := by
            have := List.perm_middle (a := p) (l₁ := cs.take (plc cs p)) (l₂ := cs.drop (plc cs p))
            rwa [List.take_append_drop] at this
          exact (this.trans (h.perm.cons p)).trans (List.perm_append_singleton p rs).symm
      · rw [e3, if_pos rfl, e2, if_pos (by omega), Int.toNat_natCast, e1]
        exact ⟨rfl, h.set hi hj hk hgd⟩
    · exact ⟨rfl, h⟩
  · exact ⟨rfl, h⟩
theorem Rel.take {cs rs : List Rt} (h : Rel cs rs) (p : Rt) : (takeT cs p).1 = (takeR rs p).1 ∧ Rel (takeT cs p).2 (takeR rs p).2 := by
  unfold takeT takeR
  split
  · unfold takeC
    rcases h.cases p with ⟨h1, h2⟩ | ⟨i, j, r, hi, hj, hk, e1, e2, e3⟩
    · rw [srt_not h1, h2, if_neg Bool.false_ne_true, if_neg (by decide : ¬ (0 : Int) ≤ -1)]
      exact ⟨rfl, h⟩
    · rw [e3, if_pos rfl, e2, if_pos (by omega), Int.toNat_natCast, e1]
      exact ⟨rfl, h.erase hi hj⟩
  · exact ⟨rfl, h⟩
theorem Rel.step {cs rs : List Rt} (h : Rel cs rs) (gs : Nat → List Int) (lim : Int) (c : Ch) (hf : Fit c.r) : (stepT gs lim cs c).1 = (stepR gs lim rs c).1 ∧ Rel (stepT gs lim cs c).2 (stepR gs lim rs c).2 := by
  unfold stepT stepR
  split
  · exact h.put gs lim c.r hf
  · split
    · exact h.take c.r
    · exact ⟨rfl, h⟩
theorem Rel.run {gs : Nat → List Int} {lim : Int} : ∀ {l : List Ch} {cs rs : List Rt}, (∀ c ∈ l, Fit c.r) → Rel cs rs → (runS (stepT gs lim) cs l = none ∧ runS (stepR gs lim) rs l = none) ∨ ∃ cs' rs', runS (stepT gs lim) cs l = some cs' ∧ runS (stepR gs lim) rs l = some rs' ∧ Rel cs' rs'
  | [], cs, rs, _, h => .inr ⟨cs, rs, rfl, rfl, h⟩
  | c :: l, cs, rs, hfit, h => by
    obtain ⟨h1, h2⟩ := h.step gs lim c (hfit c (List.mem_cons_self ..))
    simp only [runS]
    by_cases h0 : (stepT gs lim cs c).1 = 0
    · rw [if_pos h0, if_pos (by rw [← h1]; exact h0)]
      exact Rel.run (fun d hd => hfit d (List.mem_cons_of_mem _ hd)) h2
    · rw [if_neg h0, if_neg (by rw [← h1]; exact h0)]
      exact .inl ⟨rfl, rfl⟩
theorem runS_take {st : List Rt → Ch → Int × List Rt} : ∀ {l : List Ch} {k : Nat} {c : Ch} {rs rs1 : List Rt}, runS st rs (l.take k) = some rs1 → l[k]? = some c → (st rs1 c).1 ≠ 0 → ∀ m, k < m → runS st rs (l.take m) = none
  | [], k, c, rs, rs1, _, h, _, m, _ => by simp at h
  | d :: l, 0, c, rs, rs1, h, hc, h0, m, hm => by
    simp [runS] at h hc
    subst h hc
    obtain ⟨m, rfl⟩ : ∃ m', m = m' + 1 := ⟨m - 1, by omega⟩
    simp [runS, h0]
  | d :: l, k + 1, c, rs, rs1, h, hc, h0, m, hm => by
    obtain ⟨m, rfl⟩ : ∃ m', m = m' + 1 := ⟨m - 1, by omega⟩
    simp only [List.take_succ_cons, runS] at h ⊢
    by_cases hd : (st rs d).1 = 0
    · rw [if_pos hd] at h ⊢
      exact runS_take h (by simpa using hc) h0 m (by omega)
    · rw [if_neg hd] at h; cases h
theorem Rel.bat {gs : Nat → List Int} {lim : Int} {l : List Ch} {cs rs cs' rs' : List Rt} {a b a' b' : Int} (hfit : ∀ c ∈ l, Fit c.r) (h : Rel cs rs) (h1 : Bat (stepT gs lim) cs l a b cs') (h2 : Bat (stepR gs lim) rs l a' b' rs') : a = a' ∧ b = b' ∧ Rel cs' rs' := by
  rcases h1 with ⟨e1, rfl, rfl⟩ | ⟨k, c, cs1, f1, f2, f3, rfl, rfl, rfl⟩
  · rcases h2 with ⟨e2, rfl, rfl⟩ | ⟨k', c', rs1, e2, e3, e4, rfl, rfl, rfl⟩
    · rcases Rel.run (gs := gs) (lim := lim) (l := l) hfit h with ⟨k1, k2⟩ | ⟨x, y, k1, k2, k3⟩
      · rw [k1] at e1; cases e1
      · rw [k1] at e1; rw [k2] at e2; cases e1; cases e2; exact ⟨rfl, rfl, k3⟩
    · have hk := (List.getElem?_eq_some_iff.1 e3).1
      have := runS_take e2 e3 e4 l.length hk
      rw [List.take_length] at this
      rcases Rel.run (gs := gs) (lim := lim) (l := l) hfit h with ⟨k1, k2⟩ | ⟨x, y, k1, k2, k3⟩
      · rw [k1] at e1; cases e1
      · rw [k2] at this; cases this
  · rcases h2 with ⟨e2, rfl, rfl⟩ | ⟨k', c', rs1, e2, e3, e4, rfl, rfl, rfl⟩
    · have hk := (List.getElem?_eq_some_iff.1 f2).1
      have := runS_take f1 f2 f3 l.length hk
      rw [List.take_length] at this
      rcases Rel.run (gs := gs) (lim := lim) (l := l) hfit h with ⟨k1, k2⟩ | ⟨x, y, k1, k2, k3⟩
      · rw [k2] at e2; cases e2
      · rw [k1] at this; cases this
    · have hkk : k = k' := by
        rcases Nat.lt_trichotomy k k' with hlt | he | hlt
        · have := runS_take f1 f2 f3 k' hlt
          rcases Rel.run (gs := gs) (lim := lim) (l := l.take k') (fun c hc => hfit c (List.mem_of_mem_take hc)) h with ⟨k1, k2⟩ | ⟨x, y, k1, k2, k3⟩
          · rw [k2] at e2; cases e2
          · rw [k1] at this; cases this
        · exact he
        · have := runS_take e2 e3 e4 k hlt
          rcases Rel.run (gs := gs) (lim := lim) (l := l.take k) (fun c hc => hfit c (List.mem_of_mem_take hc)) h with ⟨k1, k2⟩ | ⟨x, y, k1, k2, k3⟩
          · rw [k1] at f1; cases f1
          · rw [k2] at this; cases this
      subst hkk
      rw [f2] at e3; cases e3
      rcases Rel.run (gs := gs) (lim := lim) (l := l.take k) (fun c hc => hfit c (List.mem_of_mem_take hc)) h with ⟨k1, k2⟩ | ⟨x, y, k1, k2, k3⟩
      · rw [k1] at f1; cases f1
      · rw [k1] at f1; rw [k2] at e2; cases f1; cases e2
        exact ⟨rfl, (k3.step gs lim c (hfit c (List.mem_of_getElem? f2))).1, h⟩
end Go.Proofs.Ytnfkgnjeamnhfab
namespace Go.Proofs.Ytnfkgnjeamnhfab
open Go.RowKit Go.Sort

theorem up_iff {r x : Rt} (h : r.f = x.f) : upD r x = true ↔ klt (key r) (key x) := by
  unfold upD aheadA sameA klt key
  simp [h]
  omega
theorem famF_snoc_yes {rs : List Rt} {fam : Int} {r : Rt} (h : (r.f == fam) = true) : famF (rs ++ [r]) fam = famF rs fam ++ [r] := by unfold famF; rw [List.filter_append]; simp [h]
theorem famF_snoc_no {rs : List Rt} {fam : Int} {r : Rt} (h : (r.f == fam) = false) : famF (rs ++ [r]) fam = famF rs fam := by unfold famF; rw [List.filter_append]; simp [h]
theorem lays_srt {fam : Int} {rs out : List Rt} (h : Lays fam rs out) : rs.Pairwise (fun a b => key a ≠ key b) → out.Perm (famF rs fam) ∧ Srt out := by
  refine Lays.ind (P := fun rs out => rs.Pairwise (fun a b => key a ≠ key b) → out.Perm (famF rs fam) ∧ Srt out) (fun _ => ⟨List.Perm.nil, List.Pairwise.nil⟩) ?_ ?_ h
  · intro rs out r _ hf ih hn
    rw [famF_snoc_no hf]
    exact ih (List.pairwise_append.1 hn).1
  · intro rs out r out' _ hf hl ih hn
    obtain ⟨hn1, _, hn3⟩ := List.pairwise_append.1 hn
    obtain ⟨hp, hs⟩ := ih hn1
    obtain ⟨k, hk, rfl, hu, hd⟩ := hl
    rw [famF_snoc_yes hf]
    have hfr : r.f = fam := by simpa using hf
    have hmem : ∀ x ∈ out, x ∈ rs ∧ x.f = fam := fun x hx => by
      have := hp.subset hx
      unfold famF at this
      have := List.mem_filter.1 this
      exact ⟨this.1, by simpa using this.2⟩
    have hne : ∀ x ∈ out, key x ≠ key r := fun x hx => hn3 x (hmem x hx).1 r (List.mem_singleton.2 rfl)
    have h1 : ∀ x ∈ out.take k, klt (key x) (key r) := fun x hx => by
      obtain ⟨i, hi, ei⟩ := List.getElem_of_mem hx
      rw [List.length_take] at hi
      rw [List.getElem_take] at ei
      have hkl : k - 1 < out.length := by omega
      have hy := hd out[k - 1] (by omega) (List.getElem?_eq_getElem hkl)
      have hym : out[k - 1] ∈ out := List.getElem_mem hkl
      have hyk : klt (key out[k - 1]) (key r) := by
        refine klt_total (fun hc => ?_) (fun e => hne _ hym e.symm)
        have := (up_iff (r := r) (x := out[k - 1]) (by rw [hfr, (hmem _ hym).2])).2 hc
        rw [hy] at this; cases this
      rcases Nat.lt_or_ge i (k - 1) with hlt | hge
      · have := List.pairwise_iff_getElem.1 hs i (k - 1) (by omega) hkl hlt
        rw [ei] at this
        exact klt_trans this hyk
      · have : i = k - 1 := by omega
        subst this
        rw [ei] at hyk; exact hyk
    have h2 : ∀ x ∈ out.drop k, klt (key r) (key x) := fun x hx => by
      have hxm := List.mem_of_mem_drop hx
      exact (up_iff (by rw [hfr, (hmem x hxm).2])).1 (hu x hx)
    refine ⟨?_, srt_ins hs hne h1 h2⟩
    have : (out.take k ++ r :: out.drop k).Perm (r :: out) := by
      have := List.perm_middle (a := r) (l₁ := out.take k) (l₂ := out.drop k)
      rwa [List.take_append_drop] at this
    exact (this.trans (hp.cons r)).trans (List.perm_append_singleton r _).symm
theorem Rel.dump {cs rs out : List Rt} {fam : Int} (h : Rel cs rs) (hd : dumpR rs fam out) : out = dumpT cs fam := by
  unfold dumpR at hd
  unfold dumpT
  split at hd
  · rename_i hf
    rw [if_pos hf]
    obtain ⟨h1, h2⟩ := lays_srt hd h.nodup
    refine perm_eq h2 (List.Pairwise.filter _ h.srt) (h1.trans ?_)
    unfold famF
    exact (h.perm.symm.filter _)
  · rename_i hf
    rw [if_neg hf]; exact hd
end Go.Proofs.Ytnfkgnjeamnhfab
