import Derived.Test.YtnfkgnjeamnhfaaGreatWc
namespace Go.Proofs.YtnfkgnjeamnhfaaGreat
open Go.RowKit

theorem Tq.rg {N : Nat} {ρ : Nat → Nat} {w : World} {T rS rQ o c g : Nat} {gs : Nat → List Int} {rs : List Rt} {lim : Int} {f : Nat → Value} (h : Tq N ρ w T rS rQ o c gs rs lim f) (hg : ρ g = 30) (h1 : rS ≠ 30) (h2 : rQ ≠ 30) (r : Nat) : Tq N (rl ρ g r) w T rS rQ o c gs rs lim f := by
  refine ⟨⟨?_, h.rq.st, h.rq.row.1, fun b hb => ?_⟩, h.lim, fun j hj => ⟨⟨⟨(h.ls j hj).1.1.1, fun b hb => ?_⟩, (h.ls j hj).1.2⟩, (h.ls j hj).2⟩, h.one⟩
  · rw [rl_ne (fun e => by have := h.rq.role; rw [e, hg] at this; exact h1 this.symm)]; exact h.rq.role
  · have := h.rq.row.2 b hb
    rw [rl_ne (fun e => by rw [e, hg] at this; exact h2 this.symm)]; exact this
  · have := (h.ls j hj).1.1.2 b hb
    rw [rl_ne (fun e => by rw [e, hg] at this; omega)]; exact this
theorem turnC_one {N : Nat} {ρ : Nat → Nat} {w : World} {B s g : Nat} {ao : Option Addr} {n cap : Nat} {cs : List Ch} (hN : N ≤ w.heap.size) (hF : Fr ρ w) (hB : BqX N ρ w B s) (hs : s ≤ 2000000000000) (hg : RwC w N (.slice (some ⟨g, 0, none⟩) (n + 1) (n + 1)) (cs ++ [mkCh (-7)])) (h14 : ρ g = 14) (hr : RdC w ao n cs) (hrg : ∀ b off, ao = some ⟨b, off, none⟩ → 0 < n → b ≠ g ∧ b ≠ B) (hn : n ≤ 2932031007317) (h15 : ∀ k, ρ k ≠ 15) :
    Calls Tryz.prog 58 #[.pointer (some ⟨B, 0, none⟩), .slice (some ⟨g, 0, none⟩) (n + 1) (n + 1), .slice ao n cap] w fun e w' => e = .returned (.bool true) ∧ ∃ ρ', BqX N ρ' w' B (s + 1) ∧ Fr ρ' w' ∧ (∀ k, ρ' k ≠ 15) ∧ Ev (fun q => q = 1 ∨ q = 22 ∨ q = 23) ρ w ρ' w' := by
  obtain ⟨mark, F, LI, LR, LE, LC, K, h1, h2, h3, hle, h4, h5, h6, h7⟩ := hB
  refine (turnC_any N ρ w B mark F LI LR LE LC K g ao n cap cs hN hF h1 hg h14 hr hrg hn (by omega) (by omega) h7 h15).mono ?_
  rintro e w' ⟨rfl, ρ', F', p, k1, k3, k4, k5⟩
  exact ⟨rfl, ρ', ⟨_, _, _, _, _, _, _, k1, by omega, by omega, by omega, by simp; omega, by omega, by omega, by omega⟩, k3, k4, k5⟩
theorem RdC.same {w w' : World} {ao : Option Addr} {n : Nat} {cs : List Ch} (h : RdC w ao n cs) (hs : w.heap.size ≤ w'.heap.size) (hb : ∀ b off, ao = some ⟨b, off, none⟩ → b < w.heap.size → w'.heap[b]? = w.heap[b]?) : RdC w' ao n cs := by
  refine ⟨h.1, ?_⟩
  rcases h.2 with h0 | ⟨b, off, h1, h2, h3⟩
  · exact .inl h0
  · exact .inr ⟨b, off, h1, Nat.lt_of_lt_of_le h2 hs, fun j c hj => (h3 j c hj).same (hb b off h1 h2)⟩
theorem RwC.rd {w : World} {N g n : Nat} {cs : List Ch} {c : Ch} (h : RwC w N (.slice (some ⟨g, 0, none⟩) (n + 1) (n + 1)) (cs ++ [c])) (hn : cs.length = n) : RdC w (some ⟨g, 0, none⟩) n cs := by
  refine ⟨hn, .inr ⟨g, 0, rfl, (World.ownsRow.lt h g rfl).2, fun j d hj => ?_⟩⟩
  have := (RwC.at h (k := j) (c := d) (by rw [List.getElem?_append_left (List.getElem?_eq_some_iff.1 hj).1]; exact hj)).1
  rw [Nat.zero_add]; exact this
theorem RwC.same {w w' : World} {N : Nat} {v : Value} {cs : List Ch} (h : RwC w N v cs) (hb : ∀ g, v.ownBlock = some g → w'.heap[g]? = w.heap[g]?) : RwC w' N v cs := by
  refine ⟨h.1, ?_⟩
  rcases h.2 with h1 | ⟨g, cap, cur, h1, hN, hgg, rest⟩
  · exact .inl h1
  · exact .inr ⟨g, cap, cur, h1, hN, (hb g (by rw [h1]; rfl)).trans hgg, rest⟩
theorem RwC.lower {w : World} {N M : Nat} {v : Value} {cs : List Ch} (h : RwC w N v cs) (hM : M ≤ N) : RwC w M v cs := by
  refine ⟨h.1, ?_⟩
  rcases h.2 with h1 | ⟨g, cap, cur, h1, hb, rest⟩
  · exact .inl h1
  · exact .inr ⟨g, cap, cur, h1, Nat.le_trans hM hb, rest⟩
theorem bat_len {gs : Nat → List Int} {lim : Int} {rs rs' : List Rt} {cs : List Ch} {a b : Int} (h : Bat (stepR gs lim) rs cs a b rs') (hl : rs.length ≤ 256) (hm : lim ≤ 256) : rs'.length ≤ 256 := by
  have hrun : ∀ {cs : List Ch} {rs rs' : List Rt}, runS (stepR gs lim) rs cs = some rs' → rs.length ≤ 256 → rs'.length ≤ 256 := by
    intro cs
    induction cs with
    | nil => intro rs rs' h hl; simp [runS] at h; subst h; exact hl
    | cons c cs ih =>
      intro rs rs' h hl
      simp only [runS] at h
      by_cases h0 : (stepR gs lim rs c).1 = 0
      · rw [if_pos h0] at h; exact ih h (stepR_len hl hm)
      · rw [if_neg h0] at h; cases h
  rcases h with ⟨h, -⟩ | ⟨k, c, rs1, -, -, -, -, -, rfl⟩
  · exact hrun h hl
  · exact hl
/-- Behind both Batches: what turnChanges asks. -/
theorem batch_mid {N : Nat} {ρ ρ0 ρ1 ρ2 ρ3 : Nat → Nat} {w0 w1 w2 w3 : World} {W T R B rT rR s g n : Nat} {gs : Nat → List Int} {cs rs cs' rs' : List Rt} {lim : Int} {ch : List Ch} {f1 f2 : Nat → Value}
    (hW : Wq N ρ0 w0 W T R B rT rR gs cs rs lim) (hB : BqX N ρ0 w0 B s) (hgw : w0.heap.size ≤ g) (e1 : ∀ Q, Ev Q ρ0 w0 ρ1 w1) (hg1 : ρ1 g = 30) (hrow : RwC w1 N (.slice (some ⟨g, 0, none⟩) (n + 1) (n + 1)) (ch ++ [mkCh (-7)]))
    (h1 : Tq N ρ2 w2 T rT (rT + 24) 3 35 gs cs' lim f1) (e2 : Ev (fun q => q = rT ∨ q = rT + 24) ρ1 w1 ρ2 w2) (h2 : Tq N ρ3 w3 R rR (rR + 24) 4 3 gs rs' lim f2) (hF3 : Fr ρ3 w3) (h153 : ∀ k, ρ3 k ≠ 15) (e3 : Ev (fun q => q = rR ∨ q = rR + 24) ρ2 w2 ρ3 w3)
    (hrel : Rel cs' rs') (hlen : rs'.length ≤ 256) (hgr : Gr gs cs') (t1 : 8 ≤ rT) (t2 : rT ≤ 11) (t3 : 8 ≤ rR) (t4 : rR ≤ 11) (hne : rT ≠ rR) :
    ∃ ρ4, Wq N ρ4 w3 W T R B rT rR gs cs' rs' lim ∧ BqX N ρ4 w3 B s ∧ Fr ρ4 w3 ∧ (∀ k, ρ4 k ≠ 15) ∧ ρ4 g = 14 ∧ Ev (fun q => q = rT ∨ q = rT + 24 ∨ q = rR ∨ q = rR + 24) ρ0 w0 ρ4 w3 ∧ RwC w3 N (.slice (some ⟨g, 0, none⟩) (n + 1) (n + 1)) (ch ++ [mkCh (-7)]) := by
  have _ := ρ
  have hgl := (World.ownsRow.lt hrow g rfl).2
  have hg2 : ρ2 g = 30 := by rw [e2.role g hgl (by rw [hg1]; decide), hg1]
  have hg3 : ρ3 g = 30 := by rw [e3.role g (Nat.lt_of_lt_of_le hgl e2.size) (by rw [hg2]; decide), hg2]
  have hgl3 : g < w3.heap.size := Nat.lt_of_lt_of_le hgl (Nat.le_trans e2.size e3.size)
  have e4 : Ev (fun q => q = rT ∨ q = rT + 24 ∨ q = rR ∨ q = rR + 24) ρ0 w0 (rl ρ3 g 14) w3 := ((((e1 _).trans (e2.mono fun q h => by omega)).trans (e3.mono fun q h => by omega)) : Ev (fun q => q = rT ∨ q = rT + 24 ∨ q = rR ∨ q = rR + 24) ρ0 w0 ρ3 w3).retag hgw 14
  have hlt := hW.st.lt (by decide)
  have h1' : Tq N (rl ρ3 g 14) w3 T rT (rT + 24) 3 35 gs cs' lim f1 := (h1.ev e3 (by omega) (by omega) (by omega) (ro_of t1 t2)).rg hg3 (by omega) (by omega) 14
  have h2' : Tq N (rl ρ3 g 14) w3 R rR (rR + 24) 4 3 gs rs' lim f2 := h2.rg hg3 (by omega) (by omega) 14
  refine ⟨rl ρ3 g 14, ⟨by rw [e4.role W hlt (by rw [hW.role]; decide), hW.role], hW.st.ev (by decide) e4 (by rw [hW.role]; omega) (by rw [hW.role]; decide), ⟨f1, h1'⟩, ⟨f2, h2'⟩, hrel, hlen, hW.lim256, hgr⟩, hB.ev e4 (fun r hr => by unfold bookR at hr; omega), fun k hk => ?_, fun k => ?_, rl_same _ _ _, e4, ?_⟩
  · by_cases e : k = g
    · subst e; exact rl_same _ _ _
    · rw [rl_ne e]; exact hF3 k hk
  · unfold rl; split
    · decide
    · exact h153 k
  · refine hrow.same fun b hb => ?_
    simp [Value.ownBlock] at hb; subst hb
    rw [e3.block g (Nat.lt_of_lt_of_le hgl e2.size) (by rw [hg2]; decide) (by rw [hg2]; omega), e2.block g hgl (by rw [hg1]; decide) (by rw [hg1]; omega)]
end Go.Proofs.YtnfkgnjeamnhfaaGreat
