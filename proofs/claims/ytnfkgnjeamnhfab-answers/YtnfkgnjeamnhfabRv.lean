import Derived.Test.YtnfkgnjeamnhfabRt
namespace Go.Proofs.Ytnfkgnjeamnhfab
open Go.RowKit Go.Sort

/-- A change. -/
structure Ch where
  k : Int
  r : Rt
/-- A change's cells in memory. -/
structure ChAt (w : World) (b o : Nat) (c : Ch) : Prop where
  ck : w.cell? ⟨b, o, none⟩ = some (.int .i64 c.k)
  c0 : w.cell? ⟨b, o + 1, none⟩ = some (.int .i64 c.r.f)
  c1 : w.cell? ⟨b, o + 2, none⟩ = some (.int .u64 c.r.hi)
  c2 : w.cell? ⟨b, o + 3, none⟩ = some (.int .u64 c.r.lo)
  c3 : w.cell? ⟨b, o + 4, none⟩ = some (.int .i64 c.r.n)
  c4 : w.cell? ⟨b, o + 5, none⟩ = some (.int .i64 c.r.g)
/-- A list of changes that can be read. -/
def RdC (w : World) (ao : Option Addr) (n : Nat) (cs : List Ch) : Prop := cs.length = n ∧ (n = 0 ∨ ∃ b off, ao = some ⟨b, off, none⟩ ∧ b < w.heap.size ∧ ∀ j c, cs[j]? = some c → ChAt w b (off + j * 6) c)
theorem ChAt.same {w w' : World} {b o : Nat} {c : Ch} (h : ChAt w b o c) (hb : w'.heap[b]? = w.heap[b]?) : ChAt w' b o c :=
  ⟨(World.cell?_of_block (a := ⟨b, o, none⟩) hb).trans h.ck, (World.cell?_of_block (a := ⟨b, o + 1, none⟩) hb).trans h.c0, (World.cell?_of_block (a := ⟨b, o + 2, none⟩) hb).trans h.c1, (World.cell?_of_block (a := ⟨b, o + 3, none⟩) hb).trans h.c2, (World.cell?_of_block (a := ⟨b, o + 4, none⟩) hb).trans h.c3, (World.cell?_of_block (a := ⟨b, o + 5, none⟩) hb).trans h.c4⟩

/-- One change, as the document has it. -/
def stepR (gs : Nat → List Int) (lim : Int) (rs : List Rt) (c : Ch) : Int × List Rt := if c.k = 1 then putR gs lim rs c.r else if c.k = 2 then takeR rs c.r else (11, rs)
/-- One change, as the program has it. -/
def stepT (gs : Nat → List Int) (lim : Int) (rs : List Rt) (c : Ch) : Int × List Rt := if c.k = 1 then putT gs lim rs c.r else if c.k = 2 then takeT rs c.r else (11, rs)
/-- The routes behind some changes that are all OK. -/
def runS (st : List Rt → Ch → Int × List Rt) : List Rt → List Ch → Option (List Rt)
  | rs, [] => some rs
  | rs, c :: cs => if (st rs c).1 = 0 then runS st (st rs c).2 cs else none
/-- What Batch answers, and the routes behind it. -/
def Bat (st : List Rt → Ch → Int × List Rt) (rs : List Rt) (cs : List Ch) (a b : Int) (rs' : List Rt) : Prop :=
  (runS st rs cs = some rs' ∧ a = cs.length ∧ b = 0) ∨ ∃ (k : Nat) (c : Ch) (rs1 : List Rt), runS st rs (cs.take k) = some rs1 ∧ cs[k]? = some c ∧ (st rs1 c).1 ≠ 0 ∧ a = k ∧ b = (st rs1 c).1 ∧ rs' = rs
theorem Bat.all {st : List Rt → Ch → Int × List Rt} {rs : List Rt} {cs : List Ch} {rs' : List Rt} (h : runS st rs cs = some rs') : Bat st rs cs cs.length 0 rs' := .inl ⟨h, rfl, rfl⟩
theorem Bat.stop {st : List Rt → Ch → Int × List Rt} {rs : List Rt} {cs : List Ch} {k : Nat} {c : Ch} {rs1 : List Rt} (h1 : runS st rs (cs.take k) = some rs1) (h2 : cs[k]? = some c) (h3 : (st rs1 c).1 ≠ 0) : Bat st rs cs k (st rs1 c).1 rs := .inr ⟨k, c, rs1, h1, h2, h3, rfl, rfl, rfl⟩
theorem runS_snoc {st : List Rt → Ch → Int × List Rt} {cs : List Ch} {c : Ch} : ∀ {rs rs1 : List Rt}, runS st rs cs = some rs1 → (st rs1 c).1 = 0 → runS st rs (cs ++ [c]) = some (st rs1 c).2 := by
  induction cs with
  | nil => intro rs rs1 h h0; simp [runS] at h; subst h; simp [runS, h0]
  | cons d cs ih =>
    intro rs rs1 h h0
    simp only [runS, List.cons_append] at h ⊢
    by_cases hd : (st rs d).1 = 0
    · rw [if_pos hd] at h ⊢; exact ih h h0
    · rw [if_neg hd] at h; cases h
theorem putR_len {gs : Nat → List Int} {lim : Int} {rs : List Rt} {p : Rt} (h : rs.length ≤ 256) (hl : lim ≤ 256) : (putR gs lim rs p).2.length ≤ 256 := by
  unfold putR
  split
  · split
    · split
      · simpa using h
      · split
        · exact h
        · simp; omega
    · exact h
  · exact h
theorem takeR_len {rs : List Rt} {p : Rt} (h : rs.length ≤ 256) : (takeR rs p).2.length ≤ 256 := by
  unfold takeR
  split
  · split
    · simp only []; have := List.length_eraseIdx_le rs (whr rs p).toNat; omega
    · exact h
  · exact h
theorem stepR_len {gs : Nat → List Int} {lim : Int} {rs : List Rt} {c : Ch} (h : rs.length ≤ 256) (hl : lim ≤ 256) : (stepR gs lim rs c).2.length ≤ 256 := by
  unfold stepR
  split
  · exact putR_len h hl
  · split
    · exact takeR_len h
    · exact h
theorem Ev.retag {R : Nat → Prop} {ρ ρ' : Nat → Nat} {w w' : World} (h : Ev R ρ w ρ' w') {g : Nat} (hg : w.heap.size ≤ g) (r : Nat) : Ev R ρ w (Ytnfkgnjeamnhfab.rl ρ' g r) w' :=
  ⟨h.os, h.tape, h.output, h.size, fun k hk hr => by rw [rl_ne (by omega)]; exact h.role k hk hr, h.block⟩
theorem TqPost.trans {N : Nat} {ρ ρ1 : Nat → Nat} {w w1 w' : World} {T rS rQ o c : Nat} {gs : Nat → List Int} {rs' : List Rt} {lim : Int} (hE : Ev (fun q => q = rS ∨ q = rQ) ρ w ρ1 w1) (h : TqPost N ρ1 w1 T rS rQ o c gs lim rs' w') : TqPost N ρ w T rS rQ o c gs lim rs' w' := by
  obtain ⟨ρ', f', h1, h2, h3, h4⟩ := h
  exact ⟨ρ', f', h1, h2, h3, hE.trans h4⟩
/-- The old routes again. -/
theorem restore {N : Nat} {ρ ρk : Nat → Nat} {w wk : World} {T rS rQ o c : Nat} {gs : Nat → List Int} {rs rs0 : List Rt} {lim : Int} {f : Nat → Value} {v : Value} (h : Tq N ρk wk T rS rQ o c gs rs lim f) (hro : Ro rS rQ) (hF : Fr ρk wk) (h15 : ∀ k, ρk k ≠ 15) (hE : Ev (fun q => q = rS ∨ q = rQ) ρ w ρk wk)
    (hv : RwO wk w.heap.size v rs0) (h13 : ∀ g, v.ownBlock = some g → ρk g = 13) (hN : N ≤ w.heap.size) (hc : c < 36) (hc0 : 3 ≤ c) (hco : ∀ j, j < 32 → o + j ≠ c) : TqPost N ρ w T rS rQ o c gs lim rs0 (wk.setCell ⟨T, c, none⟩ v) := by
  have hTv : ∀ g, v.ownBlock = some g → g ≠ T := fun g hg e => by have := h13 g hg; rw [e, h.rq.role] at this; exact hro.2.2.2.2.2.1 this
  have hE' : Ev (fun q => q = rS ∨ q = rQ) ρk wk ρk (wk.setCell ⟨T, c, none⟩ v) := Ev.of_set ρk wk T c v (.inr (.inl h.rq.role))
  have hsz : (wk.setCell ⟨T, c, none⟩ v).heap.size = wk.heap.size := by simp [World.setCell]
  have hF' : Fr ρk (wk.setCell ⟨T, c, none⟩ v) := hF.grow (Nat.le_of_eq hsz.symm)
  have hr' : RwO (wk.setCell ⟨T, c, none⟩ v) N v rs0 := (hv.lower hN).setOther hTv v
  have hls : ∀ j, j < 32 → CL N ρk (wk.setCell ⟨T, c, none⟩ v) (upd f c v (o + j)) (gs j) ∧ (gs j).length ≤ 8 := fun j hj => by
    rw [upd_ne (hco j hj)]
    exact ⟨(h.ls j hj).1.ev hE' (by unfold Ro at hro; omega), (h.ls j hj).2⟩
  have hlim : upd f c v 0 = .int .i64 lim := by rw [upd_ne (by omega)]; exact h.lim
  have hone : ∀ j, (j = 1 ∨ j = 2) → upd f c v j = sd gs j := fun j hj => by rw [upd_ne (by omega)]; exact h.one j hj
  cases hg : v.ownBlock with
  | none => exact ⟨ρk, upd f c v, ⟨⟨h.rq.role, h.rq.st.set hc v, by rw [upd_same]; exact ⟨hr', fun g hg' => by rw [hg] at hg'; cases hg'⟩⟩, hlim, hls, hone⟩, hF', h15, hE.trans hE'⟩
  | some g =>
    have hgw := World.ownsRow.lt hv g hg
    have hρg := h13 g hg
    refine ⟨rl ρk g rQ, upd f c v, ⟨⟨by rw [rl_ne (fun e => hTv g hg e.symm)]; exact h.rq.role, h.rq.st.set hc v, by rw [upd_same]; exact ⟨hr', fun g' hg' => by rw [hg] at hg'; cases hg'; exact rl_same _ _ _⟩⟩, hlim, fun j hj => ?_, hone⟩, hF'.rl (by rw [hsz]; exact hgw.2) rQ, fun k => ?_, (hE.trans hE').retag hgw.1 rQ⟩
    · refine ⟨⟨⟨(hls j hj).1.1.1, fun b hb => ?_⟩, (hls j hj).1.2⟩, (hls j hj).2⟩
      have h7 := (hls j hj).1.1.2 b hb
      rw [rl_ne (fun e => by rw [e, hρg] at h7; omega)]; exact h7
    · unfold rl; split
      · exact hro.2.2.1
      · exact h15 k
end Go.Proofs.Ytnfkgnjeamnhfab
namespace Go.Proofs.Ytnfkgnjeamnhfab
open Go.RowKit Go.Sort

theorem tag13 {ρ : Nat → Nat} {w w3 : World} {v : Value} {rs : List Rt} (hF : Fr ρ w) (h15 : ∀ k, ρ k ≠ 15) (hb : Below w.heap.size w w3) (hv : RwO w3 w.heap.size v rs) :
    ∃ ρ1, (∀ R, Ev R ρ w ρ1 w3) ∧ Fr ρ1 w3 ∧ (∀ k, ρ1 k ≠ 15) ∧ ∀ g, v.ownBlock = some g → ρ1 g = 13 := by
  cases hg : v.ownBlock with
  | none => exact ⟨ρ, fun R => Ev.of_below ρ hb, hF.grow hb.size, h15, fun g h => by cases h⟩
  | some g =>
    have hgw := World.ownsRow.lt hv g hg
    refine ⟨rl ρ g 13, fun R => (Ev.of_below ρ hb).trans (Ev.rl _ 13 (.inl (hF g hgw.1))), (hF.grow hb.size).rl hgw.2 13, fun k => ?_, fun g' h => by cases h; exact rl_same _ _ _⟩
    unfold rl; split
    · decide
    · exact h15 k
/-- Behind k changes. -/
structure BK (N : Nat) (ρ1 : Nat → Nat) (w w3 : World) (T rS rQ o c : Nat) (gs : Nat → List Int) (rs : List Rt) (lim : Int) (st : List Rt → Ch → Int × List Rt) (cs : List Ch) (k : Nat) (ρk : Nat → Nat) (wk : World) (rsk : List Rt) (fk : Nat → Value) : Prop where
  tq : Tq N ρk wk T rS rQ o c gs rsk lim fk
  fr : Fr ρk wk
  h15 : ∀ k, ρk k ≠ 15
  ev : Ev (fun q => q = rS ∨ q = rQ) ρ1 w3 ρk wk
  run : runS st rs (cs.take k) = some rsk
  len : rsk.length ≤ 256
  sz : w.heap.size ≤ wk.heap.size
theorem BK.next {N : Nat} {ρ1 ρk : Nat → Nat} {w w3 wk w' : World} {T rS rQ o c : Nat} {gs : Nat → List Int} {rs : List Rt} {lim : Int} {st : List Rt → Ch → Int × List Rt} {cs : List Ch} {k : Nat} {rsk : List Rt} {fk : Nat → Value} {d : Ch} (h : BK N ρ1 w w3 T rS rQ o c gs rs lim st cs k ρk wk rsk fk) (hd : cs[k]? = some d) (h0 : (st rsk d).1 = 0) (hl : (st rsk d).2.length ≤ 256)
    (hp : TqPost N ρk wk T rS rQ o c gs lim (st rsk d).2 w') : ∃ ρ' f', BK N ρ1 w w3 T rS rQ o c gs rs lim st cs (k + 1) ρ' w' (st rsk d).2 f' := by
  obtain ⟨ρ', f', h1, h2, h3, h4⟩ := hp
  refine ⟨ρ', f', h1, h2, h3, h.ev.trans h4, ?_, hl, Nat.le_trans h.sz h4.size⟩
  rw [List.take_add_one, hd]
  exact runS_snoc h.run h0

/-- A change was not OK: the old routes again. -/
theorem back_old {N : Nat} {ρ ρ1 ρk : Nat → Nat} {w w3 wk w' : World} {T rS rQ : Nat} {gs : Nat → List Int} {rs rs' : List Rt} {lim : Int} {v : Value} (hro : Ro rS rQ) (hE1 : ∀ R, Ev R ρ w ρ1 w3) (hE : Ev (fun q => q = rS ∨ q = rQ) ρ1 w3 ρk wk) (hv : RwO w3 w.heap.size v rs) (h13 : ∀ g, v.ownBlock = some g → ρ1 g = 13) (hN : N ≤ w.heap.size)
    (hp : TqPost N ρk wk T rS rQ 4 3 gs lim rs' w') : (∃ x, w'.cell? ⟨T, 3, none⟩ = some x) ∧ w'.frozen? ⟨T, 3, none⟩ = false ∧ TqPost N ρ w T rS rQ 4 3 gs lim rs (w'.setCell ⟨T, 3, none⟩ v) := by
  obtain ⟨ρ', f', h1, h2, h3, h4⟩ := hp
  have hE' := hE.trans h4
  have hρ' : ∀ g, v.ownBlock = some g → ρ' g = 13 := fun g hg => by
    have := h13 g hg
    rw [hE'.role g (World.ownsRow.lt hv g hg).2 (by rw [this]; decide), this]
  have hv' : RwO w' w.heap.size v rs := by
    have := OwnZ.ev (N := w.heap.size) (ρ := ρ1) (w := w3) (r := 13) (e := 45) (z := 5) (v := v) (n := rs.length) (xs := flat rs) ⟨hv, h13⟩ hE' (by unfold Ro at hro; omega) (by decide)
    exact this.1
  exact ⟨⟨_, (h1.rq.st 3 (by decide)).1⟩, (h1.rq.st 3 (by decide)).2, restore h1 hro h2 h3 ((hE1 _).trans hE') hv' hρ' hN (by decide) (by decide) (by omega)⟩

end Go.Proofs.Ytnfkgnjeamnhfab
