import Derived.Test.YtnfkgnjeamnhfaaGreatSb
import Derived.Test.YtnfkgnjeamnhfaaGreatBj
import Derived.Test.YtnfkgnjeamnhfaaGreatGn
namespace Go.Proofs.YtnfkgnjeamnhfaaGreat
open Go.RowKit

/-- A new table, with its limit. -/
def NewQ (o r : Nat) (limit seed own : Int) (w w' : World) : Prop :=
  ∃ f, St w' w.heap.size 36 f ∧ (∀ j, j < 32 → f (o + j) = nilS) ∧ f r = nilS ∧ f 0 = .int .i64 limit ∧ (f 1 = .int .u64 seed ∧ f 2 = .int .u32 own) ∧ Below w.heap.size w w' ∧ w'.heap.size = w.heap.size + 1
set_option maxHeartbeats 1000000 in
theorem newq_any (limit seed own : Int) (w : World) (h1 : ¬ limit < 1) (h2 : ¬ 256 < limit) :
    Calls Tryz.prog 37 #[.int .i64 limit, .int .u64 seed, .int .u32 own] w fun e w' => e = .returned (.tuple #[.pointer (some ⟨w.heap.size, 0, none⟩), .int .i64 0]) ∧ NewQ 3 35 limit seed own w w' := by
  go_enter Tryz.func37, Tryz.ntmps37
  go_wp2
  go_ret2
  refine ⟨rfl, _, St.new w _ _, ?_, rfl, rfl, ⟨rfl, rfl⟩, (Below.refl _ _).alloc (Nat.le_refl _) _, by simp⟩
  intro j hj
  iterate 32 (rcases j with _ | j; · rfl)
  omega
set_option maxHeartbeats 1000000 in
theorem rnewq_any (limit seed own : Int) (w : World) (h1 : ¬ limit < 1) (h2 : ¬ 256 < limit) :
    Calls Tryz.prog 38 #[.int .i64 limit, .int .u64 seed, .int .u32 own] w fun e w' => e = .returned (.pointer (some ⟨w.heap.size, 0, none⟩)) ∧ NewQ 4 3 limit seed own w w' := by
  go_enter Tryz.func38, Tryz.ntmps38
  go_wp2
  go_ret
  refine ⟨rfl, _, St.new w _ _, ?_, rfl, rfl, ⟨rfl, rfl⟩, (Below.refl _ _).alloc (Nat.le_refl _) _, by simp⟩
  intro j hj
  iterate 32 (rcases j with _ | j; · rfl)
  omega
/-- A seed and an own address are those of Go. -/
def Rg (seed own : Int) : Prop := (0 ≤ seed ∧ seed < 18446744073709551616) ∧ 0 ≤ own ∧ own < 4294967296
/-- A new table's groups: none; its seed and own address. -/
def gz (seed own : Int) : Nat → List Int := fun j => if j = 32 then [seed] else if j = 33 then [own] else []
theorem gz_nil {seed own : Int} {j : Nat} (hj : j < 32) : gz seed own j = [] := by unfold gz; rw [if_neg (by omega), if_neg (by omega)]
theorem sd_gz {seed own : Int} (h : Rg seed own) : sd (gz seed own) 1 = .int .u64 seed ∧ sd (gz seed own) 2 = .int .u32 own := by
  obtain ⟨⟨h1, h2⟩, h3, h4⟩ := h
  refine ⟨?_, ?_⟩
  · show Value.int .u64 (seed % 18446744073709551616) = _
    rw [Int.emod_eq_of_lt h1 h2]
  · show Value.int .u32 (own % 4294967296) = _
    rw [Int.emod_eq_of_lt h3 h4]
theorem Tq.new {N : Nat} {ρ : Nat → Nat} {w w' : World} {rS rQ o c : Nat} {lim seed own : Int} (hsn : Rg seed own) (hr15 : rS ≠ 15) (hF : Fr ρ w) (h : NewQ o c lim seed own w w') :
    ∃ ρ' f, Tq N ρ' w' w.heap.size rS rQ o c (gz seed own) [] lim f ∧ Fr ρ' w' ∧ ((∀ k, ρ k ≠ 15) → ∀ k, ρ' k ≠ 15) ∧ (∀ R, Ev R ρ w ρ' w') := by
  obtain ⟨f, h1, h2, h3, h4, h5, h6, h7⟩ := h
  have hg := hF w.heap.size (Nat.le_refl _)
  refine ⟨rl ρ w.heap.size rS, f, ⟨⟨rl_same _ _ _, h1, ?_⟩, h4, fun j hj => ⟨?_, by rw [gz_nil hj]; simp⟩, fun j hj => by rcases hj with rfl | rfl; exact h5.1.trans (sd_gz hsn).1.symm; exact h5.2.trans (sd_gz hsn).2.symm⟩, (hF.grow h6.size).rl (by omega) rS, fun h k => ?_, fun R => (Ev.of_below ρ h6).trans (Ev.rl w' rS (.inl hg))⟩
  · rw [h3]; exact OwnZ.nil _ _ _ _ _ _
  · rw [h2 j hj, gz_nil hj]; exact ⟨Own.nil _ _ _ _ _, fun _ => rfl⟩
  · unfold rl; split
    · exact hr15
    · exact h k
theorem Tq.group {N : Nat} {ρ : Nat → Nat} {w w' : World} {T rS rQ o c : Nat} {gs : Nat → List Int} {rs : List Rt} {lim : Int} {f : Nat → Value} {xs : List Int} {e : Ending} (h : Tq N ρ w T rS rQ o c gs rs lim f) (hro : Ro rS rQ) (hF : Fr ρ w) (hN : N ≤ w.heap.size) (ho : 3 ≤ o) (hco : ∀ i, i < 32 → o + i ≠ c)
    (hp : GPost T o f gs xs w e w') :
    ∃ ρ' a b gs' f', e = two a b ∧ GOut gs xs a b gs' ∧ Tq N ρ' w' T rS rQ o c gs' rs lim f' ∧ Fr ρ' w' ∧ ((∀ k, ρ k ≠ 15) → ∀ k, ρ' k ≠ 15) ∧ Ev (fun q => q = rS) ρ w ρ' w' ∧ (∀ k, k < w.heap.size → ρ' k = ρ k) ∧ (∀ k, k < w.heap.size → k ≠ T → w'.heap[k]? = w.heap[k]?) := by
  have hro' := hro
  obtain ⟨r1, r2, r3, r4, r5, r6, r7, r8, r9⟩ := hro'
  rcases hp with ⟨h1, h2, h3⟩ | ⟨h1, h2, h3, h4⟩ | ⟨h1, i, g, cp, h2, h3, h4, h5, h6, h7, h8, h9⟩
  · exact ⟨ρ, 0, 6, gs, f, h2, .inl ⟨h1, rfl, rfl, rfl⟩, h.ev (Ev.of_below (R := fun _ => False) ρ h3) id id id hro, hF.grow h3.size, id, Ev.of_below ρ h3, fun _ _ => rfl, fun k hk _ => h3.block k hk⟩
  · exact ⟨ρ, 0, 9, gs, f, h3, .inr (.inl ⟨h1, h2, rfl, rfl, rfl⟩), h.ev (Ev.of_below (R := fun _ => False) ρ h4) id id id hro, hF.grow h4.size, id, Ev.of_below ρ h4, fun _ _ => rfl, fun k hk _ => h4.block k hk⟩
  · have hg14 : ρ g = 14 := hF g h6
    have hgl := (h7.lt g rfl).2
    have hTl := h.rq.st.lt (by decide)
    have e1 : Ev (fun q => q = rS) ρ w ρ w' := Ev.of_grown ρ h8 (fun k hk => by cases hk; exact .inr h.rq.role)
    have e2 : Ev (fun q => q = rS) ρ w (rl ρ g 7) w' := e1.trans (Ev.rl w' 7 (.inl hg14))
    have hTg : T ≠ g := by omega
    refine ⟨rl ρ g 7, i, 0, updG gs i xs, _, h5, .inr (.inr ⟨h1, i, h2, h3, h4, rfl, rfl, rfl⟩), ⟨⟨by rw [rl_ne hTg]; exact h.rq.role, h9, ?_⟩, by rw [upd_ne (by omega)]; exact h.lim, fun j hj => ?_, fun j hj => by rw [upd_ne (by omega), sd_upd gs h2]; exact h.one j hj⟩, (hF.grow h8.size).rl hgl 7, fun h15 k => ?_, e2, fun k hk => rl_ne (by omega), fun k hk hne => h8.block k hk (fun e => hne (by simpa using e))⟩
    · rw [upd_ne (fun e => hco i h2 e.symm)]; exact h.rq.row.ev e2 r5 r2
    · by_cases ej : j = i
      · subst ej
        rw [upd_same]
        simp only [updG, if_true]
        refine ⟨⟨⟨⟨h7.1, ?_⟩, fun k hk => ?_⟩, fun h0 => ?_⟩, (goodB_len h1).2⟩
        · rcases h7.2 with ⟨h', _⟩ | ⟨g', cap', cur, hv, hb, rest⟩
          · cases h'
          · exact .inr ⟨g', cap', cur, hv, by omega, rest⟩
        · simp [Value.ownBlock] at hk; subst hk; exact rl_same _ _ _
        · have := (goodB_len h1).1; omega
      · rw [upd_ne (by omega)]
        simp only [updG, ej, if_false]
        exact ⟨(h.ls j hj).1.ev e2 (fun h => r8 h.symm), (h.ls j hj).2⟩
    · unfold rl; split
      · decide
      · exact h15 k
/-- What Drop answers. -/
def DOq (gs : Nat → List Int) (rs : List Rt) (k c : Int) (gs' : Nat → List Int) : Prop := (hasB gs k = false ∧ c = 7 ∧ gs' = gs) ∨ (hasB gs k = true ∧ busyB rs k = true ∧ c = 10 ∧ gs' = gs) ∨ (hasB gs k = true ∧ busyB rs k = false ∧ c = 0 ∧ gs' = updG gs k.toNat [])
theorem DOq.one {gs gs1 gs2 : Nat → List Int} {cs rs : List Rt} {k c d : Int} (hb : busyB cs k = busyB rs k) (h : DOq gs cs k c gs1) (h' : DOq gs rs k d gs2) : c = d ∧ gs1 = gs2 := by
  rcases h with ⟨h1, rfl, rfl⟩ | ⟨h1, h2, rfl, rfl⟩ | ⟨h1, h2, rfl, rfl⟩ <;> rcases h' with ⟨k1, rfl, rfl⟩ | ⟨k1, k2, rfl, rfl⟩ | ⟨k1, k2, rfl, rfl⟩ <;> simp_all
theorem Tq.drop {N : Nat} {ρ : Nat → Nat} {w w' : World} {T rS rQ o c : Nat} {gs : Nat → List Int} {rs : List Rt} {lim : Int} {f : Nat → Value} {k : Int} {e : Ending} (h : Tq N ρ w T rS rQ o c gs rs lim f) (hro : Ro rS rQ) (hF : Fr ρ w) (ho : 3 ≤ o) (hco : ∀ i, i < 32 → o + i ≠ c)
    (hp : DPost2 T o f gs rs k w e w') :
    ∃ x gs' f', e = .returned (.int .i64 x) ∧ DOq gs rs k x gs' ∧ Tq N ρ w' T rS rQ o c gs' rs lim f' ∧ Fr ρ w' ∧ Ev (fun q => q = rS) ρ w ρ w' := by
  have hro' := hro
  obtain ⟨r1, r2, r3, r4, r5, r6, r7, r8, r9⟩ := hro'
  rcases hp with ⟨h1, h2, h3⟩ | ⟨h1, hb, h2, h3⟩ | ⟨h1, hb, h2, h3, h4⟩
  · exact ⟨7, gs, f, h2, .inl ⟨h1, rfl, rfl⟩, h.ev (Ev.of_below (R := fun _ => False) ρ h3) id id id hro, hF.grow h3.size, Ev.of_below ρ h3⟩
  · exact ⟨10, gs, f, h2, .inr (.inl ⟨h1, hb, rfl, rfl⟩), h.ev (Ev.of_below (R := fun _ => False) ρ h3) id id id hro, hF.grow h3.size, Ev.of_below ρ h3⟩
  · obtain ⟨i, rfl, hi, _⟩ := hasB_some h1
    rw [Int.toNat_natCast] at h4
    have e1 : Ev (fun q => q = rS) ρ w ρ w' := Ev.of_grown ρ h3 (fun k hk => by cases hk; exact .inr h.rq.role)
    refine ⟨0, updG gs i [], _, h2, .inr (.inr ⟨h1, hb, rfl, by rw [Int.toNat_natCast]⟩), ⟨⟨h.rq.role, h4, ?_⟩, by rw [upd_ne (by omega)]; exact h.lim, fun j hj => ?_, fun j hj => by rw [upd_ne (by omega), sd_upd gs hi]; exact h.one j hj⟩, hF.grow h3.size, e1⟩
    · rw [upd_ne (fun e => hco i hi e.symm)]; exact h.rq.row.ev e1 r5 r2
    · by_cases ej : j = i
      · subst ej
        rw [upd_same]
        simp only [updG, if_true]
        exact ⟨⟨Own.nil _ _ _ _ _, fun _ => rfl⟩, by simp⟩
      · rw [upd_ne (by omega)]
        simp only [updG, ej, if_false]
        exact ⟨(h.ls j hj).1.ev e1 (fun h => r8 h.symm), (h.ls j hj).2⟩

/-- Every route has its group. -/
def Gr (gs : Nat → List Int) (cs : List Rt) : Prop := ∀ r ∈ cs, hasB gs r.g = true
theorem Gr.putC {gs : Nat → List Int} {cs : List Rt} {p : Rt} {lim : Int} (h : Gr gs cs) (hp : hasB gs p.g = true) : Gr gs (putC cs p lim).2 := by
  unfold Go.Proofs.YtnfkgnjeamnhfaaGreat.putC
  intro r hr
  split at hr
  · rcases List.mem_or_eq_of_mem_set hr with h1 | rfl
    · exact h r h1
    · exact hp
  · split at hr
    · exact h r hr
    · rcases List.mem_append.1 hr with h1 | h1
      · exact h r (List.mem_of_mem_take h1)
      · rcases List.mem_cons.1 h1 with rfl | h2
        · exact hp
        · exact h r (List.mem_of_mem_drop h2)
theorem Gr.putT {gs : Nat → List Int} {cs : List Rt} {p : Rt} {lim : Int} (h : Gr gs cs) : Gr gs (putT gs lim cs p).2 := by
  unfold Go.Proofs.YtnfkgnjeamnhfaaGreat.putT
  split
  · split
    · rename_i hg; exact h.putC hg
    · exact h
  · exact h
theorem Gr.takeT {gs : Nat → List Int} {cs : List Rt} {p : Rt} (h : Gr gs cs) : Gr gs (takeT cs p).2 := by
  unfold Go.Proofs.YtnfkgnjeamnhfaaGreat.takeT takeC
  split
  · split
    · exact fun r hr => h r (List.mem_of_mem_eraseIdx hr)
    · exact h
  · exact h
theorem Gr.step {gs : Nat → List Int} {cs : List Rt} {c : Ch} {lim : Int} (h : Gr gs cs) : Gr gs (stepT gs lim cs c).2 := by
  unfold stepT
  split
  · exact h.putT
  · split
    · exact h.takeT
    · exact h
theorem Gr.run {gs : Nat → List Int} {lim : Int} : ∀ {ch : List Ch} {cs cs' : List Rt}, Gr gs cs → runS (stepT gs lim) cs ch = some cs' → Gr gs cs'
  | [], cs, cs', h, hr => by cases hr; exact h
  | c :: ch, cs, cs', h, hr => by
    rw [runS] at hr
    split at hr
    · exact Gr.run h.step hr
    · cases hr
theorem Gr.bat {gs : Nat → List Int} {cs cs' : List Rt} {lim a b : Int} {ch : List Ch} (h : Gr gs cs) (hb : Bat (stepT gs lim) cs ch a b cs') : Gr gs cs' := by
  rcases hb with ⟨h1, -, -⟩ | ⟨k, c, rs1, -, -, -, -, -, rfl⟩
  · exact h.run h1
  · exact h
theorem Gr.group {gs gs' : Nat → List Int} {cs : List Rt} {a b : Int} {xs : List Int} (h : Gr gs cs) (hg : GOut gs xs a b gs') : Gr gs' cs := by
  rcases hg with ⟨h1, rfl, rfl, rfl⟩ | ⟨h1, h2, rfl, rfl, rfl⟩ | ⟨h1, i, h2, h3, h4, rfl, rfl, rfl⟩
  · exact h
  · exact h
  · intro r hr
    have h5 := of_decide_eq_true (h r hr)
    refine decide_eq_true ⟨h5.1, h5.2.1, ?_⟩
    have := (goodB_len h1).1
    unfold updG
    split
    · omega
    · exact h5.2.2
theorem Gr.drop {gs gs' : Nat → List Int} {cs : List Rt} {k c : Int} (h : Gr gs cs) (hd : DOq gs cs k c gs') : Gr gs' cs := by
  rcases hd with ⟨h1, rfl, rfl⟩ | ⟨h1, h2, rfl, rfl⟩ | ⟨h1, h2, rfl, rfl⟩
  · exact h
  · exact h
  · intro r hr
    have hne : r.g ≠ k := fun e => by
      have : busyB cs k = true := List.any_eq_true.2 ⟨r, hr, by simp [e]⟩
      rw [h2] at this; cases this
    have h3 := of_decide_eq_true (h r hr)
    have h4 := of_decide_eq_true h1
    refine decide_eq_true ⟨h3.1, h3.2.1, ?_⟩
    unfold updG
    rw [if_neg (by omega)]
    exact h3.2.2
/-- A table of the program's and one of the document's, with the same groups and routes. -/
structure Wq (N : Nat) (ρ : Nat → Nat) (w : World) (W T R B rT rR : Nat) (gs : Nat → List Int) (cs rs : List Rt) (lim : Int) : Prop where
  role : ρ W = 12
  st : St w W 3 (wF T R B)
  t : ∃ f, Tq N ρ w T rT (rT + 24) 3 35 gs cs lim f
  r : ∃ f, Tq N ρ w R rR (rR + 24) 4 3 gs rs lim f
  rel : Rel cs rs
  len : rs.length ≤ 256
  lim256 : lim ≤ 256
  grp : Gr gs cs
theorem ro_of {r : Nat} (h : 8 ≤ r) (h2 : r ≤ 11) : Ro r (r + 24) := by unfold Ro; omega
theorem Wq.ev {Q : Nat → Prop} {N : Nat} {ρ ρ' : Nat → Nat} {w w' : World} {W T R B rT rR : Nat} {gs : Nat → List Int} {cs rs : List Rt} {lim : Int} (h : Wq N ρ w W T R B rT rR gs cs rs lim) (he : Ev Q ρ w ρ' w') (h12 : ¬ Q 12) (h7 : ¬ Q 7) (hT : ¬ Q rT) (hR : ¬ Q rR) (hT' : ¬ Q (rT + 24)) (hR' : ¬ Q (rR + 24)) (t1 : 8 ≤ rT) (t2 : rT ≤ 11) (t3 : 8 ≤ rR) (t4 : rR ≤ 11) : Wq N ρ' w' W T R B rT rR gs cs rs lim := by
  obtain ⟨f, hf⟩ := h.t
  obtain ⟨g, hg⟩ := h.r
  have hlt := h.st.lt (by decide)
  exact ⟨by rw [he.role W hlt (by rw [h.role]; decide), h.role], h.st.ev (by decide) he (by rw [h.role]; exact h12) (by rw [h.role]; decide), ⟨f, hf.ev he hT hT' h7 (ro_of t1 t2)⟩, ⟨g, hg.ev he hR hR' h7 (ro_of t3 t4)⟩, h.rel, h.len, h.lim256, h.grp⟩
/-- The book behind s steps. -/
def BqX (N : Nat) (ρ : Nat → Nat) (w : World) (B s : Nat) : Prop := ∃ mark F LI LR LE LC K, Bo N ρ w B mark F LI LR LE LC K ∧ LI.length ≤ 4 * s ∧ LR.length ≤ 4 * s ∧ LE.length ≤ 4 * s ∧ LC.length ≤ s ∧ K.length ≤ s ∧ -1000 - (s : Int) ≤ mark ∧ mark ≤ 0
theorem BqX.ev {Q : Nat → Prop} {N : Nat} {ρ ρ' : Nat → Nat} {w w' : World} {B s : Nat} (h : BqX N ρ w B s) (he : Ev Q ρ w ρ' w') (hr : ∀ r, bookR r → ¬ Q r) : BqX N ρ' w' B s := by
  obtain ⟨mark, F, LI, LR, LE, LC, K, h1, h2⟩ := h
  exact ⟨mark, F, LI, LR, LE, LC, K, h1.ev he hr, h2⟩
theorem BqX.more {N : Nat} {ρ : Nat → Nat} {w : World} {B s s' : Nat} (h : BqX N ρ w B s) (hs : s ≤ s') : BqX N ρ w B s' := by
  obtain ⟨mark, F, LI, LR, LE, LC, K, h1, h2, h3, hle, h4, h5, h6, h7⟩ := h
  exact ⟨mark, F, LI, LR, LE, LC, K, h1, by omega, by omega, by omega, by omega, by omega, by omega, h7⟩
theorem BqX.looks {N : Nat} {ρ : Nat → Nat} {w : World} {B s : Nat} (h : BqX N ρ w B s) (hs : s ≤ 1000000000000) :
    Calls Tryz.prog 14 #[.pointer (some ⟨B, 0, none⟩)] w fun e w' => e = .returned (.bool true) ∧ Below w.heap.size w w' := by
  obtain ⟨mark, F, LI, LR, LE, LC, K, h1, h2, h3, hle, h4, h5, h6, h7⟩ := h
  exact looks2_any N ρ w B mark F LI LR LE LC K h1 (by omega) (by omega) (by omega) (by omega) (by omega)
theorem keepI_one {N : Nat} {ρ : Nat → Nat} {w : World} {B s : Nat} {l : Value} {n : Nat} {xs : List Value} (hN : N ≤ w.heap.size) (hF : Fr ρ w) (hB : BqX N ρ w B s) (hs : s ≤ 1000000000000) (hl : w.ownsRow N 3 1 l n xs) (h14 : ∀ g, l.ownBlock = some g → ρ g = 14) (hn : n ≤ 1000) (h15 : ∀ k, ρ k ≠ 15) :
    Calls Tryz.prog 22 #[.pointer (some ⟨B, 0, none⟩), l] w fun e w' => e = .returned (.tuple #[]) ∧ ∃ ρ', BqX N ρ' w' B (s + 1) ∧ Fr ρ' w' ∧ (∀ k, ρ' k ≠ 15) ∧ Ev (fun q => q = 1 ∨ q = 2 ∨ q = 3) ρ w ρ' w' := by
  obtain ⟨mark, F, LI, LR, LE, LC, K, h1, h2, h3, hle, h4, h5, h6, h7⟩ := hB
  refine (keepI_any N ρ w B mark F LI LR LE LC K l n xs hN hF h1 hl h14 hn (by omega) (by omega) h7 h15).mono ?_
  rintro e w' ⟨rfl, ρ', F', L', k1, k2, -, k3, k4, k5⟩
  exact ⟨rfl, ρ', ⟨_, _, _, _, _, _, _, k1, by simp; omega, by omega, by omega, by omega, by omega, by omega, by omega⟩, k3, k4, k5⟩
theorem keepR_one {N : Nat} {ρ : Nat → Nat} {w : World} {B s : Nat} {l : Value} {xs : List Rt} (hN : N ≤ w.heap.size) (hF : Fr ρ w) (hB : BqX N ρ w B s) (hs : s ≤ 1000000000000) (hl : RwO w N l xs) (h14 : ∀ g, l.ownBlock = some g → ρ g = 14) (hn : xs.length ≤ 1000) (h15 : ∀ k, ρ k ≠ 15) :
    Calls Tryz.prog 54 #[.pointer (some ⟨B, 0, none⟩), l] w fun e w' => e = .returned (.tuple #[]) ∧ ∃ ρ', BqX N ρ' w' B (s + 1) ∧ Fr ρ' w' ∧ (∀ k, ρ' k ≠ 15) ∧ Ev (fun q => q = 1 ∨ q = 20 ∨ q = 21) ρ w ρ' w' := by
  obtain ⟨mark, F, LI, LR, LE, LC, K, h1, h2, h3, hle, h4, h5, h6, h7⟩ := hB
  refine (keepR_any N ρ w B mark F LI LR LE LC K l xs.length xs hN hF h1 rfl hl h14 hn (by omega) (by omega) h7 h15).mono ?_
  rintro e w' ⟨rfl, ρ', F', L', k1, k2, k3, k4, k5⟩
  exact ⟨rfl, ρ', ⟨_, _, _, _, _, _, _, k1, by omega, by simp; omega, by omega, by omega, by omega, by omega, by omega⟩, k3, k4, k5⟩
theorem keepE_one {N : Nat} {ρ : Nat → Nat} {w : World} {B s : Nat} {l : Value} {xs : List En} (hN : N ≤ w.heap.size) (hF : Fr ρ w) (hB : BqX N ρ w B s) (hs : s ≤ 1000000000000) (hl : RwE w N l xs) (h14 : ∀ g, l.ownBlock = some g → ρ g = 14) (hn : xs.length ≤ 1000) (h15 : ∀ k, ρ k ≠ 15) :
    Calls Tryz.prog 27 #[.pointer (some ⟨B, 0, none⟩), l] w fun e w' => e = .returned (.tuple #[]) ∧ ∃ ρ', BqX N ρ' w' B (s + 1) ∧ Fr ρ' w' ∧ (∀ k, ρ' k ≠ 15) ∧ Ev (fun q => q = 1 ∨ q = 26 ∨ q = 27) ρ w ρ' w' := by
  obtain ⟨mark, F, LI, LR, LE, LC, K, h1, h2, h3, hle, h4, h5, h6, h7⟩ := hB
  refine (keepE_any N ρ w B mark F LI LR LE LC K l xs.length xs hN hF h1 rfl hl h14 hn (by omega) (by omega) h7 h15).mono ?_
  rintro e w' ⟨rfl, ρ', F', L', k1, k2, k3, k4, k5⟩
  exact ⟨rfl, ρ', ⟨_, _, _, _, _, _, _, k1, by omega, by omega, by simp; omega, by omega, by omega, by omega, by omega⟩, k3, k4, k5⟩
/-- The roles that a step may turn. -/
def stR (rT rR q : Nat) : Prop := q = rT ∨ q = rR ∨ q = rT + 24 ∨ q = rR + 24 ∨ (1 ≤ q ∧ q ≤ 5) ∨ (20 ≤ q ∧ q ≤ 23) ∨ (26 ≤ q ∧ q ≤ 27)
/-- What a step leaves. -/
def SPq (N : Nat) (ρ : Nat → Nat) (w : World) (W T R B rT rR : Nat) (lim : Int) (s : Nat) (e : Ending) (w' : World) : Prop :=
  e = .returned (.bool true) ∧ ∃ ρ' gs' cs' rs', Wq N ρ' w' W T R B rT rR gs' cs' rs' lim ∧ BqX N ρ' w' B (s + 1) ∧ Fr ρ' w' ∧ (∀ k, ρ' k ≠ 15) ∧ Ev (stR rT rR) ρ w ρ' w'
end Go.Proofs.YtnfkgnjeamnhfaaGreat
