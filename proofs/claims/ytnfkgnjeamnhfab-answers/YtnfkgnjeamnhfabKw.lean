import Derived.Test.YtnfkgnjeamnhfabTi
namespace Go.Proofs.Ytnfkgnjeamnhfab
open Go.RowKit

/-- A new table, with its limit. -/
def NewQ (o r : Nat) (limit seed own : Int) (w w' : World) : Prop :=
  ∃ f, St w' w.heap.size 36 f ∧ (∀ j, j < 32 → f (o + j) = nilS) ∧ f r = nilS ∧ f 0 = .int .i64 limit ∧ (f 1 = .int .u64 seed ∧ f 2 = .int .u32 own) ∧ Below w.heap.size w w' ∧ w'.heap.size = w.heap.size + 1
set_option maxHeartbeats 1000000 in
theorem newq_any (limit seed own : Int) (w : World) (h1 : ¬ limit < 1) (h2 : ¬ 256 < limit) :
    Calls Try.prog 32 #[.int .i64 limit, .int .u64 seed, .int .u32 own] w fun e w' => e = .returned (.tuple #[.pointer (some ⟨w.heap.size, 0, none⟩), .int .i64 0]) ∧ NewQ 3 35 limit seed own w w' := by
  go_enter Try.func32, Try.ntmps32
  go_wp2
  go_ret2
  refine ⟨rfl, _, St.new w _ _, ?_, rfl, rfl, ⟨rfl, rfl⟩, (Below.refl _ _).alloc (Nat.le_refl _) _, by simp⟩
  intro j hj
  iterate 32 (rcases j with _ | j; · rfl)
  omega
/-- A seed and an own address are those of Go. -/
def Rg (seed own : Int) : Prop := (0 ≤ seed ∧ seed < 18446744073709551616) ∧ 0 ≤ own ∧ own < 4294967296
/-- A new table's groups: none; its seed and own address. -/
def gz (seed own : Int) : Nat → List Int := fun j => if j = 32 then [seed] else if j = 33 then [own] else []
theorem gz_nil {seed own : Int} {j : Nat} (hj : j < 32) : gz seed own j = [] := by unfold gz; rw [if_neg (by omega), if_neg (by omega)]
theorem sd_gz {seed own : Int} (h : Rg seed own) : sd (gz seed own) 1 = .int .u64 seed ∧ sd (gz seed own) 2 = .int .u32 own := by
  obtain ⟨⟨h1, h2⟩, h3, h4⟩ := h
  refine ⟨?_, ?_⟩
  · show Value.int .u64 (seed % 18446744073709551616) = _
    rw [Int.emod_eq_of_lt h1 h2]
  · show Value.int .u32 (own % 4294967296) = _
    rw [Int.emod_eq_of_lt h3 h4]
theorem Tq.new {N : Nat} {ρ : Nat → Nat} {w w' : World} {rS rQ o c : Nat} {lim seed own : Int} (hsn : Rg seed own) (hr15 : rS ≠ 15) (hF : Fr ρ w) (h : NewQ o c lim seed own w w') :
    ∃ ρ' f, Tq N ρ' w' w.heap.size rS rQ o c (gz seed own) [] lim f ∧ Fr ρ' w' ∧ ((∀ k, ρ k ≠ 15) → ∀ k, ρ' k ≠ 15) ∧ (∀ R, Ev R ρ w ρ' w') := by
  obtain ⟨f, h1, h2, h3, h4, h5, h6, h7⟩ := h
  have hg := hF w.heap.size (Nat.le_refl _)
  refine ⟨rl ρ w.heap.size rS, f, ⟨⟨rl_same _ _ _, h1, ?_⟩, h4, fun j hj => ⟨?_, by rw [gz_nil hj]; simp⟩, fun j hj => by rcases hj with rfl | rfl; exact h5.1.trans (sd_gz hsn).1.symm; exact h5.2.trans (sd_gz hsn).2.symm⟩, (hF.grow h6.size).rl (by omega) rS, fun h k => ?_, fun R => (Ev.of_below ρ h6).trans (Ev.rl w' rS (.inl hg))⟩
  · rw [h3]; exact OwnZ.nil _ _ _ _ _ _
  · rw [h2 j hj, gz_nil hj]; exact ⟨Own.nil _ _ _ _ _, fun _ => rfl⟩
  · unfold rl; split
    · exact hr15
    · exact h k
theorem Tq.group {N : Nat} {ρ : Nat → Nat} {w w' : World} {T rS rQ o c : Nat} {gs : Nat → List Int} {rs : List Rt} {lim : Int} {f : Nat → Value} {xs : List Int} {e : Ending} (h : Tq N ρ w T rS rQ o c gs rs lim f) (hro : Ro rS rQ) (hF : Fr ρ w) (hN : N ≤ w.heap.size) (ho : 3 ≤ o) (hco : ∀ i, i < 32 → o + i ≠ c)
    (hp : GPost T o f gs xs w e w') :
    ∃ ρ' a b gs' f', e = two a b ∧ GOut gs xs a b gs' ∧ Tq N ρ' w' T rS rQ o c gs' rs lim f' ∧ Fr ρ' w' ∧ ((∀ k, ρ k ≠ 15) → ∀ k, ρ' k ≠ 15) ∧ Ev (fun q => q = rS) ρ w ρ' w' ∧ (∀ k, k < w.heap.size → ρ' k = ρ k) ∧ (∀ k, k < w.heap.size → k ≠ T → w'.heap[k]? = w.heap[k]?) := by
  have hro' := hro
  obtain ⟨r1, r2, r3, r4, r5, r6, r7, r8, r9⟩ := hro'
  rcases hp with ⟨h1, h2, h3⟩ | ⟨h1, h2, h3, h4⟩ | ⟨h1, i, g, cp, h2, h3, h4, h5, h6, h7, h8, h9⟩
  · exact ⟨ρ, 0, 6, gs, f, h2, .inl ⟨h1, rfl, rfl, rfl⟩, h.ev (Ev.of_below (R := fun _ => False) ρ h3) id id id hro, hF.grow h3.size, id, Ev.of_below ρ h3, fun _ _ => rfl, fun k hk _ => h3.block k hk⟩
  · exact ⟨ρ, 0, 9, gs, f, h3, .inr (.inl ⟨h1, h2, rfl, rfl, rfl⟩), h.ev (Ev.of_below (R := fun _ => False) ρ h4) id id id hro, hF.grow h4.size, id, Ev.of_below ρ h4, fun _ _ => rfl, fun k hk _ => h4.block k hk⟩
  · have hg14 : ρ g = 14 := hF g h6
    have hgl := (h7.lt g rfl).2
    have hTl := h.rq.st.lt (by decide)
    have e1 : Ev (fun q => q = rS) ρ w ρ w' := Ev.of_grown ρ h8 (fun k hk => by cases hk; exact .inr h.rq.role)
    have e2 : Ev (fun q => q = rS) ρ w (rl ρ g 7) w' := e1.trans (Ev.rl w' 7 (.inl hg14))
    have hTg : T ≠ g := by omega
    refine ⟨rl ρ g 7, i, 0, updG gs i xs, _, h5, .inr (.inr ⟨h1, i, h2, h3, h4, rfl, rfl, rfl⟩), ⟨⟨by rw [rl_ne hTg]; exact h.rq.role, h9, ?_⟩, by rw [upd_ne (by omega)]; exact h.lim, fun j hj => ?_, fun j hj => by rw [upd_ne (by omega), sd_upd gs h2]; exact h.one j hj⟩, (hF.grow h8.size).rl hgl 7, fun h15 k => ?_, e2, fun k hk => rl_ne (by omega), fun k hk hne => h8.block k hk (fun e => hne (by simpa using e))⟩
    · rw [upd_ne (fun e => hco i h2 e.symm)]; exact h.rq.row.ev e2 r5 r2
    · by_cases ej : j = i
      · subst ej
        rw [upd_same]
        simp only [updG, if_true]
        refine ⟨⟨⟨⟨h7.1, ?_⟩, fun k hk => ?_⟩, fun h0 => ?_⟩, (goodB_len h1).2⟩
        · rcases h7.2 with ⟨h', _⟩ | ⟨g', cap', cur, hv, hb, rest⟩
          · cases h'
          · exact .inr ⟨g', cap', cur, hv, by omega, rest⟩
        · simp [Value.ownBlock] at hk; subst hk; exact rl_same _ _ _
        · have := (goodB_len h1).1; omega
      · rw [upd_ne (by omega)]
        simp only [updG, ej, if_false]
        exact ⟨(h.ls j hj).1.ev e2 (fun h => r8 h.symm), (h.ls j hj).2⟩
    · unfold rl; split
      · decide
      · exact h15 k
/-- What Drop answers. -/
def DOq (gs : Nat → List Int) (rs : List Rt) (k c : Int) (gs' : Nat → List Int) : Prop := (hasB gs k = false ∧ c = 7 ∧ gs' = gs) ∨ (hasB gs k = true ∧ busyB rs k = true ∧ c = 10 ∧ gs' = gs) ∨ (hasB gs k = true ∧ busyB rs k = false ∧ c = 0 ∧ gs' = updG gs k.toNat [])
theorem DOq.one {gs gs1 gs2 : Nat → List Int} {cs rs : List Rt} {k c d : Int} (hb : busyB cs k = busyB rs k) (h : DOq gs cs k c gs1) (h' : DOq gs rs k d gs2) : c = d ∧ gs1 = gs2 := by
  rcases h with ⟨h1, rfl, rfl⟩ | ⟨h1, h2, rfl, rfl⟩ | ⟨h1, h2, rfl, rfl⟩ <;> rcases h' with ⟨k1, rfl, rfl⟩ | ⟨k1, k2, rfl, rfl⟩ | ⟨k1, k2, rfl, rfl⟩ <;> simp_all
theorem Tq.drop {N : Nat} {ρ : Nat → Nat} {w w' : World} {T rS rQ o c : Nat} {gs : Nat → List Int} {rs : List Rt} {lim : Int} {f : Nat → Value} {k : Int} {e : Ending} (h : Tq N ρ w T rS rQ o c gs rs lim f) (hro : Ro rS rQ) (hF : Fr ρ w) (ho : 3 ≤ o) (hco : ∀ i, i < 32 → o + i ≠ c)
    (hp : DPost2 T o f gs rs k w e w') :
    ∃ x gs' f', e = .returned (.int .i64 x) ∧ DOq gs rs k x gs' ∧ Tq N ρ w' T rS rQ o c gs' rs lim f' ∧ Fr ρ w' ∧ Ev (fun q => q = rS) ρ w ρ w' := by
  have hro' := hro
  obtain ⟨r1, r2, r3, r4, r5, r6, r7, r8, r9⟩ := hro'
  rcases hp with ⟨h1, h2, h3⟩ | ⟨h1, hb, h2, h3⟩ | ⟨h1, hb, h2, h3, h4⟩
  · exact ⟨7, gs, f, h2, .inl ⟨h1, rfl, rfl⟩, h.ev (Ev.of_below (R := fun _ => False) ρ h3) id id id hro, hF.grow h3.size, Ev.of_below ρ h3⟩
  · exact ⟨10, gs, f, h2, .inr (.inl ⟨h1, hb, rfl, rfl⟩), h.ev (Ev.of_below (R := fun _ => False) ρ h3) id id id hro, hF.grow h3.size, Ev.of_below ρ h3⟩
  · obtain ⟨i, rfl, hi, _⟩ := hasB_some h1
    rw [Int.toNat_natCast] at h4
    have e1 : Ev (fun q => q = rS) ρ w ρ w' := Ev.of_grown ρ h3 (fun k hk => by cases hk; exact .inr h.rq.role)
    refine ⟨0, updG gs i [], _, h2, .inr (.inr ⟨h1, hb, rfl, by rw [Int.toNat_natCast]⟩), ⟨⟨h.rq.role, h4, ?_⟩, by rw [upd_ne (by omega)]; exact h.lim, fun j hj => ?_, fun j hj => by rw [upd_ne (by omega), sd_upd gs hi]; exact h.one j hj⟩, hF.grow h3.size, e1⟩
    · rw [upd_ne (fun e => hco i hi e.symm)]; exact h.rq.row.ev e1 r5 r2
    · by_cases ej : j = i
      · subst ej
        rw [upd_same]
        simp only [updG, if_true]
        exact ⟨⟨Own.nil _ _ _ _ _, fun _ => rfl⟩, by simp⟩
      · rw [upd_ne (by omega)]
        simp only [updG, ej, if_false]
        exact ⟨(h.ls j hj).1.ev e1 (fun h => r8 h.symm), (h.ls j hj).2⟩

theorem ro_of {r : Nat} (h : 8 ≤ r) (h2 : r ≤ 11) : Ro r (r + 24) := by unfold Ro; omega
end Go.Proofs.Ytnfkgnjeamnhfab
