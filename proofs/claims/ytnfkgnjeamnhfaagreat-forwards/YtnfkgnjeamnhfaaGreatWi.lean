import Derived.Test.YtnfkgnjeamnhfaaGreatWh
namespace Go.Proofs.YtnfkgnjeamnhfaaGreat
open Go.RowKit

/-- What a call of Group leaves, with the roles. -/
def GPq (N : Nat) (ρ : Nat → Nat) (w : World) (T rS rQ o c : Nat) (gs : Nat → List Int) (rs : List Rt) (lim : Int) (xs : List Int) (a b : Int) (w' : World) : Prop :=
  ∃ ρ' gs' f', GOut gs xs a b gs' ∧ Tq N ρ' w' T rS rQ o c gs' rs lim f' ∧ Fr ρ' w' ∧ ((∀ k, ρ k ≠ 15) → ∀ k, ρ' k ≠ 15) ∧ Ev (fun q => q = rS) ρ w ρ' w' ∧ (∀ k, k < w.heap.size → ρ' k = ρ k) ∧ (∀ k, k < w.heap.size → k ≠ T → w'.heap[k]? = w.heap[k]?)
theorem groupq_one {N : Nat} {ρ : Nat → Nat} {w : World} {T rT : Nat} {gs : Nat → List Int} {rs : List Rt} {lim : Int} {f : Nat → Value} (h : Tq N ρ w T rT (rT + 24) 3 35 gs rs lim f) (hF : Fr ρ w) (hN : N ≤ w.heap.size) (hT : 8 ≤ rT) (hT2 : rT ≤ 11) {ao : Option Addr} {n cap : Nat} {xs : List Int} (hr : Rd w ao n xs) (hm : n ≤ maxLen) :
    Calls Tryz.prog 40 #[.pointer (some ⟨T, 0, none⟩), .slice ao n cap] w fun e w' => ∃ a b, e = .returned (.tuple #[.int .i64 a, .int .i64 b]) ∧ GPq N ρ w T rT (rT + 24) 3 35 gs rs lim xs a b w' := by
  refine (group_any T f gs ao n cap xs w h.rq.st h.Ls hr hm).mono fun e w' hp => ?_
  obtain ⟨ρ', a, b, gs', f', h1, h2, h3, h4, h5, h6⟩ := h.group (ro_of hT hT2) hF hN (by decide) (by omega) hp
  exact ⟨a, b, h1, ρ', gs', f', h2, h3, h4, h5, h6⟩
theorem rgroupq_one {N : Nat} {ρ : Nat → Nat} {w : World} {T rT : Nat} {gs : Nat → List Int} {rs : List Rt} {lim : Int} {f : Nat → Value} (h : Tq N ρ w T rT (rT + 24) 4 3 gs rs lim f) (hF : Fr ρ w) (hN : N ≤ w.heap.size) (hT : 8 ≤ rT) (hT2 : rT ≤ 11) {ao : Option Addr} {n cap : Nat} {xs : List Int} (hr : Rd w ao n xs) (hm : n ≤ maxLen) :
    Calls Tryz.prog 41 #[.pointer (some ⟨T, 0, none⟩), .slice ao n cap] w fun e w' => ∃ a b, e = .returned (.tuple #[.int .i64 a, .int .i64 b]) ∧ GPq N ρ w T rT (rT + 24) 4 3 gs rs lim xs a b w' := by
  refine (rgroup_any T f gs ao n cap xs w h.rq.st h.Ls hr hm).mono fun e w' hp => ?_
  obtain ⟨ρ', a, b, gs', f', h1, h2, h3, h4, h5, h6⟩ := h.group (ro_of hT hT2) hF hN (by decide) (by omega) hp
  exact ⟨a, b, h1, ρ', gs', f', h2, h3, h4, h5, h6⟩
theorem turnHq_one {N : Nat} {ρ : Nat → Nat} {w : World} {B s g : Nat} {ao : Option Addr} {n cap : Nat} {xs : List Int} (hN : N ≤ w.heap.size) (hF : Fr ρ w) (hB : BqX N ρ w B s) (hs : s ≤ 2000000000000) (hgN : N ≤ g) (hg : w.heap[g]? = some (.cells (ints (xs ++ [-7])).toArray 3 (0, 0))) (h14 : ρ g = 14) (hr : Rd w ao n xs) (hrg : 0 < n → ∀ b off, ao = some ⟨b, off, none⟩ → b ≠ g) (hn : n ≤ 17592186044415) (h15 : ∀ k, ρ k ≠ 15) :
    Calls Tryz.prog 42 #[.pointer (some ⟨B, 0, none⟩), .slice (some ⟨g, 0, none⟩) (n + 1) (n + 1), .slice ao n cap] w fun e w' => e = .returned (.bool true) ∧ ∃ ρ', BqX N ρ' w' B (s + 1) ∧ Fr ρ' w' ∧ (∀ k, ρ' k ≠ 15) ∧ Ev (fun q => q = 1 ∨ q = 4 ∨ q = 5) ρ w ρ' w' := by
  obtain ⟨mark, F, LI, LR, LE, LC, K, h1, h2, h3, hle, h4, h5, h6, h7⟩ := hB
  refine (turnH_any N ρ w B mark F LI LR LE LC K g ao n cap xs hN hF h1 hgN hg h14 hr hrg hn (by omega)).mono ?_
  rintro e w' ⟨rfl, ρ', F', p, k1, k2, k3, k4⟩
  exact ⟨rfl, ρ', ⟨_, _, _, _, _, _, _, k1, by omega, by omega, by omega, by omega, by simp; omega, by omega, by omega⟩, k2, k3 h15, k4⟩
theorem Ev.behind {Q : Nat → Prop} {ρ ρ' : Nat → Nat} {w w1 w' : World} (h : Ev Q ρ w1 ρ' w') (h1 : Below w.heap.size w w1) : Ev Q ρ w ρ' w' := (Ev.of_below ρ h1).trans h
theorem groupq_fin {N : Nat} {ρ ρ0 ρ2 ρ3 : Nat → Nat} {w w0 w1 w2 w3 w4 : World} {W T R B rT rR s : Nat} {gs gs' : Nat → List Int} {cs rs : List Rt} {lim : Int} {f1 f2 : Nat → Value} (hE : ∀ R, Ev R ρ w ρ0 w0) (hW : Wq N ρ0 w0 W T R B rT rR gs cs rs lim) (hb1 : Below w0.heap.size w0 w1)
    (e1 : Ev (fun q => q = rT) ρ0 w1 ρ2 w2) (e2 : Ev (fun q => q = rR) ρ2 w2 ρ3 w3) (h1 : Tq N ρ2 w2 T rT (rT + 24) 3 35 gs' cs lim f1) (h2 : Tq N ρ3 w3 R rR (rR + 24) 4 3 gs' rs lim f2)
    (hK : ∃ ρ', BqX N ρ' w4 B (s + 1) ∧ Fr ρ' w4 ∧ (∀ k, ρ' k ≠ 15) ∧ Ev (fun q => q = 1 ∨ q = 4 ∨ q = 5) ρ3 w3 ρ' w4) (hgr : Gr gs' cs) (hT : 8 ≤ rT) (hT2 : rT ≤ 11) (hR : 8 ≤ rR) (hR2 : rR ≤ 11) (hne : rT ≠ rR) : SPq N ρ w W T R B rT rR lim s (.returned (.bool true)) w4 := by
  obtain ⟨ρ', k1, k2, k3, k4⟩ := hK
  have e3 : Ev (stR rT rR) ρ0 w0 ρ' w4 := (((e1.mono fun _ h => .inl h).behind hb1).trans (e2.mono fun _ h => .inr (.inl h))).trans (k4.mono fun _ h => by unfold stR; omega)
  have hlt := hW.st.lt (by decide)
  refine ⟨rfl, ρ', gs', cs, rs, ⟨by rw [e3.role W hlt (by rw [hW.role]; decide), hW.role], hW.st.ev (by decide) e3 (by rw [hW.role]; unfold stR; omega) (by rw [hW.role]; decide), ⟨f1, (h1.ev e2 hne (by omega) (by omega) (ro_of hT hT2)).ev k4 (by omega) (by omega) (by omega) (ro_of hT hT2)⟩, ⟨f2, h2.ev k4 (by omega) (by omega) (by omega) (ro_of hR hR2)⟩, hW.rel, hW.len, hW.lim256, hgr⟩, k1, k2, k3, (hE _).trans e3⟩
theorem Rd.front {w : World} {g n : Nat} {xs : List Int} (h : w.heap[g]? = some (.cells (ints (xs ++ [-7])).toArray 3 (0, 0))) (hl : xs.length = n) (hm : n + 1 ≤ maxLen) : Rd w (some ⟨g, 0, none⟩) n xs := by
  have h1 := own_rd (full_own (base := 0) (n := n + 1) h (Nat.zero_le _) (by simp [hl]) hm) (by simp [hl])
  refine ⟨hl, .inr ⟨g, 0, rfl, fun j x hx => ?_⟩⟩
  have hj : j < xs.length := (List.getElem?_eq_some_iff.1 hx).1
  rcases h1.2 with h0 | ⟨b, off, hb, hc⟩
  · omega
  · simp only [Option.some.injEq, Addr.mk.injEq, and_true] at hb
    obtain ⟨rfl, rfl⟩ := hb
    exact hc j x (by rw [List.getElem?_append_left hj]; exact hx)
theorem Rd.evq {Q : Nat → Prop} {N : Nat} {ρ ρ' : Nat → Nat} {w w' : World} {ao : Option Addr} {n : Nat} {xs : List Int} (h : Rd w ao n xs) (he : Ev Q ρ w ρ' w') (hA : 0 < n → ∀ b off, ao = some ⟨b, off, none⟩ → b < N) (hρ : ∀ b, b < N → ρ b = 0) (hQ : ¬ Q 0) : Rd w' ao n xs := by
  rcases Nat.eq_zero_or_pos n with h0 | h0
  · exact ⟨h.1, .inl h0⟩
  · exact h.same fun b off e hlt => he.block b hlt (by rw [hρ b (hA h0 b off e)]; decide) (by rw [hρ b (hA h0 b off e)]; exact hQ)
theorem turnq_drew {N : Nat} {ρ : Nat → Nat} {w w' : World} {B s : Nat} (h : ∃ ρ', BqX N ρ' w' B (s + 1) ∧ Fr ρ' w' ∧ (∀ k, ρ' k ≠ 15) ∧ Ev (fun q => q = 1 ∨ q = 4 ∨ q = 5) ρ w.drew ρ' w') : ∃ ρ', BqX N ρ' w' B (s + 1) ∧ Fr ρ' w' ∧ (∀ k, ρ' k ≠ 15) ∧ Ev (fun q => q = 1 ∨ q = 4 ∨ q = 5) ρ w ρ' w' := by
  obtain ⟨ρ', h1, h2, h3, h5⟩ := h
  exact ⟨ρ', h1, h2, h3, ⟨h5.os, h5.tape, h5.output, h5.size, h5.role, h5.block⟩⟩
theorem GPq.drew {N : Nat} {ρ : Nat → Nat} {w : World} {T rS rQ o c : Nat} {gs : Nat → List Int} {rs : List Rt} {lim : Int} {xs : List Int} {a b : Int} {w' : World} (h : GPq N ρ w.drew T rS rQ o c gs rs lim xs a b w') : GPq N ρ w T rS rQ o c gs rs lim xs a b w' := by
  obtain ⟨ρ', gs', f', h1, h2, h3, h4, h5, h6, h7⟩ := h
  exact ⟨ρ', gs', f', h1, h2, h3, h4, ⟨h5.os, h5.tape, h5.output, h5.size, h5.role, h5.block⟩, h6, h7⟩
end Go.Proofs.YtnfkgnjeamnhfaaGreat
