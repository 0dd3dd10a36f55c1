import Derived.Test.YtnfkgnjeamnhfabKa
namespace Go.Proofs.Ytnfkgnjeamnhfab
open Go.RowKit Go.Sort

/-- A table of the program's. -/
structure Kt (N : Nat) (ρ : Nat → Nat) (w : World) (T rS : Nat) (gs : Nat → List Int) (rs : List Rt) (lim : Int) : Prop where
  t : ∃ f, Tq N ρ w T rS (rS + 24) 3 35 gs rs lim f
  ok : Ok gs rs lim
/-- Roles are whole. -/
structure Wh (N : Nat) (ρ : Nat → Nat) (w : World) : Prop where
  n : N ≤ w.heap.size
  fr : Fr ρ w
  n15 : ∀ k, ρ k ≠ 15
/-- What a call on a table leaves. -/
def KThen (N : Nat) (ρ : Nat → Nat) (w : World) (T rS : Nat) (gs : Nat → List Int) (rs : List Rt) (lim : Int) (w' : World) : Prop :=
  ∃ ρ', Kt N ρ' w' T rS gs rs lim ∧ Wh N ρ' w' ∧ Ev (fun q => q = rS ∨ q = rS + 24) ρ w ρ' w'
theorem Kt.ev {R : Nat → Prop} {N : Nat} {ρ ρ' : Nat → Nat} {w w' : World} {T rS : Nat} {gs : Nat → List Int} {rs : List Rt} {lim : Int} (h : Kt N ρ w T rS gs rs lim) (he : Ev R ρ w ρ' w') (h8 : 8 ≤ rS) (h11 : rS ≤ 11) (hS : ¬ R rS) (hQ : ¬ R (rS + 24)) (h7 : ¬ R 7) : Kt N ρ' w' T rS gs rs lim := by
  obtain ⟨f, hf⟩ := h.t
  exact ⟨⟨f, hf.ev he hS hQ h7 (ro_of h8 h11)⟩, h.ok⟩
theorem Kt.below {N : Nat} {ρ : Nat → Nat} {w w' : World} {T rS : Nat} {gs : Nat → List Int} {rs : List Rt} {lim : Int} (h : Kt N ρ w T rS gs rs lim) (hb : Below w.heap.size w w') (h8 : 8 ≤ rS) (h11 : rS ≤ 11) : Kt N ρ w' T rS gs rs lim :=
  h.ev (Ev.of_below (R := fun _ => False) ρ hb) h8 h11 id id id
theorem Wh.below {N : Nat} {ρ : Nat → Nat} {w w' : World} (h : Wh N ρ w) (hb : Below w.heap.size w w') : Wh N ρ w' := ⟨Nat.le_trans h.n hb.size, h.fr.grow hb.size, h.n15⟩
theorem KThen.of {N : Nat} {ρ : Nat → Nat} {w w1 w' : World} {T rS : Nat} {gs : Nat → List Int} {rs : List Rt} {lim : Int} (hb : Below w.heap.size w w1) (h : KThen N ρ w1 T rS gs rs lim w') : KThen N ρ w T rS gs rs lim w' := by
  obtain ⟨ρ', h1, h2, h3⟩ := h
  exact ⟨ρ', h1, h2, (Ev.of_below ρ hb).trans h3⟩
theorem kt_new {N : Nat} {ρ : Nat → Nat} {w w' : World} {rS : Nat} {lim seed own : Int} (hsn : Rg seed own) (h8 : 8 ≤ rS) (h11 : rS ≤ 11) (hW : Wh N ρ w) (h1 : 1 ≤ lim) (h2 : lim ≤ 256) (h : NewQ 3 35 lim seed own w w') :
    ∃ ρ', Kt N ρ' w' w.heap.size rS (gz seed own) [] lim ∧ Wh N ρ' w' ∧ (∀ R, Ev R ρ w ρ' w') := by
  obtain ⟨ρ', f, k1, k2, k3, k4⟩ := Tq.new (N := N) (rS := rS) (rQ := rS + 24) hsn (by omega) hW.fr h
  exact ⟨ρ', ⟨⟨f, k1⟩, Ok.new h1 h2⟩, ⟨Nat.le_trans hW.n (k4 (fun _ => True)).size, k2, k3 hW.n15⟩, k4⟩
theorem kt_put {N : Nat} {ρ : Nat → Nat} {w : World} {T rS : Nat} {gs : Nat → List Int} {rs : List Rt} {lim : Int} (h : Kt N ρ w T rS gs rs lim) (hW : Wh N ρ w) (h8 : 8 ≤ rS) (h11 : rS ≤ 11) (p : Rt) (hp : Fit p) :
    Calls Try.prog 20 #[.pointer (some ⟨T, 0, none⟩), .agg #[.int .i64 p.f, .int .u64 p.hi, .int .u64 p.lo, .int .i64 p.n, .int .i64 p.g]] w fun e w' => e = .returned (.int .i64 (putT gs lim rs p).1) ∧ KThen N ρ w T rS gs (putT gs lim rs p).2 lim w' := by
  obtain ⟨f, hf⟩ := h.t
  have := h.ok.len256
  refine (tput_any hf (ro_of h8 h11) hW.n hW.fr hW.n15 (by omega) p hp).mono ?_
  rintro e w' ⟨rfl, ρ', f', h1, h2, h3, h4⟩
  exact ⟨rfl, ρ', ⟨⟨f', h1⟩, h.ok.put p hp⟩, ⟨Nat.le_trans hW.n h4.size, h2, h3⟩, h4⟩
theorem kt_take {N : Nat} {ρ : Nat → Nat} {w : World} {T rS : Nat} {gs : Nat → List Int} {rs : List Rt} {lim : Int} (h : Kt N ρ w T rS gs rs lim) (hW : Wh N ρ w) (h8 : 8 ≤ rS) (h11 : rS ≤ 11) (p : Rt) (hp : Fit p) :
    Calls Try.prog 33 #[.pointer (some ⟨T, 0, none⟩), .agg #[.int .i64 p.f, .int .u64 p.hi, .int .u64 p.lo, .int .i64 p.n]] w fun e w' => e = .returned (.int .i64 (takeT rs p).1) ∧ KThen N ρ w T rS gs (takeT rs p).2 lim w' := by
  obtain ⟨f, hf⟩ := h.t
  have := h.ok.len256
  refine (ttake_any hf (ro_of h8 h11) hW.fr hW.n15 (by omega) p hp).mono ?_
  rintro e w' ⟨rfl, ρ', f', h1, h2, h3, h4⟩
  exact ⟨rfl, ρ', ⟨⟨f', h1⟩, h.ok.take p⟩, ⟨Nat.le_trans hW.n h4.size, h2, h3⟩, h4⟩
theorem kt_group {N : Nat} {ρ : Nat → Nat} {w : World} {T rS : Nat} {gs : Nat → List Int} {rs : List Rt} {lim : Int} (h : Kt N ρ w T rS gs rs lim) (hW : Wh N ρ w) (h8 : 8 ≤ rS) (h11 : rS ≤ 11) {ao : Option Addr} {n cap : Nat} {xs : List Int} (hr : Rd w ao n xs) (hm : n ≤ maxLen) :
    Calls Try.prog 17 #[.pointer (some ⟨T, 0, none⟩), .slice ao n cap] w fun e w' => ∃ a b gs', e = .returned (.tuple #[.int .i64 a, .int .i64 b]) ∧ GOut gs xs a b gs' ∧ KThen N ρ w T rS gs' rs lim w' := by
  obtain ⟨f, hf⟩ := h.t
  refine (group_any T f gs ao n cap xs w hf.rq.st hf.Ls hr hm).mono fun e w' hp => ?_
  obtain ⟨ρ', a, b, gs', f', h1, h2, h3, h4, h5, h6, -, -⟩ := hf.group (ro_of h8 h11) hW.fr hW.n (by decide) (by omega) hp
  exact ⟨a, b, gs', h1, h2, ρ', ⟨⟨f', h3⟩, h.ok.group h2⟩, ⟨Nat.le_trans hW.n h6.size, h4, h5 hW.n15⟩, h6.mono fun _ h => .inl h⟩
theorem kt_drop {N : Nat} {ρ : Nat → Nat} {w : World} {T rS : Nat} {gs : Nat → List Int} {rs : List Rt} {lim : Int} (h : Kt N ρ w T rS gs rs lim) (hW : Wh N ρ w) (h8 : 8 ≤ rS) (h11 : rS ≤ 11) (k : Int) :
    Calls Try.prog 18 #[.pointer (some ⟨T, 0, none⟩), .int .i64 k] w fun e w' => ∃ c gs', e = .returned (.int .i64 c) ∧ DOq gs rs k c gs' ∧ KThen N ρ w T rS gs' rs lim w' := by
  obtain ⟨f, hf⟩ := h.t
  refine (drop2_any N T f gs rs k w hf.rq.st hf.Ls hf.rq.row.1).mono fun e w' hp => ?_
  obtain ⟨x, gs', f', h1, h2, h3, h4, h5⟩ := hf.drop (ro_of h8 h11) hW.fr (by decide) (by omega) hp
  exact ⟨x, gs', h1, h2, ρ, ⟨⟨f', h3⟩, h.ok.drop h2⟩, ⟨Nat.le_trans hW.n h5.size, h4, hW.n15⟩, h5.mono fun _ h => .inl h⟩
theorem kt_batch {N : Nat} {ρ : Nat → Nat} {w : World} {T rS : Nat} {gs : Nat → List Int} {rs : List Rt} {lim : Int} (h : Kt N ρ w T rS gs rs lim) (hW : Wh N ρ w) (h8 : 8 ≤ rS) (h11 : rS ≤ 11) {ao : Option Addr} {n cap : Nat} {cs : List Ch} (hr : RdC w ao n cs) (hfit : ∀ c ∈ cs, Fit c.r) (hn : n ≤ 1000000000000000) :
    Calls Try.prog 34 #[.pointer (some ⟨T, 0, none⟩), .slice ao n cap] w fun e w' => ∃ a b rs', e = .returned (.tuple #[.int .i64 a, .int .i64 b]) ∧ Bat (stepT gs lim) rs cs a b rs' ∧ KThen N ρ w T rS gs rs' lim w' := by
  obtain ⟨f, hf⟩ := h.t
  refine (tbatch_any hf (ro_of h8 h11) hW.n hW.fr hW.n15 h.ok.len256 h.ok.l2 ao n cap cs hr hfit hn).mono ?_
  rintro e w' ⟨a, b, rs', rfl, hb, ρ', f', h1, h2, h3, h4⟩
  exact ⟨a, b, rs', rfl, hb, ρ', ⟨⟨f', h1⟩, h.ok.bat hfit hb⟩, ⟨Nat.le_trans hW.n h4.size, h2, h3⟩, h4⟩
theorem kt_hops {N : Nat} {ρ : Nat → Nat} {w : World} {T rS : Nat} {gs : Nat → List Int} {rs : List Rt} {lim : Int} (h : Kt N ρ w T rS gs rs lim) (g : Int) :
    Calls Try.prog 16 #[.pointer (some ⟨T, 0, none⟩), .int .i64 g] w (HPost gs g w) := by
  obtain ⟨f, hf⟩ := h.t
  exact hops_any T f gs g w hf.rq.st hf.Ls
theorem kt_dump {N : Nat} {ρ : Nat → Nat} {w : World} {T rS : Nat} {gs : Nat → List Int} {rs : List Rt} {lim : Int} (h : Kt N ρ w T rS gs rs lim) (fam : Int) :
    Calls Try.prog 12 #[.pointer (some ⟨T, 0, none⟩), .int .i64 fam] w fun e w' => ∃ ao n cap, e = .returned (.tuple #[.slice ao n cap, .int .i64 (famE fam)]) ∧ n = (dumpT rs fam).length ∧ RwO w' w.heap.size (.slice ao n cap) (dumpT rs fam) ∧ Below w.heap.size w w' := by
  obtain ⟨f, hf⟩ := h.t
  have := h.ok.len256
  exact tdump_any hf (by omega) fam
theorem kt_lens {N : Nat} {ρ : Nat → Nat} {w : World} {T rS : Nat} {gs : Nat → List Int} {rs : List Rt} {lim : Int} (h : Kt N ρ w T rS gs rs lim) (fam : Int) :
    Calls Try.prog 14 #[.pointer (some ⟨T, 0, none⟩), .int .i64 fam] w fun e w' => ∃ ao n cap, e = .returned (.tuple #[.slice ao n cap, .int .i64 (famE fam)]) ∧ n = (lensT rs fam).length ∧ w'.ownsRow w.heap.size 3 1 (.slice ao n cap) n (ints (lensT rs fam)) ∧ Below w.heap.size w w' := by
  obtain ⟨f, hf⟩ := h.t
  have := h.ok.len256
  exact tlens_any hf (by omega) h.ok.srt h.ok.gd fam
theorem kt_ents {N : Nat} {ρ : Nat → Nat} {w : World} {T rS : Nat} {gs : Nat → List Int} {rs : List Rt} {lim : Int} (h : Kt N ρ w T rS gs rs lim) (fam m : Int) :
    Calls Try.prog 76 #[.pointer (some ⟨T, 0, none⟩), .int .i64 fam, .int .i64 m] w fun e w' => ∃ ao n cap, e = .returned (.tuple #[.slice ao n cap, .int .i64 (H.lenE fam m)]) ∧ n = (entsT rs fam m).length ∧ RwE w' w.heap.size (.slice ao n cap) (entsT rs fam m) ∧ Below w.heap.size w w' := by
  obtain ⟨f, hf⟩ := h.t
  have := h.ok.len256
  exact tents_any hf (by omega) h.ok.srt h.ok.gd fam m

/-- A box of one's own. -/
theorem kt_box {N : Nat} {ρ : Nat → Nat} {w : World} (hW : Wh N ρ w) (o : Obj) : ∃ ρ', Wh N ρ' (w.alloc o) ∧ ρ' w.heap.size = 13 ∧ (∀ R, Ev R ρ w ρ' (w.alloc o)) := by
  have hal : Below w.heap.size w (w.alloc o) := (Below.refl _ _).alloc (Nat.le_refl _) _
  refine ⟨rl ρ w.heap.size 13, ⟨Nat.le_trans hW.n hal.size, (hW.fr.grow hal.size).rl (by simp) 13, fun k => ?_⟩, rl_same _ _ _, fun R => (Ev.of_below ρ hal).trans (Ev.rl _ 13 (.inl (hW.fr _ (Nat.le_refl _))))⟩
  unfold Ytnfkgnjeamnhfab.rl; split
  · decide
  · exact hW.n15 k
theorem Kt.evs {N : Nat} {ρ ρ' : Nat → Nat} {w w' : World} {T rS : Nat} {gs : Nat → List Int} {rs : List Rt} {lim : Int} (h : Kt N ρ w T rS gs rs lim) (he : ∀ R, Ev R ρ w ρ' w') (h8 : 8 ≤ rS) (h11 : rS ≤ 11) : Kt N ρ' w' T rS gs rs lim := h.ev (he (fun _ => False)) h8 h11 id id id
/-- The two routes of sure. -/
def allR : Rt := ⟨4, 0, 0, 0, 0⟩
def sixR : Rt := ⟨6, 0, 0, 0, 0⟩
theorem gout_first {seed own a b : Int} {gs' : Nat → List Int} (h : GOut (gz seed own) [5] a b gs') : a = 0 ∧ b = 0 ∧ hasB gs' 0 = true ∧ gs' = updG (gz seed own) 0 [5] := by
  rcases h with ⟨h1, -⟩ | ⟨h1, h2, -⟩ | ⟨h1, i, h2, h3, h4, rfl, rfl, rfl⟩
  · exact absurd h1 (by decide)
  · exact absurd (by rw [gz_nil (by decide)]; rfl) (h2 0 (by decide))
  · have : i = 0 := by
      rcases Nat.eq_zero_or_pos i with h | h
      · exact h
      · exact absurd (by rw [gz_nil (by decide)]; rfl) (h3 0 h)
    subst this
    refine ⟨rfl, rfl, decide_eq_true ⟨by decide, by decide, ?_⟩, rfl⟩
    show (updG (gz seed own) 0 [5] 0).length ≠ 0
    unfold updG; simp
theorem put_all {gs : Nat → List Int} (h : hasB gs 0 = true) : putT gs 1 [] allR = (0, [allR]) := by
  unfold putT
  rw [if_pos (by decide), show allR.g = 0 from rfl, h, if_pos rfl]
  rfl
theorem put_six {gs : Nat → List Int} (h : hasB gs 0 = true) : putT gs 1 [allR] sixR = (9, [allR]) := by
  unfold putT
  rw [if_pos (by decide), show sixR.g = 0 from rfl, h, if_pos rfl]
  rfl
end Go.Proofs.Ytnfkgnjeamnhfab
