import Derived.Test.YtnfkgnjeamnhfabKr
import Derived.Test.YtnfkgnjeamnhfabKh
namespace Go.Proofs.Ytnfkgnjeamnhfab
open Go.RowKit Go.Sort

/-- Two tables beside one another, and an address in a box. -/
def O2 (N : Nat) (ρ : Nat → Nat) (w : World) (T U : Nat) (lim : Int) (a : Ad) (ba : Nat) (gT : Nat → List Int) (rT : List Rt) (gU : Nat → List Int) (rU : List Rt) (wr : World) : Prop :=
  ∃ ρ', Kt N ρ' wr T 8 gT rT lim ∧ Kt N ρ' wr U 9 gU rU lim ∧ Wh N ρ' wr ∧ (St wr ba 3 (adF a) ∧ ρ' ba = 13) ∧ Ev (fun q => 1 ≤ q) ρ w ρ' wr
/-- .. and a row of T's routes. -/
def O3 (N : Nat) (ρ : Nat → Nat) (w : World) (T U : Nat) (lim : Int) (a : Ad) (ba : Nat) (gT : Nat → List Int) (rT : List Rt) (gU : Nat → List Int) (rU : List Rt) (v : Value) (l : List Rt) (M : Nat) (wr : World) : Prop :=
  ∃ ρ', (Kt N ρ' wr T 8 gT rT lim ∧ Kt N ρ' wr U 9 gU rU lim ∧ Wh N ρ' wr ∧ (St wr ba 3 (adF a) ∧ ρ' ba = 13) ∧ Ev (fun q => 1 ≤ q) ρ w ρ' wr) ∧ OwnZ M ρ' wr 13 45 5 v l.length (flat l)
theorem box_ev {R : Nat → Prop} {ρ ρ' : Nat → Nat} {w w' : World} {ba : Nat} {a : Ad} (h : St w ba 3 (adF a) ∧ ρ ba = 13) (he : Ev R ρ w ρ' w') (h13 : ¬ R 13) : St w' ba 3 (adF a) ∧ ρ' ba = 13 :=
  ⟨h.1.ev (by decide) he (by rw [h.2]; exact h13) (by rw [h.2]; decide), by rw [he.role ba (h.1.lt (by decide)) (by rw [h.2]; decide)]; exact h.2⟩
section
variable {N : Nat} {ρ : Nat → Nat} {w : World} {T U : Nat} {lim : Int} {a : Ad} {ba : Nat} {gT gU : Nat → List Int} {rT rU : List Rt} {wr : World}
theorem O2.below (h : O2 N ρ w T U lim a ba gT rT gU rU wr) {w' : World} (hb : Below wr.heap.size wr w') : O2 N ρ w T U lim a ba gT rT gU rU w' := by
  obtain ⟨ρ', h1, h2, h3, h4, h5⟩ := h
  exact ⟨ρ', h1.below hb (by decide) (by decide), h2.below hb (by decide) (by decide), h3.below hb, box_ev h4 (Ev.of_below (R := fun _ => False) ρ' hb) id, h5.trans (Ev.of_below ρ' hb)⟩
theorem O2.okT (h : O2 N ρ w T U lim a ba gT rT gU rU wr) : Ok gT rT lim := by obtain ⟨ρ', h1, h2, h3, h4, h5⟩ := h; exact h1.ok
theorem O2.okU (h : O2 N ρ w T U lim a ba gT rT gU rU wr) : Ok gU rU lim := by obtain ⟨ρ', h1, h2, h3, h4, h5⟩ := h; exact h2.ok
theorem O2.box (h : O2 N ρ w T U lim a ba gT rT gU rU wr) : St wr ba 3 (adF a) := by obtain ⟨ρ', h1, h2, h3, h4, h5⟩ := h; exact h4.1
theorem O2.evs (h : O2 N ρ w T U lim a ba gT rT gU rU wr) : ∃ ρ', Ev (fun q => 1 ≤ q) ρ w ρ' wr := by obtain ⟨ρ', h1, h2, h3, h4, h5⟩ := h; exact ⟨ρ', h5⟩
theorem O2.hops (h : O2 N ρ w T U lim a ba gT rT gU rU wr) (k : Nat) (hk : k < 32) :
    Calls Try.prog 16 #[.pointer (some ⟨T, 0, none⟩), .int .i64 k] wr fun e w' => ∃ (c : Int) (ao : Option Addr) (n cap : Nat), e = .returned (.tuple #[.slice ao n cap, .int .i64 c]) ∧ ((hasB gT k = true ∧ c = 0 ∧ Rd w' ao n (grK gT k) ∧ n ≤ 8) ∨ (hasB gT k = false ∧ c = 7)) ∧ O2 N ρ w T U lim a ba gT rT gU rU w' := by
  have h' := h
  obtain ⟨ρ', h1, h2, h3, h4, h5⟩ := h
  have hn8 : (gT k).length ≤ 8 := by obtain ⟨f, hf⟩ := h1.t; exact (hf.ls k hk).2
  refine (kt_hops h1 k).mono ?_
  rintro e w' (⟨g1, rfl, hb⟩ | ⟨g1, g, cp, rfl, -, -, hrow, hb⟩)
  · exact ⟨7, none, 0, 0, rfl, .inr ⟨g1, rfl⟩, h'.below hb⟩
  · rw [Int.toNat_natCast] at hrow ⊢
    refine ⟨0, _, _, cp, rfl, .inl ⟨g1, rfl, ?_, hn8⟩, h'.below hb⟩
    unfold grK
    rw [if_pos g1]
    exact rd_row hrow rfl
theorem O2.group (h : O2 N ρ w T U lim a ba gT rT gU rU wr) {ao : Option Addr} {n cap : Nat} {xs : List Int} (hr : Rd wr ao n xs) (hm : n ≤ maxLen) :
    Calls Try.prog 17 #[.pointer (some ⟨U, 0, none⟩), .slice ao n cap] wr fun e w' => ∃ x y gU', e = .returned (.tuple #[.int .i64 x, .int .i64 y]) ∧ GOut gU xs x y gU' ∧ O2 N ρ w T U lim a ba gT rT gU' rU w' := by
  obtain ⟨ρ', h1, h2, h3, h4, h5⟩ := h
  refine (kt_group h2 h3 (by decide) (by decide) hr hm).mono ?_
  rintro e w' ⟨x, y, gU', rfl, hg, ρ2, k1, k2, k3⟩
  exact ⟨x, y, gU', rfl, hg, ρ2, h1.ev k3 (by decide) (by decide) (by decide) (by decide) (by decide), k1, k2, box_ev h4 k3 (by decide), h5.trans (k3.mono (fun q h => by omega))⟩
theorem O2.drop (h : O2 N ρ w T U lim a ba gT rT gU rU wr) (k : Int) :
    Calls Try.prog 18 #[.pointer (some ⟨U, 0, none⟩), .int .i64 k] wr fun e w' => ∃ c gU', e = .returned (.int .i64 c) ∧ DOq gU rU k c gU' ∧ O2 N ρ w T U lim a ba gT rT gU' rU w' := by
  obtain ⟨ρ', h1, h2, h3, h4, h5⟩ := h
  refine (kt_drop h2 h3 (by decide) (by decide) k).mono ?_
  rintro e w' ⟨c, gU', rfl, hg, ρ2, k1, k2, k3⟩
  exact ⟨c, gU', rfl, hg, ρ2, h1.ev k3 (by decide) (by decide) (by decide) (by decide) (by decide), k1, k2, box_ev h4 k3 (by decide), h5.trans (k3.mono (fun q h => by omega))⟩
theorem O2.dump (h : O2 N ρ w T U lim a ba gT rT gU rU wr) (fm : Int) (hfm : fm = 4 ∨ fm = 6) :
    Calls Try.prog 12 #[.pointer (some ⟨T, 0, none⟩), .int .i64 fm] wr fun e w' => ∃ lo y lc, e = .returned (.tuple #[.slice lo y lc, .int .i64 0]) ∧ y = (famF rT fm).length ∧ y ≤ 256 ∧ O3 N ρ w T U lim a ba gT rT gU rU (.slice lo y lc) (famF rT fm) wr.heap.size w' := by
  obtain ⟨ρ', h1, h2, h3, h4, h5⟩ := h
  refine (kt_dump h1 fm).mono ?_
  rintro e w' ⟨lo, y, lc, rfl, hy, hrw, hb⟩
  rw [show dumpT rT fm = famF rT fm by unfold dumpT; rw [if_pos hfm]] at hy hrw
  rw [show famE fm = 0 by unfold famE; rw [if_pos hfm]]
  obtain ⟨ρ4, t1, t2, t3, t4⟩ := tag13 h3.fr h3.n15 hb hrw
  exact ⟨lo, y, lc, rfl, hy, by rw [hy]; exact Nat.le_trans (famF_le rT fm) h1.ok.len256, ρ4, ⟨h1.evs t1 (by decide) (by decide), h2.evs t1 (by decide) (by decide), ⟨Nat.le_trans h3.n hb.size, t2, t3⟩, box_ev h4 (t1 (fun _ => False)) id, h5.trans (t1 _)⟩, hrw, t4⟩
theorem O3.two {v : Value} {l : List Rt} {M : Nat} (h : O3 N ρ w T U lim a ba gT rT gU rU v l M wr) : O2 N ρ w T U lim a ba gT rT gU rU wr := by
  obtain ⟨ρ', h1, h2⟩ := h; exact ⟨ρ', h1⟩
theorem O3.at {lo : Option Addr} {y lc : Nat} {l : List Rt} {M : Nat} (h : O3 N ρ w T U lim a ba gT rT gU rU (.slice lo y lc) l M wr) {j : Nat} {r : Rt} (hr : l[j]? = some r) : ∃ g, lo = some ⟨g, 0, none⟩ ∧ RtAt wr g (j * 5) r := by
  obtain ⟨ρ', h1, h2⟩ := h
  obtain ⟨g, e, hat, -⟩ := RwO.at h2.1 hr
  exact ⟨g, e, hat⟩
theorem O3.put {v : Value} {l : List Rt} {M : Nat} (h : O3 N ρ w T U lim a ba gT rT gU rU v l M wr) (r : Rt) (hf : Fit r) :
    Calls Try.prog 20 #[.pointer (some ⟨U, 0, none⟩), .agg #[.int .i64 r.f, .int .u64 r.hi, .int .u64 r.lo, .int .i64 r.n, .int .i64 r.g]] wr fun e w' => e = .returned (.int .i64 (putT gU lim rU r).1) ∧ O3 N ρ w T U lim a ba gT rT gU (putT gU lim rU r).2 v l M w' := by
  obtain ⟨ρ', ⟨h1, h2, h3, h4, h5⟩, h6⟩ := h
  refine (kt_put h2 h3 (by decide) (by decide) r hf).mono ?_
  rintro e w' ⟨rfl, ρ2, k1, k2, k3⟩
  exact ⟨rfl, ρ2, ⟨h1.ev k3 (by decide) (by decide) (by decide) (by decide) (by decide), k1, k2, box_ev h4 k3 (by decide), h5.trans (k3.mono (fun q h => by omega))⟩, h6.ev k3 (by decide) (by decide)⟩
theorem O2.lookT (h : O2 N ρ w T U lim a ba gT rT gU rU wr) (hfit : FitA a) {w1 : World} (hb : Below wr.heap.size wr w1) :
    Calls Try.prog 10 #[.pointer (some ⟨T, 0, none⟩), .agg #[.int .i64 a.1, .int .u64 a.2.1, .int .u64 a.2.2]] w1 fun e w' => ∃ ao n cap, e = .returned (.tuple #[.agg #[.int .i64 (lookLT rT a), .int .i64 (lookGT rT a), .slice ao n cap], .int .i64 (H.adrE a.1 a.2.1 a.2.2)]) ∧ n = (lookAT rT a).length ∧ w'.ownsRow w1.heap.size 3 1 (.slice ao n cap) n (ints (lookAT rT a)) ∧ Below w1.heap.size w1 w' := by
  obtain ⟨ρ', h1, h2, h3, h4, h5⟩ := h
  exact kt_look (h1.below hb (by decide) (by decide)) a hfit
theorem O2.lookU (h : O2 N ρ w T U lim a ba gT rT gU rU wr) (hfit : FitA a) {w1 : World} (hb : Below wr.heap.size wr w1) :
    Calls Try.prog 10 #[.pointer (some ⟨U, 0, none⟩), .agg #[.int .i64 a.1, .int .u64 a.2.1, .int .u64 a.2.2]] w1 fun e w' => ∃ ao n cap, e = .returned (.tuple #[.agg #[.int .i64 (lookLT rU a), .int .i64 (lookGT rU a), .slice ao n cap], .int .i64 (H.adrE a.1 a.2.1 a.2.2)]) ∧ n = (lookAT rU a).length ∧ w'.ownsRow w1.heap.size 3 1 (.slice ao n cap) n (ints (lookAT rU a)) ∧ Below w1.heap.size w1 w' := by
  obtain ⟨ρ', h1, h2, h3, h4, h5⟩ := h
  exact kt_look (h2.below hb (by decide) (by decide)) a hfit
theorem O2.alike (h : O2 N ρ w T U lim a ba gT rT gU rT wr) (hgg : ∀ j, j < 32 → gU j = gT j) {w1 : World} (hb : Below wr.heap.size wr w1) : Calls Try.prog 21 #[.pointer (some ⟨T, 0, none⟩), .pointer (some ⟨U, 0, none⟩)] w1 fun e w' => e = .returned (.bool true) ∧ Below w1.heap.size w1 w' := by
  obtain ⟨ρ', h1, h2, h3, h4, h5⟩ := h
  exact alike_any (h1.below hb (by decide) (by decide)) (h2.below hb (by decide) (by decide)) hgg (by decide) (by decide) (by decide) (by decide)
end
theorem rd_one (w : World) : Rd (w.alloc (.cells #[.int .i64 1] 3)) (some ⟨w.heap.size, 0, none⟩) 1 [1] :=
  ⟨rfl, .inr ⟨_, _, rfl, fun j x hx => by
    rcases j with _ | j
    · simp at hx; subst hx; simp
    · simp at hx⟩⟩
end Go.Proofs.Ytnfkgnjeamnhfab
