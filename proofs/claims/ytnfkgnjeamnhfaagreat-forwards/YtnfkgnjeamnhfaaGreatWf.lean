import Derived.Test.YtnfkgnjeamnhfaaGreatWe
namespace Go.Proofs.YtnfkgnjeamnhfaaGreat
open Go.RowKit

theorem batch_fin {N : Nat} {ρ ρ0 ρ4 : Nat → Nat} {w w0 w3 w' : World} {W T R B rT rR s : Nat} {gs : Nat → List Int} {cs rs : List Rt} {lim : Int} (hE : ∀ R, Ev R ρ w ρ0 w0) (hW : Wq N ρ4 w3 W T R B rT rR gs cs rs lim) (e4 : Ev (fun q => q = rT ∨ q = rT + 24 ∨ q = rR ∨ q = rR + 24) ρ0 w0 ρ4 w3)
    (hK : ∃ ρ', BqX N ρ' w' B (s + 1) ∧ Fr ρ' w' ∧ (∀ k, ρ' k ≠ 15) ∧ Ev (fun q => q = 1 ∨ q = 22 ∨ q = 23) ρ4 w3 ρ' w') (hT : 8 ≤ rT) (hT2 : rT ≤ 11) (hR : 8 ≤ rR) (hR2 : rR ≤ 11) : SPq N ρ w W T R B rT rR lim s (.returned (.bool true)) w' := by
  obtain ⟨ρ', h1, h2, h3, h4⟩ := hK
  exact ⟨rfl, ρ', gs, cs, rs, hW.ev h4 (by omega) (by omega) (by omega) (by omega) (by omega) (by omega) hT hT2 hR hR2, h1, h2, h3, ((hE _).trans (e4.mono fun r h => by unfold stR; omega)).trans (h4.mono fun r h => by unfold stR; omega)⟩
theorem SPq.drew {N : Nat} {ρ : Nat → Nat} {w w' : World} {W T R B rT rR s : Nat} {lim : Int} {e : Ending} (h : SPq N ρ w W T R B rT rR lim s e w') (d : Nat) : SPq N ρ w W T R B rT rR lim s e (w'.drewN d) := by
  obtain ⟨h0, ρ', gs', cs', rs', h1, h2, h3, h4, h5⟩ := h
  refine ⟨h0, ρ', gs', cs', rs', ?_, ?_, h3, h4, ⟨h5.os, h5.tape, h5.output, h5.size, h5.role, h5.block⟩⟩
  · exact ⟨h1.role, h1.st, h1.t.imp fun f hf => ⟨⟨hf.rq.role, hf.rq.st, hf.rq.row⟩, hf.lim, hf.ls, hf.one⟩, h1.r.imp fun f hf => ⟨⟨hf.rq.role, hf.rq.st, hf.rq.row⟩, hf.lim, hf.ls, hf.one⟩, h1.rel, h1.len, h1.lim256, h1.grp⟩
  · obtain ⟨mark, F, LI, LR, LE, LC, K, k1, k2⟩ := h2
    exact ⟨mark, F, LI, LR, LE, LC, K, ⟨k1.rB, k1.st, k1.mark0, ⟨k1.sI.oV, k1.sI.oM, k1.sI.mks⟩, ⟨k1.sR.oV, k1.sR.oM, k1.sR.mks⟩, ⟨k1.sE.oV, k1.sE.oM, k1.sE.mks⟩, k1.oH, k1.oU, k1.cts, ⟨k1.sC.oV, k1.sC.oM, k1.sC.mks⟩⟩, k2⟩

set_option maxRecDepth 8000 in
set_option maxHeartbeats 8000000 in
theorem routes_batch (N : Nat) (ρ : Nat → Nat) (w : World) (W T R B rT rR s : Nat) (gs : Nat → List Int) (cs rs : List Rt) (lim : Int) (n : Int) (x : Nat → Value) (h : Value) (m : Bool) (ao : Option Addr) (z cap : Nat) (ch : List Ch) (hx13 : x 13 = .slice ao z cap) (hr : RdC w ao z ch) (hfit : ∀ c ∈ ch, Fit c.r) (hz : z ≤ 2932031007317) (hρ : 0 < z → ∀ b off, ao = some ⟨b, off, none⟩ → b < w.heap.size → ρ b = 0)
    (k : Int) (hk4 : (k == 4) = false) (hk5 : (k == 5) = false) (hk6 : (k == 6) = false)
    (hN : N ≤ w.heap.size) (hF : Fr ρ w) (h15 : ∀ k, ρ k ≠ 15) (hW : Wq N ρ w W T R B rT rR gs cs rs lim) (hB : BqX N ρ w B s) (hs : s ≤ 2000000000000) (hT : 8 ≤ rT) (hT2 : rT ≤ 11) (hR : 8 ≤ rR) (hR2 : rR ≤ 11) (hne : rT ≠ rR) :
    Calls Tryz.prog 18 #[.pointer (some ⟨W, 0, none⟩), .agg (opA k n x h m)] w (SPq N ρ w W T R B rT rR lim s) := by
  obtain ⟨ρ0, w0, hw0, hNz, hsz, hE0, hF0, h150, hb0, hW0, hB0, hS0⟩ := boxq k n x h m hN hF h15 hW hB hT hT2 hR hR2
  have k0 : w0.cell? ⟨w.heap.size, 0, none⟩ = some (.int .i64 k) := (hS0 0 (by decide)).1
  have k13 : w0.cell? ⟨w.heap.size, 13, none⟩ = some (.slice ao z cap) := by rw [← hx13]; exact (hS0 13 (by decide)).1
  have c0 : w0.cell? ⟨W, 0, none⟩ = some (.pointer (some ⟨T, 0, none⟩)) := (hW0.st 0 (by decide)).1
  have c1 : w0.cell? ⟨W, 1, none⟩ = some (.pointer (some ⟨R, 0, none⟩)) := (hW0.st 1 (by decide)).1
  have c2 : w0.cell? ⟨W, 2, none⟩ = some (.pointer (some ⟨B, 0, none⟩)) := (hW0.st 2 (by decide)).1
  have hWl := hW0.st.lt (by decide)
  have hr0 : RdC w0 ao z ch := by
    rcases Nat.eq_zero_or_pos z with hz0 | hz0
    · exact ⟨hr.1, .inl hz0⟩
    · exact hr.same (hE0 (fun _ => False)).size (fun b off hb hlt => (hE0 (fun _ => False)).block b hlt (by rw [hρ hz0 b off hb hlt]; decide) id)
  have hρ0 : 0 < z → ∀ b off, ao = some ⟨b, off, none⟩ → b < w.heap.size → ρ0 b = 0 := fun hz0 b off hb hlt => by rw [(hE0 (fun _ => False)).role b hlt (by rw [hρ hz0 b off hb hlt]; decide)]; exact hρ hz0 b off hb hlt
  have hBne : ∀ b off, ao = some ⟨b, off, none⟩ → 0 < z → b < w.heap.size ∧ b ≠ B := fun b off hb h0 => by
    rcases hr.2 with h' | ⟨b', off', h1, h2, -⟩
    · omega
    · rw [hb] at h1
      obtain ⟨rfl, rfl⟩ : b = b' ∧ off = off' := by simpa using h1
      refine ⟨h2, fun e => ?_⟩
      obtain ⟨mark, F, LI, LR, LE, LC, K, hbo, -⟩ := hB
      have := hbo.rB
      rw [← e, hρ h0 b off hb h2] at this; omega
  have HH := Lib.hid (handC_any ao z cap ch w0 hr0 hz)
  have HE := Lib.hid hE0
  have HW := Lib.hid hW0
  have HB := Lib.hid hB0
  have HF := Lib.hid hF0
  have H15 := Lib.hid h150
  have Hb0 := Lib.hid hb0
  have Hr0 := Lib.hid hr0
  have Hρ0 := Lib.hid hρ0
  have HBne := Lib.hid hBne
  have HFit := Lib.hid hfit
  have HN := Lib.hid (fun (c : Int) w => num_any c w)
  obtain ⟨bx, hbx⟩ : ∃ bx, bx = w.heap.size := ⟨_, rfl⟩
  rw [← hbx] at k0 k13 hsz Hb0
  obtain ⟨g, hg⟩ : ∃ g, g = w0.heap.size := ⟨_, rfl⟩
  rw [← hg] at HH
  have Hg := Lib.hid hg
  have hwg : w.heap.size ≤ g := by rw [hg]; exact (hE0 (fun _ => False)).size
  have Hx13 := Lib.hid hx13
  clear hW hB hF h15 hE0 hF0 h150 hb0 hW0 hB0 hS0 hx13 hr hρ hr0 hρ0 hfit hBne hg
  simp only [opA] at hw0
  have Hw0 := Lib.hid hw0
  have Hbx := Lib.hid hbx
  clear hw0 hbx
  unfold opA
  go_enter Tryz.func18, Tryz.ntmps18
  go_wp2_with fail
  rw [← Hw0.out, ← Hbx.out, Hx13.out]
  refine HH.out.mono ?_
  rintro e w1 ⟨rfl, hrow1, hb1⟩
  have hgl : g < w1.heap.size := (World.ownsRow.lt hrow1 g rfl).2
  have hb1' : Below w0.heap.size w0 w1 := by rw [← Hg.out]; exact hb1
  obtain ⟨ρ1, hρ1⟩ : ∃ ρ1, ρ1 = rl ρ0 g 30 := ⟨_, rfl⟩
  have he1 : ∀ (d : Nat) Q, Ev Q ρ0 w0 ρ1 (w1.drewN d) := fun d Q => by
    rw [hρ1]
    exact (Ev.of_below ρ0 (show Below w0.heap.size w0 (w1.drewN d) from ⟨hb1'.os, hb1'.tape, hb1'.output, hb1'.size, hb1'.block⟩)).trans (Ev.rl _ 30 (.inl (HF.out g (Nat.le_of_eq Hg.out.symm))))
  have hF1 : Fr ρ1 w1 := by rw [hρ1]; exact (HF.out.grow hb1'.size).rl hgl 30
  have h151 : ∀ k, ρ1 k ≠ 15 := fun k => by
    rw [hρ1]; unfold rl; split
    · decide
    · exact H15.out k
  have hg30 : ρ1 g = 30 := by rw [hρ1]; exact rl_same _ _ _
  have hchl := Hr0.out.1
  have HT1 : Hid (∀ d : Nat, Calls Tryz.prog 56 #[.pointer (some ⟨T, 0, none⟩), .slice (some ⟨g, 0, none⟩) z (z + 1)] (w1.drewN d) fun e w' => ∃ a b cs', e = .returned (.tuple #[.int .i64 a, .int .i64 b]) ∧ Bat (stepT gs lim) cs ch a b cs' ∧ TqPost N ρ1 (w1.drewN d) T rT (rT + 24) 3 35 gs lim cs' w') := by
    show ∀ d : Nat, _
    intro d
    obtain ⟨f, hf⟩ := HW.out.t
    have hlc : cs.length ≤ 256 := by have h1 := HW.out.rel.len; have h2 := HW.out.len; omega
    have hNd : N ≤ (w1.drewN d).heap.size := Nat.le_trans hNz (he1 d (fun _ => False)).size
    have hrd : RdC (w1.drewN d) (some ⟨g, 0, none⟩) z ch := RwC.rd (N := g) (c := mkCh (-7)) hrow1 hchl
    exact tbatch_any (hf.ev (he1 d (fun _ => False)) id id id (ro_of hT hT2)) (ro_of hT hT2) hNd hF1 h151 hlc HW.out.lim256 (some ⟨g, 0, none⟩) z (z + 1) ch hrd HFit.out (by omega)
  have He1 := Lib.hid he1
  have HF1 := Lib.hid hF1
  have H151 := Lib.hid h151
  have Hg30 := Lib.hid hg30
  have Hrow1 := Lib.hid hrow1
  have d13 := (hb1'.cell (p := ⟨bx, 13, none⟩) hsz).trans k13
  have d0 := (hb1'.cell (p := ⟨W, 0, none⟩) hWl).trans c0
  have hb13 : ρ1 bx = 13 := by rw [(he1 0 (fun _ => False)).role bx hsz (by rw [Hb0.out]; decide)]; exact Hb0.out
  have hW12 : ρ1 W = 12 := by rw [(he1 0 (fun _ => False)).role W hWl (by rw [HW.out.role]; decide)]; exact HW.out.role
  have Hb13 := Lib.hid hb13
  have HW12 := Lib.hid hW12
  have hsz1 : bx < w1.heap.size := Nat.lt_of_lt_of_le hsz hb1'.size
  have hWl1 : W < w1.heap.size := Nat.lt_of_lt_of_le hWl hb1'.size
  have e13 := d13
  have e1 := (hb1'.cell (p := ⟨W, 1, none⟩) hWl).trans c1
  have e2 := (hb1'.cell (p := ⟨W, 2, none⟩) hWl).trans c2
  have q0 : (z : Int) ≤ (z : Int) + 1 := by omega
  clear hrow1 hb1 hb1' hρ1 he1 hF1 h151 hg30 k0 k13 c0 c1 c2 e13 hb13 hW12
  go_wp2
  go_region_with (go_at_call 56; refine (HT1.out 1).mono ?_; rintro e w2 ⟨a, b, cs2, rfl, hbt, hp1⟩; have Hbt := Lib.hid hbt; have Hp1 := Lib.hid hp1; clear hbt hp1)
  all_goals
    obtain ⟨ρ2, f1, a1, a2, a3, a4⟩ := Hp1.out
    have ha4 : Ev (fun q => q = rT ∨ q = rT + 24) ρ1 w1 ρ2 w2 := ⟨a4.os, a4.tape, a4.output, a4.size, a4.role, a4.block⟩
    have n13 : ¬ (13 = rT ∨ 13 = rT + 24) := by omega
    have n12 : ¬ (12 = rT ∨ 12 = rT + 24) := by omega
    have u13 := (evc ha4 13 hsz1 (by rw [Hb13.out]; decide) (by rw [Hb13.out]; exact n13)).trans d13
    have u1 := (evc ha4 1 hWl1 (by rw [HW12.out]; decide) (by rw [HW12.out]; exact n12)).trans e1
    have u2 := (evc ha4 2 hWl1 (by rw [HW12.out]; decide) (by rw [HW12.out]; exact n12)).trans e2
    have hb13 : ρ2 bx = 13 := by rw [ha4.role bx hsz1 (by rw [Hb13.out]; decide)]; exact Hb13.out
    have hW12 : ρ2 W = 12 := by rw [ha4.role W hWl1 (by rw [HW12.out]; decide)]; exact HW12.out
    have hsz2 : bx < w2.heap.size := Nat.lt_of_lt_of_le hsz1 ha4.size
    have hWl2 : W < w2.heap.size := Nat.lt_of_lt_of_le hWl1 ha4.size
    have hρb : ∀ b off, ao = some ⟨b, off, none⟩ → 0 < z → b < w0.heap.size ∧ ρ2 b = 0 ∧ w2.heap[b]? = w0.heap[b]? := fun b off hb h0 => by
      have hbw := (HBne.out b off hb h0).1
      have hlt : b < w0.heap.size := Nat.lt_of_lt_of_le hbw (HE.out (fun _ => False)).size
      have h0 := Hρ0.out h0 b off hb hbw
      have h1 : ρ1 b = 0 := by rw [(He1.out 0 (fun _ => False)).role b hlt (by rw [h0]; decide)]; exact h0
      have hl1 : b < w1.heap.size := Nat.lt_of_lt_of_le hlt (He1.out 0 (fun _ => False)).size
      refine ⟨hlt, by rw [ha4.role b hl1 (by rw [h1]; decide)]; exact h1, ?_⟩
      rw [ha4.block b hl1 (by rw [h1]; decide) (by rw [h1]; omega)]
      exact (He1.out 0 (fun _ => False)).block b hlt (by rw [h0]; decide) id
    have hrd2 : RdC w2 ao z ch := by
      refine ⟨Hr0.out.1, ?_⟩
      rcases Hr0.out.2 with h' | ⟨b, off, p1, p2, p3⟩
      · exact .inl h'
      · by_cases hz0 : z = 0
        · exact .inl hz0
        · obtain ⟨q1, -, q3⟩ := hρb b off p1 (by omega)
          exact .inr ⟨b, off, p1, Nat.lt_of_lt_of_le q1 (Nat.le_trans (He1.out 0 (fun _ => False)).size ha4.size), fun j c hj => (p3 j c hj).same q3⟩
    have HRb : Hid (∀ d : Nat, Calls Tryz.prog 57 #[.pointer (some ⟨R, 0, none⟩), .slice ao z cap] (w2.drewN d) fun e w' => ∃ a b rs', e = .returned (.tuple #[.int .i64 a, .int .i64 b]) ∧ Bat (stepR gs lim) rs ch a b rs' ∧ TqPost N ρ2 (w2.drewN d) R rR (rR + 24) 4 3 gs lim rs' w') := by
      show ∀ d : Nat, _
      intro d
      obtain ⟨f, hf⟩ := HW.out.r
      have hE2 : Ev (fun q => q = rT ∨ q = rT + 24) ρ0 w0 ρ2 (w2.drewN d) := by
        have hh := (He1.out 0 (fun q => q = rT ∨ q = rT + 24)).trans ha4
        exact ⟨hh.os, hh.tape, hh.output, hh.size, hh.role, hh.block⟩
      have hNd : N ≤ (w2.drewN d).heap.size := Nat.le_trans hNz hE2.size
      have hF2 : Fr ρ2 (w2.drewN d) := a2
      have hrd : RdC (w2.drewN d) ao z ch := hrd2.same (Nat.le_refl _) (fun _ _ _ _ => rfl)
      exact rbatch_any (hf.ev hE2 (by omega) (by omega) (by omega) (ro_of hR hR2)) (ro_of hR hR2) hNd hF2 a3 HW.out.len HW.out.lim256 ao z cap ch hrd HFit.out (by omega) (fun b off hb h0 => by have := (hρb b off hb h0).2.1; omega)
    have Hρb := Lib.hid hρb
    have Hrd2 := Lib.hid hrd2
    have Ha4 := Lib.hid ha4
    have Ha1 := Lib.hid a1
    have HFr2 := Lib.hid a2
    have H152 := Lib.hid a3
    have Hb13b := Lib.hid hb13
    have HW12b := Lib.hid hW12
    clear a1 a2 a3 a4 ha4 n13 n12 hb13 hW12 hρb hrd2 Hp1 d13 d0 e1 e2
    go_wp2
    go_region_with (go_at_call 57; refine (HRb.out 1).mono ?_; rintro e w3 ⟨a', b', rs2, rfl, hbt, hp2⟩; have Hbt2 := Lib.hid hbt; have Hp2 := Lib.hid hp2; clear hbt hp2)
  all_goals
    obtain ⟨ρ3, f2, b1, b2, b3, b4⟩ := Hp2.out
    have hb4 : Ev (fun q => q = rR ∨ q = rR + 24) ρ2 w2 ρ3 w3 := ⟨b4.os, b4.tape, b4.output, b4.size, b4.role, b4.block⟩
    obtain ⟨ea, eb, hrel2⟩ := Rel.bat HFit.out HW.out.rel Hbt.out Hbt2.out
    subst ea eb
    have n13 : ¬ (13 = rR ∨ 13 = rR + 24) := by omega
    have n12 : ¬ (12 = rR ∨ 12 = rR + 24) := by omega
    have v13 := (evc hb4 13 hsz2 (by rw [Hb13b.out]; decide) (by rw [Hb13b.out]; exact n13)).trans u13
    have v2 := (evc hb4 2 hWl2 (by rw [HW12b.out]; decide) (by rw [HW12b.out]; exact n12)).trans u2
    obtain ⟨ρ4, m1, m2, m3, m4, m5, m6, m7⟩ := batch_mid (ρ := ρ) (n := z) (ch := ch) HW.out HB.out (Nat.le_of_eq Hg.out.symm) (He1.out 0) Hg30.out (Hrow1.out.lower (by rw [Hg.out]; exact hNz)) Ha1.out Ha4.out b1 b2 b3 hb4 hrel2 (bat_len Hbt2.out HW.out.len HW.out.lim256) (HW.out.grp.bat Hbt.out) hT hT2 hR hR2 hne
    have hrd3 : RdC w3 ao z ch := by
      refine ⟨Hr0.out.1, ?_⟩
      rcases Hrd2.out.2 with h' | ⟨b, off, p1, p2, p3⟩
      · exact .inl h'
      · by_cases hz0 : z = 0
        · exact .inl hz0
        · obtain ⟨q1, q2, q3⟩ := Hρb.out b off p1 (by omega)
          exact .inr ⟨b, off, p1, Nat.lt_of_lt_of_le p2 hb4.size, fun j c hj => (p3 j c hj).same (hb4.block b p2 (by rw [q2]; decide) (by rw [q2]; omega))⟩
    have HK : Hid (∀ d : Nat, Calls Tryz.prog 58 #[.pointer (some ⟨B, 0, none⟩), .slice (some ⟨g, 0, none⟩) (z + 1) (z + 1), .slice ao z cap] (w3.drewN d) fun e w' => e = .returned (.bool true) ∧ ∃ ρ', BqX N ρ' w' B (s + 1) ∧ Fr ρ' w' ∧ (∀ k, ρ' k ≠ 15) ∧ Ev (fun q => q = 1 ∨ q = 22 ∨ q = 23) ρ4 (w3.drewN d) ρ' w') := by
      show ∀ d : Nat, _
      intro d
      have hBd : BqX N ρ4 (w3.drewN d) B s := m2.ev (Ev.of_below (R := fun _ => False) ρ4 (show Below w3.heap.size w3 (w3.drewN d) from ⟨rfl, rfl, rfl, Nat.le_refl _, fun _ _ => rfl⟩)) (fun _ _ => id)
      have hNd : N ≤ (w3.drewN d).heap.size := Nat.le_trans hNz m6.size
      have hFd : Fr ρ4 (w3.drewN d) := m3
      have hgd : RwC (w3.drewN d) N (.slice (some ⟨g, 0, none⟩) (z + 1) (z + 1)) (ch ++ [mkCh (-7)]) := m7
      have hrd : RdC (w3.drewN d) ao z ch := hrd3.same (Nat.le_refl _) (fun _ _ _ _ => rfl)
      exact turnC_one hNd hFd hBd hs hgd m5 hrd (fun b off hb h0 => ⟨by have := (HBne.out b off hb h0).1; omega, (HBne.out b off hb h0).2⟩) hz m4
    have Hm1 := Lib.hid m1
    have Hm6 := Lib.hid m6
    clear b1 b2 b3 b4 hb4 n13 n12 m1 m2 m3 m4 m5 m6 m7 hrd3 u13 u1 u2 Hp2 hrel2
    go_wp2
    go_region_with (go_at_call 58; refine (HK.out 1).mono ?_; rintro e w4 ⟨rfl, hk⟩; have Hk := Lib.hid hk; clear hk)
  all_goals
    have hk' : ∃ ρ', BqX N ρ' w4 B (s + 1) ∧ Fr ρ' w4 ∧ (∀ k, ρ' k ≠ 15) ∧ Ev (fun q => q = 1 ∨ q = 22 ∨ q = 23) ρ4 w3 ρ' w4 := by
      obtain ⟨ρ5, y1, y2, y3, y4⟩ := Hk.out
      exact ⟨ρ5, y1, y2, y3, ⟨y4.os, y4.tape, y4.output, y4.size, y4.role, y4.block⟩⟩
    have Hfin := Lib.hid (batch_fin HE.out Hm1.out Hm6.out hk' hT hT2 hR hR2)
    have q3 : (a == a) = true := by simp
    have q4 : (b == b) = true := by simp
    clear hk' Hk
    go_wp2_with (go_at_call 23; refine (HN.out _ _).mono ?_; rintro e w6 ⟨rfl, rfl⟩)
    go_ret
    exact Hfin.out
end Go.Proofs.YtnfkgnjeamnhfaaGreat
