import Derived.Test.YtnfkgnjeamnhfaaGreatWi
namespace Go.Proofs.YtnfkgnjeamnhfaaGreat
open Go.RowKit

set_option maxRecDepth 4000 in
set_option maxHeartbeats 4000000 in
theorem groupsq_group (N : Nat) (ρ : Nat → Nat) (w : World) (W T R B rT rR s : Nat) (gs : Nat → List Int) (cs rs : List Rt) (lim : Int) (i : Int) (x : Nat → Value) (m : Bool) (ao : Option Addr) (n cap : Nat) (xs : List Int)
    (hN : N ≤ w.heap.size) (hF : Fr ρ w) (h15 : ∀ k, ρ k ≠ 15) (hW : Wq N ρ w W T R B rT rR gs cs rs lim) (hB : BqX N ρ w B s) (hs : s ≤ 2000000000000) (hT : 8 ≤ rT) (hT2 : rT ≤ 11) (hR : 8 ≤ rR) (hR2 : rR ≤ 11) (hne : rT ≠ rR)
    (hr : Rd w ao n xs) (hn : n ≤ 17592186044415) (hA : 0 < n → ∀ b off, ao = some ⟨b, off, none⟩ → b < N) (hρ : ∀ b, b < N → ρ b = 0) :
    Calls Tryz.prog 17 #[.pointer (some ⟨W, 0, none⟩), .agg (opA 1 i x (.slice ao n cap) m)] w (SPq N ρ w W T R B rT rR lim s) := by
  obtain ⟨ρ0, w0, hw0, hNz, hsz, hE0, hF0, h150, hb0, hW0, hB0, hS0⟩ := boxq 1 i x (.slice ao n cap) m hN hF h15 hW hB hT hT2 hR hR2
  have k0 : w0.cell? ⟨w.heap.size, 0, none⟩ = some (.int .i64 1) := (hS0 0 (by decide)).1
  have k1 : w0.cell? ⟨w.heap.size, 12, none⟩ = some (.slice ao n cap) := (hS0 12 (by decide)).1
  have c0 : w0.cell? ⟨W, 0, none⟩ = some (.pointer (some ⟨T, 0, none⟩)) := (hW0.st 0 (by decide)).1
  have c1 : w0.cell? ⟨W, 1, none⟩ = some (.pointer (some ⟨R, 0, none⟩)) := (hW0.st 1 (by decide)).1
  have c2 : w0.cell? ⟨W, 2, none⟩ = some (.pointer (some ⟨B, 0, none⟩)) := (hW0.st 2 (by decide)).1
  have hρ0 : ∀ b, b < N → ρ0 b = 0 := fun b hb => by rw [(hE0 (fun _ => False)).role b (by omega) (by rw [hρ b hb]; decide), hρ b hb]
  have hr0 : Rd w0 ao n xs := hr.evq (hE0 (fun _ => False)) hA hρ id
  have HE := Lib.hid hE0
  have hWl := hW0.st.lt (by decide)
  obtain ⟨f, hf⟩ := hW0.t
  obtain ⟨g, hg⟩ := hW0.r
  have hTl := hf.rq.st.lt (by decide)
  have hRl := hg.rq.st.lt (by decide)
  have HH := Lib.hid (hand_any ao n cap xs w0 hr0 hn)
  have Hf := Lib.hid hf
  have Hg := Lib.hid hg
  have Hr := Lib.hid hr0
  have HA := Lib.hid hA
  have HP := Lib.hid hρ0
  have HN := Lib.hid (fun (c : Int) w => num_any c w)
  have HW := Lib.hid hW0
  have HB := Lib.hid hB0
  have HF := Lib.hid hF0
  have H15 := Lib.hid h150
  have Hb0 := Lib.hid hb0
  obtain ⟨bx, hbx⟩ : ∃ bx, bx = w.heap.size := ⟨_, rfl⟩
  rw [← hbx] at k0 k1 hsz Hb0
  obtain ⟨gl, hgl⟩ : ∃ gl, gl = w0.heap.size := ⟨_, rfl⟩
  have Hgl := Lib.hid hgl
  rw [← hgl] at HH
  clear hW hB hF h15 hE0 hF0 h150 hb0 hW0 hB0 hS0 hf hg hN hr hr0 hA hρ hρ0 hgl
  simp only [opA] at hw0
  have Hw0 := Lib.hid hw0
  have Hbx := Lib.hid hbx
  clear hw0 hbx
  unfold opA
  go_enter Tryz.func17, Tryz.ntmps17
  go_wp2_with fail
  rw [← Hw0.out, ← Hbx.out]
  refine HH.out.mono ?_
  rintro e w1 ⟨rfl, hgb, hb1⟩
  rw [Hgl.out] at hb1
  have hz1 := hb1.size
  have hgl1 : gl < w1.heap.size := (Array.getElem?_eq_some_iff.1 hgb).1
  have HG := Lib.hid fun (wx : World) (hbx : Below w1.heap.size w1 wx) => groupq_one (N := N) (ρ := ρ0) (w := wx) (cap := n + 1) ((Hf.out.ev (Ev.of_below (R := fun _ => False) ρ0 hb1) id id id (ro_of hT hT2)).ev (Ev.of_below (R := fun _ => False) ρ0 hbx) id id id (ro_of hT hT2)) (HF.out.grow (Nat.le_trans hz1 hbx.size)) (Nat.le_trans hNz (Nat.le_trans hz1 hbx.size)) hT hT2 (Rd.front (g := gl) (n := n) (by rw [hbx.block gl hgl1]; exact hgb) Hr.out.1 (by unfold maxLen; omega)) (by unfold maxLen; omega)
  have k1' := (hb1.cell (p := ⟨bx, 12, none⟩) hsz).trans k1
  have c0' := (hb1.cell (p := ⟨W, 0, none⟩) hWl).trans c0
  have c1' := (hb1.cell (p := ⟨W, 1, none⟩) hWl).trans c1
  have c2' := (hb1.cell (p := ⟨W, 2, none⟩) hWl).trans c2
  have Hgb := Lib.hid hgb
  have Hb1 := Lib.hid hb1
  clear k0 k1 c0 c1 c2 hgb hb1
  have q1 : (0 : Int) ≤ (n : Int) := by omega
  have q2 : (n : Int) ≤ ((n + 1 : Nat) : Int) := by omega
  go_wp2
  go_region_with (go_at_call 40; refine (HG.out _ (by exact ⟨rfl, rfl, rfl, Nat.le_refl _, fun _ _ => rfl⟩)).mono ?_; rintro e w2 ⟨a, b, rfl, hp⟩; have Hp := Lib.hid (GPq.drew hp); clear hp)
  all_goals
    obtain ⟨ρ2, gs1, f1, g1, g2, g3, g4, g5, g6, g7⟩ := Hp.out
    have hz2 := g5.size
    have hρ2 : ∀ b, b < N → ρ2 b = 0 := fun b hb => by rw [g6 b (by omega), HP.out b hb]
    have hr2 : Rd w2 ao n xs := (Hr.out.below Hb1.out).evq g5 HA.out HP.out (by omega)
    have htb2 := (Hg.out.ev (Ev.of_below (R := fun _ => False) ρ0 Hb1.out) id id id (ro_of hR hR2)).ev g5 (fun h => hne h.symm) (by omega) (by omega) (ro_of hR hR2)
    have HR := Lib.hid fun (wx : World) (hbx : Below w2.heap.size w2 wx) => rgroupq_one (N := N) (ρ := ρ2) (w := wx) (cap := cap) (htb2.ev (Ev.of_below (R := fun _ => False) ρ2 hbx) id id id (ro_of hR hR2)) (g3.grow hbx.size) (Nat.le_trans hNz (Nat.le_trans hz1 (Nat.le_trans hz2 hbx.size))) hR hR2 (hr2.below hbx) (by unfold maxLen; omega)
    have k2' : w2.cell? ⟨bx, 12, none⟩ = some (.slice ao n cap) := (evc g5 12 (by omega) (by rw [Hb0.out]; decide) (by rw [Hb0.out]; omega)).trans k1'
    have d1' : w2.cell? ⟨W, 1, none⟩ = some (.pointer (some ⟨R, 0, none⟩)) := (evc g5 1 (by omega) (by rw [HW.out.role]; decide) (by rw [HW.out.role]; omega)).trans c1'
    have d2' : w2.cell? ⟨W, 2, none⟩ = some (.pointer (some ⟨B, 0, none⟩)) := (evc g5 2 (by omega) (by rw [HW.out.role]; decide) (by rw [HW.out.role]; omega)).trans c2'
    have G1 := Lib.hid g1
    have G2 := Lib.hid g2
    have G4 := Lib.hid (g4 H15.out)
    have G5 := Lib.hid g5
    have G6 := Lib.hid g6
    have G7 := Lib.hid g7
    have HP2 := Lib.hid hρ2
    have HR2 := Lib.hid hr2
    clear Hp g1 g2 g3 g4 g5 g6 g7 hρ2 hr2 htb2 k1' c0' c1' c2' HG
    go_wp2
    go_region_with (go_at_call 41; refine (HR.out _ (by exact ⟨rfl, rfl, rfl, Nat.le_refl _, fun _ _ => rfl⟩)).mono ?_; rintro e w3 ⟨a', b', rfl, hp⟩; have Hp := Lib.hid (GPq.drew hp); clear hp)
  all_goals
    obtain ⟨ρ3, gs2, f2, g1, g2, g3, g4, g5, g6, g7⟩ := Hp.out
    have hz3 := g5.size
    have hTg : gl ≠ T := by rw [Hgl.out]; omega
    have hRg : gl ≠ R := by rw [Hgl.out]; omega
    have hNg : N ≤ gl := by rw [Hgl.out]; exact hNz
    have hr3 : Rd w3 ao n xs := HR2.out.evq g5 HA.out HP2.out (by omega)
    have hg3 : w3.heap[gl]? = some (.cells (ints (xs ++ [-7])).toArray 3 (0, 0)) := by rw [g7 gl (by omega) hRg, G7.out gl hgl1 hTg]; exact Hgb.out
    have h143 : ρ3 gl = 14 := by rw [g6 gl (by omega), G6.out gl hgl1]; exact HF.out gl (by rw [Hgl.out]; exact Nat.le_refl _)
    have hB3 : BqX N ρ3 w3 B s := ((HB.out.ev (Ev.of_below (R := fun _ => False) ρ0 Hb1.out) (fun _ _ => id)).ev G5.out (fun r hr => by unfold bookR at hr; omega)).ev g5 (fun r hr => by unfold bookR at hr; omega)
    have HT := Lib.hid fun (wx : World) (hbx : Below w3.heap.size w3 wx) => turnHq_one (cap := cap) (Nat.le_trans hNz (Nat.le_trans hz1 (Nat.le_trans hz2 (Nat.le_trans hz3 hbx.size)))) (g3.grow hbx.size) (hB3.ev (Ev.of_below (R := fun _ => False) ρ3 hbx) (fun _ _ => id)) hs hNg (by rw [hbx.block gl (by omega)]; exact hg3) h143 (hr3.below hbx) (fun h0 b off e => by have := HA.out h0 b off e; omega) hn (g4 G4.out)
    have k3' : w3.cell? ⟨bx, 12, none⟩ = some (.slice ao n cap) := (evc g5 12 (by omega) (by rw [G6.out bx (by omega), Hb0.out]; decide) (by rw [G6.out bx (by omega), Hb0.out]; omega)).trans k2'
    have d3' : w3.cell? ⟨W, 2, none⟩ = some (.pointer (some ⟨B, 0, none⟩)) := (evc g5 2 (by omega) (by rw [G6.out W (by omega), HW.out.role]; decide) (by rw [G6.out W (by omega), HW.out.role]; omega)).trans d2'
    obtain ⟨rfl, rfl, rfl⟩ := GOut.one G1.out g1
    have J2 := Lib.hid g2
    have J5 := Lib.hid g5
    clear Hp g1 g2 g3 g4 g5 g6 g7 hr3 hg3 h143 hB3 k2' d1' d2' HR hTg hRg hNg
    have q3 : (a == a) = true := by simp
    have q4 : (b == b) = true := by simp
    go_wp2
    go_region_with (go_at_call 42; refine (HT.out _ (by exact ⟨rfl, rfl, rfl, Nat.le_refl _, fun _ _ => rfl⟩)).mono ?_; rintro e w4 ⟨rfl, hk⟩; have Hk := Lib.hid (turnq_drew hk); clear hk)
  all_goals
    clear HT k3' d3'
    go_wp2_with (go_at_call 23; refine (HN.out _ _).mono ?_; rintro e w5 ⟨rfl, rfl⟩)
    go_ret
    exact groupq_fin HE.out HW.out Hb1.out G5.out J5.out G2.out J2.out Hk.out (HW.out.grp.group G1.out) hT hT2 hR hR2 hne
end Go.Proofs.YtnfkgnjeamnhfaaGreat
