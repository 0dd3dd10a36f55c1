import Derived.Test.YtnfkgnjeamnhfaaGreatWq
import Derived.Test.YtnfkgnjeamnhfaaGreatDg
import Derived.Deep.DeepCutAuto
import Derived.Deep.RegionHeld3
namespace Go.Proofs.YtnfkgnjeamnhfaaGreat
open Go.RowKit Go.Sort

/-- The two Lookups tell the same. -/
theorem Rel.look {cs rs : List Rt} (h : Rel cs rs) {a : Ad} {n g : Int} (h0 : H.adrE a.1 a.2.1 a.2.2 = 0) (hk : LkD rs a n g) : n = lookLT cs a ∧ g = lookGT cs a := by
  have hL := lnsT_of h.gd a.1
  unfold lookLT lookGT
  rw [if_pos h0, if_pos h0, lk_best (h.fam a.1) hL a, ← (h.pair a.1).bst]
  rcases hk with ⟨rfl, rfl, hb⟩ | ⟨r, hr, hf, hm, hb, rfl, rfl⟩
  · rw [hb]
    exact ⟨rfl, (gof_none (fun r hr => ((h.fam a.1).gd r hr).len.1) (by decide)).symm⟩
  · rw [← hb]
    have hr' : r ∈ famF cs a.1 := famF_mem.2 ⟨h.perm.symm.subset hr, hf⟩
    exact ⟨rfl, (gof_some (h.fam a.1).ones (fun s hs => (famF_mem.1 hs).2) hr' rfl hm.2).symm⟩
theorem Rel.asked {cs rs : List Rt} (h : Rel cs rs) {a : Ad} (h0 : H.adrE a.1 a.2.1 a.2.2 = 0) : asks (fnd (famF rs a.1) (lnsD rs a.1) a) (lnsD rs a.1) = lookAT cs a := by
  unfold lookAT
  rw [if_pos h0, h.lns a.1]
  congr 1
  funext m
  unfold fnd
  rw [(h.pair a.1).thr]
theorem rlook_all {N : Nat} {ρ : Nat → Nat} {w : World} {T rS rQ : Nat} {gs : Nat → List Int} {cs rs : List Rt} {lim : Int} {f : Nat → Value} (h : Tq N ρ w T rS rQ 4 3 gs rs lim f) (hlen : rs.length ≤ 1000) (hrel : Rel cs rs) (a : Ad) (hfit : FitA a) :
    Calls Tryz.prog 29 #[.pointer (some ⟨T, 0, none⟩), adV a] w fun e w' => ∃ ao n cap, e = .returned (.tuple #[fdV (lookLT cs a) (lookGT cs a) (.slice ao n cap), .int .i64 (H.adrE a.1 a.2.1 a.2.2)]) ∧ n = (lookAT cs a).length ∧ w'.ownsRow w.heap.size 3 1 (.slice ao n cap) n (ints (lookAT cs a)) ∧ Below w.heap.size w w' := by
  by_cases h0 : H.adrE a.1 a.2.1 a.2.2 = 0
  · refine (rlook_go N T (f 3) rs a w (h.rq.st 3 (by decide)).1 h.rq.row.1 hlen hrel.gdr (adr_ok h0 hfit) h0).mono ?_
    rintro e w' ⟨ln, gn, ao, n, cap, rfl, hk, hn, hr, hb⟩
    obtain ⟨rfl, rfl⟩ := hrel.look h0 hk
    rw [hrel.asked h0] at hn hr
    rw [h0]
    exact ⟨ao, n, cap, rfl, hn, hr, hb⟩
  · refine (rlook_no T a _ w rfl h0).mono ?_
    rintro e w' ⟨rfl, hb⟩
    unfold lookLT lookGT lookAT
    rw [if_neg h0, if_neg h0, if_neg h0]
    exact ⟨none, 0, 0, rfl, rfl, World.ownsRow_nil _ _ _ _, hb⟩
theorem lookAT_len (cs : List Rt) (a : Ad) : (lookAT cs a).length ≤ 129 := by
  unfold lookAT
  split
  · exact Nat.le_trans (vis_le _ _) (by unfold lnsT; exact lensC_le _ _)
  · simp
/-- A block of three cells, made ahead of a call. -/
def Tri (w2 w : World) (p : Nat) : Prop := w2.heap.size ≤ p ∧ p < w.heap.size ∧ ∀ j, j < 3 → (∃ v, w.cell? ⟨p, j, none⟩ = some v) ∧ w.frozen? ⟨p, j, none⟩ = false
theorem tri_at {w2 W w' : World} {v0 v1 v2 : Value} {t : TypeId} (h : w2.heap.size ≤ W.heap.size) (hb : Below (W.alloc (.cells #[v0, v1, v2] t)).heap.size (W.alloc (.cells #[v0, v1, v2] t)) w') : Tri w2 w' W.heap.size := by
  have hs : W.heap.size < (W.alloc (.cells #[v0, v1, v2] t)).heap.size := by simp
  refine ⟨h, Nat.lt_of_lt_of_le hs hb.size, fun j hj => ?_⟩
  have e1 := hb.cell (p := ⟨W.heap.size, j, none⟩) hs
  have e2 := hb.frozen (p := ⟨W.heap.size, j, none⟩) hs
  rw [e1, e2]
  rcases (show j = 0 ∨ j = 1 ∨ j = 2 by omega) with rfl | rfl | rfl <;> exact ⟨⟨_, by simp; rfl⟩, by simp⟩
theorem Tri.all {w2 w : World} {p : Nat} (h : Tri w2 w p) : ∃ v0 v1 v2, (w.cell? ⟨p, 0, none⟩ = some v0 ∧ w.frozen? ⟨p, 0, none⟩ = false) ∧ (w.cell? ⟨p, 1, none⟩ = some v1 ∧ w.frozen? ⟨p, 1, none⟩ = false) ∧ (w.cell? ⟨p, 2, none⟩ = some v2 ∧ w.frozen? ⟨p, 2, none⟩ = false) := by
  obtain ⟨⟨v0, a0⟩, b0⟩ := h.2.2 0 (by decide)
  obtain ⟨⟨v1, a1⟩, b1⟩ := h.2.2 1 (by decide)
  obtain ⟨⟨v2, a2⟩, b2⟩ := h.2.2 2 (by decide)
  exact ⟨v0, v1, v2, ⟨a0, b0⟩, ⟨a1, b1⟩, ⟨a2, b2⟩⟩
/-- What Lookup tells, in a box. -/
abbrev fbF (n g : Int) (v : Value) : Nat → Value := fun j => if j = 0 then .int .i64 n else if j = 1 then .int .i64 g else v
theorem tri_ne {W w' : World} {v0 v1 v2 : Value} {t : TypeId} {v : Value} {n : Nat} {xs : List Value} (h : w'.ownsRow (W.alloc (.cells #[v0, v1, v2] t)).drew.heap.size 3 1 v n xs) {g : Nat} (hg : v.ownBlock = some g) : g ≠ W.heap.size := by
  have h1 : (W.alloc (.cells #[v0, v1, v2] t)).heap.size ≤ g := (World.ownsRow.lt h g hg).1
  simp at h1
  omega
theorem fb_new (w : World) (n g : Int) (v : Value) (t : TypeId) : St (w.alloc (.cells #[.int .i64 n, .int .i64 g, v] t)) w.heap.size 3 (fbF n g v) := by
  refine (St.new w _ _).congr fun j hj => ?_
  have hj : j < 3 := hj
  iterate 3 (rcases j with _ | j; · rfl)
  omega
theorem fb_set {w2 w : World} {p : Nat} (h : Tri w2 w p) (n g : Int) (v : Value) : St (((w.setCell ⟨p, 0, none⟩ (.int .i64 n)).setCell ⟨p, 1, none⟩ (.int .i64 g)).setCell ⟨p, 2, none⟩ v) p 3 (fbF n g v) := by
  have h0 : St w p 3 (fun j => (w.cell? ⟨p, j, none⟩).getD undef) := fun j hj => by
    obtain ⟨⟨u, hu⟩, hf⟩ := h.2.2 j hj
    exact ⟨by show w.cell? ⟨p, j, none⟩ = some ((w.cell? ⟨p, j, none⟩).getD undef); rw [hu]; rfl, hf⟩
  refine (((h0.set (k := 0) (by decide) (.int .i64 n)).set (k := 1) (by decide) (.int .i64 g)).set (k := 2) (by decide) v).congr fun j hj => ?_
  rcases (show j = 0 ∨ j = 1 ∨ j = 2 by omega) with rfl | rfl | rfl <;> rfl
set_option maxRecDepth 4000 in
set_option maxHeartbeats 4000000 in
theorem asksq_look (N : Nat) (ρ : Nat → Nat) (w : World) (W T R B rT rR s : Nat) (gs : Nat → List Int) (cs rs : List Rt) (lim : Int) (n : Int) (x : Nat → Value) (a : Ad) (hfit : FitA a) (hx8 : x 8 = .int .i64 a.1) (hx9 : x 9 = .int .u64 a.2.1) (hx10 : x 10 = .int .u64 a.2.2) (h : Value) (m : Bool)
    (hN : N ≤ w.heap.size) (hF : Fr ρ w) (h15 : ∀ k, ρ k ≠ 15) (hW : Wq N ρ w W T R B rT rR gs cs rs lim) (hB : BqX N ρ w B s) (hs : s ≤ 1000000000000) (hT : 8 ≤ rT) (hT2 : rT ≤ 11) (hR : 8 ≤ rR) (hR2 : rR ≤ 11) :
    Calls Tryz.prog 13 #[.pointer (some ⟨W, 0, none⟩), .agg (opA 10 n x h m)] w (SPq N ρ w W T R B rT rR lim s) := by
  obtain ⟨ρ0, w0, hw0, hNz, hsz, hE0, hF0, h150, hb0, hW0, hB0, hS0⟩ := boxq 10 n x h m hN hF h15 hW hB hT hT2 hR hR2
  have k0 : w0.cell? ⟨w.heap.size, 0, none⟩ = some (.int .i64 10) := (hS0 0 (by decide)).1
  have k8 : w0.cell? ⟨w.heap.size, 8, none⟩ = some (.int .i64 a.1) := by rw [← hx8]; exact (hS0 8 (by decide)).1
  have k9 : w0.cell? ⟨w.heap.size, 9, none⟩ = some (.int .u64 a.2.1) := by rw [← hx9]; exact (hS0 9 (by decide)).1
  have k10 : w0.cell? ⟨w.heap.size, 10, none⟩ = some (.int .u64 a.2.2) := by rw [← hx10]; exact (hS0 10 (by decide)).1
  have c0 : w0.cell? ⟨W, 0, none⟩ = some (.pointer (some ⟨T, 0, none⟩)) := (hW0.st 0 (by decide)).1
  have c1 : w0.cell? ⟨W, 1, none⟩ = some (.pointer (some ⟨R, 0, none⟩)) := (hW0.st 1 (by decide)).1
  have c2 : w0.cell? ⟨W, 2, none⟩ = some (.pointer (some ⟨B, 0, none⟩)) := (hW0.st 2 (by decide)).1
  have HE := Lib.hid hE0
  have hWl := hW0.st.lt (by decide)
  obtain ⟨f, hf⟩ := hW0.t
  obtain ⟨g, hg⟩ := hW0.r
  have hlen := hW0.rel.len
  have hl2 := hW0.len
  have hrel := hW0.rel
  have HHo := Lib.hid fun (w1 : World) (hb : Below w0.heap.size w0 w1) => tlook_any (hf.ev (Ev.of_below (R := fun _ => False) ρ0 hb) id id id (ro_of hT hT2)) (by omega) hrel.srt hrel.gd a hfit
  have HRo := Lib.hid fun (w1 : World) (hb : Below w0.heap.size w0 w1) => rlook_all (hg.ev (Ev.of_below (R := fun _ => False) ρ0 hb) id id id (ro_of hR hR2)) (by omega) hrel a hfit
  have HW := Lib.hid hW0
  have HB := Lib.hid hB0
  have HF := Lib.hid hF0
  have H15 := Lib.hid h150
  obtain ⟨bx, hbx⟩ : ∃ bx, bx = w.heap.size := ⟨_, rfl⟩
  rw [← hbx] at k0 k8 k9 k10 hsz
  have hl129 := lookAT_len cs a
  clear hW hB hF h15 hE0 hF0 h150 hb0 hW0 hB0 hS0 hf hg hN hlen hl2 hrel
  simp only [opA, hx8, hx9, hx10] at hw0
  have Hw0 := Lib.hid hw0
  have Hbx := Lib.hid hbx
  clear hw0 hbx
  unfold opA
  rw [hx8, hx9, hx10]
  clear hx8 hx9 hx10
  go_enter Tryz.func13, Tryz.ntmps13
  go_wp2
  rw [← Hw0.out, ← Hbx.out]
  have HHo3 := Lib.hid (show ∀ W, Below w0.heap.size w0 W → Calls Tryz.prog 28 #[.pointer (some ⟨T, 0, none⟩), .agg #[.int .i64 a.1, .int .u64 a.2.1, .int .u64 a.2.2]] W fun e w' => ∃ ao n cap, e = .returned (.tuple #[.agg #[.int .i64 (lookLT cs a), .int .i64 (lookGT cs a), .slice ao n cap], .int .i64 (H.adrE a.1 a.2.1 a.2.2)]) ∧ n = (lookAT cs a).length ∧ w'.ownsRow W.heap.size 3 1 (.slice ao n cap) n (ints (lookAT cs a)) ∧ Below W.heap.size W w' from HHo.out)
  have HRo3 := Lib.hid (show ∀ W, Below w0.heap.size w0 W → Calls Tryz.prog 29 #[.pointer (some ⟨R, 0, none⟩), .agg #[.int .i64 a.1, .int .u64 a.2.1, .int .u64 a.2.2]] W fun e w' => ∃ ao n cap, e = .returned (.tuple #[.agg #[.int .i64 (lookLT cs a), .int .i64 (lookGT cs a), .slice ao n cap], .int .i64 (H.adrE a.1 a.2.1 a.2.2)]) ∧ n = (lookAT cs a).length ∧ w'.ownsRow W.heap.size 3 1 (.slice ao n cap) n (ints (lookAT cs a)) ∧ Below W.heap.size W w' from HRo.out)
  clear HHo HRo
  generalize lookLT cs a = ln at HHo3 HRo3
  generalize lookGT cs a = gn at HHo3 HRo3
  generalize lookAT cs a = A at HHo3 HRo3 hl129
  generalize H.adrE a.1 a.2.1 a.2.2 = er at HHo3 HRo3
  have HS := Lib.hid (fun (W' : World) (h : Below w0.heap.size w0 W') => (⟨h, (h.cell (p := ⟨bx, 8, none⟩) hsz).trans k8, (h.cell (p := ⟨bx, 9, none⟩) hsz).trans k9, (h.cell (p := ⟨bx, 10, none⟩) hsz).trans k10, (h.cell (p := ⟨W, 0, none⟩) hWl).trans c0, (h.cell (p := ⟨W, 1, none⟩) hWl).trans c1, (h.cell (p := ⟨W, 2, none⟩) hWl).trans c2⟩ : Below w0.heap.size w0 W' ∧ W'.cell? ⟨bx, 8, none⟩ = some (.int .i64 a.1) ∧ W'.cell? ⟨bx, 9, none⟩ = some (.int .u64 a.2.1) ∧ W'.cell? ⟨bx, 10, none⟩ = some (.int .u64 a.2.2) ∧ W'.cell? ⟨W, 0, none⟩ = some (.pointer (some ⟨T, 0, none⟩)) ∧ W'.cell? ⟨W, 1, none⟩ = some (.pointer (some ⟨R, 0, none⟩)) ∧ W'.cell? ⟨W, 2, none⟩ = some (.pointer (some ⟨B, 0, none⟩))))
  go_cut [15, 16] (fun s15 s16 wx => ∃ p ao z cap, s15 = .pointer (some ⟨p, 0, none⟩) ∧ s16 = .int .i64 er ∧ Hid (z = A.length) ∧ Hid (St wx p 3 (fbF ln gn (.slice ao z cap))) ∧ Hid (wx.ownsRow w0.heap.size 3 1 (.slice ao z cap) z (ints A)) ∧ Hid (Below w0.heap.size w0 wx) ∧ Hid (w0.heap.size ≤ p ∧ ∀ g, (Value.slice ao z cap).ownBlock = some g → g ≠ p))
  case first =>
    go_region_held3 (fun W' => Below w0.heap.size w0 W' ∧ W'.cell? ⟨bx, 8, none⟩ = some (.int .i64 a.1) ∧ W'.cell? ⟨bx, 9, none⟩ = some (.int .u64 a.2.1) ∧ W'.cell? ⟨bx, 10, none⟩ = some (.int .u64 a.2.2) ∧ W'.cell? ⟨W, 0, none⟩ = some (.pointer (some ⟨T, 0, none⟩)) ∧ W'.cell? ⟨W, 1, none⟩ = some (.pointer (some ⟨R, 0, none⟩)) ∧ W'.cell? ⟨W, 2, none⟩ = some (.pointer (some ⟨B, 0, none⟩))) ((refine HS.out _ ?_; first | with_reducible exact bl_drew _ | with_reducible assumption | (with_reducible refine bl_drew' (bl_alloc ?_ _); exact Below.refl _ _) | (with_reducible refine bl_alloc ?_ _; first | with_reducible assumption | with_reducible exact bl_drew _) | ((iterate 3 (with_reducible refine bl_set ?_ (by assumption) _)); with_reducible assumption))) (first | (go_at_call 28; refine (HHo3.out _ (And.left ‹_›)).mono ?_; rintro e wA ⟨ao, z, cap, rfl, rfl, hol, hbA⟩; have hkA : Below w0.heap.size w0 wA := bl_call (And.left ‹_›) hbA; have hol' := row_lower hol (show Below w0.heap.size w0 _ from And.left ‹_›).size; (first | (have h3 := tri_at (w2 := w0) (Nat.le_refl _) (of_drew hbA); have hne : ∀ g, (Value.slice ao A.length cap).ownBlock = some g → g ≠ w0.heap.size := fun g hg => tri_ne hol hg; generalize w0.heap.size = pp at h3 hne ⊢; have h7 := h3.1; obtain ⟨v0, v1, v2, ⟨a0, b0⟩, ⟨a1, b1⟩, a2, b2⟩ := h3.all) | skip)))
    · have hS1 : Below w0.heap.size w0 _ := And.left ‹_›
      go_wp2_with fail
      go_meet
      exact ⟨_, ao, _, cap, rfl, rfl, rfl, fb_new wA ln gn _ _, rowE_far hol' (box1 _ _) (fun g hg => (World.ownsRow.lt hol' g hg).2), hS1, And.intro hkA.size (fun g hg => Nat.ne_of_lt (World.ownsRow.lt hol' g hg).2)⟩
    · have hS1 : Below w0.heap.size w0 _ := And.left ‹_›
      go_wp2_with fail
      go_meet
      exact ⟨_, ao, _, cap, rfl, rfl, rfl, fb_set h3 ln gn _, row_set (row_set (row_set hol' hne _) hne _) hne _, hS1, And.intro h3.1 hne⟩
  case rest =>
  obtain ⟨p, ao, z, cap, rfl, rfl, Hz, Hst, Hol, Hb1, Hp⟩ := hcut
  obtain rfl : z = A.length := Hz.out
  generalize wc = w1 at *
  obtain ⟨-, k8', k9', k10', -, c1', c2'⟩ := HS.out w1 Hb1.out
  have hWc : W < w1.heap.size := Nat.lt_of_lt_of_le hWl Hb1.out.size
  have hbc : bx < w1.heap.size := Nat.lt_of_lt_of_le hsz Hb1.out.size
  have hpl := Hst.out.lt (by decide)
  have HRo4 := Lib.hid (fun (W' : World) (h : Below w1.heap.size w1 W') => HRo3.out W' (Hb1.out.trans (h.mono Hb1.out.size)))
  have HS2 := Lib.hid (fun (W' : World) (h : Below w1.heap.size w1 W') => (⟨h, (h.cell (p := ⟨bx, 8, none⟩) hbc).trans k8', (h.cell (p := ⟨bx, 9, none⟩) hbc).trans k9', (h.cell (p := ⟨bx, 10, none⟩) hbc).trans k10', (h.cell (p := ⟨W, 1, none⟩) hWc).trans c1', (h.cell (p := ⟨W, 2, none⟩) hWc).trans c2'⟩ : Below w1.heap.size w1 W' ∧ W'.cell? ⟨bx, 8, none⟩ = some (.int .i64 a.1) ∧ W'.cell? ⟨bx, 9, none⟩ = some (.int .u64 a.2.1) ∧ W'.cell? ⟨bx, 10, none⟩ = some (.int .u64 a.2.2) ∧ W'.cell? ⟨W, 1, none⟩ = some (.pointer (some ⟨R, 0, none⟩)) ∧ W'.cell? ⟨W, 2, none⟩ = some (.pointer (some ⟨B, 0, none⟩))))
  clear k0 k8 k9 k10 c0 c1 c2 HHo3 HRo3 HS
  go_wp2_with fail
  go_cut [17, 18] (fun s17 s18 wx => ∃ p2 ao2 cap2, s17 = .pointer (some ⟨p2, 0, none⟩) ∧ s18 = .int .i64 er ∧ Hid (St wx p2 3 (fbF ln gn (.slice ao2 A.length cap2))) ∧ Hid (wx.ownsRow w1.heap.size 3 1 (.slice ao2 A.length cap2) A.length (ints A)) ∧ Hid (Below w1.heap.size w1 wx) ∧ Hid (w1.heap.size ≤ p2))
  case first =>
    go_region_held3 (fun W' => Below w1.heap.size w1 W' ∧ W'.cell? ⟨bx, 8, none⟩ = some (.int .i64 a.1) ∧ W'.cell? ⟨bx, 9, none⟩ = some (.int .u64 a.2.1) ∧ W'.cell? ⟨bx, 10, none⟩ = some (.int .u64 a.2.2) ∧ W'.cell? ⟨W, 1, none⟩ = some (.pointer (some ⟨R, 0, none⟩)) ∧ W'.cell? ⟨W, 2, none⟩ = some (.pointer (some ⟨B, 0, none⟩))) ((refine HS2.out _ ?_; first | with_reducible exact bl_drew _ | with_reducible assumption | (with_reducible refine bl_drew' (bl_alloc ?_ _); exact Below.refl _ _) | (with_reducible refine bl_alloc ?_ _; first | with_reducible assumption | with_reducible exact bl_drew _) | ((iterate 3 (with_reducible refine bl_set ?_ (by assumption) _)); with_reducible assumption))) (first | (go_at_call 29; refine (HRo4.out _ (And.left ‹_›)).mono ?_; rintro e wA ⟨ao2, z, cap2, rfl, rfl, hol, hbA⟩; have hkA : Below w1.heap.size w1 wA := bl_call (And.left ‹_›) hbA; have hol' := row_lower hol (show Below w1.heap.size w1 _ from And.left ‹_›).size; (first | (have h3 := tri_at (w2 := w1) (Nat.le_refl _) (of_drew hbA); have hne : ∀ g, (Value.slice ao2 A.length cap2).ownBlock = some g → g ≠ w1.heap.size := fun g hg => tri_ne hol hg; generalize w1.heap.size = pp at h3 hne ⊢; have h7 := h3.1; obtain ⟨v0, v1, v2, ⟨a0, b0⟩, ⟨a1, b1⟩, a2, b2⟩ := h3.all) | skip)))
    · have hS1 : Below w1.heap.size w1 _ := And.left ‹_›
      go_wp2_with fail
      go_meet
      exact ⟨_, ao2, cap2, rfl, rfl, fb_new wA ln gn _ _, rowE_far hol' (box1 _ _) (fun g hg => (World.ownsRow.lt hol' g hg).2), hS1, hkA.size⟩
    · have hS1 : Below w1.heap.size w1 _ := And.left ‹_›
      go_wp2_with fail
      go_meet
      exact ⟨_, ao2, cap2, rfl, rfl, fb_set h3 ln gn _, row_set (row_set (row_set hol' hne _) hne _) hne _, hS1, h3.1⟩
  case rest =>
  obtain ⟨p2, ao2, cap2, rfl, rfl, Hst2, Hr2, Hb2, Hp2⟩ := hcut
  generalize wc = w2 at *
  have c2'' := (Hb2.out.cell (p := ⟨W, 2, none⟩) hWc).trans c2'
  have hx := Hst.out.below Hb2.out hpl
  have e0 : w2.cell? ⟨p, 0, none⟩ = some (.int .i64 ln) := (hx 0 (by decide)).1
  have e1 : w2.cell? ⟨p, 1, none⟩ = some (.int .i64 gn) := (hx 1 (by decide)).1
  have e2 : w2.cell? ⟨p, 2, none⟩ = some (.slice ao A.length cap) := (hx 2 (by decide)).1
  have d0 : w2.cell? ⟨p2, 0, none⟩ = some (.int .i64 ln) := (Hst2.out 0 (by decide)).1
  have d1 : w2.cell? ⟨p2, 1, none⟩ = some (.int .i64 gn) := (Hst2.out 1 (by decide)).1
  have d2 : w2.cell? ⟨p2, 2, none⟩ = some (.slice ao2 A.length cap2) := (Hst2.out 2 (by decide)).1
  have Hol2 := Lib.hid (rowE_far Hol.out Hb2.out (fun k hk => (World.ownsRow.lt Hol.out k hk).2))
  have HA := Lib.hid (sameInts_yes ao ao2 A.length cap cap2 A w2 (rd_row Hol2.out rfl) (rd_row Hr2.out rfl) (by unfold maxLen; omega))
  have HD := Lib.hid (fun (d : Nat) => (show Below w0.heap.size w0 (w2.drewN d) from ⟨Hb2.out.os.trans Hb1.out.os, Hb2.out.tape.trans Hb1.out.tape, Hb2.out.output.trans Hb1.out.output, Nat.le_trans Hb1.out.size Hb2.out.size, fun k hk => (Hb2.out.block k (Nat.lt_of_lt_of_le hk Hb1.out.size)).trans (Hb1.out.block k hk)⟩))
  have hp2l := Hst2.out.lt (by decide)
  have h1p : p < w1.heap.size := hpl
  have h2p : w1.heap.size ≤ p2 := Hp2.out
  have hp14 : ρ0 p = 14 := HF.out p Hp.out.1
  have hp214 : rl ρ0 p 13 p2 = 14 := by rw [rl_ne (by omega)]; exact HF.out p2 (Nat.le_trans Hb1.out.size h2p)
  obtain ⟨ρ1, hρ1⟩ : ∃ ρ1, ρ1 = rl (rl ρ0 p 13) p2 13 := ⟨_, rfl⟩
  have HDx := Lib.hid (fun (Wx : World) (hb : Below w2.heap.size w2 Wx) => (Hb1.out.trans (Hb2.out.mono Hb1.out.size)).trans (hb.mono (Nat.le_trans Hb1.out.size Hb2.out.size)))
  have HE1 := Lib.hid (fun (Wx : World) (hb : Below w2.heap.size w2 Wx) (Q : Nat → Prop) => show Ev Q ρ0 w0 ρ1 Wx by rw [hρ1]; exact ((Ev.of_below ρ0 (HDx.out Wx hb)).trans (Ev.rl _ 13 (.inl hp14))).trans (Ev.rl _ 13 (.inl hp214)))
  have HF1 := Lib.hid (fun (Wx : World) (hb : Below w2.heap.size w2 Wx) => show Fr ρ1 Wx by rw [hρ1]; exact ((HF.out.grow (HDx.out Wx hb).size).rl (Nat.lt_of_lt_of_le h1p (Nat.le_trans Hb2.out.size hb.size)) 13).rl (Nat.lt_of_lt_of_le hp2l hb.size) 13)
  have H151 := Lib.hid (show ∀ k, ρ1 k ≠ 15 from fun k => by rw [hρ1]; unfold rl; split; decide; split; decide; exact H15.out k)
  have Hr1 := Lib.hid (show ρ1 p = 13 ∧ ρ1 p2 = 13 by rw [hρ1]; exact ⟨by rw [rl_ne (by omega)]; exact rl_same _ _ _, rl_same _ _ _⟩)
  have Hg1 := Lib.hid (show ∀ b, (Value.slice ao A.length cap).ownBlock = some b → ρ1 b = 14 from fun b hb => by
    have hb1 := World.ownsRow.lt Hol.out b hb
    rw [hρ1, rl_ne (by omega), rl_ne (Hp.out.2 b hb)]
    exact HF.out b hb1.1)
  have HK := Lib.hid (fun (Wx : World) (hb : Below w2.heap.size w2 Wx) => keepI_one (w := Wx) (Nat.le_trans hNz (HDx.out Wx hb).size) (HF1.out Wx hb) (HB.out.ev (HE1.out Wx hb (fun _ => False)) (fun _ _ => id)) hs (row_lower (rowE_far Hol2.out hb (fun k hk => (World.ownsRow.lt Hol2.out k hk).2)) hNz) Hg1.out (by omega) H151.out)
  have Hx2 := Lib.hid (And.intro hx Hst2.out)
  have HN := Lib.hid (fun w => num_any er w)
  have q3 : (er == er) = true := by simp
  have q4 : (ln == ln) = true := by simp
  have q5 : (gn == gn) = true := by simp
  clear c2' c1' k8' k9' k10' hx
  go_wp2_with (first | (go_at_call 21; refine HA.out.mono ?_; rintro e w3 ⟨rfl, d, rfl⟩))
  have c3 : (w2.drewN d).cell? ⟨W, 2, none⟩ = some (.pointer (some ⟨B, 0, none⟩)) := c2''
  have e3 : (w2.drewN d).cell? ⟨p, 2, none⟩ = some (.slice ao A.length cap) := e2
  obtain ⟨wd, hwd⟩ : ∃ wd, wd = w2.drewN d := ⟨_, rfl⟩
  rw [← hwd] at c3 e3 ⊢
  have Hwd := Lib.hid (show Below w2.heap.size w2 wd by rw [hwd]; exact ⟨rfl, rfl, rfl, Nat.le_refl _, fun _ _ => rfl⟩)
  have HKd := Lib.hid (HK.out wd.drew (bl_drew' Hwd.out))
  have HWd := Lib.hid (HW.out.ev (HE1.out wd Hwd.out (fun _ => False)) id id id id id id hT hT2 hR hR2)
  have HEd := Lib.hid (fun (Q : Nat → Prop) => (HE.out Q).trans (HE1.out wd Hwd.out Q))
  have Hxd := Lib.hid (And.intro (Hx2.out.1.below Hwd.out (Hx2.out.1.lt (by decide))) (Hx2.out.2.below Hwd.out (Hx2.out.2.lt (by decide))))
  clear hwd c2'' e0 e1 e2 d0 d1 d2
  go_cut [] (fun wx => Hid (∃ ρ', BqX N ρ' wx B (s + 1) ∧ Fr ρ' wx ∧ (∀ k, ρ' k ≠ 15) ∧ Ev (fun q => q = 1 ∨ q = 2 ∨ q = 3) ρ1 wd ρ' wx))
  case first =>
    go_region_with (go_at_call 22; refine HKd.out.mono ?_; rintro e w5 ⟨rfl, ρ', h1, h2, h3, h5⟩; have Hk : Hid (∃ ρ', BqX N ρ' w5 B (s + 1) ∧ Fr ρ' w5 ∧ (∀ k, ρ' k ≠ 15) ∧ Ev (fun q => q = 1 ∨ q = 2 ∨ q = 3) ρ1 wd ρ' w5) := Lib.hid ⟨ρ', h1, h2, h3, ⟨h5.os, h5.tape, h5.output, h5.size, h5.role, h5.block⟩⟩; clear h1 h2 h3 h5)
    all_goals
      go_wp2_with fail
      go_meet
      exact Hk
  case rest =>
  have Hk := hcut
  obtain ⟨ρ', -, -, -, h5⟩ := hcut.out
  have hx := Hxd.out.1.ev (by decide) h5 (by rw [Hr1.out.1]; omega) (by rw [Hr1.out.1]; decide)
  have hy := Hxd.out.2.ev (by decide) h5 (by rw [Hr1.out.2]; omega) (by rw [Hr1.out.2]; decide)
  have e0 : wc.cell? ⟨p, 0, none⟩ = some (.int .i64 ln) := (hx 0 (by decide)).1
  have e1 : wc.cell? ⟨p, 1, none⟩ = some (.int .i64 gn) := (hx 1 (by decide)).1
  have d0 : wc.cell? ⟨p2, 0, none⟩ = some (.int .i64 ln) := (hy 0 (by decide)).1
  have d1 : wc.cell? ⟨p2, 1, none⟩ = some (.int .i64 gn) := (hy 1 (by decide)).1
  clear h5 hx hy c3 e3
  go_wp2_with (first | (go_at_call 23; refine (HN.out _).mono ?_; rintro e w4 ⟨rfl, rfl⟩))
  go_ret
  exact dump_fin HEd.out HWd.out (Below.refl _ _) Hk.out (fun q h => by omega) hT hT2 hR hR2
end Go.Proofs.YtnfkgnjeamnhfaaGreat
