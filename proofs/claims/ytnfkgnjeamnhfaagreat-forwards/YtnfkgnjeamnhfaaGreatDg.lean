import Derived.Test.YtnfkgnjeamnhfaaGreatDe
import Derived.Deep.CutRange
import Derived.Deep.RegionHeld3
import Derived.Deep.AppendLies
namespace Go.Proofs.YtnfkgnjeamnhfaaGreat
open Go.RowKit Go.Sort

theorem Rd.high' {w : World} {b off n : Nat} {xs : List Int} (h : Rd w (some ⟨b, off, none⟩) n xs) {m : Nat} (hm : m = n) (ao : Option Addr) : Rd w ao (n - m) (xs.drop m) :=
  ⟨by rw [List.length_drop, h.1], .inl (by omega)⟩

theorem bl_call {w2 W w' : World} (h : Below w2.heap.size w2 W) (hb : Below W.heap.size W w') : Below w2.heap.size w2 w' := h.trans (hb.mono h.size)
theorem bl_alloc {w2 W : World} (h : Below w2.heap.size w2 W) (o : Obj) : Below w2.heap.size w2 (W.alloc o) := h.trans (((Below.refl _ _).alloc (Nat.le_refl _) _).mono h.size)
theorem bl_drew' {w2 W : World} (h : Below w2.heap.size w2 W) : Below w2.heap.size w2 W.drew := ⟨h.os, h.tape, h.output, h.size, h.block⟩
theorem of_drew {W w' : World} (h : Below W.drew.heap.size W.drew w') : Below W.heap.size W w' := ⟨h.os, h.tape, h.output, h.size, h.block⟩
theorem bl_drew (w2 : World) : Below w2.heap.size w2 w2.drew := ⟨rfl, rfl, rfl, Nat.le_refl _, fun _ _ => rfl⟩


def Six (w2 w : World) (p : Nat) : Prop := w2.heap.size ≤ p ∧ ∀ j, j < 6 → (∃ v, w.cell? ⟨p, j, none⟩ = some v) ∧ w.frozen? ⟨p, j, none⟩ = false
theorem six_at {w2 W w' : World} {v0 v1 v2 v3 v4 v5 : Value} {t : TypeId} (h : w2.heap.size ≤ W.heap.size) (hb : Below (W.alloc (.cells #[v0, v1, v2, v3, v4, v5] t)).heap.size (W.alloc (.cells #[v0, v1, v2, v3, v4, v5] t)) w') : Six w2 w' W.heap.size := by
  refine ⟨h, fun j hj => ?_⟩
  have hs : W.heap.size < (W.alloc (.cells #[v0, v1, v2, v3, v4, v5] t)).heap.size := by simp
  have e1 := hb.cell (p := ⟨W.heap.size, j, none⟩) hs
  have e2 := hb.frozen (p := ⟨W.heap.size, j, none⟩) hs
  rw [e1, e2]
  rcases (show j = 0 ∨ j = 1 ∨ j = 2 ∨ j = 3 ∨ j = 4 ∨ j = 5 by omega) with rfl | rfl | rfl | rfl | rfl | rfl <;> exact ⟨⟨_, by simp; rfl⟩, by simp⟩
theorem six_on {w2 w w' : World} {p : Nat} (h : Six w2 w p) (hb : Below w.heap.size w w') : Six w2 w' p := by
  refine ⟨h.1, fun j hj => ?_⟩
  obtain ⟨⟨v, h1⟩, h2⟩ := h.2 j hj
  have hs : p < w.heap.size := World.block_lt_of_cell? w ⟨p, j, none⟩ h1
  exact ⟨⟨v, (hb.cell (p := ⟨p, j, none⟩) hs).trans h1⟩, (hb.frozen (p := ⟨p, j, none⟩) hs).trans h2⟩
theorem Six.all {w2 w : World} {p : Nat} (h : Six w2 w p) : ∃ v0 v1 v2 v3 v4 v5, (w.cell? ⟨p, 0, none⟩ = some v0 ∧ w.frozen? ⟨p, 0, none⟩ = false) ∧ (w.cell? ⟨p, 1, none⟩ = some v1 ∧ w.frozen? ⟨p, 1, none⟩ = false) ∧ (w.cell? ⟨p, 2, none⟩ = some v2 ∧ w.frozen? ⟨p, 2, none⟩ = false) ∧ (w.cell? ⟨p, 3, none⟩ = some v3 ∧ w.frozen? ⟨p, 3, none⟩ = false) ∧ (w.cell? ⟨p, 4, none⟩ = some v4 ∧ w.frozen? ⟨p, 4, none⟩ = false) ∧ (w.cell? ⟨p, 5, none⟩ = some v5 ∧ w.frozen? ⟨p, 5, none⟩ = false) := by
  obtain ⟨⟨v0, a0⟩, b0⟩ := h.2 0 (by decide)
  obtain ⟨⟨v1, a1⟩, b1⟩ := h.2 1 (by decide)
  obtain ⟨⟨v2, a2⟩, b2⟩ := h.2 2 (by decide)
  obtain ⟨⟨v3, a3⟩, b3⟩ := h.2 3 (by decide)
  obtain ⟨⟨v4, a4⟩, b4⟩ := h.2 4 (by decide)
  obtain ⟨⟨v5, a5⟩, b5⟩ := h.2 5 (by decide)
  exact ⟨v0, v1, v2, v3, v4, v5, ⟨a0, b0⟩, ⟨a1, b1⟩, ⟨a2, b2⟩, ⟨a3, b3⟩, ⟨a4, b4⟩, ⟨a5, b5⟩⟩
theorem bl_set {w2 W : World} (h : Below w2.heap.size w2 W) {p : Addr} (hp : w2.heap.size ≤ p.block) (v : Value) : Below w2.heap.size w2 (W.setCell p v) := h.setCell hp v

set_option maxRecDepth 4000 in
set_option maxHeartbeats 4000000 in
theorem rasked_any (N T : Nat) (v : Value) (rs : List Rt) (lv : Value) (L : List Int) (a : Ad) (w : World) (hc : w.cell? ⟨T, 3, none⟩ = some v) (hr : RwO w N v rs) (hlen : rs.length ≤ 1000) (hg : ∀ r ∈ rs, Gd r) (ha : Adr a) (hl : RdL w lv L) (hu : Up L) (hL : ∀ r ∈ rs, r.f = a.1 → r.n ∈ L) :
    ∀ (k : Nat) (ao : Option Addr) (z cap : Nat) (l : List Int) (w1 : World), Below w.heap.size w w1 → l.length ≤ k → z ≤ 200 → z ≤ cap → cap ≤ maxLen → Rd w1 ao z l → (∀ x ∈ l, 0 ≤ x ∧ x ≤ wid a.1) →
    Calls Tryz.prog 71 #[.pointer (some ⟨T, 0, none⟩), .slice ao z cap, lv, adV a] w1 fun e w' => ∃ ao' z' cap', e = .returned (.slice ao' z' cap') ∧ z' = (asks (fnd (famF rs a.1) L a) l).length ∧ (z' = 0 → ao' = none ∧ cap' = 0) ∧ w'.ownsRow w1.heap.size 3 1 (.slice ao' z' cap') z' (ints (asks (fnd (famF rs a.1) L a) l)) ∧ Below w1.heap.size w1 w' := by
  have hT : T < w.heap.size := World.block_lt_of_cell? w ⟨T, 3, none⟩ hc
  have HEn := Lib.hid (fun (w2 : World) (hb : Below w.heap.size w w2) (m : Int) (h0 : 0 ≤ m) (h1 : m ≤ wid a.1) => rentry_any N T v rs lv L (cutD a m) m w2 ((hb.cell (p := ⟨T, 3, none⟩) hT).trans hc) (hr.far hb (fun g hg => (World.ownsRow.lt hr g hg).2)) hlen hg (ha.cut m) (hl.below hb) hu (fun r hr' hf => hL r hr' (by rw [hf, cutD_fam])) h0 (by rw [cutD_fam]; exact h1))
  have HCu := Lib.hid (fun (w2 : World) (m : Int) (h0 : 0 ≤ m) (h1 : m ≤ wid a.1) => rcut_any a m w2 ha h0 h1)
  obtain ⟨p, hp⟩ : ∃ p, p = fnd (famF rs a.1) L a := ⟨_, rfl⟩
  rw [← hp]
  have Hp := Lib.hid (show ∀ m, thr (famF rs a.1) L (cutD a m) m = p m from fun m => by rw [hp]; rfl)
  clear hc hr hlen hg ha hl hu hL hp hT
  intro k
  induction k with
  | zero =>
    intro ao z cap l w1 _ hk _ _ _ hr _
    obtain rfl : l = [] := List.eq_nil_of_length_eq_zero (by omega)
    obtain rfl : z = 0 := hr.1.symm
    go_enter Tryz.func71, Tryz.ntmps71
    go_wp2
    go_ret
    exact ⟨none, 0, 0, rfl, rfl, fun _ => ⟨rfl, rfl⟩, World.ownsRow_nil _ _ _ _, box1 _ _⟩
  | succ k ih =>
    intro ao z cap l w1 hB1 hk hz hzc hcap hr hx
    by_cases hz0 : z = 0
    · subst hz0
      obtain rfl : l = [] := List.eq_nil_of_length_eq_zero hr.1
      go_enter Tryz.func71, Tryz.ntmps71
      go_wp2
      go_ret
      exact ⟨none, 0, 0, rfl, rfl, fun _ => ⟨rfl, rfl⟩, World.ownsRow_nil _ _ _ _, box1 _ _⟩
    · have hlen := hr.1
      obtain ⟨m, hm⟩ : ∃ m, m = z / 2 := ⟨_, rfl⟩
      have hmz : m < z := by omega
      obtain ⟨b, off, rfl, hbl, -⟩ := hr.at (by omega)
      obtain ⟨x, hx1, hxc⟩ := hr.cell hmz
      have hxb := hx x (List.mem_of_getElem? hx1)
      have hA := asks_cons (p := p) (l := l) (x := x) (by rw [hlen, ← hm]; exact hx1)
      rw [hlen, ← hm] at hA
      have HA := Lib.hid hA
      have HEn1 := Lib.hid (fun (w2 : World) (hb : Below w.heap.size w w2) => HEn.out w2 hb x hxb.1 hxb.2)
      have HCu1 := Lib.hid (fun (w2 : World) => HCu.out w2 x hxb.1 hxb.2)
      have HB1 := Lib.hid hB1
      have q1 : (m : Int) < (z : Int) := by omega
      have q0 : (0 : Int) ≤ (m : Int) := by omega
      have q2 : ((z : Int).tdiv 2) = (m : Int) := by rw [hm]; rfl
      have qz : ((z : Int) == 0) = false := by rw [Bool.eq_false_iff]; intro e; simp at e; omega
      have Hm := Lib.hid hm
      obtain ⟨i0, hi0, hz0', hz1, hz2⟩ := info3
      clear hA hm hz0
      go_enter Tryz.func71, Tryz.ntmps71
      obtain ⟨w2, hw2⟩ : ∃ w2, w2 = (w1.alloc (.cells #[.int .i64 a.1, .int .u64 a.2.1, .int .u64 a.2.2] 31)).alloc (.cells #[.int .i64 x] 3) := ⟨_, rfl⟩
      obtain ⟨ba, hba⟩ : ∃ y, y = w1.heap.size := ⟨_, rfl⟩
      obtain ⟨bo, hbo⟩ : ∃ y, y = w1.heap.size + 1 := ⟨_, rfl⟩
      have HA2 := Lib.hid (show St w2 ba 3 (adF a) by rw [hw2, hba]; exact (ad_at a _ rfl).alloc (by decide) _)
      have HO2 := Lib.hid (show w2.ownsRow w1.heap.size 3 1 (.slice (some ⟨bo, 0, none⟩) 1 1) 1 [.int .i64 x] by
        have h := World.ownsRow_lit (base := w1.heap.size) (e := 3) (size := 1) (w1.alloc (.cells #[.int .i64 a.1, .int .u64 a.2.1, .int .u64 a.2.2] 31)) #[.int .i64 x] 1 (by simp) (by unfold maxLen; omega) rfl
        rw [hw2, hbo]
        simp only [World.size_alloc] at h
        exact h)
      have HB2 := Lib.hid (show Below w1.heap.size w1 w2 by rw [hw2]; exact two_boxes _ _ _)
      have Hw2 := Lib.hid hw2
      have Hba := Lib.hid hba
      have Hbo := Lib.hid hbo
      have hbo2 : w1.heap.size ≤ bo := by omega
      have a0 : w2.cell? ⟨ba, 0, none⟩ = some (.int .i64 a.1) := (HA2.out 0 (by decide)).1
      have a1 : w2.cell? ⟨ba, 1, none⟩ = some (.int .u64 a.2.1) := (HA2.out 1 (by decide)).1
      have a2 : w2.cell? ⟨ba, 2, none⟩ = some (.int .u64 a.2.2) := (HA2.out 2 (by decide)).1
      have hxc2 := (HB2.out.cell (p := ⟨b, off + m, none⟩) hbl).trans hxc
      have hz2 : w2.heap.size = ba + 2 := by rw [hw2, hba]; simp
      have cA := fun (W : World) => HCu1.out W
      have cB := fun (W : World) (hb : Below w2.heap.size w2 W) => HEn1.out W (HB1.out.trans ((HB2.out.trans (hb.mono HB2.out.size)).mono HB1.out.size))
      rw [show (cutD a x).1 = a.1 from cutD_fam a x, Hp.out x] at cB
      generalize cutD a x = c at cA cB
      generalize grpOf (famF rs a.1) c x = Gx at cB
      generalize mks (famF rs a.1) L c x = Kx at cB
      generalize bst (famF rs a.1) c x = Bx at cB
      have HCu3 := Lib.hid (show ∀ W, Calls Tryz.prog 66 #[.agg #[.int .i64 a.1, .int .u64 a.2.1, .int .u64 a.2.2], .int .i64 x] W fun e w' => e = .returned (.agg #[.int .i64 c.1, .int .u64 c.2.1, .int .u64 c.2.2]) ∧ Below W.heap.size W w' from cA)
      have HEn3 := Lib.hid (show ∀ W, Below w2.heap.size w2 W → Calls Tryz.prog 67 #[.pointer (some ⟨T, 0, none⟩), lv, .agg #[.int .i64 c.1, .int .u64 c.2.1, .int .u64 c.2.2], .int .i64 x] W fun e w' => e = .returned (.tuple #[.agg #[.int .i64 c.1, .int .u64 c.2.1, .int .u64 c.2.2, .int .i64 Gx, .int .i64 Kx, .int .i64 Bx], .bool (p x)]) ∧ Below W.heap.size W w' from cB)
      have HS := Lib.hid (fun (W : World) (h : Below w2.heap.size w2 W) => (⟨h, (h.cell (p := ⟨ba, 0, none⟩) (by simp only []; omega)).trans a0, (h.cell (p := ⟨ba, 1, none⟩) (by simp only []; omega)).trans a1, (h.cell (p := ⟨ba, 2, none⟩) (by simp only []; omega)).trans a2, (h.cell (p := ⟨b, off + m, none⟩) (by have := HB2.out.size; simp only []; omega)).trans hxc2⟩ : Below w2.heap.size w2 W ∧ W.cell? ⟨ba, 0, none⟩ = some (.int .i64 a.1) ∧ W.cell? ⟨ba, 1, none⟩ = some (.int .u64 a.2.1) ∧ W.cell? ⟨ba, 2, none⟩ = some (.int .u64 a.2.2) ∧ W.cell? ⟨b, off + m, none⟩ = some (.int .i64 x)))
      have Hz2 := Lib.hid hz2
      clear hw2 hba hbo a0 a1 a2 hxc2 hz2 cA cB
      go_wp2_with fail
      rw [← Hw2.out, ← Hbo.out, ← Hba.out]
      go_cut [12] from 13 to 59 (fun ok W => ok = .bool (p x) ∧ Below w2.heap.size w2 W)
      case first =>
        go_region_held3 (fun W => Below w2.heap.size w2 W ∧ W.cell? ⟨ba, 0, none⟩ = some (.int .i64 a.1) ∧ W.cell? ⟨ba, 1, none⟩ = some (.int .u64 a.2.1) ∧ W.cell? ⟨ba, 2, none⟩ = some (.int .u64 a.2.2) ∧ W.cell? ⟨b, off + m, none⟩ = some (.int .i64 x)) ((refine HS.out _ ?_; first | with_reducible exact bl_drew _ | with_reducible assumption | (with_reducible refine bl_drew' (bl_alloc ?_ _); exact Below.refl _ _) | (with_reducible refine bl_alloc ?_ _; first | with_reducible assumption | with_reducible exact bl_drew _) | ((iterate 6 (with_reducible refine bl_set ?_ (by assumption) _)); with_reducible assumption))) (first | (go_at_call 66; refine (HCu3.out _).mono ?_; rintro e wA ⟨rfl, hbA⟩; have hkA : Below w2.heap.size w2 wA := bl_call (And.left ‹_›) hbA; (first | (have h6A := six_at (w2 := w2) (Nat.le_refl _) (of_drew hbA); generalize w2.heap.size = pp at h6A ⊢) | skip)) | (go_at_call 67; refine (HEn3.out _ (And.left ‹_›)).mono ?_; rintro e wB ⟨rfl, hbB⟩; have hkB : Below w2.heap.size w2 wB := bl_call (And.left ‹_›) hbB; (first | (have h6 := six_on h6A hbB; have h7 := h6.1; obtain ⟨v0, v1, v2, v3, v4, v5, ⟨a0, b0⟩, ⟨a1, b1⟩, ⟨a2, b2⟩, ⟨a3, b3⟩, ⟨a4, b4⟩, a5, b5⟩ := h6.all; clear h6 hbA hbB h6A) | (have h6 := six_at (w2 := w2) hkA.size hbB; generalize wA.heap.size = pp at h6 ⊢; have h7 := h6.1; obtain ⟨v0, v1, v2, v3, v4, v5, ⟨a0, b0⟩, ⟨a1, b1⟩, ⟨a2, b2⟩, ⟨a3, b3⟩, ⟨a4, b4⟩, a5, b5⟩ := h6.all; clear h6 hbA hbB) | skip)))
        all_goals
          have hS1 : Below w2.heap.size w2 _ := And.left ‹_›
          go_wp2_with fail
          go_meet
          exact ⟨rfl, hS1⟩
      case rest =>
        obtain ⟨rfl, hbc⟩ := hcut
        have HB1c := Lib.hid (show Below w1.heap.size w1 wc from bl_call HB2.out hbc)
        have HOd := Lib.hid (show wc.drew.ownsRow w1.heap.size 3 1 (.slice (some ⟨bo, 0, none⟩) 1 1) 1 [.int .i64 x] from rowE_far HO2.out (bl_drew' hbc) (fun g hg => (World.ownsRow.lt HO2.out g hg).2))
        have hbo3 : bo < wc.heap.size := Nat.lt_of_lt_of_le (World.ownsRow.lt HO2.out bo rfl).2 hbc.size
        have hab : ba ≠ bo := by rw [Hba.out, Hbo.out]; omega
        have hba3 : ba < wc.heap.size := by rw [Hba.out]; rw [Hbo.out] at hbo3; omega
        obtain ⟨-, a0, a1, a2, -⟩ := HS.out wc hbc
        have hsz1 : w1.heap.size ≤ wc.heap.size := HB1c.out.size
        have HT := Lib.hid (show ∀ W, Below wc.heap.size wc W → Below w1.heap.size w1 W ∧ W.cell? ⟨ba, 0, none⟩ = some (.int .i64 a.1) ∧ W.cell? ⟨ba, 1, none⟩ = some (.int .u64 a.2.1) ∧ W.cell? ⟨ba, 2, none⟩ = some (.int .u64 a.2.2) from fun W h => ⟨bl_call HB1c.out h, (h.cell (p := ⟨ba, 0, none⟩) hba3).trans a0, (h.cell (p := ⟨ba, 1, none⟩) hba3).trans a1, (h.cell (p := ⟨ba, 2, none⟩) hba3).trans a2⟩)
        have HT2 := Lib.hid (show ∀ W W' v, Below wc.heap.size wc W → W.grownBy W' v → v = some bo → Below w1.heap.size w1 W' ∧ W'.cell? ⟨ba, 0, none⟩ = some (.int .i64 a.1) ∧ W'.cell? ⟨ba, 1, none⟩ = some (.int .u64 a.2.1) ∧ W'.cell? ⟨ba, 2, none⟩ = some (.int .u64 a.2.2) from fun W W' v h hg hv => by
          subst hv
          have hB : Below w1.heap.size w1 W := bl_call HB1c.out h
          have hk : W'.heap[ba]? = W.heap[ba]? := hg.block ba (Nat.lt_of_lt_of_le hba3 h.size) (fun e => hab (by simpa using e))
          refine ⟨⟨hg.os.trans hB.os, hg.tape.trans hB.tape, hg.output.trans hB.output, Nat.le_trans hB.size hg.size, fun k hk => (hg.block k (Nat.lt_of_lt_of_le hk hB.size) (fun e => by simp at e; omega)).trans (hB.block k hk)⟩, ?_, ?_, ?_⟩
          · exact (World.cell?_of_block (a := ⟨ba, 0, none⟩) hk).trans ((HT.out W h).2.1)
          · exact (World.cell?_of_block (a := ⟨ba, 1, none⟩) hk).trans ((HT.out W h).2.2.1)
          · exact (World.cell?_of_block (a := ⟨ba, 2, none⟩) hk).trans ((HT.out W h).2.2.2))
        have Hr := Lib.hid hr
        have Hx := Lib.hid hx
        have Hk := Lib.hid hk
        have Hlen := Lib.hid hlen
        have hcap' := hcap
        unfold maxLen at hcap'
        clear a0 a1 a2 hbc hr hx hk hlen hab hba3 hbo3
        have HIH := Lib.hid ih
        clear ih
        cases hp : p x with
        | true =>
          rw [hp] at HA
          have HA3 := Lib.hid (show asks p l = x :: asks p (l.drop (m + 1)) from HA.out)
          clear hp HA
          by_cases hlt2 : m + 1 < z
          · have hne : ¬ (cap - (m + 1) = 0) := by omega
            have hne2 : ¬ (cap ≤ m + 1) := by omega
            have hne3 : ¬ (cap = m + 1) := by omega
            have HHi := Lib.hid (show ∀ W, Below w1.heap.size w1 W → Calls Tryz.prog 71 #[.pointer (some ⟨T, 0, none⟩), .slice (some ⟨b, off + (m + 1), none⟩) (z - (m + 1)) (cap - (m + 1)), lv, .agg #[.int .i64 a.1, .int .u64 a.2.1, .int .u64 a.2.2]] W fun e w' => ∃ ao' z' cap', e = .returned (.slice ao' z' cap') ∧ z' = (asks p (l.drop (m + 1))).length ∧ (z' = 0 → ao' = none ∧ cap' = 0) ∧ w'.ownsRow W.heap.size 3 1 (.slice ao' z' cap') z' (ints (asks p (l.drop (m + 1)))) ∧ Below W.heap.size W w' from fun (W : World) (hb : Below w1.heap.size w1 W) => HIH.out (some ⟨b, off + (m + 1), none⟩) (z - (m + 1)) (cap - (m + 1)) (l.drop (m + 1)) W (HB1.out.trans (hb.mono HB1.out.size)) (by rw [List.length_drop]; have := Hk.out; omega) (by omega) (by omega) (Nat.le_trans (Nat.sub_le _ _) hcap) (Rd.below (Hr.out.high (m + 1)) hb) (fun y hy => Hx.out y (List.mem_of_mem_drop hy)))
            have hz200 : (asks p (l.drop (m + 1))).length ≤ 200 := Nat.le_trans (vis_le _ _) (by rw [List.length_drop, Hlen.out]; omega)
            have hpos0 : 0 < (asks p (l.drop (m + 1))).length := by
              obtain ⟨y, hy⟩ : ∃ y, (l.drop (m + 1))[(l.drop (m + 1)).length / 2]? = some y := ⟨_, List.getElem?_eq_getElem (by rw [List.length_drop, Hlen.out]; omega)⟩
              rw [asks_cons hy]; simp
            generalize asks p (l.drop (m + 1)) = A at HHi hz200 hpos0 HA3
            have s1 : IntKind.i64.wrap ((m : Int) + 1) = (m : Int) + 1 := by simp [IntKind.wrap, IntKind.bits, IntKind.signed]; omega
            have s2 : (0 : Int) ≤ (m : Int) + 1 := by omega
            have s3 : (m : Int) + 1 ≤ (z : Int) := by omega
            have s4 : (m : Int) + 1 ≤ (cap : Int) := by omega
            have s5 : (z : Int) ≤ (cap : Int) := by omega
            have s6 : ((m : Int) + 1).toNat = m + 1 := by omega
            go_wp2_with fail
            go_region_held3 (fun W => Below w1.heap.size w1 W ∧ W.cell? ⟨ba, 0, none⟩ = some (.int .i64 a.1) ∧ W.cell? ⟨ba, 1, none⟩ = some (.int .u64 a.2.1) ∧ W.cell? ⟨ba, 2, none⟩ = some (.int .u64 a.2.2)) ((first | with_reducible exact HT.out _ (bl_drew _) | with_reducible exact HT.out _ hkD | with_reducible exact HTE)) (first | (go_at_call 71; refine (HHi.out _ (And.left ‹_›)).mono ?_; rintro e wD ⟨ao', z', cap', rfl, rfl, -, hrow', hbD⟩; have hkD : Below wc.heap.size wc wD := bl_call (bl_drew wc) hbD; have HR0 := Lib.hid (rowE_far HOd.out hbD (fun g hg => (World.ownsRow.lt HOd.out g hg).2)); obtain ⟨g', cap'', e', hg', hgz'⟩ := World.ownsRow.form hrow' hpos0; simp only [Value.slice.injEq] at e'; obtain ⟨rfl, -, rfl⟩ := e'; have Hrow := Lib.hid hrow'; clear hrow' hbD) | (refine step_append_lies _ rfl (.tmp 41) (.tmp 49) 36 rfl w1.heap.size 3 i0 (.int .i64 0) 1 8 Tryz.underlying36 hi0 hz0' hz1 hz2 rfl (by decide) (.slice (some ⟨bo, 0, none⟩) 1 1) 1 [.int .i64 x] rfl HR0.out ⟨g', 0, none⟩ A.length _ (ints A) rfl (by rw [ints, List.length_map, Nat.mul_one]) (World.ownsRow.cells Hrow.out rfl) (ints_one _) hpos0 (by unfold maxLen; omega) (by omega) (Nat.le_trans hsz1 hkD.size) _ rfl ?_; intro g3 cap3 wE hown3 hgrow3 hat3 hgz3; have HTE := HT2.out _ _ _ hkD hgrow3 rfl; have HO3 := Lib.hid hown3; clear hown3 hgrow3 hat3))
            go_wp2
            go_ret
            refine ⟨_, _, cap3, rfl, ?_, ?_, ?_, HTE.1⟩
            · rw [HA3.out, List.length_cons]; omega
            · intro h; omega
            · rw [HA3.out]; exact HO3.out
          · obtain rfl : z = m + 1 := by omega
            have hnil : l.drop (m + 1) = [] := List.drop_eq_nil_of_le (by rw [Hlen.out]; exact Nat.le_refl _)
            rw [hnil] at HA3
            have s1 : IntKind.i64.wrap ((m : Int) + 1) = (m : Int) + 1 := by simp [IntKind.wrap, IntKind.bits, IntKind.signed]; omega
            have s2 : (0 : Int) ≤ (m : Int) + 1 := by omega
            have s4 : (m : Int) + 1 ≤ (cap : Int) := by omega
            have s6 : ((m : Int) + 1).toNat = m + 1 := by omega
            have s7 : m + 1 - (m + 1) = 0 := by omega
            by_cases hne : cap = m + 1
            · subst hne
              have HHi := Lib.hid (show ∀ W, Below w1.heap.size w1 W → Calls Tryz.prog 71 #[.pointer (some ⟨T, 0, none⟩), .slice (some ⟨b, off, none⟩) 0 (0), lv, .agg #[.int .i64 a.1, .int .u64 a.2.1, .int .u64 a.2.2]] W fun e w' => ∃ ao' z' cap', e = .returned (.slice ao' z' cap') ∧ z' = (asks p []).length ∧ (z' = 0 → ao' = none ∧ cap' = 0) ∧ w'.ownsRow W.heap.size 3 1 (.slice ao' z' cap') z' (ints (asks p [])) ∧ Below W.heap.size W w' from fun (W : World) (hb : Below w1.heap.size w1 W) => HIH.out (some ⟨b, off, none⟩) 0 (0) [] W (HB1.out.trans (hb.mono HB1.out.size)) (by simp) (by omega) (by omega) (by unfold maxLen; omega) ⟨rfl, .inl rfl⟩ (fun y hy => absurd hy (by simp)))
              rw [show asks p [] = [] from rfl] at HHi HA3
              go_wp2_with fail
              go_region_held3 (fun W => Below w1.heap.size w1 W ∧ W.cell? ⟨ba, 0, none⟩ = some (.int .i64 a.1) ∧ W.cell? ⟨ba, 1, none⟩ = some (.int .u64 a.2.1) ∧ W.cell? ⟨ba, 2, none⟩ = some (.int .u64 a.2.2)) ((first | with_reducible exact HT.out _ (bl_drew _) | with_reducible exact HT.out _ hkD | with_reducible exact HTE)) (first | (go_at_call 71; refine (HHi.out _ (And.left ‹_›)).mono ?_; rintro e wD ⟨ao', z', cap', rfl, hz0'', hno, hrow', hbD⟩; obtain ⟨rfl, rfl⟩ := hno hz0''; subst hz0''; have hkD : Below wc.heap.size wc wD := bl_call (bl_drew wc) hbD; have HR0 := Lib.hid (rowE_far HOd.out hbD (fun g hg => (World.ownsRow.lt HOd.out g hg).2)); clear hrow' hbD))
              go_wp2
              go_ret
              refine ⟨_, _, _, rfl, ?_, ?_, ?_, (HT.out _ hkD).1⟩
              · rw [HA3.out]; rfl
              · intro h; omega
              · rw [HA3.out]; exact HR0.out
            · have hne2 : ¬ (cap ≤ m + 1) := by omega
              have HHi := Lib.hid (show ∀ W, Below w1.heap.size w1 W → Calls Tryz.prog 71 #[.pointer (some ⟨T, 0, none⟩), .slice (some ⟨b, off + (m + 1), none⟩) 0 (cap - (m + 1)), lv, .agg #[.int .i64 a.1, .int .u64 a.2.1, .int .u64 a.2.2]] W fun e w' => ∃ ao' z' cap', e = .returned (.slice ao' z' cap') ∧ z' = (asks p []).length ∧ (z' = 0 → ao' = none ∧ cap' = 0) ∧ w'.ownsRow W.heap.size 3 1 (.slice ao' z' cap') z' (ints (asks p [])) ∧ Below W.heap.size W w' from fun (W : World) (hb : Below w1.heap.size w1 W) => HIH.out (some ⟨b, off + (m + 1), none⟩) 0 (cap - (m + 1)) [] W (HB1.out.trans (hb.mono HB1.out.size)) (by simp) (by omega) (by omega) (by unfold maxLen; omega) ⟨rfl, .inl rfl⟩ (fun y hy => absurd hy (by simp)))
              rw [show asks p [] = [] from rfl] at HHi HA3
              go_wp2_with fail
              go_region_held3 (fun W => Below w1.heap.size w1 W ∧ W.cell? ⟨ba, 0, none⟩ = some (.int .i64 a.1) ∧ W.cell? ⟨ba, 1, none⟩ = some (.int .u64 a.2.1) ∧ W.cell? ⟨ba, 2, none⟩ = some (.int .u64 a.2.2)) ((first | with_reducible exact HT.out _ (bl_drew _) | with_reducible exact HT.out _ hkD | with_reducible exact HTE)) (first | (go_at_call 71; refine (HHi.out _ (And.left ‹_›)).mono ?_; rintro e wD ⟨ao', z', cap', rfl, hz0'', hno, hrow', hbD⟩; obtain ⟨rfl, rfl⟩ := hno hz0''; subst hz0''; have hkD : Below wc.heap.size wc wD := bl_call (bl_drew wc) hbD; have HR0 := Lib.hid (rowE_far HOd.out hbD (fun g hg => (World.ownsRow.lt HOd.out g hg).2)); clear hrow' hbD))
              go_wp2
              go_ret
              refine ⟨_, _, _, rfl, ?_, ?_, ?_, (HT.out _ hkD).1⟩
              · rw [HA3.out]; rfl
              · intro h; omega
              · rw [HA3.out]; exact HR0.out
        | false =>
          rw [hp] at HA
          have HA3 := Lib.hid (show asks p l = x :: asks p (l.take m) from HA.out)
          clear hp HA
          have s3 : (m : Int) ≤ (z : Int) := by omega
          have s4 : (m : Int) ≤ (cap : Int) := by omega
          have s5 : (z : Int) ≤ (cap : Int) := by omega
          by_cases hlt2 : 0 < m
          · have HHi := Lib.hid (show ∀ W, Below w1.heap.size w1 W → Calls Tryz.prog 71 #[.pointer (some ⟨T, 0, none⟩), .slice (some ⟨b, off, none⟩) m cap, lv, .agg #[.int .i64 a.1, .int .u64 a.2.1, .int .u64 a.2.2]] W fun e w' => ∃ ao' z' cap', e = .returned (.slice ao' z' cap') ∧ z' = (asks p (l.take m)).length ∧ (z' = 0 → ao' = none ∧ cap' = 0) ∧ w'.ownsRow W.heap.size 3 1 (.slice ao' z' cap') z' (ints (asks p (l.take m))) ∧ Below W.heap.size W w' from fun (W : World) (hb : Below w1.heap.size w1 W) => HIH.out (some ⟨b, off, none⟩) m cap (l.take m) W (HB1.out.trans (hb.mono HB1.out.size)) (by rw [List.length_take]; have := Hk.out; have := Hlen.out; omega) (by omega) (by omega) hcap (Rd.below (Hr.out.low (by omega)) hb) (fun y hy => Hx.out y (List.mem_of_mem_take hy)))
            have hz200 : (asks p (l.take m)).length ≤ 200 := Nat.le_trans (vis_le _ _) (by rw [List.length_take]; omega)
            have hpos0 : 0 < (asks p (l.take m)).length := by
              obtain ⟨y, hy⟩ : ∃ y, (l.take m)[(l.take m).length / 2]? = some y := ⟨_, List.getElem?_eq_getElem (by rw [List.length_take, Hlen.out]; omega)⟩
              rw [asks_cons hy]; simp
            generalize asks p (l.take m) = A at HHi hz200 hpos0 HA3
            go_wp2_with fail
            go_region_held3 (fun W => Below w1.heap.size w1 W ∧ W.cell? ⟨ba, 0, none⟩ = some (.int .i64 a.1) ∧ W.cell? ⟨ba, 1, none⟩ = some (.int .u64 a.2.1) ∧ W.cell? ⟨ba, 2, none⟩ = some (.int .u64 a.2.2)) ((first | with_reducible exact HT.out _ (bl_drew _) | with_reducible exact HT.out _ hkD | with_reducible exact HTE)) (first | (go_at_call 71; refine (HHi.out _ (And.left ‹_›)).mono ?_; rintro e wD ⟨ao', z', cap', rfl, rfl, -, hrow', hbD⟩; have hkD : Below wc.heap.size wc wD := bl_call (bl_drew wc) hbD; have HR0 := Lib.hid (rowE_far HOd.out hbD (fun g hg => (World.ownsRow.lt HOd.out g hg).2)); obtain ⟨g', cap'', e', hg', hgz'⟩ := World.ownsRow.form hrow' hpos0; simp only [Value.slice.injEq] at e'; obtain ⟨rfl, -, rfl⟩ := e'; have Hrow := Lib.hid hrow'; clear hrow' hbD) | (refine step_append_lies _ rfl (.tmp 51) (.tmp 58) 36 rfl w1.heap.size 3 i0 (.int .i64 0) 1 8 Tryz.underlying36 hi0 hz0' hz1 hz2 rfl (by decide) (.slice (some ⟨bo, 0, none⟩) 1 1) 1 [.int .i64 x] rfl HR0.out ⟨g', 0, none⟩ A.length _ (ints A) rfl (by rw [ints, List.length_map, Nat.mul_one]) (World.ownsRow.cells Hrow.out rfl) (ints_one _) hpos0 (by unfold maxLen; omega) (by omega) (Nat.le_trans hsz1 hkD.size) _ rfl ?_; intro g3 cap3 wE hown3 hgrow3 hat3 hgz3; have HTE := HT2.out _ _ _ hkD hgrow3 rfl; have HO3 := Lib.hid hown3; clear hown3 hgrow3 hat3))
            go_wp2
            go_ret
            refine ⟨_, _, cap3, rfl, ?_, ?_, ?_, HTE.1⟩
            · rw [HA3.out, List.length_cons]; omega
            · intro h; omega
            · rw [HA3.out]; exact HO3.out
          · obtain rfl : m = 0 := by omega
            rw [List.take_zero] at HA3
            have HHi := Lib.hid (show ∀ W, Below w1.heap.size w1 W → Calls Tryz.prog 71 #[.pointer (some ⟨T, 0, none⟩), .slice (some ⟨b, off, none⟩) 0 (cap), lv, .agg #[.int .i64 a.1, .int .u64 a.2.1, .int .u64 a.2.2]] W fun e w' => ∃ ao' z' cap', e = .returned (.slice ao' z' cap') ∧ z' = (asks p []).length ∧ (z' = 0 → ao' = none ∧ cap' = 0) ∧ w'.ownsRow W.heap.size 3 1 (.slice ao' z' cap') z' (ints (asks p [])) ∧ Below W.heap.size W w' from fun (W : World) (hb : Below w1.heap.size w1 W) => HIH.out (some ⟨b, off, none⟩) 0 (cap) [] W (HB1.out.trans (hb.mono HB1.out.size)) (by simp) (by omega) (by omega) (by unfold maxLen; omega) ⟨rfl, .inl rfl⟩ (fun y hy => absurd hy (by simp)))
            rw [show asks p [] = [] from rfl] at HHi HA3
            go_wp2_with fail
            go_region_held3 (fun W => Below w1.heap.size w1 W ∧ W.cell? ⟨ba, 0, none⟩ = some (.int .i64 a.1) ∧ W.cell? ⟨ba, 1, none⟩ = some (.int .u64 a.2.1) ∧ W.cell? ⟨ba, 2, none⟩ = some (.int .u64 a.2.2)) ((first | with_reducible exact HT.out _ (bl_drew _) | with_reducible exact HT.out _ hkD | with_reducible exact HTE)) (first | (go_at_call 71; refine (HHi.out _ (And.left ‹_›)).mono ?_; rintro e wD ⟨ao', z', cap', rfl, hz0'', hno, hrow', hbD⟩; obtain ⟨rfl, rfl⟩ := hno hz0''; subst hz0''; have hkD : Below wc.heap.size wc wD := bl_call (bl_drew wc) hbD; have HR0 := Lib.hid (rowE_far HOd.out hbD (fun g hg => (World.ownsRow.lt HOd.out g hg).2)); clear hrow' hbD))
            go_wp2
            go_ret
            refine ⟨_, _, _, rfl, ?_, ?_, ?_, (HT.out _ hkD).1⟩
            · rw [HA3.out]; rfl
            · intro h; omega
            · rw [HA3.out]; exact HR0.out
end Go.Proofs.YtnfkgnjeamnhfaaGreat
namespace Go.Proofs.YtnfkgnjeamnhfaaGreat
open Go.RowKit Go.Sort

set_option maxHeartbeats 1000000 in
theorem raddr_none (a : Ad) (w : World) (h4 : ¬ a.1 = 4) (h6 : ¬ a.1 = 6) : Calls Tryz.prog 70 #[adV a] w fun e w' => e = .returned (.int .i64 2) ∧ Below w.heap.size w w' := by
  have HZ := Lib.hid (fun w => H.rsize_no a.1 w h4 h6)
  clear h4 h6
  go_enter Tryz.func70, Tryz.ntmps70
  go_wp2_with (go_at_call 62; refine (HZ.out _).mono ?_; rintro e w' ⟨rfl, rfl⟩)
  go_ret
  exact ⟨rfl, box1 _ _⟩
theorem raddr_any (a : Ad) (w : World) : Calls Tryz.prog 70 #[adV a] w fun e w' => e = .returned (.int .i64 (H.adrE a.1 a.2.1 a.2.2)) ∧ Below w.heap.size w w' := by
  obtain ⟨f, hi, lo⟩ := a
  simp only []
  unfold H.adrE
  by_cases h4 : f = 4
  · subst h4
    rw [if_pos rfl]
    rcases Nat.eq_zero_or_pos hi with h0 | h0
    · subst h0
      by_cases hl : lo ≤ 4294967295
      · rw [if_pos ⟨rfl, by omega⟩]; exact H.raddr_4y lo w hl
      · rw [if_neg (by omega)]; exact H.raddr_4n lo w hl
    · rw [if_neg (by omega)]; exact H.raddr_4h hi lo w h0
  · rw [if_neg h4]
    by_cases h6 : f = 6
    · subst h6; rw [if_pos rfl]; exact H.raddr_6 hi lo w
    · rw [if_neg h6]; exact raddr_none (f, hi, lo) w h4 h6
theorem adr_ok {a : Ad} (h : H.adrE a.1 a.2.1 a.2.2 = 0) (hf : FitA a) : Adr a := by
  unfold H.adrE at h
  unfold Adr
  unfold FitA at hf
  split at h
  · split at h
    · exact .inl ⟨by assumption, (by assumption : a.2.1 = 0 ∧ a.2.2 < 4294967296)⟩
    · cases h
  · split at h
    · exact .inr ⟨by assumption, hf⟩
    · cases h
theorem own_cap {w : World} {N e z n : Nat} {ao : Option Addr} {cap : Nat} {xs : List Value} (h : w.ownsRow N e z (.slice ao n cap) n xs) : n ≤ cap ∧ cap ≤ maxLen := by
  rcases h.2 with ⟨h1, h2⟩ | ⟨g, c, cur, h1, -, -, h2, h3, -⟩
  · simp only [Value.slice.injEq] at h1
    unfold maxLen; omega
  · simp only [Value.slice.injEq] at h1
    obtain ⟨-, -, rfl⟩ := h1
    exact ⟨h2, h3⟩
/-- What the document's Lookup tells. -/
def LkD (rs : List Rt) (a : Ad) (n g : Int) : Prop :=
  (n = -1 ∧ g = -1 ∧ bst (famF rs a.1) a 128 = -1) ∨ ∃ r ∈ rs, r.f = a.1 ∧ Mat a 128 r ∧ r.n = bst (famF rs a.1) a 128 ∧ n = r.n ∧ g = r.g
set_option maxRecDepth 4000 in
set_option maxHeartbeats 2000000 in
theorem rlook_go (N T : Nat) (v : Value) (rs : List Rt) (a : Ad) (w : World) (hc : w.cell? ⟨T, 3, none⟩ = some v) (hr : RwO w N v rs) (hlen : rs.length ≤ 1000) (hg : ∀ r ∈ rs, Gd r) (ha : Adr a) (hfam : H.adrE a.1 a.2.1 a.2.2 = 0) :
    Calls Tryz.prog 29 #[.pointer (some ⟨T, 0, none⟩), adV a] w fun e w' => ∃ ln gn ao n cap, e = .returned (.tuple #[fdV ln gn (.slice ao n cap), .int .i64 0]) ∧ LkD rs a ln gn ∧ n = (asks (fnd (famF rs a.1) (lnsD rs a.1) a) (lnsD rs a.1)).length ∧ w'.ownsRow w.heap.size 3 1 (.slice ao n cap) n (ints (asks (fnd (famF rs a.1) (lnsD rs a.1) a) (lnsD rs a.1))) ∧ Below w.heap.size w w' := by
  have hT : T < w.heap.size := World.block_lt_of_cell? w ⟨T, 3, none⟩ hc
  have hfa := adrE_ok hfam
  have HC := Lib.hid (fun (w : World) => raddr_any a w)
  rw [hfam] at HC
  obtain ⟨L, hLd⟩ : ∃ L, L = lnsD rs a.1 := ⟨_, rfl⟩
  rw [← hLd]
  have hLo : LensOf L (famF rs a.1) := by rw [hLd]; exact lnsD_of hg a.1
  have hL1 : L.length ≤ 129 := by rw [hLd]; unfold lnsD; refine Nat.le_trans (lensF_le _ _ _) ?_; split <;> omega
  have HL := Lib.hid (fun (w1 : World) (hb : Below w.heap.size w w1) => show Calls Tryz.prog 63 #[.pointer (some ⟨T, 0, none⟩), .int .i64 a.1] w1 fun e w' => ∃ ao n cap, e = .returned (.slice ao n cap) ∧ n = L.length ∧ w'.ownsRow w1.heap.size 3 1 (.slice ao n cap) n (ints L) ∧ Below w1.heap.size w1 w' by
    rw [hLd]
    unfold lnsD
    rcases hfa with h4 | h6
    · have := lengths_any N T v rs a.1 w1 (.inl h4) 32 (by omega) (by rw [if_pos h4]; rfl) ((hb.cell (p := ⟨T, 3, none⟩) hT).trans hc) (hr.far hb (fun g hg => (World.ownsRow.lt hr g hg).2)) hlen
      rw [if_pos h4]; exact this
    · have := lengths_any N T v rs a.1 w1 (.inr h6) 128 (by omega) (by rw [if_neg (by omega)]; rfl) ((hb.cell (p := ⟨T, 3, none⟩) hT).trans hc) (hr.far hb (fun g hg => (World.ownsRow.lt hr g hg).2)) hlen
      rw [if_neg (by omega)]; exact this)
  have HK := Lib.hid (fun (w1 : World) (hb : Below w.heap.size w w1) (ao : Option Addr) (cap : Nat) (hl : Rd w1 ao L.length L) (hc1 : L.length ≤ cap) (hc2 : cap ≤ maxLen) => show Calls Tryz.prog 71 #[.pointer (some ⟨T, 0, none⟩), .slice ao L.length cap, .slice ao L.length cap, .agg #[.int .i64 a.1, .int .u64 a.2.1, .int .u64 a.2.2]] w1 fun e w' => ∃ ao' z' cap', e = .returned (.slice ao' z' cap') ∧ z' = (asks (fnd (famF rs a.1) L a) L).length ∧ (z' = 0 → ao' = none ∧ cap' = 0) ∧ w'.ownsRow w1.heap.size 3 1 (.slice ao' z' cap') z' (ints (asks (fnd (famF rs a.1) L a) L)) ∧ Below w1.heap.size w1 w' from
    rasked_any N T v rs (.slice ao L.length cap) L a w1 ((hb.cell (p := ⟨T, 3, none⟩) hT).trans hc) (hr.far hb (fun g hg => (World.ownsRow.lt hr g hg).2)) hlen hg ha ⟨ao, L.length, cap, rfl, hl, hc1, hc2, by omega⟩ hLo.up (fun r hr hf => (hLo.mem _).2 ⟨r, famF_mem.2 ⟨hr, hf⟩, rfl⟩) L.length ao L.length cap L w1 (Below.refl _ _) (Nat.le_refl _) (by omega) hc1 hc2 hl (fun y hy => by
      obtain ⟨r, hr', rfl⟩ := (hLo.mem y).1 hy
      have h1 := famF_mem.1 hr'
      have := wid_le (hg r h1.1)
      rw [h1.2] at this; exact this))
  have HG := Lib.hid (fun (w1 : World) (hb : Below w.heap.size w w1) => show Calls Tryz.prog 72 #[.pointer (some ⟨T, 0, none⟩), .agg #[.int .i64 a.1, .int .u64 a.2.1, .int .u64 a.2.2], .int .i64 128] w1 fun e w' => ∃ bi : Int, e = .returned (.int .i64 bi) ∧ LgI rs a 128 rs.length bi ∧ Below w1.heap.size w1 w' from rlongest_any N T v rs a 128 w1 ((hb.cell (p := ⟨T, 3, none⟩) hT).trans hc) (hr.far hb (fun g hg => (World.ownsRow.lt hr g hg).2)) hlen hg ha)
  generalize asks (fnd (famF rs a.1) L a) L = A at HK ⊢
  obtain ⟨w0, hw0⟩ : ∃ w0, w0 = (w.alloc (.cells #[.int .i64 a.1, .int .u64 a.2.1, .int .u64 a.2.2] 31)).alloc (.cells #[.int .i64 0, .int .i64 0, .slice none 0 0] 73) := ⟨_, rfl⟩
  obtain ⟨ba, hba⟩ : ∃ x, x = w.heap.size := ⟨_, rfl⟩
  obtain ⟨br, hbr⟩ : ∃ x, x = w.heap.size + 1 := ⟨_, rfl⟩
  have HA0 := Lib.hid (show St w0 ba 3 (adF a) by rw [hw0, hba]; exact (ad_at a _ rfl).alloc (by decide) _)
  have HR0 := Lib.hid (show St w0 br 3 fdF by rw [hw0, hbr]; exact fd_at _ (by simp))
  have HB0 := Lib.hid (show Below w.heap.size w w0 by rw [hw0]; exact two_boxes _ _ _)
  have Hbl := Lib.hid (show w.heap.size ≤ br by omega)
  have Hw0 := Lib.hid hw0
  have Hba := Lib.hid hba
  have Hbr := Lib.hid hbr
  have Hcr := Lib.hid (And.intro hc hr)
  clear hw0 hba hbr hc hr hg hLo hLd hfa hfam ha
  go_enter Tryz.func29, Tryz.ntmps29
  go_wp2_with fail
  rw [← Hw0.out, ← Hbr.out, ← Hba.out]
  refine (HC.out _).mono ?_
  rintro e w1 ⟨rfl, hb1⟩
  have HA1 := Lib.hid (HA0.out.below hb1 (HA0.out.lt (by decide)))
  have HR1 := Lib.hid (HR0.out.below hb1 (HR0.out.lt (by decide)))
  have HB1 := Lib.hid (HB0.out.trans (hb1.mono HB0.out.size))
  have a0 : w1.cell? ⟨ba, 0, none⟩ = some (.int .i64 a.1) := (HA1.out 0 (by decide)).1
  clear hb1
  go_wp2_with fail
  refine (HL.out _ HB1.out).mono ?_
  rintro e w2 ⟨ao, n, cap, rfl, rfl, hrow, hb2⟩
  have hrd := rd_row hrow rfl
  have hcap : L.length ≤ cap ∧ cap ≤ maxLen := own_cap hrow
  have HA2 := Lib.hid (HA1.out.below hb2 (HA1.out.lt (by decide)))
  have HR2 := Lib.hid (HR1.out.below hb2 (HR1.out.lt (by decide)))
  have HB2 := Lib.hid (HB1.out.trans (hb2.mono HB1.out.size))
  have HK2 := Lib.hid (fun (w3 : World) (hb : Below w2.heap.size w2 w3) => HK.out w3 (HB2.out.trans (hb.mono HB2.out.size)) ao cap (Rd.below hrd hb) hcap.1 hcap.2)
  clear hb2 a0 hrow hrd hcap
  have a0 : w2.cell? ⟨ba, 0, none⟩ = some (.int .i64 a.1) := (HA2.out 0 (by decide)).1
  have a1 : w2.cell? ⟨ba, 1, none⟩ = some (.int .u64 a.2.1) := (HA2.out 1 (by decide)).1
  have a2 : w2.cell? ⟨ba, 2, none⟩ = some (.int .u64 a.2.2) := (HA2.out 2 (by decide)).1
  go_wp2_with fail
  refine (HK2.out _ (Below.refl _ _)).mono ?_
  rintro e w3 ⟨ao3, n3, cap3, rfl, rfl, -, hrow3, hb3⟩
  obtain ⟨w4, hw4⟩ : ∃ w4, w4 = w3.alloc (.cells #[.int .i64 (-1), .int .i64 (-1), .slice ao3 A.length cap3] 73) := ⟨_, rfl⟩
  obtain ⟨bx, hbx⟩ : ∃ x, x = w3.heap.size := ⟨_, rfl⟩
  have hb4 : Below w3.heap.size w3 w4 := by rw [hw4]; exact box1 _ _
  have HX4 := Lib.hid (show St w4 bx 3 (fun j => if j = 0 then .int .i64 (-1) else if j = 1 then .int .i64 (-1) else .slice ao3 A.length cap3) by
    rw [hw4, hbx]
    refine (St.new w3 _ _).congr fun j hj => ?_
    have hj : j < 3 := hj
    iterate 3 (rcases j with _ | j; · rfl)
    omega)
  have hA3 := HA2.out.below hb3 (HA2.out.lt (by decide))
  have hR3 := HR2.out.below hb3 (HR2.out.lt (by decide))
  have HA4 := Lib.hid (hA3.below hb4 (hA3.lt (by decide)))
  have HR4 := Lib.hid (hR3.below hb4 (hR3.lt (by decide)))
  have hB3 := HB2.out.trans (hb3.mono HB2.out.size)
  have HB4 := Lib.hid (hB3.trans (hb4.mono hB3.size))
  have HO4 := Lib.hid (rowE_far hrow3 hb4 (fun g hg => (World.ownsRow.lt hrow3 g hg).2))
  have hz2 : w.heap.size ≤ w2.heap.size := HB2.out.size
  have hne : ∀ g, (Value.slice ao3 A.length cap3).ownBlock = some g → g ≠ br ∧ g ≠ bx := fun g hg => by
    have h1 := World.ownsRow.lt hrow3 g hg
    have h2 := HR2.out.lt (by decide)
    omega
  have Hne := Lib.hid hne
  have hxr : bx ≠ br := by have h2 := hR3.lt (by decide); omega
  have hbxl : w.heap.size ≤ bx := by rw [hbx]; exact hB3.size
  have Hw4 := Lib.hid hw4
  have Hbx := Lib.hid hbx
  clear hw4 hbx hb3 hb4 hrow3 hA3 hR3 hB3 hne a0 a1 a2
  have a0 : w4.cell? ⟨ba, 0, none⟩ = some (.int .i64 a.1) := (HA4.out 0 (by decide)).1
  have a1 : w4.cell? ⟨ba, 1, none⟩ = some (.int .u64 a.2.1) := (HA4.out 1 (by decide)).1
  have a2 : w4.cell? ⟨ba, 2, none⟩ = some (.int .u64 a.2.2) := (HA4.out 2 (by decide)).1
  go_upto_region 6 with fail
  rw [← Hw4.out, ← Hbx.out]
  go_wp2_with fail
  refine (HG.out _ HB4.out).mono ?_
  rintro e w5 ⟨bi, rfl, hlg, hb5⟩
  have HX5 := Lib.hid (HX4.out.below hb5 (HX4.out.lt (by decide)))
  have HR5 := Lib.hid (HR4.out.below hb5 (HR4.out.lt (by decide)))
  have HB5 := Lib.hid (HB4.out.trans (hb5.mono HB4.out.size))
  have HO5 := Lib.hid (row_lower (rowE_far HO4.out hb5 (fun g hg => (World.ownsRow.lt HO4.out g hg).2)) hz2)
  have hcT := (HB5.out.cell (p := ⟨T, 3, none⟩) hT).trans Hcr.out.1
  have hrT := Hcr.out.2.far HB5.out (fun g hg => (World.ownsRow.lt Hcr.out.2 g hg).2)
  clear hb5 a0 a1 a2
  have r0 : w5.cell? ⟨br, 0, none⟩ = some (.int .i64 0) := (HR5.out 0 (by decide)).1
  have r1 : w5.cell? ⟨br, 1, none⟩ = some (.int .i64 0) := (HR5.out 1 (by decide)).1
  have r2 : w5.cell? ⟨br, 2, none⟩ = some (.slice none 0 0) := (HR5.out 2 (by decide)).1
  have f0 := (HR5.out 0 (by decide)).2
  have f1 := (HR5.out 1 (by decide)).2
  have f2 := (HR5.out 2 (by decide)).2
  have x0 : w5.cell? ⟨bx, 0, none⟩ = some (.int .i64 (-1)) := (HX5.out 0 (by decide)).1
  have x1 : w5.cell? ⟨bx, 1, none⟩ = some (.int .i64 (-1)) := (HX5.out 1 (by decide)).1
  have x2 : w5.cell? ⟨bx, 2, none⟩ = some (.slice ao3 A.length cap3) := (HX5.out 2 (by decide)).1
  have y0 := (HX5.out 0 (by decide)).2
  have y1 := (HX5.out 1 (by decide)).2
  rcases hlg with ⟨rfl, hbst⟩ | ⟨j, r, rfl, hj, hf, hm, he⟩
  · have HD := Lib.hid (show LkD rs a (-1) (-1) from .inl ⟨rfl, rfl, by rw [List.take_length] at hbst; exact hbst⟩)
    clear hbst hcT hrT y0 y1
    go_wp2
    refine bodyPost_ret (v := .tuple #[fdV (-1) (-1) (.slice ao3 A.length cap3), .int .i64 0]) (by simp [results, Tryz.results29, go_sem, r0, r1, r2]) rfl ⟨_, _, ao3, _, cap3, rfl, HD.out, rfl, ?_, ?_⟩
    · exact row_set (row_set (row_set HO5.out (fun g hg => (Hne.out g hg).1) _) (fun g hg => (Hne.out g hg).1) _) (fun g hg => (Hne.out g hg).1) _
    · exact below_set (below_set (below_set HB5.out Hbl.out _) Hbl.out _) Hbl.out _
  · have HD := Lib.hid (show LkD rs a r.n r.g from .inr ⟨r, List.mem_of_getElem? hj, hf, hm, by rw [List.take_length] at he; exact he, rfl, rfl⟩)
    obtain ⟨vo, vc, rfl, -⟩ := RwO.form hrT
    obtain ⟨g, rfl, hat, -, hg1, hg2⟩ := hrT.at hj
    have hjl : j < rs.length := (List.getElem?_eq_some_iff.1 hj).1
    have q1 : (j : Int) < (rs.length : Int) := by omega
    have q0 : (0 : Int) ≤ (j : Int) := by omega
    have z0 := hat.c0
    have z1 := hat.c1
    have z2 := hat.c2
    have z3 := hat.c3
    have z4 := hat.c4
    clear hat hj hm he hrT
    go_wp2
    refine bodyPost_ret (v := .tuple #[fdV r.n r.g (.slice ao3 A.length cap3), .int .i64 0]) (by simp [results, Tryz.results29, go_sem, r0, r1, r2]) rfl ⟨_, _, ao3, _, cap3, rfl, HD.out, rfl, ?_, ?_⟩
    · exact row_set (row_set (row_set (row_set (row_set HO5.out (fun g hg => (Hne.out g hg).2) _) (fun g hg => (Hne.out g hg).2) _) (fun g hg => (Hne.out g hg).1) _) (fun g hg => (Hne.out g hg).1) _) (fun g hg => (Hne.out g hg).1) _
    · exact below_set (below_set (below_set (below_set (below_set HB5.out hbxl _) hbxl _) Hbl.out _) Hbl.out _) Hbl.out _
set_option maxHeartbeats 1000000 in
theorem rlook_no (T : Nat) (a : Ad) (x : Int) (w : World) (hx : x = H.adrE a.1 a.2.1 a.2.2) (h0 : ¬ x = 0) :
    Calls Tryz.prog 29 #[.pointer (some ⟨T, 0, none⟩), adV a] w fun e w' => e = .returned (.tuple #[fdV 0 0 (.slice none 0 0), .int .i64 x]) ∧ Below w.heap.size w w' := by
  have HC := Lib.hid (fun (w : World) => raddr_any a w)
  rw [← hx] at HC
  have q : (x == 0) = false := ine_beq h0
  obtain ⟨w0, hw0⟩ : ∃ w0, w0 = (w.alloc (.cells #[.int .i64 a.1, .int .u64 a.2.1, .int .u64 a.2.2] 31)).alloc (.cells #[.int .i64 0, .int .i64 0, .slice none 0 0] 73) := ⟨_, rfl⟩
  obtain ⟨ba, hba⟩ : ∃ x, x = w.heap.size := ⟨_, rfl⟩
  obtain ⟨br, hbr⟩ : ∃ x, x = w.heap.size + 1 := ⟨_, rfl⟩
  have HR0 := Lib.hid (show St w0 br 3 fdF by rw [hw0, hbr]; exact fd_at _ (by simp))
  have HB0 := Lib.hid (show Below w.heap.size w w0 by rw [hw0]; exact two_boxes _ _ _)
  have Hbl := Lib.hid (show w.heap.size ≤ br by omega)
  have Hw0 := Lib.hid hw0
  have Hba := Lib.hid hba
  have Hbr := Lib.hid hbr
  clear hw0 hba hbr hx h0
  go_enter Tryz.func29, Tryz.ntmps29
  go_wp2_with fail
  rw [← Hw0.out, ← Hbr.out, ← Hba.out]
  refine (HC.out _).mono ?_
  rintro e w1 ⟨rfl, hb1⟩
  have HR1 := Lib.hid (HR0.out.below hb1 (HR0.out.lt (by decide)))
  have HB1 := Lib.hid (HB0.out.trans (hb1.mono HB0.out.size))
  clear hb1
  have r0 : w1.cell? ⟨br, 0, none⟩ = some (.int .i64 0) := (HR1.out 0 (by decide)).1
  have r1 : w1.cell? ⟨br, 1, none⟩ = some (.int .i64 0) := (HR1.out 1 (by decide)).1
  have r2 : w1.cell? ⟨br, 2, none⟩ = some (.slice none 0 0) := (HR1.out 2 (by decide)).1
  have f0 := (HR1.out 0 (by decide)).2
  have f1 := (HR1.out 1 (by decide)).2
  have f2 := (HR1.out 2 (by decide)).2
  go_wp2
  refine bodyPost_ret (v := .tuple #[fdV 0 0 (.slice none 0 0), .int .i64 x]) (by simp [results, Tryz.results29, go_sem, r0, r1, r2]) rfl ⟨rfl, ?_⟩
  exact below_set (below_set (below_set HB1.out Hbl.out _) Hbl.out _) Hbl.out _
end Go.Proofs.YtnfkgnjeamnhfaaGreat
