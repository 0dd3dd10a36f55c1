import Derived.Test.YtnfkgnjeamnhfaaGreatTi
namespace Go.Proofs.YtnfkgnjeamnhfaaGreat
open Go.RowKit Go.Sort

/-! ### The document's tree. -/
/-- An address of its family. -/
def Adr (a : Ad) : Prop := (a.1 = 4 ∧ a.2.1 = 0 ∧ a.2.2 < 4294967296) ∨ (a.1 = 6 ∧ a.2.1 ≤ 18446744073709551615 ∧ a.2.2 ≤ 18446744073709551615)
theorem Adr.fam {a : Ad} (h : Adr a) : a.1 = 4 ∨ a.1 = 6 := h.elim (fun h => .inl h.1) (fun h => .inr h.1)
theorem Adr.fit {a : Ad} (h : Adr a) : FitA a := by unfold FitA; rcases h with h | h <;> omega
theorem Gd.adr {r : Rt} (h : Gd r) : Adr (adR r) := by
  rcases chk_ok h.ok with h1 | h1
  · exact .inl ⟨h1.1, h1.2.2.2.1, h1.2.2.2.2.1⟩
  · exact .inr ⟨h1.1, h.fit.1, h.fit.2⟩
theorem Adr.cut {a : Ad} (h : Adr a) (n : Int) : Adr (cutD a n) := by
  rcases h with h | h
  · left
    refine ⟨by rw [cutD_fam]; exact h.1, ?_⟩
    unfold cutD
    rw [if_pos h.1]
    exact ⟨h.2.1, Nat.lt_of_le_of_lt (clr_le' _ _) h.2.2⟩
  · right
    refine ⟨by rw [cutD_fam]; exact h.1, ?_⟩
    unfold cutD
    rw [if_neg (by omega)]
    exact ⟨Nat.le_trans (clr_le' _ _) h.2.1, Nat.le_trans (clr_le' _ _) h.2.2⟩
theorem rcut_any (a : Ad) (m : Int) (w : World) (ha : Adr a) (h0 : 0 ≤ m) (h1 : m ≤ wid a.1) :
    Calls Tryz.prog 66 #[adV a, .int .i64 m] w fun e w' => e = .returned (adV (cutD a m)) ∧ Below w.heap.size w w' := by
  obtain ⟨f, hi, lo⟩ := a
  obtain ⟨n, rfl⟩ : ∃ n : Nat, m = (n : Int) := ⟨m.toNat, by omega⟩
  rcases ha with ⟨h2, h3, h4⟩ | ⟨h2, h3, h4⟩
  · simp only [] at h2 h3 h4
    subst h2 h3
    have hn : n ≤ 32 := by unfold wid at h1; simp at h1; omega
    have h := H.rcut4 0 lo n w (by omega) hn
    rw [H.numF_cut lo 32 n (by omega) hn] at h
    have e : cutD (4, 0, lo) (n : Int) = (4, 0, H.clr lo (32 - n)) := by
      unfold cutD
      rw [if_pos rfl, show (32 - (n : Int)).toNat = 32 - n by omega]
    rw [e]
    exact h
  · simp only [] at h2 h3 h4
    subst h2
    have hn : n ≤ 128 := by unfold wid at h1; simp at h1; omega
    have h := H.rcut6 hi lo n w h3 h4 hn
    rw [H.cut_hi hi lo n h3, H.cut_lo hi lo n h4 hn] at h
    have e : cutD (6, hi, lo) (n : Int) = (6, H.clr hi (64 - n), H.clr lo (128 - n)) := by
      unfold cutD
      rw [if_neg (show ¬ (6 : Int) = 4 by decide), show (128 - (n : Int) - 64).toNat = 64 - n by omega, show (128 - (n : Int)).toNat = 128 - n by omega]
    rw [e]
    exact h
set_option maxHeartbeats 1000000 in
theorem rcontains_any (p : Ad) (n : Int) (a : Ad) (w : World) (ha : Adr a) (h0 : 0 ≤ n) (h1 : n ≤ wid a.1) :
    Calls Tryz.prog 116 #[prV p n, adV a] w fun e w' => e = .returned (.bool (decide (p = cutD a n))) ∧ Below w.heap.size w w' := by
  have HC := Lib.hid (fun (w : World) => rcut_any a n w ha h0 h1)
  have hE := eql_ad p (cutD a n)
  generalize decide (p = cutD a n) = t at *
  generalize cutD a n = c at *
  obtain ⟨w0, hw0⟩ : ∃ w0, w0 = (w.alloc (.cells #[.int .i64 p.1, .int .u64 p.2.1, .int .u64 p.2.2, .int .i64 n] 33)).alloc (.cells #[.int .i64 a.1, .int .u64 a.2.1, .int .u64 a.2.2] 31) := ⟨_, rfl⟩
  obtain ⟨bp, hbp⟩ : ∃ x, x = w.heap.size := ⟨_, rfl⟩
  have HP0 := Lib.hid (show St w0 bp 4 (prF p n) by rw [hw0, hbp]; exact (pr_new w p n _).alloc (by decide) _)
  have HB0 := Lib.hid (show Below w.heap.size w w0 by rw [hw0]; exact two_boxes _ _ _)
  have Hw0 := Lib.hid hw0
  have Hbp := Lib.hid hbp
  clear ha h0 h1 hw0 hbp
  go_enter Tryz.func116, Tryz.ntmps116
  go_wp2_with fail
  rw [← Hw0.out, ← Hbp.out]
  refine (HC.out _).mono ?_
  rintro e w1 ⟨rfl, hb1⟩
  have HP1 := Lib.hid (HP0.out.below hb1 (HP0.out.lt (by decide)))
  have HB1 := Lib.hid (HB0.out.trans (hb1.mono HB0.out.size))
  have hz1 := HP1.out.lt (by decide)
  have p0 : w1.cell? ⟨bp, 0, none⟩ = some (.int .i64 p.1) := (HP1.out 0 (by decide)).1
  have p1 : w1.cell? ⟨bp, 1, none⟩ = some (.int .u64 p.2.1) := (HP1.out 1 (by decide)).1
  have p2 : w1.cell? ⟨bp, 2, none⟩ = some (.int .u64 p.2.2) := (HP1.out 2 (by decide)).1
  clear hb1
  go_wp2
  go_ret
  exact ⟨rfl, HB1.out.alloc HB1.out.size _⟩

theorem Rd.low {w : World} {b off n : Nat} {xs : List Int} (h : Rd w (some ⟨b, off, none⟩) n xs) {m : Nat} (hm : m ≤ n) : Rd w (some ⟨b, off, none⟩) m (xs.take m) := by
  refine ⟨by rw [List.length_take, h.1]; omega, ?_⟩
  rcases h.2 with h0 | ⟨b', off', h1, h2⟩
  · exact .inl (by omega)
  · refine .inr ⟨b', off', h1, fun j x hx => h2 j x ?_⟩
    rw [List.getElem?_take] at hx
    split at hx
    · exact hx
    · cases hx
theorem Rd.high {w : World} {b off n : Nat} {xs : List Int} (h : Rd w (some ⟨b, off, none⟩) n xs) (m : Nat) : Rd w (some ⟨b, off + m, none⟩) (n - m) (xs.drop m) := by
  refine ⟨by rw [List.length_drop, h.1], ?_⟩
  rcases h.2 with h0 | ⟨b', off', h1, h2⟩
  · exact .inl (by omega)
  · simp only [Option.some.injEq, Addr.mk.injEq, and_true] at h1
    obtain ⟨rfl, rfl⟩ := h1
    refine .inr ⟨b, off + m, rfl, fun j x hx => ?_⟩
    rw [List.getElem?_drop] at hx
    have := h2 (m + j) x hx
    rw [Nat.add_assoc]; exact this

theorem vis_le (d : Int → Int) (l : List Int) : (vis d l).length ≤ l.length := by
  induction l using tree_ind with
  | h0 => exact Nat.le_refl _
  | h1 l x hx iht ihd =>
    rw [vis_cons hx, List.length_cons]
    have h0 := mid_some hx
    rw [List.length_take] at iht
    rw [List.length_drop] at ihd
    split
    · omega
    · split
      · omega
      · simp; omega
set_option maxRecDepth 4000 in
set_option maxHeartbeats 4000000 in
theorem rway_any : ∀ (k : Nat) (b off z cap : Nat) (L : List Int) (n : Int) (w : World), L.length ≤ k → z ≤ 200 → z ≤ cap → cap ≤ maxLen → Rd w (some ⟨b, off, none⟩) z L → Up L → n ∈ L →
    Calls Tryz.prog 134 #[.slice (some ⟨b, off, none⟩) z cap, .int .i64 n] w fun e w' => ∃ ao' z' cap', e = .returned (.slice ao' z' cap') ∧ z' = (way L n).length ∧ w'.ownsRow w.heap.size 3 1 (.slice ao' z' cap') z' (ints (way L n)) ∧ Below w.heap.size w w' := by
  intro k
  induction k with
  | zero =>
    intro b off z cap L n w hk _ _ _ _ _ hn
    rw [List.eq_nil_of_length_eq_zero (by omega : L.length = 0)] at hn
    cases hn
  | succ k ih =>
    intro b off z cap L n w hk hz hzc hcap hr hu hn
    have hlen := hr.1
    have h0 : 0 < z := by rw [← hlen]; exact List.length_pos_of_mem hn
    obtain ⟨m, hm⟩ : ∃ m, m = z / 2 := ⟨_, rfl⟩
    have hmz : m < z := by omega
    obtain ⟨x, hx⟩ : ∃ x, L[m]? = some x := ⟨_, List.getElem?_eq_getElem (by rw [hlen]; exact hmz)⟩
    have hxc : w.cell? ⟨b, off + m, none⟩ = some (.int .i64 x) := by
      obtain ⟨x', h1, h2⟩ := hr.cell hmz
      rw [hx] at h1; cases h1; exact h2
    have hW := way_cons (l := L) (x := x) (n := n) (by rw [hlen, ← hm]; exact hx)
    rw [hlen, ← hm] at hW
    have hlo : n < x → n ∈ L.take m := fun h => by rcases hu.side hx hn with h1 | h1 | h1; exact h1.1; omega; omega
    have hhi : x < n → n ∈ L.drop (m + 1) := fun h => by rcases hu.side hx hn with h1 | h1 | h1; omega; omega; exact h1.1
    have HLo := Lib.hid (fun (w1 : World) (hb : Below w.heap.size w w1) (h : n < x) => ih b off m cap (L.take m) n w1 (by rw [List.length_take]; omega) (by omega) (by omega) hcap (Rd.below (hr.low (by omega)) hb) (hu.take m) (hlo h))
    have HHi := Lib.hid (fun (w1 : World) (hb : Below w.heap.size w w1) (h : x < n) => ih b (off + (m + 1)) (z - (m + 1)) (cap - (m + 1)) (L.drop (m + 1)) n w1 (by rw [List.length_drop]; omega) (by omega) (by omega) (Nat.le_trans (Nat.sub_le _ _) hcap) (Rd.below (hr.high (m + 1)) hb) (hu.drop (m + 1)) (hhi h))
    have HW := Lib.hid hW
    have hbl : b < w.heap.size := World.block_lt_of_cell? w ⟨b, off + m, none⟩ hxc
    have q0 : (0 : Int) ≤ (m : Int) := by omega
    have q1 : (m : Int) < (z : Int) := by omega
    have q2 : ((z : Int).tdiv 2) = (m : Int) := by rw [hm]; rfl
    have Hm := Lib.hid hm
    obtain ⟨i0, hi0, hz0, hz1, hz2⟩ := info3
    have HU := Lib.hid hu
    unfold maxLen at hcap
    have Hlo := Lib.hid hlo
    have Hhi := Lib.hid hhi
    have Hlen := Lib.hid hlen
    clear hW hlo hhi hu hn hr ih hx hm hlen hk
    by_cases h1 : n < x
    · go_enter Tryz.func134, Tryz.ntmps134
      go_wp2_with fail
      refine (HLo.out _ (box1 _ _) h1).mono ?_
      rintro e w2 ⟨ao', z', cap', rfl, hz', hrow', hb2⟩
      have hpos : 0 < z' := by rw [hz']; exact List.length_pos_of_mem (way_self _ _ (HU.out.take m) (Hlo.out h1))
      obtain ⟨g', cap'', e', hg', hgz'⟩ := World.ownsRow.form hrow' hpos
      simp only [Value.slice.injEq] at e'
      obtain ⟨rfl, -, rfl⟩ := e'
      have HR0 := Lib.hid (rowE_far (World.ownsRow_lit (base := w.heap.size) (e := 3) (size := 1) w #[.int .i64 x] 1 (Nat.le_refl _) (by unfold maxLen; omega) rfl) hb2 (fun g hg => by simp [Value.ownBlock] at hg; simp; omega))
      have HB2 := Lib.hid ((box1 w (.cells #[.int .i64 x] 3)).trans (hb2.mono (by simp)))
      have Hz' := Lib.hid hz'
      have Hrow := Lib.hid hrow'
      have hz200 : z' ≤ 200 := by rw [hz']; exact Nat.le_trans (vis_le _ _) (by rw [List.length_take]; omega)
      have hsz : w.heap.size ≤ w2.heap.size := HB2.out.size
      clear hz' hrow' hb2
      go_wp2_with (at_builtin; refine wpList_append_lies _ rfl _ _ 36 rfl w.heap.size 3 i0 (.int .i64 0) 1 8 Tryz.underlying36 hi0 hz0 hz1 hz2 rfl (by decide) _ 1 [.int .i64 x] rfl HR0.out ⟨g', 0, none⟩ z' cap' (ints (way (L.take m) n)) rfl ?c1 (World.ownsRow.cells Hrow.out rfl) ?c2 hpos ?c4 ?c5 hsz _ rfl ?_)
      case c1 => rw [ints, List.length_map, Nat.mul_one, Hz'.out]
      case c2 => exact ints_one _
      case c4 => unfold maxLen; omega
      case c5 => omega
      intro g3 cap3 w3 hown3 hgrow3 hat3 hgz3
      have HB3 := Lib.hid (below_grown HB2.out hgrow3 (fun k hk => by simp [Value.ownBlock] at hk; omega) hsz)
      have HO3 := Lib.hid hown3
      clear hown3 hgrow3 hat3
      go_wp2
      go_ret
      refine ⟨_, _, cap3, rfl, ?_, ?_, HB3.out⟩
      · rw [HW.out, if_pos h1, List.length_cons, ← Hz'.out]; omega
      · rw [HW.out, if_pos h1]
        exact HO3.out
    · by_cases h2 : x < n
      · have hx1 : x ≤ n := by omega
        replace h1 := h2
        clear h2
        have hlt2 : m + 1 < z := by
          have h := List.length_pos_of_mem (Hhi.out h1)
          rw [List.length_drop, Hlen.out] at h; omega
        have hne : ¬ (cap - (m + 1) = 0) := by omega
        have hne2 : ¬ (cap ≤ m + 1) := by omega
        go_enter Tryz.func134, Tryz.ntmps134
        go_wp2_with fail
        refine (HHi.out _ (box1 _ _) h1).mono ?_
        rintro e w2 ⟨ao', z', cap', rfl, hz', hrow', hb2⟩
        have hpos : 0 < z' := by rw [hz']; exact List.length_pos_of_mem (way_self _ _ (HU.out.drop (m + 1)) (Hhi.out h1))
        obtain ⟨g', cap'', e', hg', hgz'⟩ := World.ownsRow.form hrow' hpos
        simp only [Value.slice.injEq] at e'
        obtain ⟨rfl, -, rfl⟩ := e'
        have HR0 := Lib.hid (rowE_far (World.ownsRow_lit (base := w.heap.size) (e := 3) (size := 1) w #[.int .i64 x] 1 (Nat.le_refl _) (by unfold maxLen; omega) rfl) hb2 (fun g hg => by simp [Value.ownBlock] at hg; simp; omega))
        have HB2 := Lib.hid ((box1 w (.cells #[.int .i64 x] 3)).trans (hb2.mono (by simp)))
        have Hz' := Lib.hid hz'
        have Hrow := Lib.hid hrow'
        have hz200 : z' ≤ 200 := by rw [hz']; exact Nat.le_trans (vis_le _ _) (by rw [List.length_drop, Hlen.out]; omega)
        have hsz : w.heap.size ≤ w2.heap.size := HB2.out.size
        clear hz' hrow' hb2
        go_wp2_with (at_builtin; refine wpList_append_lies _ rfl _ _ 36 rfl w.heap.size 3 i0 (.int .i64 0) 1 8 Tryz.underlying36 hi0 hz0 hz1 hz2 rfl (by decide) _ 1 [.int .i64 x] rfl HR0.out ⟨g', 0, none⟩ z' cap' (ints (way (L.drop (m + 1)) n)) rfl ?c1 (World.ownsRow.cells Hrow.out rfl) ?c2 hpos ?c4 ?c5 hsz _ rfl ?_)
        case c1 => rw [ints, List.length_map, Nat.mul_one, Hz'.out]
        case c2 => exact ints_one _
        case c4 => unfold maxLen; omega
        case c5 => omega
        intro g3 cap3 w3 hown3 hgrow3 hat3 hgz3
        have HB3 := Lib.hid (below_grown HB2.out hgrow3 (fun k hk => by simp [Value.ownBlock] at hk; omega) hsz)
        have HO3 := Lib.hid hown3
        clear hown3 hgrow3 hat3
        go_wp2
        go_ret
        refine ⟨_, _, cap3, rfl, ?_, ?_, HB3.out⟩
        · rw [HW.out, if_neg (by omega : ¬ n < x), if_pos h1, List.length_cons, ← Hz'.out]; omega
        · rw [HW.out, if_neg (by omega : ¬ n < x), if_pos h1]
          exact HO3.out
      · obtain rfl : n = x := by omega
        go_enter Tryz.func134, Tryz.ntmps134
        go_wp2
        go_ret
        refine ⟨_, _, _, rfl, ?_, ?_, box1 _ _⟩
        · rw [HW.out, if_neg (by omega), if_neg (by omega)]; rfl
        · rw [HW.out, if_neg (by omega), if_neg (by omega)]
          exact World.ownsRow_lit (base := w.heap.size) (e := 3) (size := 1) w #[.int .i64 n] 1 (Nat.le_refl _) (by unfold maxLen; omega) rfl
end Go.Proofs.YtnfkgnjeamnhfaaGreat
namespace Go.Proofs.YtnfkgnjeamnhfaaGreat
open Go.RowKit Go.Sort

abbrev rtV (r : Rt) : Value := .agg #[.int .i64 r.f, .int .u64 r.hi, .int .u64 r.lo, .int .i64 r.n, .int .i64 r.g]
abbrev rtF (r : Rt) : Nat → Value := fun j => if j = 0 then .int .i64 r.f else if j = 1 then .int .u64 r.hi else if j = 2 then .int .u64 r.lo else if j = 3 then .int .i64 r.n else .int .i64 r.g
theorem rt_at {w : World} {b : Nat} (r : Rt) (t : TypeId) (hb : b = w.heap.size) : St (w.alloc (.cells #[.int .i64 r.f, .int .u64 r.hi, .int .u64 r.lo, .int .i64 r.n, .int .i64 r.g] t)) b 5 (rtF r) := by
  subst hb
  intro j hj
  rcases (by omega : j = 0 ∨ j = 1 ∨ j = 2 ∨ j = 3 ∨ j = 4) with rfl | rfl | rfl | rfl | rfl <;> simp [rtF]
/-- A list of lengths that can be read and cut. -/
def RdL (w : World) (v : Value) (L : List Int) : Prop := ∃ ao z cap, v = .slice ao z cap ∧ Rd w ao z L ∧ z ≤ cap ∧ cap ≤ maxLen ∧ z ≤ 200
theorem RdL.below {w w' : World} {v : Value} {L : List Int} (h : RdL w v L) (hb : Below w.heap.size w w') : RdL w' v L := by
  obtain ⟨ao, z, cap, h1, h2, h3⟩ := h
  exact ⟨ao, z, cap, h1, h2.below hb, h3⟩
theorem rway_top (v : Value) (L : List Int) (n : Int) (w : World) (h : RdL w v L) (hu : Up L) (hn : n ∈ L) :
    Calls Tryz.prog 134 #[v, .int .i64 n] w fun e w' => ∃ ao' z' cap', e = .returned (.slice ao' z' cap') ∧ z' = (way L n).length ∧ w'.ownsRow w.heap.size 3 1 (.slice ao' z' cap') z' (ints (way L n)) ∧ Below w.heap.size w w' := by
  obtain ⟨ao, z, cap, rfl, h2, h3, h4, h5⟩ := h
  obtain ⟨b, off, rfl, -, -⟩ := h2.at (by rw [← h2.1]; exact List.length_pos_of_mem hn)
  exact rway_any L.length b off z cap L n w (Nat.le_refl _) h5 h3 h4 h2 hu hn
/-- Has the route a mark at m, wherever? -/
def mkB (L : List Int) (r : Rt) (m : Int) : Bool := decide (m < r.n) && decide (m ∈ way L r.n)
set_option maxHeartbeats 2000000 in
theorem rmarks_any (v : Value) (L : List Int) (r : Rt) (m : Int) (w : World) (h : RdL w v L) (hu : Up L) (hn : r.n ∈ L) :
    Calls Tryz.prog 107 #[v, rtV r, .int .i64 m] w fun e w' => e = .returned (.bool (mkB L r m)) ∧ Below w.heap.size w w' := by
  have hL200 : L.length ≤ 200 := by obtain ⟨ao, z, cap, -, h2, -, -, h5⟩ := h; rw [h2.1]; exact h5
  have HW := Lib.hid (rway_top v L r.n _ (h.below (box1 w (.cells #[.int .i64 r.f, .int .u64 r.hi, .int .u64 r.lo, .int .i64 r.n, .int .i64 r.g] 35))) hu hn)
  obtain ⟨t, ht⟩ : ∃ t, t = mkB L r m := ⟨_, rfl⟩
  rw [← ht]
  have Ht := Lib.hid ht
  have hw200 : (way L r.n).length ≤ 200 := Nat.le_trans (vis_le _ _) hL200
  obtain ⟨y, hy⟩ : ∃ y, y = (way L r.n).length := ⟨_, rfl⟩
  rw [← hy] at hw200
  have Hy := Lib.hid hy
  clear h hu hn ht hy hL200
  by_cases hm : r.n ≤ m
  · have Ht2 := Lib.hid (show t = false by rw [Ht.out]; unfold mkB; rw [decide_eq_false (by omega), Bool.false_and])
    go_enter Tryz.func107, Tryz.ntmps107
    go_wp2
    go_ret
    rw [Ht2.out]
    exact ⟨rfl, box1 _ _⟩
  · have Ht2 := Lib.hid (show t = decide (m ∈ way L r.n) by rw [Ht.out]; unfold mkB; rw [decide_eq_true (by omega), Bool.true_and])
    have hm' : m < r.n := by omega
    clear hm
    go_enter Tryz.func107, Tryz.ntmps107
    go_wp2_with fail
    refine HW.out.mono ?_
    rintro e w1 ⟨ao, z, cap, rfl, hz, hrow, hb1⟩
    obtain rfl : z = y := by rw [hz, Hy.out]
    have HRd := Lib.hid (rd_row hrow hz)
    have HB1 := Lib.hid ((box1 w _).trans (hb1.mono (by simp)))
    clear hrow hb1 hz
    go_wp2_with fail
    go_loop [8] (fun i => ∃ k : Nat, k ≤ z ∧ i = .int .i64 k ∧ Hid (∀ j x, j < k → (way L r.n)[j]? = some x → x ≠ m)) (fun i => z - (intOf i).toNat)
    case atStart => exact ⟨0, Nat.zero_le _, rfl, by intro j x hj; omega⟩
    case round =>
      obtain ⟨k, hk, rfl, HK⟩ := hrel
      by_cases hlt : k < z
      · obtain ⟨b, off, rfl, -, -⟩ := HRd.out.at (by omega)
        obtain ⟨x, hx, hcx⟩ := HRd.out.cell hlt
        have q1 : (k : Int) < (z : Int) := by omega
        have q0 : (0 : Int) ≤ (k : Int) := by omega
        have Hx := Lib.hid hx
        clear hx
        by_cases he : x = m
        · have p1 : (x == m) = true := by rw [he]; simp
          have Ht3 := Lib.hid (show t = true by rw [Ht2.out, ← he]; exact decide_eq_true (List.mem_of_getElem? Hx.out))
          clear he
          go_wp2
          go_ret
          rw [Ht3.out]
          exact ⟨rfl, HB1.out⟩
        · have p1 : (x == m) = false := ine_beq he
          go_wp2
          go_round
          case rel =>
            refine ⟨k + 1, by omega, by go_num, ?_⟩
            intro j x' hj hx'
            by_cases e : j = k
            · subst e; rw [Hx.out] at hx'; cases hx'; exact he
            · exact HK.out j x' (by omega) hx'
          case measure => simp [intOf]; omega
      · obtain rfl : k = z := by omega
        have Ht3 := Lib.hid (show t = false by
          rw [Ht2.out]
          refine decide_eq_false (fun hmem => ?_)
          obtain ⟨j, hj, e⟩ := List.getElem_of_mem hmem
          exact HK.out j m (by rw [Hy.out]; exact hj) (by rw [← e]; exact List.getElem?_eq_getElem hj) rfl)
        go_wp2
        go_ret
        rw [Ht3.out]
        exact ⟨rfl, HB1.out⟩
end Go.Proofs.YtnfkgnjeamnhfaaGreat
namespace Go.Proofs.YtnfkgnjeamnhfaaGreat
open Go.RowKit Go.Sort

/-- Of the first k routes the longest: its place. -/
def LgI (rs : List Rt) (a : Ad) (most : Int) (k : Nat) (bi : Int) : Prop :=
  (bi = -1 ∧ bst (famF (rs.take k) a.1) a most = -1) ∨ ∃ (j : Nat) (r : Rt), bi = (j : Int) ∧ rs[j]? = some r ∧ r.f = a.1 ∧ Mat a most r ∧ r.n = bst (famF (rs.take k) a.1) a most
theorem bst_yes {rs : List Rt} {k : Nat} {r : Rt} {a : Ad} {m : Int} (hr : rs[k]? = some r) (hf : r.f = a.1) : bst (famF (rs.take (k + 1)) a.1) a m = bstS a m (bst (famF (rs.take k) a.1) a m) r := by
  rw [fam_yes hr (by rw [hf]; simp)]
  unfold bst; rw [List.foldl_append]; rfl
theorem bst_no {rs : List Rt} {k : Nat} {r : Rt} {a : Ad} {m : Int} (hr : rs[k]? = some r) (hf : ¬ r.f = a.1) : bst (famF (rs.take (k + 1)) a.1) a m = bst (famF (rs.take k) a.1) a m := by
  rw [fam_no hr (ine_beq hf)]
theorem LgI.same {rs : List Rt} {a : Ad} {most : Int} {k : Nat} {bi : Int} (h : LgI rs a most k bi) (e : bst (famF (rs.take (k + 1)) a.1) a most = bst (famF (rs.take k) a.1) a most) : LgI rs a most (k + 1) bi := by
  unfold LgI at *
  rw [e]; exact h
theorem LgI.take {rs : List Rt} {a : Ad} {most : Int} {k : Nat} {r : Rt} (hr : rs[k]? = some r) (hf : r.f = a.1) (hm : Mat a most r) (hlt : bst (famF (rs.take k) a.1) a most < r.n) : LgI rs a most (k + 1) (k : Int) := by
  refine .inr ⟨k, r, rfl, hr, hf, hm, ?_⟩
  rw [bst_yes hr hf]
  unfold bstS
  rw [if_pos ⟨hm, hlt⟩]
theorem wid_le {r : Rt} (h : Gd r) : 0 ≤ r.n ∧ r.n ≤ wid r.f := by
  have := h.len
  refine ⟨this.1, ?_⟩
  unfold wid
  split
  · exact this.2.2 (by assumption)
  · exact this.2.1

set_option maxRecDepth 4000 in
set_option maxHeartbeats 4000000 in
theorem rlongest_any (N T : Nat) (v : Value) (rs : List Rt) (a : Ad) (most : Int) (w : World) (hc : w.cell? ⟨T, 3, none⟩ = some v) (hr : RwO w N v rs) (hlen : rs.length ≤ 1000) (hg : ∀ r ∈ rs, Gd r) (ha : Adr a) :
    Calls Tryz.prog 72 #[.pointer (some ⟨T, 0, none⟩), adV a, .int .i64 most] w fun e w' => ∃ bi : Int, e = .returned (.int .i64 bi) ∧ LgI rs a most rs.length bi ∧ Below w.heap.size w w' := by
  obtain ⟨lo, lc, rfl, -⟩ := RwO.form hr
  have hT : T < w.heap.size := World.block_lt_of_cell? w ⟨T, 3, none⟩ hc
  have HC := Lib.hid (fun (w1 : World) (r : Rt) (hr' : r ∈ rs) (hf : r.f = a.1) => rcontains_any (adR r) r.n a w1 ha (wid_le (hg r hr')).1 (by rw [← hf]; exact (wid_le (hg r hr')).2))
  have HR := Lib.hid hr
  have HG := Lib.hid hg
  obtain ⟨y, hy⟩ : ∃ y, y = rs.length := ⟨_, rfl⟩
  rw [← hy] at hlen hc ⊢
  have Hy := Lib.hid hy
  have Hc := Lib.hid hc
  obtain ⟨w0, hw0⟩ : ∃ w0, w0 = w.alloc (.cells #[.int .i64 a.1, .int .u64 a.2.1, .int .u64 a.2.2] 31) := ⟨_, rfl⟩
  obtain ⟨ba, hba⟩ : ∃ x, x = w.heap.size := ⟨_, rfl⟩
  have HA0 := Lib.hid (show St w0 ba 3 (adF a) by rw [hw0, hba]; exact ad_at a _ rfl)
  have HB0 := Lib.hid (show Below w.heap.size w w0 by rw [hw0]; exact box1 _ _)
  have Hw0 := Lib.hid hw0
  have Hba := Lib.hid hba
  clear hr hg ha hy hc hw0 hba
  go_enter Tryz.func72, Tryz.ntmps72
  go_wp2_with fail
  rw [← Hw0.out, ← Hba.out]
  go_loopw [7, 8] (fun bv i wr => ∃ (k : Nat) (bi : Int), k ≤ y ∧ i = .int .i64 k ∧ bv = .int .i64 bi ∧ Hid (LgI rs a most k bi) ∧ Hid (St wr ba 3 (adF a)) ∧ Hid (Below w.heap.size w wr)) (fun _ i _ => y - (intOf i).toNat)
  case atStart => exact ⟨0, -1, Nat.zero_le _, rfl, rfl, .inl ⟨rfl, rfl⟩, HA0, HB0⟩
  case round =>
    obtain ⟨k, bi, hk, rfl, rfl, HI, HA, HB⟩ := hrel
    have cT := (HB.out.cell (p := ⟨T, 3, none⟩) hT).trans Hc.out
    by_cases hlt : k < y
    · obtain ⟨r, hrk⟩ : ∃ r, rs[k]? = some r := ⟨_, List.getElem?_eq_getElem (by rw [← Hy.out]; exact hlt)⟩
      obtain ⟨b, rfl, hat, -, -, hbl⟩ := RwO.at HR.out hrk
      have c0 : wr.cell? ⟨b, k * 5, none⟩ = some (.int .i64 (adR r).1) := (HB.out.cell (p := ⟨b, k * 5, none⟩) hbl).trans hat.c0
      have c1 : wr.cell? ⟨b, k * 5 + 1, none⟩ = some (.int .u64 (adR r).2.1) := (HB.out.cell (p := ⟨b, k * 5 + 1, none⟩) hbl).trans hat.c1
      have c2 : wr.cell? ⟨b, k * 5 + 2, none⟩ = some (.int .u64 (adR r).2.2) := (HB.out.cell (p := ⟨b, k * 5 + 2, none⟩) hbl).trans hat.c2
      have c3 := (HB.out.cell (p := ⟨b, k * 5 + 3, none⟩) hbl).trans hat.c3
      have a0 : wr.cell? ⟨ba, 0, none⟩ = some (.int .i64 a.1) := (HA.out 0 (by decide)).1
      have a1 : wr.cell? ⟨ba, 1, none⟩ = some (.int .u64 a.2.1) := (HA.out 1 (by decide)).1
      have a2 : wr.cell? ⟨ba, 2, none⟩ = some (.int .u64 a.2.2) := (HA.out 2 (by decide)).1
      have hza := HA.out.lt (by decide)
      have hTr : T < wr.heap.size := Nat.lt_of_lt_of_le hT HB.out.size
      have q1 : (k : Int) < (y : Int) := by omega
      have Hrk := Lib.hid hrk
      have hmem := List.mem_of_getElem? hrk
      obtain ⟨wp, hwp⟩ : ∃ wp, wp = wr.alloc (.cells #[.int .i64 (adR r).1, .int .u64 (adR r).2.1, .int .u64 (adR r).2.2, .int .i64 r.n] 33) := ⟨_, rfl⟩
      obtain ⟨bp, hbp⟩ : ∃ bp, bp = wr.heap.size := ⟨_, rfl⟩
      have HPp := Lib.hid (show St wp bp 4 (prF (adR r) r.n) by rw [hwp, hbp]; exact pr_new wr (adR r) r.n _)
      have HAp := Lib.hid (show St wp ba 3 (adF a) by rw [hwp]; exact HA.out.alloc (by decide) _)
      have HBp := Lib.hid (show Below w.heap.size w wp by rw [hwp]; exact HB.out.alloc HB.out.size _)
      have Hwp := Lib.hid hwp
      have Hbp := Lib.hid hbp
      have hn0 := (HG.out r hmem).len.1
      clear hat hrk hwp hbp
      by_cases hf : r.f = a.1
      · have HC1 := Lib.hid (fun (w1 : World) => HC.out w1 r hmem hf)
        have p1 : ((adR r).1 != a.1) = false := by show (r.f != a.1) = false; rw [hf]; simp
        by_cases hmo : most < r.n
        · have HS := Lib.hid (HI.out.same (by rw [bst_yes Hrk.out hf]; unfold bstS; rw [if_neg (fun h => by have := h.1.1; omega)]))
          clear hf hmem
          go_wp2
          rw [← Hwp.out]
          go_roundw
          case rel => exact ⟨k + 1, bi, by omega, by go_num, rfl, HS, HAp, HBp⟩
          case measure => simp [intOf]; omega
        · have hmo' : r.n ≤ most := by omega
          have Hf := Lib.hid hf
          clear hf hmem hmo
          go_wp2_with fail
          rw [← Hwp.out, ← Hbp.out]
          refine (HC1.out wp).mono ?_
          rintro e w2 ⟨rfl, hb2⟩
          have HP2 := Lib.hid (HPp.out.below hb2 (HPp.out.lt (by decide)))
          have HA2 := Lib.hid (HAp.out.below hb2 (HAp.out.lt (by decide)))
          have HB2 := Lib.hid (HBp.out.trans (hb2.mono HBp.out.size))
          have dT := (HB2.out.cell (p := ⟨T, 3, none⟩) hT).trans Hc.out
          have p3 : w2.cell? ⟨bp, 3, none⟩ = some (.int .i64 r.n) := (HP2.out 3 (by decide)).1
          clear hb2 c0 c1 c2 c3 a0 a1 a2 cT
          cases hcc : decide (adR r = cutD a r.n) with
          | false =>
            have HS := Lib.hid (HI.out.same (by rw [bst_yes Hrk.out Hf.out]; unfold bstS; rw [if_neg (fun h => of_decide_eq_false hcc h.1.2.symm)]))
            clear hcc
            go_wp2_with fail
            go_quiet (fail)
            go_wp2
            go_roundw
            case rel => exact ⟨k + 1, bi, by omega, by go_num, rfl, HS, HA2, ⟨HB2.out.os, HB2.out.tape, HB2.out.output, HB2.out.size, HB2.out.block⟩⟩
            case measure => simp [intOf]; omega
          | true =>
            have HM := Lib.hid (show Mat a most r from ⟨hmo', (of_decide_eq_true hcc).symm⟩)
            clear hcc
            rcases HI.out with ⟨rfl, h2⟩ | ⟨j, r0, rfl, h2, h3, h4, h5⟩
            · have HS := Lib.hid (LgI.take Hrk.out Hf.out HM.out (by rw [h2]; omega))
              clear h2
              go_wp2_with fail
              go_quiet (fail)
              go_wp2
              go_roundw
              case rel => exact ⟨k + 1, k, by omega, by go_num, rfl, HS, HA2, ⟨HB2.out.os, HB2.out.tape, HB2.out.output, HB2.out.size, HB2.out.block⟩⟩
              case measure => simp [intOf]; omega
            · obtain ⟨b', e', hat, -, -, hbl'⟩ := RwO.at HR.out h2
              simp only [Option.some.injEq, Addr.mk.injEq, and_true] at e'
              subst e'
              have d3 := (HB2.out.cell (p := ⟨b, j * 5 + 3, none⟩) hbl').trans hat.c3
              have hjy : (j : Int) < (y : Int) := by have := (List.getElem?_eq_some_iff.1 h2).1; rw [← Hy.out] at this; omega
              have qj : ¬ (j : Int) < 0 := by omega
              have H5 := Lib.hid h5
              clear h2 h3 h4 h5 hat
              by_cases hgt : r0.n < r.n
              · have HS := Lib.hid (LgI.take Hrk.out Hf.out HM.out (by rw [← H5.out]; exact hgt))
                go_wp2_with fail
                go_quiet (fail)
                go_wp2
                go_roundw
                case rel => exact ⟨k + 1, k, by omega, by go_num, rfl, HS, HA2, ⟨HB2.out.os, HB2.out.tape, HB2.out.output, HB2.out.size, HB2.out.block⟩⟩
                case measure => simp [intOf]; omega
              · have HS := Lib.hid (HI.out.same (by rw [bst_yes Hrk.out Hf.out]; unfold bstS; rw [if_neg (fun h => by have := h.2; rw [← H5.out] at this; exact hgt this)]))
                have hle : r.n ≤ r0.n := by omega
                clear hgt
                go_wp2_with fail
                go_quiet (fail)
                go_wp2
                go_roundw
                case rel => exact ⟨k + 1, j, by omega, by go_num, rfl, HS, HA2, ⟨HB2.out.os, HB2.out.tape, HB2.out.output, HB2.out.size, HB2.out.block⟩⟩
                case measure => simp [intOf]; omega
      · have p1 : ((adR r).1 != a.1) = true := by show (r.f != a.1) = true; rw [bne, ine_beq hf]; rfl
        have HS := Lib.hid (HI.out.same (bst_no Hrk.out hf))
        clear hf hmem
        go_wp2
        rw [← Hwp.out]
        go_roundw
        case rel => exact ⟨k + 1, bi, by omega, by go_num, rfl, HS, HAp, HBp⟩
        case measure => simp [intOf]; omega
    · obtain rfl : k = y := by omega
      go_wp2
      go_ret
      exact ⟨bi, rfl, HI.out, HB.out⟩
end Go.Proofs.YtnfkgnjeamnhfaaGreat
