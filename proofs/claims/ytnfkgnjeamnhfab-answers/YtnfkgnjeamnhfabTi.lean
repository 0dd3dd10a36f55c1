import Derived.Test.YtnfkgnjeamnhfabTg
import Derived.Deep.CutRange
namespace Go.Proofs.Ytnfkgnjeamnhfab
open Go.RowKit Go.Sort

theorem row_set {w : World} {N e z b o : Nat} {v : Value} {n : Nat} {xs : List Value} (h : w.ownsRow N e z v n xs) (hv : ∀ k, v.ownBlock = some k → k ≠ b) (x : Value) : (w.setCell ⟨b, o, none⟩ x).ownsRow N e z v n xs := by
  refine ⟨h.1, ?_⟩
  rcases h.2 with h1 | ⟨g, cap, cur, h1, hN, hgg, rest⟩
  · exact .inl h1
  · exact .inr ⟨g, cap, cur, h1, hN, (Below.heap_setCell w ⟨b, o, none⟩ x g (hv g (by rw [h1]; rfl))).trans hgg, rest⟩
/-- What the walk holds: the tree's box, the lengths that were asked. -/
structure LkI (w1 : World) (B bt lo hi : Nat) (v : Value) (n : Nat) (xs : List Int) (wr : World) : Prop where
  t : St wr bt 2 (trF lo hi)
  row : wr.ownsRow B 3 1 v n (ints xs)
  ne : ∀ g, v.ownBlock = some g → g ≠ bt
  b : Below B w1 wr
theorem LkI.below {w1 : World} {B bt lo hi : Nat} {v : Value} {n : Nat} {xs : List Int} {wr w' : World} (h : LkI w1 B bt lo hi v n xs wr) (hB : B ≤ w1.heap.size) (hb : Below wr.heap.size wr w') : LkI w1 B bt lo hi v n xs w' :=
  ⟨h.t.below hb (h.t.lt (by decide)), rowE_far h.row hb (fun g hg => (World.ownsRow.lt h.row g hg).2), h.ne, h.b.trans (hb.mono (Nat.le_trans hB h.b.size))⟩
theorem LkI.set {w1 : World} {B bt lo hi : Nat} {v : Value} {n : Nat} {xs : List Int} {wr : World} (h : LkI w1 B bt lo hi v n xs wr) (hB : B ≤ bt) (lo' hi' : Nat) : LkI w1 B bt lo' hi' v n xs ((wr.setCell ⟨bt, 0, none⟩ (.int .i64 lo')).setCell ⟨bt, 1, none⟩ (.int .i64 hi')) :=
  ⟨tr_set h.t, row_set (row_set h.row h.ne _) h.ne _, h.ne, below_set (below_set h.b hB _) hB _⟩
theorem LkI.push {w1 : World} {B bt lo hi : Nat} {v : Value} {n : Nat} {xs : List Int} {wr w3 : World} {o : Obj} {g3 cap3 : Nat} {x : Int} (h : LkI w1 B bt lo hi v n xs wr) (hB : B ≤ w1.heap.size)
    (hown : w3.ownsRow B 3 1 (.slice (some ⟨g3, 0, none⟩) (n + 1) cap3) (n + 1) (ints xs ++ [.int .i64 x])) (hg : (wr.alloc o).grownBy w3 v.ownBlock) (hat : v.ownBlock = some g3 ∨ g3 = wr.heap.size + 1) : LkI w1 B bt lo hi (.slice (some ⟨g3, 0, none⟩) (n + 1) cap3) (n + 1) (xs ++ [x]) w3 := by
  have hz := h.t.lt (by decide)
  refine ⟨(h.t.alloc (by decide) o).same (hg.block bt (by simp; omega) (fun e => h.ne bt e.symm rfl)), ?_, ?_, ?_⟩
  · rw [ints, List.map_append]; exact hown
  · intro g e
    simp [Value.ownBlock] at e
    subst e
    rcases hat with hat | hat
    · exact h.ne _ hat
    · omega
  · exact below_grown (h.b.trans ((box1 wr o).mono (Nat.le_trans hB h.b.size))) hg (fun b hb => (World.ownsRow.lt h.row b hb).1) (by have := h.b.size; simp; omega)
abbrev adF (a : Ad) : Nat → Value := fun j => if j = 0 then .int .i64 a.1 else if j = 1 then .int .u64 a.2.1 else .int .u64 a.2.2
theorem ad_at {w : World} {b : Nat} (a : Ad) (t : TypeId) (hb : b = w.heap.size) : St (w.alloc (.cells #[.int .i64 a.1, .int .u64 a.2.1, .int .u64 a.2.2] t)) b 3 (adF a) := by
  subst hb
  intro j hj
  rcases (by omega : j = 0 ∨ j = 1 ∨ j = 2) with rfl | rfl | rfl <;> simp [adF]
abbrev fdF : Nat → Value := fun j => if j = 0 then .int .i64 0 else if j = 1 then .int .i64 0 else .slice none 0 0
theorem fd_at {w : World} {b : Nat} (t : TypeId) (hb : b = w.heap.size) : St (w.alloc (.cells #[.int .i64 0, .int .i64 0, .slice none 0 0] t)) b 3 fdF := by
  subst hb
  intro j hj
  rcases (by omega : j = 0 ∨ j = 1 ∨ j = 2) with rfl | rfl | rfl <;> simp [fdF]
abbrev fdV (n g : Int) (v : Value) : Value := .agg #[.int .i64 n, .int .i64 g, v]

set_option maxRecDepth 4000 in
set_option maxHeartbeats 4000000 in
theorem elookup_any (N : Nat) (v : Value) (l : List Rt) (a : Ad) (w : World) (hl : RwO w N v l) (hlen : l.length ≤ 1000) (hF : Fam l a.1) (hfam : a.1 = 4 ∨ a.1 = 6) (hfit : FitA a) :
    Calls Try.prog 37 #[v, adV a] w fun e w' => ∃ ao n cap, e = .returned (fdV (lkL l (lensC l 129) a) (gof l a (lkL l (lensC l 129) a)) (.slice ao n cap)) ∧ n = (asks (fnd l (lensC l 129) a) (lensC l 129)).length ∧ w'.ownsRow w.heap.size 3 1 (.slice ao n cap) n (ints (asks (fnd l (lensC l 129) a) (lensC l 129))) ∧ Below w.heap.size w w' := by
  have hn129 : ∀ r ∈ l, 0 ≤ r.n ∧ r.n < 129 := fun r hr => by have := (hF.gd r hr).len; omega
  have hLb : ∀ x ∈ lensC l 129, 0 ≤ x ∧ x ≤ wid a.1 := fun x hx => by
    obtain ⟨r, hr, rfl⟩ := ((lensC_of (k := 129) hn129).mem x).1 hx
    have h1 := (hF.gd r hr).len
    refine ⟨h1.1, ?_⟩
    unfold wid
    split
    · rename_i h4; exact h1.2.2 (by rw [hF.fam r hr]; exact h4)
    · exact h1.2.1
  obtain ⟨L, hL⟩ : ∃ L, L = lensC l 129 := ⟨_, rfl⟩
  have hL200 : L.length ≤ 129 := by rw [hL]; exact lensC_le l 129
  obtain ⟨lo, lc, rfl, -⟩ := RwO.form hl
  have HLn := Lib.hid (fun (w1 : World) (hb : Below w.heap.size w w1) => elens_any N (.slice lo l.length lc) l w1 (hl.far hb (fun g hg => (World.ownsRow.lt hl g hg).2)) hlen hn129)
  rw [← hL] at hLb HLn ⊢
  have HL := Lib.hid hl
  obtain ⟨y, hy⟩ : ∃ y, y = l.length := ⟨_, rfl⟩
  rw [← hy] at hlen HLn ⊢
  have Hy := Lib.hid hy
  have HF := Lib.hid hF
  have Hfam := Lib.hid hfam
  have Hfit := Lib.hid hfit
  have HLb := Lib.hid hLb
  have HL2 := Lib.hid hL200
  have HOv := Lib.hid (fun (z : Nat) (w : World) => over_any z w)
  have HEm := Lib.hid (fun (lo hi : Nat) (w : World) => empty_any lo hi w)
  have HNo := Lib.hid (fun (lo hi : Nat) (w : World) (h : lo + hi ≤ 1000) => node_any lo hi w h)
  have HLo := Lib.hid (fun (lo hi : Nat) (w : World) (h : lo + hi ≤ 1000) => longer_any lo hi w h)
  have HSh := Lib.hid (fun (lo hi : Nat) (w : World) (h : lo + hi ≤ 1000) => shorter_any lo hi w h)
  have HIs := Lib.hid (fun (a : Ad) (g : Int) (k : Nat) (b : Int) (w : World) => isThere_any a g k b w)
  clear hl hF hy hL hn129 hfam hfit hLb hL200
  obtain ⟨p, hp⟩ : ∃ p, p = fnd l L a := ⟨_, rfl⟩
  obtain ⟨q, hq⟩ : ∃ q : Int → Int, q = fun m => bst l (cutD a m) m := ⟨_, rfl⟩
  obtain ⟨M, hM⟩ : ∃ M, M = lkL l L a := ⟨_, rfl⟩
  have HM := Lib.hid (show M = lastB p q (-1) (asks p L) by rw [hM, hp, hq]; rfl)
  rw [← hM, ← hp]
  have Hp := Lib.hid hp
  have Hq := Lib.hid hq
  clear hp hq hM
  go_enter Try.func37, Try.ntmps37
  go_wp2_with fail
  obtain ⟨w0, hw0⟩ : ∃ w0, w0 = (w.alloc (.cells #[.int .i64 a.1, .int .u64 a.2.1, .int .u64 a.2.2] 25)).alloc (.cells #[.int .i64 0, .int .i64 0, .slice none 0 0] 33) := ⟨_, rfl⟩
  obtain ⟨ba, hba⟩ : ∃ x, x = w.heap.size := ⟨_, rfl⟩
  obtain ⟨br, hbr⟩ : ∃ x, x = w.heap.size + 1 := ⟨_, rfl⟩
  rw [← hw0, ← hbr, ← hba]
  have HA0 := Lib.hid (show St w0 ba 3 (adF a) by rw [hw0, hba]; exact (ad_at a _ rfl).alloc (by decide) _)
  have HR0 := Lib.hid (show St w0 br 3 fdF by rw [hw0, hbr]; exact fd_at _ (by simp))
  have HB0 := Lib.hid (show Below w.heap.size w w0 by rw [hw0]; exact two_boxes _ _ _)
  have Hbr := Lib.hid (show w.heap.size ≤ br by omega)
  clear hw0 hba hbr
  refine (HLn.out w0 HB0.out).mono ?_
  rintro e w1 ⟨ao, z, cap, rfl, hz, hrow, hb1⟩
  have Hz := Lib.hid hz
  have HRd := Lib.hid (rd_row hrow hz)
  have HA1 := Lib.hid (HA0.out.below hb1 (HA0.out.lt (by decide)))
  have HR1 := Lib.hid (HR0.out.below hb1 (HR0.out.lt (by decide)))
  have HB1 := Lib.hid (HB0.out.trans (hb1.mono HB0.out.size))
  have hz200 : z ≤ 200 := by rw [hz]; have := HL2.out; omega
  obtain ⟨B, hB⟩ : ∃ B, B = w1.heap.size := ⟨_, rfl⟩
  have HBB := Lib.hid (show B ≤ w1.heap.size by omega)
  have HwB := Lib.hid (show w.heap.size ≤ B by rw [hB]; exact HB1.out.size)
  have HaB := Lib.hid (show ba < B by rw [hB]; exact HA1.out.lt (by decide))
  have HBX := Lib.hid (show w1.heap.size ≤ B by omega)
  have HrB := Lib.hid (show br < B by rw [hB]; exact HR1.out.lt (by decide))
  have HLk := Lib.hid (fun (w2 : World) (hb : Below B w1 w2) (c : Ad) (m : Int) (hc1 : c.1 = a.1) (hc2 : FitA c) (h0 : 0 ≤ m) (h1 : m ≤ wid a.1) => look_any N (.slice lo y lc) l ao z cap L c m a.1 w2 (by rw [Hy.out]; exact HL.out.far (HB1.out.trans (hb.mono HwB.out)) (fun g hg => (World.ownsRow.lt HL.out g hg).2)) (by rw [← Hy.out]; exact hlen) (HRd.out.same (fun b _ _ hlt => hb.block b (by rw [hB]; exact hlt))) hz200 HF.out.gd HF.out.fam hc1 Hfam.out hc2 h0 h1)
  have HGo := Lib.hid (fun (w2 : World) (hb : Below B w1 w2) (b : Int) => groupOf_any N (.slice lo y lc) l a b w2 (by rw [Hy.out]; exact HL.out.far (HB1.out.trans (hb.mono HwB.out)) (fun g hg => (World.ownsRow.lt HL.out g hg).2)) (by rw [← Hy.out]; exact hlen) HF.out Hfam.out Hfit.out)
  have HE0 := Lib.hid (show (w1.alloc (.cells #[] 3)).ownsRow B 3 1 (.slice (some ⟨B, 0, none⟩) 0 0) 0 (ints []) by rw [hB]; exact World.ownsRow_lit w1 #[] 0 (Nat.le_refl _) (by unfold maxLen; omega) rfl)
  have HBa := Lib.hid (show Below B w1 (w1.alloc (.cells #[] 3)) by rw [hB]; exact box1 _ _)
  have HBsz := Lib.hid (show B < (w1.alloc (.cells #[] 3)).heap.size by rw [hB]; simp)
  obtain ⟨i0, hi0, hz0, hz1, hz2⟩ := info3
  clear hz hrow hb1
  go_wp2_with fail
  rw [← hB]
  clear hB
  refine (HOv.out z _).mono ?_
  rintro e w2 ⟨rfl, hb2⟩
  have HB2 := Lib.hid (HBa.out.trans (hb2.mono (Nat.le_trans HBB.out HBa.out.size)))
  have HE2 := Lib.hid (rowE_far HE0.out hb2 (fun g hg => (World.ownsRow.lt HE0.out g hg).2))
  have Hsz2 := Lib.hid (Nat.lt_of_lt_of_le HBsz.out hb2.size)
  clear hb2
  go_wp2_with fail
  obtain ⟨bt, hbt⟩ : ∃ x, x = w2.heap.size := ⟨_, rfl⟩
  rw [← hbt]
  have HI0 := Lib.hid (show LkI w1 B bt 0 z (.slice (some ⟨B, 0, none⟩) 0 0) 0 [] (w2.alloc (.cells #[.int .i64 0, .int .i64 z] 115)) from ⟨by rw [hbt]; exact tr_new _ _ _ _, World.ownsRow.alloc HE2.out _, fun g hg => by simp [Value.ownBlock] at hg; have := Hsz2.out; omega, HB2.out.alloc (Nat.le_trans HBB.out HB2.out.size) _⟩)
  have HtB := Lib.hid (show B ≤ bt by have := Hsz2.out; omega)
  clear hbt
  go_loopw [6, 7] (fun lv bv wr => ∃ (tl th n2 : Nat) (ao2 : Option Addr) (cap2 : Nat) (bb : Int) (xs : List Int), tl ≤ th ∧ th ≤ z ∧ lv = .slice ao2 n2 cap2 ∧ bv = .int .i64 bb ∧ n2 + (th - tl) ≤ z ∧ Hid (LkI w1 B bt tl th (.slice ao2 n2 cap2) n2 xs wr) ∧ Hid (n2 = xs.length) ∧ Hid (xs ++ asks p (slc L tl th) = asks p L) ∧ Hid (lastB p q bb (asks p (slc L tl th)) = M)) (fun _ _ wr => hiOf bt wr - loOf bt wr)
  case atStart =>
    refine ⟨0, z, 0, _, _, -1, [], Nat.zero_le _, Nat.le_refl _, rfl, rfl, by omega, HI0, rfl, ?_, ?_⟩
    · show [] ++ _ = _; rw [Hz.out, slc_all]; rfl
    · show _ = M; rw [Hz.out, slc_all, HM.out]
  case round =>
    obtain ⟨tl, th, n2, ao2, cap2, bb, xs, hlh, hhz, rfl, rfl, hnz, HI, HN, HX, HLB⟩ := hrel
    have c0 : wr.cell? ⟨bt, 0, none⟩ = some (.int .i64 tl) := (HI.out.t 0 (by decide)).1
    have c1 : wr.cell? ⟨bt, 1, none⟩ = some (.int .i64 th) := (HI.out.t 1 (by decide)).1
    by_cases hlt : tl < th
    · obtain ⟨k, hk⟩ : ∃ k, k = (tl + th) / 2 := ⟨_, rfl⟩
      have hkz : k < z := by omega
      obtain ⟨x, hx⟩ : ∃ x, L[k]? = some x := ⟨_, List.getElem?_eq_getElem (by rw [← Hz.out]; exact hkz)⟩
      obtain ⟨b, off, rfl, hbl, hcl⟩ := HRd.out.at (by omega)
      have hbB : b < B := Nat.lt_of_lt_of_le hbl HBX.out
      have q0 : (0 : Int) ≤ (k : Int) := by omega
      have q1 : (k : Int) < (z : Int) := by omega
      have HA := Lib.hid (asks_slc (p := p) hlt (by rw [← Hz.out]; exact hhz) (by rw [← hk]; exact hx))
      have HN1 := Lib.hid (fun (w : World) => HNo.out tl th w (by omega))
      have HL1 := Lib.hid (fun (w : World) => HLo.out tl th w (by omega))
      have HS1 := Lib.hid (fun (w : World) => HSh.out tl th w (by omega))
      rw [← hk] at HN1 HL1 HS1 HA
      have Hk := Lib.hid hk
      have HE1 := Lib.hid (fun (w : World) => HEm.out tl th w)
      rw [show decide (th ≤ tl) = false from decide_eq_false (by omega)] at HE1
      have hxb := HLb.out x (List.mem_of_getElem? hx)
      obtain ⟨c, hc⟩ : ∃ c, c = cutD a x := ⟨_, rfl⟩
      have HC := Lib.hid (fun (w : World) => cut_any a x w Hfam.out Hfit.out hxb.1 hxb.2)
      rw [← hc] at HC
      have HLk1 := Lib.hid (fun (w2 : World) (hb : Below B w1 w2) => HLk.out w2 hb c x (by rw [hc, cutD_fam]) (by rw [hc]; exact cut_fit Hfit.out x) hxb.1 hxb.2)
      have Hf := Lib.hid (show p x = decide (grpOf l c x ≠ -1 ∨ 0 < mks l L c x) by rw [Hp.out, hc]; rfl)
      have Hqx := Lib.hid (show q x = bst l c x by rw [Hq.out, hc])
      have Hcl := Lib.hid (hcl k x hx)
      have HIs1 := Lib.hid (fun (w : World) => HIs.out c (grpOf l c x) (mks l L c x) (bst l c x) w)
      rw [← Hf.out] at HIs1
      clear hcl hx hk hxb hc
      go_wp2_with fail
      refine (HE1.out _).mono ?_
      rintro e w3 ⟨rfl, hb3⟩
      have HI3 := Lib.hid (HI.out.below HBB.out hb3)
      have d0 : w3.cell? ⟨bt, 0, none⟩ = some (.int .i64 tl) := (HI3.out.t 0 (by decide)).1
      have d1 : w3.cell? ⟨bt, 1, none⟩ = some (.int .i64 th) := (HI3.out.t 1 (by decide)).1
      clear hb3 c0 c1
      go_wp2_with fail
      refine (HN1.out _).mono ?_
      rintro e w4 ⟨rfl, hb4⟩
      have HI4 := Lib.hid (HI3.out.below HBB.out hb4)
      have cx := (HI4.out.b.cell (p := ⟨b, off + k, none⟩) hbB).trans Hcl.out
      clear hb4 d0 d1
      have hB4 : B ≤ w4.heap.size := Nat.le_trans HBB.out HI4.out.b.size
      go_wp2_with (at_builtin; refine wpList_append_lies _ rfl _ _ 31 rfl B 3 i0 (.int .i64 0) 1 8 Try.underlying31 hi0 hz0 hz1 hz2 rfl (by decide) _ n2 (ints xs) rfl (World.ownsRow.alloc HI4.out.row _) ⟨w4.heap.size, 0, none⟩ 1 1 [.int .i64 x] rfl rfl (news_one _ _ _) ?c2 (by decide) ?c4 ?c5 ?c6 _ rfl ?_)
      case c2 => intro u hu; rw [List.mem_singleton.1 hu]; rfl
      case c4 => unfold maxLen; omega
      case c5 => omega
      case c6 => simp; omega
      intro g3 cap3 w5 hown3 hgrow3 hat3 hgz3
      have HI5 := Lib.hid (HI4.out.push HBB.out hown3 hgrow3 hat3)
      clear hown3 hgrow3 hat3 cx
      have a0 : w5.cell? ⟨ba, 0, none⟩ = some (.int .i64 a.1) := (HI5.out.b.cell (p := ⟨ba, 0, none⟩) HaB.out).trans (HA1.out 0 (by decide)).1
      have a1 : w5.cell? ⟨ba, 1, none⟩ = some (.int .u64 a.2.1) := (HI5.out.b.cell (p := ⟨ba, 1, none⟩) HaB.out).trans (HA1.out 1 (by decide)).1
      have a2 : w5.cell? ⟨ba, 2, none⟩ = some (.int .u64 a.2.2) := (HI5.out.b.cell (p := ⟨ba, 2, none⟩) HaB.out).trans (HA1.out 2 (by decide)).1
      go_wp2_with fail
      refine (HC.out _).mono ?_
      rintro e w6 ⟨rfl, hb6⟩
      have HI6 := Lib.hid ((HI5.out.below HBB.out hb6).below HBB.out (box1 w6 (.cells #[.int .i64 c.1, .int .u64 c.2.1, .int .u64 c.2.2] 25)))
      clear hb6 a0 a1 a2
      go_wp2_with fail
      refine (HLk1.out _ HI6.out.b).mono ?_
      rintro e w7 ⟨rfl, hb7⟩
      have HI7 := Lib.hid (HI6.out.below HBB.out hb7)
      clear hb7
      go_wp2_with fail
      obtain ⟨w8, hw8⟩ : ∃ w8, w8 = w7.alloc (.cells #[.int .i64 c.1, .int .u64 c.2.1, .int .u64 c.2.2, .int .i64 (grpOf l c x), .int .i64 (mks l L c x), .int .i64 (bst l c x)] 119) := ⟨_, rfl⟩
      obtain ⟨bo, hbo⟩ : ∃ bo, bo = w7.heap.size := ⟨_, rfl⟩
      have HI8 := Lib.hid (show LkI w1 B bt tl th _ _ _ w8 by rw [hw8]; exact HI7.out.below HBB.out (box1 w7 _))
      have HO8 := Lib.hid (show St w8 bo 6 (enF c (grpOf l c x) (mks l L c x) (bst l c x)) by rw [hw8, hbo]; exact en_at c _ _ _ _ rfl)
      rw [← hw8, ← hbo]
      clear hw8 hbo
      refine (HIs1.out _).mono ?_
      rintro e w9 ⟨rfl, hb9⟩
      have HI9 := Lib.hid (HI8.out.below HBB.out hb9)
      have HO9 := Lib.hid (HO8.out.below hb9 (HO8.out.lt (by decide)))
      clear hb9
      have c0 : w9.cell? ⟨bt, 0, none⟩ = some (.int .i64 tl) := (HI9.out.t 0 (by decide)).1
      have c1 : w9.cell? ⟨bt, 1, none⟩ = some (.int .i64 th) := (HI9.out.t 1 (by decide)).1
      have o5 : w9.cell? ⟨bo, 5, none⟩ = some (.int .i64 (bst l c x)) := (HO9.out 5 (by decide)).1
      cases hpx : p x with
      | true =>
        have HX2 := Lib.hid (show (xs ++ [x]) ++ asks p (slc L (k + 1) th) = asks p L by rw [← HX.out, HA.out, hpx, if_pos rfl, List.append_assoc]; rfl)
        have HLB2 := Lib.hid (show lastB p q (bst l c x) (asks p (slc L (k + 1) th)) = M by
          have h := HLB.out
          rw [HA.out, hpx, if_pos rfl] at h
          rw [← h]
          show _ = lastB p q (if p x then q x else bb) _
          rw [hpx, if_pos rfl, Hqx.out])
        clear hpx
        go_wp2_with fail
        refine (HL1.out _).mono ?_
        rintro e w10 ⟨rfl, hb10⟩
        have HI10 := Lib.hid (HI9.out.below HBB.out hb10)
        have d0 : w10.cell? ⟨bt, 0, none⟩ = some (.int .i64 tl) := (HI10.out.t 0 (by decide)).1
        have d1 : w10.cell? ⟨bt, 1, none⟩ = some (.int .i64 th) := (HI10.out.t 1 (by decide)).1
        have f0 := (HI10.out.t 0 (by decide)).2
        have f1 := (HI10.out.t 1 (by decide)).2
        clear hb10 c0 c1 o5
        go_wp2
        go_roundw
        case rel => exact ⟨k + 1, th, n2 + 1, _, cap3, _, xs ++ [x], by have := Hk.out; omega, hhz, rfl, rfl, by have := Hk.out; omega, HI10.out.set HtB.out (k + 1) th, by show _ = _; rw [List.length_append, ← HN.out]; rfl, HX2, HLB2⟩
        case measure => exact tr_meas (HI.out.t 0 (by decide)).1 (HI.out.t 1 (by decide)).1 (HI10.out.set HtB.out (k + 1) th).t (by have := Hk.out; omega)
      | false =>
        have HX2 := Lib.hid (show (xs ++ [x]) ++ asks p (slc L tl k) = asks p L by rw [← HX.out, HA.out, hpx, if_neg Bool.false_ne_true, List.append_assoc]; rfl)
        have HLB2 := Lib.hid (show lastB p q bb (asks p (slc L tl k)) = M by
          have h := HLB.out
          rw [HA.out, hpx, if_neg Bool.false_ne_true] at h
          rw [← h]
          show _ = lastB p q (if p x then q x else bb) _
          rw [hpx, if_neg Bool.false_ne_true])
        clear hpx
        go_wp2_with fail
        refine (HS1.out _).mono ?_
        rintro e w10 ⟨rfl, hb10⟩
        have HI10 := Lib.hid (HI9.out.below HBB.out hb10)
        have d0 : w10.cell? ⟨bt, 0, none⟩ = some (.int .i64 tl) := (HI10.out.t 0 (by decide)).1
        have d1 : w10.cell? ⟨bt, 1, none⟩ = some (.int .i64 th) := (HI10.out.t 1 (by decide)).1
        have f0 := (HI10.out.t 0 (by decide)).2
        have f1 := (HI10.out.t 1 (by decide)).2
        clear hb10 c0 c1 o5
        go_wp2
        go_roundw
        case rel => exact ⟨tl, k, n2 + 1, _, cap3, bb, xs ++ [x], by have := Hk.out; omega, by omega, rfl, rfl, by have := Hk.out; omega, HI10.out.set HtB.out tl k, by show _ = _; rw [List.length_append, ← HN.out]; rfl, HX2, HLB2⟩
        case measure => exact tr_meas (HI.out.t 0 (by decide)).1 (HI.out.t 1 (by decide)).1 (HI10.out.set HtB.out tl k).t (by have := Hk.out; omega)
    · have HE1 := Lib.hid (fun (w : World) => HEm.out tl th w)
      rw [show decide (th ≤ tl) = true from decide_eq_true (by omega)] at HE1
      have HX2 := Lib.hid (show xs = asks p L by have h := HX.out; rw [slc_none (by omega)] at h; rw [← h]; simp [asks, vis_nil])
      have HLB2 := Lib.hid (show bb = M by have h := HLB.out; rw [slc_none (by omega)] at h; exact h)
      go_wp2_with fail
      refine (HE1.out _).mono ?_
      rintro e w3 ⟨rfl, hb3⟩
      have HI3 := Lib.hid (HI.out.below HBB.out hb3)
      clear hb3 c0 c1
      have a0 : w3.cell? ⟨ba, 0, none⟩ = some (.int .i64 a.1) := (HI3.out.b.cell (p := ⟨ba, 0, none⟩) HaB.out).trans (HA1.out 0 (by decide)).1
      have a1 : w3.cell? ⟨ba, 1, none⟩ = some (.int .u64 a.2.1) := (HI3.out.b.cell (p := ⟨ba, 1, none⟩) HaB.out).trans (HA1.out 1 (by decide)).1
      have a2 : w3.cell? ⟨ba, 2, none⟩ = some (.int .u64 a.2.2) := (HI3.out.b.cell (p := ⟨ba, 2, none⟩) HaB.out).trans (HA1.out 2 (by decide)).1
      go_wp2_with fail
      refine (HGo.out _ HI3.out.b bb).mono ?_
      rintro e w4 ⟨rfl, hb4⟩
      have HI4 := Lib.hid (HI3.out.below HBB.out hb4)
      clear hb4 a0 a1 a2
      have HR4 := Lib.hid (HR1.out.below HI4.out.b HrB.out)
      have r0 : w4.cell? ⟨br, 0, none⟩ = some (.int .i64 0) := (HR4.out 0 (by decide)).1
      have r1 : w4.cell? ⟨br, 1, none⟩ = some (.int .i64 0) := (HR4.out 1 (by decide)).1
      have r2 : w4.cell? ⟨br, 2, none⟩ = some (.slice none 0 0) := (HR4.out 2 (by decide)).1
      have f0 := (HR4.out 0 (by decide)).2
      have f1 := (HR4.out 1 (by decide)).2
      have f2 := (HR4.out 2 (by decide)).2
      have hne : ∀ g, (Value.slice ao2 n2 cap2).ownBlock = some g → g ≠ br := fun g hg e => by have h1 := (World.ownsRow.lt HI4.out.row g hg).1; have h2 := HrB.out; omega
      have Hne := Lib.hid hne
      clear hne
      go_wp2
      refine bodyPost_ret (v := fdV bb (gof l a bb) (.slice ao2 n2 cap2)) (by simp [results, Try.results37, go_sem, r0, r1, r2]) rfl ⟨ao2, n2, cap2, ?_, ?_, ?_, ?_⟩
      · rw [HLB2.out]
      · rw [← HX2.out]; exact HN.out
      · rw [← HX2.out]; exact row_lower (row_set (row_set (row_set HI4.out.row Hne.out _) Hne.out _) Hne.out _) HwB.out
      · exact below_set (below_set (below_set (HB1.out.trans (HI4.out.b.mono HwB.out)) Hbr.out _) Hbr.out _) Hbr.out _
end Go.Proofs.Ytnfkgnjeamnhfab
namespace Go.Proofs.Ytnfkgnjeamnhfab
open Go.RowKit Go.Sort

theorem fam_of {cs : List Rt} (hs : Srt cs) (hg : ∀ r ∈ cs, Gd r) (fam : Int) : Fam (famF cs fam) fam :=
  ⟨List.Pairwise.filter _ hs, fun _ hr => hg _ (famF_mem.1 hr).1, fun _ hr => (famF_mem.1 hr).2⟩
/-- The family's lengths. -/
def lnsT (cs : List Rt) (fam : Int) : List Int := lensC (famF cs fam) 129
/-- What the program's Lengths tells. -/
def lensT (cs : List Rt) (fam : Int) : List Int := if fam = 4 ∨ fam = 6 then lnsT cs fam else []
/-- What the program's Entries tells. -/
def entsT (cs : List Rt) (fam m : Int) : List En := if H.lenE fam m = 0 then (eadC (famF cs fam) (lnsT cs fam) m).map (enOf (famF cs fam) (lnsT cs fam) m) else []
theorem lenE_ok {fam m : Int} (h : H.lenE fam m = 0) : (fam = 4 ∨ fam = 6) ∧ 0 ≤ m ∧ m ≤ wid fam := by
  unfold H.lenE at h
  unfold wid
  split at h
  · rename_i h4
    rw [if_pos h4]
    split at h
    · cases h
    · exact ⟨.inl h4, by omega, by omega⟩
  · rename_i h4
    rw [if_neg h4]
    split at h
    · rename_i h6
      split at h
      · cases h
      · exact ⟨.inr h6, by omega, by omega⟩
    · cases h
theorem adrE_ok {f : Int} {hi lo : Nat} (h : H.adrE f hi lo = 0) : f = 4 ∨ f = 6 := by
  unfold H.adrE at h
  split at h
  · left; assumption
  · split at h
    · right; assumption
    · cases h

set_option maxHeartbeats 1000000 in
theorem tlens_any {N : Nat} {ρ : Nat → Nat} {w : World} {T rS rQ : Nat} {gs : Nat → List Int} {rs : List Rt} {lim : Int} {f : Nat → Value} (h : Tq N ρ w T rS rQ 3 35 gs rs lim f) (hlen : rs.length ≤ 1000) (hs : Srt rs) (hg : ∀ r ∈ rs, Gd r) (fam : Int) :
    Calls Try.prog 14 #[.pointer (some ⟨T, 0, none⟩), .int .i64 fam] w fun e w' => ∃ ao n cap, e = .returned (.tuple #[.slice ao n cap, .int .i64 (famE fam)]) ∧ n = (lensT rs fam).length ∧ w'.ownsRow w.heap.size 3 1 (.slice ao n cap) n (ints (lensT rs fam)) ∧ Below w.heap.size w w' := by
  unfold famE lensT
  by_cases hf : fam = 4 ∨ fam = 6
  · rw [if_pos hf, if_pos hf]
    obtain ⟨x, hx, hw⟩ := width_fam fam w hf
    have HW := Lib.hid hw
    have HO := Lib.hid (of_any N T (f 35) rs fam w (h.rq.st 35 (by decide)).1 h.rq.row.1 hlen)
    have HLn := Lib.hid (fun (w1 : World) (v : Value) (hv : RwO w1 w.heap.size v (famF rs fam)) => elens_any w.heap.size v (famF rs fam) w1 hv (Nat.le_trans (famF_le rs fam) hlen) (fun r hr => by have := ((fam_of hs hg fam).gd r hr).len; omega))
    clear h hw hf hs hg
    go_enter Try.func14, Try.ntmps14
    go_wp2_with (first | (go_at_call 38; refine HW.out.mono ?_; rintro e w1 ⟨rfl, rfl⟩) | (go_at_call 36; refine HO.out.mono ?_; rintro e w2 ⟨ao, n, cap, rfl, hn, hr, hb⟩; have Hr := Lib.hid hr; have Hb := Lib.hid hb; clear hn hr hb) | (go_at_call 40; refine (HLn.out _ _ Hr.out).mono ?_; rintro e w3 ⟨ao3, n3, cap3, rfl, hn3, hr3, hb3⟩; have Hn3 := Lib.hid hn3; have Hr3 := Lib.hid hr3; have Hb3 := Lib.hid hb3; clear hn3 hr3 hb3))
    go_ret2
    exact ⟨ao3, n3, cap3, rfl, Hn3.out, row_lower Hr3.out Hb.out.size, Hb.out.trans (Hb3.out.mono Hb.out.size)⟩
  · rw [if_neg hf, if_neg hf]
    have HW := Lib.hid (H.width_no fam w (fun e => hf (.inl e)) (fun e => hf (.inr e)))
    clear h hf
    go_enter Try.func14, Try.ntmps14
    go_wp2_with (go_at_call 38; refine HW.out.mono ?_; rintro e w1 ⟨rfl, rfl⟩)
    go_ret2
    exact ⟨none, 0, 0, rfl, rfl, World.ownsRow_nil _ _ _ _, Below.refl _ _⟩

set_option maxHeartbeats 1000000 in
theorem tents_any {N : Nat} {ρ : Nat → Nat} {w : World} {T rS rQ : Nat} {gs : Nat → List Int} {rs : List Rt} {lim : Int} {f : Nat → Value} (h : Tq N ρ w T rS rQ 3 35 gs rs lim f) (hlen : rs.length ≤ 1000) (hs : Srt rs) (hg : ∀ r ∈ rs, Gd r) (fam m : Int) :
    Calls Try.prog 76 #[.pointer (some ⟨T, 0, none⟩), .int .i64 fam, .int .i64 m] w fun e w' => ∃ ao n cap, e = .returned (.tuple #[.slice ao n cap, .int .i64 (H.lenE fam m)]) ∧ n = (entsT rs fam m).length ∧ RwE w' w.heap.size (.slice ao n cap) (entsT rs fam m) ∧ Below w.heap.size w w' := by
  have HC := Lib.hid (fun (w : World) => H.checkLen_any fam m w)
  unfold entsT
  obtain ⟨x, hx⟩ : ∃ x, x = H.lenE fam m := ⟨_, rfl⟩
  rw [← hx] at HC ⊢
  by_cases h0 : x = 0
  · rw [if_pos h0]
    subst h0
    obtain ⟨h1, h2, h3⟩ := lenE_ok hx.symm
    have HO := Lib.hid (of_any N T (f 35) rs fam w (h.rq.st 35 (by decide)).1 h.rq.row.1 hlen)
    have HA := Lib.hid (fun (w1 : World) (v : Value) (hv : RwO w1 w.heap.size v (famF rs fam)) => at_any w.heap.size v (famF rs fam) m fam w1 hv (Nat.le_trans (famF_le rs fam) hlen) (fam_of hs hg fam) h1 h2 h3)
    clear h hs hg h1 h2 h3 hx
    go_enter Try.func76, Try.ntmps76
    go_wp2_with (first | (go_at_call 73; refine (HC.out _).mono ?_; rintro e w1 ⟨rfl, rfl⟩) | (go_at_call 36; refine HO.out.mono ?_; rintro e w2 ⟨ao, n, cap, rfl, hn, hr, hb⟩; have Hr := Lib.hid hr; have Hb := Lib.hid hb; clear hn hr hb) | (go_at_call 91; refine (HA.out _ _ Hr.out).mono ?_; rintro e w3 ⟨ao3, n3, cap3, rfl, hn3, hr3, hb3⟩; have Hn3 := Lib.hid hn3; have Hr3 := Lib.hid hr3; have Hb3 := Lib.hid hb3; clear hn3 hr3 hb3))
    go_ret2
    exact ⟨ao3, n3, cap3, rfl, by rw [List.length_map]; exact Hn3.out, row_lower Hr3.out Hb.out.size, Hb.out.trans (Hb3.out.mono Hb.out.size)⟩
  · rw [if_neg h0]
    have q : (x == 0) = false := ine_beq h0
    clear h h0 hx hs hg
    go_enter Try.func76, Try.ntmps76
    go_wp2_with (go_at_call 73; refine (HC.out _).mono ?_; rintro e w1 ⟨rfl, rfl⟩)
    go_ret2
    exact ⟨none, 0, 0, rfl, rfl, World.ownsRow_nil _ _ _ _, Below.refl _ _⟩

/-- What the program's Lookup tells. -/
def lookLT (cs : List Rt) (a : Ad) : Int := if H.adrE a.1 a.2.1 a.2.2 = 0 then lkL (famF cs a.1) (lnsT cs a.1) a else 0
def lookGT (cs : List Rt) (a : Ad) : Int := if H.adrE a.1 a.2.1 a.2.2 = 0 then gof (famF cs a.1) a (lkL (famF cs a.1) (lnsT cs a.1) a) else 0
def lookAT (cs : List Rt) (a : Ad) : List Int := if H.adrE a.1 a.2.1 a.2.2 = 0 then asks (fnd (famF cs a.1) (lnsT cs a.1) a) (lnsT cs a.1) else []
set_option maxHeartbeats 1000000 in
theorem tlook_any {N : Nat} {ρ : Nat → Nat} {w : World} {T rS rQ : Nat} {gs : Nat → List Int} {rs : List Rt} {lim : Int} {f : Nat → Value} (h : Tq N ρ w T rS rQ 3 35 gs rs lim f) (hlen : rs.length ≤ 1000) (hs : Srt rs) (hg : ∀ r ∈ rs, Gd r) (a : Ad) (hfit : FitA a) :
    Calls Try.prog 10 #[.pointer (some ⟨T, 0, none⟩), adV a] w fun e w' => ∃ ao n cap, e = .returned (.tuple #[fdV (lookLT rs a) (lookGT rs a) (.slice ao n cap), .int .i64 (H.adrE a.1 a.2.1 a.2.2)]) ∧ n = (lookAT rs a).length ∧ w'.ownsRow w.heap.size 3 1 (.slice ao n cap) n (ints (lookAT rs a)) ∧ Below w.heap.size w w' := by
  have HC := Lib.hid (fun (w : World) => H.checkAdr_any a.1 a.2.1 a.2.2 w)
  have hst := h.rq.st
  have hT := hst.lt (by decide)
  unfold lookLT lookGT lookAT
  obtain ⟨x, hx⟩ : ∃ x, x = H.adrE a.1 a.2.1 a.2.2 := ⟨_, rfl⟩
  rw [← hx] at HC ⊢
  obtain ⟨w0, hw0⟩ : ∃ w0, w0 = (w.alloc (.cells #[.int .i64 a.1, .int .u64 a.2.1, .int .u64 a.2.2] 25)).alloc (.cells #[.int .i64 0, .int .i64 0, .slice none 0 0] 33) := ⟨_, rfl⟩
  obtain ⟨ba, hba⟩ : ∃ x, x = w.heap.size := ⟨_, rfl⟩
  obtain ⟨br, hbr⟩ : ∃ x, x = w.heap.size + 1 := ⟨_, rfl⟩
  have HA0 := Lib.hid (show St w0 ba 3 (adF a) by rw [hw0, hba]; exact (ad_at a _ rfl).alloc (by decide) _)
  have HR0 := Lib.hid (show St w0 br 3 fdF by rw [hw0, hbr]; exact fd_at _ (by simp))
  have HB0 := Lib.hid (show Below w.heap.size w w0 by rw [hw0]; exact two_boxes _ _ _)
  have Hbl := Lib.hid (show w.heap.size ≤ br by omega)
  have Hw0 := Lib.hid hw0
  have Hba := Lib.hid hba
  have Hbr := Lib.hid hbr
  clear hw0 hba hbr
  by_cases h0 : x = 0
  · simp only [if_pos h0]
    subst h0
    have h1 := adrE_ok hx.symm
    have HO := Lib.hid (fun (w1 : World) (hb : Below w.heap.size w w1) => of_any N T (f 35) rs a.1 w1 ((hst.below hb hT) 35 (by decide)).1 (rowE_far h.rq.row.1 hb (fun g hg => (World.ownsRow.lt h.rq.row.1 g hg).2)) hlen)
    have HL := Lib.hid (fun (w1 : World) (N1 : Nat) (v : Value) (hv : RwO w1 N1 v (famF rs a.1)) => elookup_any N1 v (famF rs a.1) a w1 hv (Nat.le_trans (famF_le rs a.1) hlen) (fam_of hs hg a.1) h1 hfit)
    clear h hs hg h1 hx hst hT
    go_enter Try.func10, Try.ntmps10
    go_wp2_with fail
    rw [← Hw0.out, ← Hbr.out, ← Hba.out]
    refine (HC.out _).mono ?_
    rintro e w1 ⟨rfl, hb1⟩
    have HA1 := Lib.hid (HA0.out.below hb1 (HA0.out.lt (by decide)))
    have HR1 := Lib.hid (HR0.out.below hb1 (HR0.out.lt (by decide)))
    have HB1 := Lib.hid (HB0.out.trans (hb1.mono HB0.out.size))
    have a0 : w1.cell? ⟨ba, 0, none⟩ = some (.int .i64 a.1) := (HA1.out 0 (by decide)).1
    clear hb1
    go_upto_region 4 with fail
    go_cut [7] from 14 to 19 (fun s7 wx => ∃ ao n cap, s7 = .slice ao n cap ∧ Hid (RwO wx w1.heap.size (.slice ao n cap) (famF rs a.1)) ∧ Hid (Below w1.heap.size w1 wx))
    case first =>
      go_region_with (go_at_call 36; refine (HO.out _ (by exact ⟨HB1.out.os, HB1.out.tape, HB1.out.output, HB1.out.size, HB1.out.block⟩)).mono ?_; rintro e w2 ⟨ao, n, cap, rfl, hn, hr, hb2⟩; clear hn)
      all_goals
        go_wp2_with fail
        go_meet
        exact ⟨ao, n, cap, rfl, hr, ⟨hb2.os, hb2.tape, hb2.output, hb2.size, hb2.block⟩⟩
    case rest =>
    obtain ⟨ao, n, cap, rfl, hr, hb2⟩ := hcut
    replace hr := hr.out
    replace hb2 := hb2.out
    have Hr := Lib.hid hr
    have HA2 := Lib.hid (HA1.out.below hb2 (HA1.out.lt (by decide)))
    have HR2 := Lib.hid (HR1.out.below hb2 (HR1.out.lt (by decide)))
    have HB2 := Lib.hid (HB1.out.trans (hb2.mono HB1.out.size))
    clear hb2 hr a0
    have a0 : wc.cell? ⟨ba, 0, none⟩ = some (.int .i64 a.1) := (HA2.out 0 (by decide)).1
    have a1 : wc.cell? ⟨ba, 1, none⟩ = some (.int .u64 a.2.1) := (HA2.out 1 (by decide)).1
    have a2 : wc.cell? ⟨ba, 2, none⟩ = some (.int .u64 a.2.2) := (HA2.out 2 (by decide)).1
    go_wp2_with fail
    refine (HL.out _ _ _ Hr.out).mono ?_
    rintro e w3 ⟨ao3, n3, cap3, rfl, hn3, hr3, hb3⟩
    have HR3 := Lib.hid (HR2.out.below hb3 (HR2.out.lt (by decide)))
    have HB3 := Lib.hid (HB2.out.trans (hb3.mono HB2.out.size))
    have Hn3 := Lib.hid hn3
    have Hr3 := Lib.hid (row_lower hr3 HB2.out.size)
    have hne : ∀ g, (Value.slice ao3 n3 cap3).ownBlock = some g → g ≠ br := fun g hg e => by
      have h1 := (World.ownsRow.lt hr3 g hg).1
      have h2 := HR2.out.lt (by decide)
      omega
    have Hne := Lib.hid hne
    clear hn3 hr3 hb3 hne a0 a1 a2
    have r0 : w3.cell? ⟨br, 0, none⟩ = some (.int .i64 0) := (HR3.out 0 (by decide)).1
    have r1 : w3.cell? ⟨br, 1, none⟩ = some (.int .i64 0) := (HR3.out 1 (by decide)).1
    have r2 : w3.cell? ⟨br, 2, none⟩ = some (.slice none 0 0) := (HR3.out 2 (by decide)).1
    have f0 := (HR3.out 0 (by decide)).2
    have f1 := (HR3.out 1 (by decide)).2
    have f2 := (HR3.out 2 (by decide)).2
    obtain ⟨M, hM⟩ : ∃ M, M = lkL (famF rs a.1) (lnsT rs a.1) a := ⟨_, rfl⟩
    obtain ⟨G, hG⟩ : ∃ G, G = gof (famF rs a.1) a M := ⟨_, rfl⟩
    have HG := Lib.hid hG
    have HM := Lib.hid hM
    go_wp2
    refine bodyPost_ret (v := .tuple #[fdV (lkL (famF rs a.1) (lnsT rs a.1) a) (gof (famF rs a.1) a (lkL (famF rs a.1) (lnsT rs a.1) a)) (.slice ao3 n3 cap3), .int .i64 0]) (by simp [results, Try.results10, go_sem, r0, r1, r2, lnsT]) rfl ⟨ao3, n3, cap3, rfl, Hn3.out, ?_, ?_⟩
    · exact row_set (row_set (row_set Hr3.out Hne.out _) Hne.out _) Hne.out _
    · exact below_set (below_set (below_set HB3.out Hbl.out _) Hbl.out _) Hbl.out _
  · simp only [if_neg h0]
    have q : (x == 0) = false := ine_beq h0
    clear h hs hg hx hst hT h0
    go_enter Try.func10, Try.ntmps10
    go_wp2_with fail
    rw [← Hw0.out, ← Hbr.out, ← Hba.out]
    refine (HC.out _).mono ?_
    rintro e w1 ⟨rfl, hb1⟩
    have HR1 := Lib.hid (HR0.out.below hb1 (HR0.out.lt (by decide)))
    have HB1 := Lib.hid (HB0.out.trans (hb1.mono HB0.out.size))
    clear hb1
    have r0 : w1.cell? ⟨br, 0, none⟩ = some (.int .i64 0) := (HR1.out 0 (by decide)).1
    have r1 : w1.cell? ⟨br, 1, none⟩ = some (.int .i64 0) := (HR1.out 1 (by decide)).1
    have r2 : w1.cell? ⟨br, 2, none⟩ = some (.slice none 0 0) := (HR1.out 2 (by decide)).1
    have f0 := (HR1.out 0 (by decide)).2
    have f1 := (HR1.out 1 (by decide)).2
    have f2 := (HR1.out 2 (by decide)).2
    go_wp2
    refine bodyPost_ret (v := .tuple #[fdV 0 0 (.slice none 0 0), .int .i64 x]) (by simp [results, Try.results10, go_sem, r0, r1, r2]) rfl ⟨none, 0, 0, rfl, rfl, World.ownsRow_nil _ _ _ _, ?_⟩
    exact below_set (below_set (below_set HB1.out Hbl.out _) Hbl.out _) Hbl.out _
end Go.Proofs.Ytnfkgnjeamnhfab
