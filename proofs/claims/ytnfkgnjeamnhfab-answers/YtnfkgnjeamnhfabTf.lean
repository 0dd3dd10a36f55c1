import Derived.Test.YtnfkgnjeamnhfabTe
namespace Go.Proofs.Ytnfkgnjeamnhfab
open Go.RowKit Go.Sort

/-- An entry. -/
structure En where
  a : Ad
  g : Int
  k : Int
  b : Int
/-- Its cells. -/
abbrev ec (e : En) : List Value := [.int .i64 e.a.1, .int .u64 e.a.2.1, .int .u64 e.a.2.2, .int .i64 e.g, .int .i64 e.k, .int .i64 e.b]
def flatE (es : List En) : List Value := es.flatMap ec
theorem flatE_cons (r : En) (rs : List En) : flatE (r :: rs) = ec r ++ flatE rs := rfl
theorem flatE_append (a b : List En) : flatE (a ++ b) = flatE a ++ flatE b := by simp [flatE]
theorem flatE_len (rs : List En) : (flatE rs).length = rs.length * 6 := by
  induction rs with
  | nil => rfl
  | cons r rs ih => rw [flatE_cons, List.length_append, ih]; simp; omega
theorem flatE_get {rs : List En} {k : Nat} {r : En} (h : rs[k]? = some r) {i : Nat} (hi : i < 6) : (flatE rs)[k * 6 + i]? = (ec r)[i]? := by
  induction rs generalizing k with
  | nil => simp at h
  | cons a rs ih =>
    rw [flatE_cons]
    cases k with
    | zero =>
      simp at h; subst h
      rw [Nat.zero_mul, Nat.zero_add, List.getElem?_append_left (by simpa using hi)]
    | succ k =>
      simp at h
      rw [List.getElem?_append_right (by simp; omega)]
      have : (k + 1) * 6 + i - (ec a).length = k * 6 + i := by simp; omega
      rw [this]
      exact ih h
/-- A row of entries. -/
abbrev RwE (w : World) (N : Nat) (v : Value) (es : List En) : Prop := w.ownsRow N 119 6 v es.length (flatE es)
theorem RwE.at {w : World} {N : Nat} {ao : Option Addr} {n cap : Nat} {es : List En} (h : RwE w N (.slice ao n cap) es) {k : Nat} {r : En} (hk : es[k]? = some r) : ∃ g, ao = some ⟨g, 0, none⟩ ∧ n = es.length ∧ (∀ i u, (ec r)[i]? = some u → w.cell? ⟨g, k * 6 + i, none⟩ = some u) ∧ (∀ j, w.frozen? ⟨g, j, none⟩ = false) ∧ N ≤ g ∧ g < w.heap.size := by
  have hlt := (List.getElem?_eq_some_iff.1 hk).1
  obtain ⟨g, cap', e, hN, hg⟩ := World.ownsRow.form h (by omega)
  obtain ⟨rfl, e2, e3⟩ : ao = some ⟨g, 0, none⟩ ∧ n = es.length ∧ cap = cap' := by simpa using e
  subst e2 e3
  refine ⟨g, rfl, rfl, fun i u hu => ?_, World.ownsRow.frozenAt h, hN, hg⟩
  have hi := (List.getElem?_eq_some_iff.1 hu).1
  simp at hi
  rw [World.ownsRow.cellAt h _ (by omega), flatE_get hk (by simpa using hi)]
  exact hu
theorem infoEm : (Try.prog.info? 119).map (fun i => (i.size, i.bytes, i.zero)) = some (6, 48, some (.agg #[.int .i64 0, .int .u64 0, .int .u64 0, .int .i64 0, .int .i64 0, .int .i64 0])) := by kernel_rfl
theorem infoE : ∃ i, Try.prog.info? 119 = some i ∧ i.zero = some (.agg #[.int .i64 0, .int .u64 0, .int .u64 0, .int .i64 0, .int .i64 0, .int .i64 0]) ∧ i.size = 6 ∧ i.bytes = 48 := by
  obtain ⟨i, hi, he⟩ := Option.map_eq_some_iff.1 infoEm
  simp only [Prod.mk.injEq] at he
  exact ⟨i, hi, he.2.2, he.1, he.2.1⟩
theorem news_en (w : World) (r : En) (t : TypeId) : ∀ j u, (ec r)[j]? = some u → (w.alloc (.cells #[.int .i64 r.a.1, .int .u64 r.a.2.1, .int .u64 r.a.2.2, .int .i64 r.g, .int .i64 r.k, .int .i64 r.b] t)).cell? ((⟨w.heap.size, 0, none⟩ : Addr).add j) = some u :=
  World.news_of_block (cs := #[.int .i64 r.a.1, .int .u64 r.a.2.1, .int .u64 r.a.2.2, .int .i64 r.g, .int .i64 r.k, .int .i64 r.b]) (heap_alloc_new w _)
theorem news_en2 (w : World) (r : En) (o : Obj) (t : TypeId) : ∀ j u, (ec r)[j]? = some u → ((w.alloc o).alloc (.cells #[.int .i64 r.a.1, .int .u64 r.a.2.1, .int .u64 r.a.2.2, .int .i64 r.g, .int .i64 r.k, .int .i64 r.b] t)).cell? ((⟨w.heap.size + 1, 0, none⟩ : Addr).add j) = some u := by
  intro j u hu
  have := news_en (w.alloc o) r t j u hu
  rw [World.size_alloc] at this
  exact this
theorem ec_one (r : En) : ∀ u ∈ ec r, u.oneCell' = true := by
  intro u hu
  simp only [List.mem_cons, List.not_mem_nil, or_false] at hu
  rcases hu with rfl | rfl | rfl | rfl | rfl | rfl <;> rfl
theorem rd_row {w : World} {N : Nat} {ao : Option Addr} {n cap : Nat} {xs : List Int} (h : w.ownsRow N 3 1 (.slice ao n cap) n (ints xs)) (hn : n = xs.length) : Rd w ao n xs := by
  subst hn
  obtain ⟨ao', cap', e, h1, _⟩ := Own.rd (ρ := fun _ => 0) (r := 0) ⟨h, fun _ _ => rfl⟩
  simp at e
  rw [e.1]; exact h1
theorem cut_fit {a : Ad} (h : FitA a) (n : Int) : FitA (cutD a n) := by
  unfold cutD FitA
  split
  · exact ⟨h.1, Nat.le_trans (clr_le' _ _) h.2⟩
  · exact ⟨Nat.le_trans (clr_le' _ _) h.1, Nat.le_trans (clr_le' _ _) h.2⟩
theorem rowE_far {w w' : World} {N B e z : Nat} {v : Value} {n : Nat} {xs : List Value} (h : w.ownsRow N e z v n xs) (hb : Below B w w') (hv : ∀ k, v.ownBlock = some k → k < B) : w'.ownsRow N e z v n xs := by
  refine ⟨h.1, ?_⟩
  rcases h.2 with h1 | ⟨g, cap, cur, h1, hN, hgg, rest⟩
  · exact .inl h1
  · exact .inr ⟨g, cap, cur, h1, hN, (hb.block g (hv g (by rw [h1]; rfl))).trans hgg, rest⟩
/-- What the program's look tells. -/
def enOf (l : List Rt) (L : List Int) (m : Int) (a : Ad) : En := ⟨a, grpOf l a m, mks l L a m, bst l a m⟩
/-- Up to the first k routes. -/
def eadK (l : List Rt) (L : List Int) (m : Int) (k : Nat) : List Ad := (l.take k).foldl (fldS (fun r => cutD (adR r) m) (fun r => decide (m ≤ r.n ∧ m ∈ way L r.n))) []
theorem eadK_succ {l : List Rt} {L : List Int} {m : Int} {k : Nat} {r : Rt} (h : l[k]? = some r) : eadK l L m (k + 1) = fldS (fun r => cutD (adR r) m) (fun r => decide (m ≤ r.n ∧ m ∈ way L r.n)) (eadK l L m k) r := by
  unfold eadK; rw [take_app h, List.foldl_append]; rfl
theorem eadK_all (l : List Rt) (L : List Int) (m : Int) : eadK l L m l.length = eadC l L m := by unfold eadK eadC; rw [List.take_length]
theorem eadK_le {l : List Rt} {L : List Int} {m : Int} : ∀ k, k ≤ l.length → (eadK l L m k).length ≤ k
  | 0, _ => by simp [eadK]
  | k + 1, h => by
    obtain ⟨r, hr⟩ : ∃ r, l[k]? = some r := ⟨_, List.getElem?_eq_getElem (by omega)⟩
    rw [eadK_succ hr]
    have := eadK_le (l := l) (L := L) (m := m) k (by omega)
    unfold fldS
    split
    · rw [List.length_append]; simp; omega
    · omega

set_option maxRecDepth 4000 in
set_option maxHeartbeats 4000000 in
theorem at_any (N : Nat) (v : Value) (l : List Rt) (m fam : Int) (w : World) (hl : RwO w N v l) (hlen : l.length ≤ 1000) (hF : Fam l fam) (hfam : fam = 4 ∨ fam = 6) (h0 : 0 ≤ m) (h1 : m ≤ wid fam) :
    Calls Try.prog 91 #[v, .int .i64 m] w fun e w' => ∃ ao n cap, e = .returned (.slice ao n cap) ∧ n = (eadC l (lensC l 129) m).length ∧ RwE w' w.heap.size (.slice ao n cap) ((eadC l (lensC l 129) m).map (enOf l (lensC l 129) m)) ∧ Below w.heap.size w w' := by
  have hn129 : ∀ r ∈ l, 0 ≤ r.n ∧ r.n < 129 := fun r hr => by have := (hF.gd r hr).len; omega
  have HLn := Lib.hid (elens_any N v l w hl hlen hn129)
  obtain ⟨lo, lc, rfl, -⟩ := RwO.form hl
  obtain ⟨L, hL⟩ : ∃ L, L = lensC l 129 := ⟨_, rfl⟩
  have hL200 : L.length ≤ 200 := by rw [hL]; have := lensC_le l 129; omega
  rw [← hL] at HLn ⊢
  have HL := Lib.hid hl
  obtain ⟨y, hy⟩ : ∃ y, y = l.length := ⟨_, rfl⟩
  rw [← hy] at hlen HLn ⊢
  have Hy := Lib.hid hy
  have HFm := Lib.hid hF
  have Hfam := Lib.hid hfam
  have Hm := Lib.hid (And.intro h0 h1)
  have HL2 := Lib.hid hL200
  clear hl hF hy hL hn129 hfam h0 h1 hL200
  go_enter Try.func91, Try.ntmps91
  go_wp2_with (first | (go_at_call 40; refine HLn.out.mono ?_; rintro e w1 ⟨ao, z, cap, rfl, hz, hrow, hb1⟩; have Hz := Lib.hid hz; have Hrow := Lib.hid hrow; have HB1 := Lib.hid hb1; clear hz hrow hb1))
  obtain ⟨B, hB⟩ : ∃ B, B = w1.heap.size := ⟨_, rfl⟩
  have HRd := Lib.hid (rd_row Hrow.out Hz.out)
  have hz200 : z ≤ 200 := by rw [Hz.out]; exact HL2.out
  have Hlo := Lib.hid (fun (r : Rt) (k : Nat) (hrk : l[k]? = some r) => RwO.at HL.out hrk)
  rw [← hB]
  have HBB := Lib.hid (show B ≤ w1.heap.size by omega)
  have HwB := Lib.hid (show w.heap.size ≤ B by rw [hB]; exact HB1.out.size)
  have HB0 := Lib.hid (show Below B w1 (w1.alloc (.cells #[] 119)) by rw [hB]; exact box1 _ _)
  have HE0 := Lib.hid (show RwE (w1.alloc (.cells #[] 119)) B (.slice (some ⟨B, 0, none⟩) 0 0) [] by rw [hB]; exact World.ownsRow_lit w1 #[] 0 (Nat.le_refl _) (by unfold maxLen; omega) rfl)
  have HLk := Lib.hid (fun (w2 : World) (hb : Below B w1 w2) (c : Ad) (hc1 : c.1 = fam) (hc2 : FitA c) => look_any N (.slice lo y lc) l ao z cap L c m fam w2 (by rw [Hy.out]; exact HL.out.far (HB1.out.trans (hb.mono HwB.out)) (fun g hg => (World.ownsRow.lt HL.out g hg).2)) (by rw [← Hy.out]; exact hlen) (HRd.out.same (fun b _ _ hlt => hb.block b (by rw [hB]; exact hlt))) hz200 HFm.out.gd HFm.out.fam hc1 Hfam.out hc2 Hm.out.1 Hm.out.2)
  have HOn := Lib.hid (fun (w2 : World) (hb : Below B w1 w2) (n : Int) => onWay_any ao z cap L m n w2 (HRd.out.same (fun b _ _ hlt => hb.block b (by rw [hB]; exact hlt))) hz200)
  obtain ⟨i0, hi0, hz0, hz1, hz2⟩ := infoE
  clear hB
  go_loopw [6, 7] (fun lv i wr => ∃ (k n2 : Nat) (ao2 : Option Addr) (cap2 : Nat), k ≤ y ∧ i = .int .i64 k ∧ lv = .slice ao2 n2 cap2 ∧ n2 ≤ k ∧ Hid (RwE wr B (.slice ao2 n2 cap2) ((eadK l L m k).map (enOf l L m))) ∧ Hid (n2 = (eadK l L m k).length) ∧ Hid (Below B w1 wr)) (fun _ i _ => y - (intOf i).toNat)
  case atStart => exact ⟨0, 0, _, _, Nat.zero_le _, rfl, rfl, Nat.le_refl _, HE0, rfl, HB0⟩
  case round =>
    obtain ⟨k, n2, ao2, cap2, hk, rfl, rfl, hn2, HE, HN, HB⟩ := hrel
    by_cases hlt : k < y
    · obtain ⟨r, hrk⟩ : ∃ r, l[k]? = some r := ⟨_, List.getElem?_eq_getElem (by rw [← Hy.out]; exact hlt)⟩
      obtain ⟨b, rfl, hat, -, -, hbl⟩ := RwO.at HL.out hrk
      have hbB : b < B := Nat.lt_of_lt_of_le hbl HwB.out
      have c0 : wr.cell? ⟨b, k * 5, none⟩ = some (.int .i64 (adR r).1) := (HB.out.cell (p := ⟨b, k * 5, none⟩) hbB).trans ((HB1.out.cell (p := ⟨b, k * 5, none⟩) hbl).trans hat.c0)
      have c1 : wr.cell? ⟨b, k * 5 + 1, none⟩ = some (.int .u64 (adR r).2.1) := (HB.out.cell (p := ⟨b, k * 5 + 1, none⟩) hbB).trans ((HB1.out.cell (p := ⟨b, k * 5 + 1, none⟩) hbl).trans hat.c1)
      have c2 : wr.cell? ⟨b, k * 5 + 2, none⟩ = some (.int .u64 (adR r).2.2) := (HB.out.cell (p := ⟨b, k * 5 + 2, none⟩) hbB).trans ((HB1.out.cell (p := ⟨b, k * 5 + 2, none⟩) hbl).trans hat.c2)
      have c3 := (HB.out.cell (p := ⟨b, k * 5 + 3, none⟩) hbB).trans ((HB1.out.cell (p := ⟨b, k * 5 + 3, none⟩) hbl).trans hat.c3)
      have Hrk := Lib.hid hrk
      have hgr := HFm.out.gd r (List.mem_of_getElem? hrk)
      have hfr := HFm.out.fam r (List.mem_of_getElem? hrk)
      have q1 : (k : Int) < (y : Int) := by omega
      have HK := Lib.hid (eadK_succ (L := L) (m := m) hrk)
      obtain ⟨wp, hwp⟩ : ∃ wp, wp = wr.alloc (.cells #[.int .i64 (adR r).1, .int .u64 (adR r).2.1, .int .u64 (adR r).2.2, .int .i64 r.n] 43) := ⟨_, rfl⟩
      obtain ⟨bp, hbp⟩ : ∃ bp, bp = wr.heap.size := ⟨_, rfl⟩
      have HPp := Lib.hid (show St wp bp 4 (prF (adR r) r.n) by rw [hwp, hbp]; exact pr_new wr (adR r) r.n _)
      have HEp := Lib.hid (show RwE wp B (.slice ao2 n2 cap2) _ by rw [hwp]; exact World.ownsRow.alloc HE.out _)
      have HBp := Lib.hid (show Below B w1 wp by rw [hwp]; exact HB.out.alloc (Nat.le_trans HBB.out HB.out.size) _)
      have Hwp := Lib.hid hwp
      have Hbp := Lib.hid hbp
      have HC := Lib.hid (fun (w : World) => cut_any (adR r) m w (by show r.f = 4 ∨ r.f = 6; rw [hfr]; exact Hfam.out) hgr.fit Hm.out.1 (by show m ≤ wid r.f; rw [hfr]; exact Hm.out.2))
      obtain ⟨c, hc⟩ : ∃ c, c = cutD (adR r) m := ⟨_, rfl⟩
      have Hc1 := Lib.hid (show c.1 = fam by rw [hc, cutD_fam]; exact hfr)
      have Hc2 := Lib.hid (show FitA c by rw [hc]; exact cut_fit (a := adR r) hgr.fit m)
      rw [← hc] at HC
      have Hc := Lib.hid hc
      replace HLk := Lib.hid (fun (w2 : World) (hb : Below B w1 w2) => HLk.out w2 hb c Hc1.out Hc2.out)
      replace HOn := Lib.hid (fun (w2 : World) (hb : Below B w1 w2) => HOn.out w2 hb r.n)
      clear hat hrk hwp hbp hgr hfr hc
      by_cases hm : r.n < m
      · have HK2 := Lib.hid (show eadK l L m (k + 1) = eadK l L m k by rw [HK.out]; unfold fldS; rw [if_neg]; rintro ⟨h1, -⟩; have := (of_decide_eq_true h1).1; omega)
        go_wp2
        rw [← Hwp.out]
        go_roundw
        case rel => exact ⟨k + 1, n2, ao2, cap2, by omega, by go_num, rfl, by omega, by show RwE _ _ _ _; rw [HK2.out]; exact HEp.out, by show _ = _; rw [HK2.out]; exact HN.out, HBp⟩
        case measure => simp [intOf]; omega
      · have hm' : m ≤ r.n := by omega
        go_wp2_with fail
        rw [← Hwp.out, ← Hbp.out]
        refine (HOn.out wp HBp.out).mono ?_
        rintro e w2 ⟨rfl, hb2⟩
        have HP2 := Lib.hid (HPp.out.below hb2 (HPp.out.lt (by decide)))
        have HE2 := Lib.hid (rowE_far HEp.out hb2 (fun g hg => (World.ownsRow.lt HEp.out g hg).2))
        have HB2 := Lib.hid (HBp.out.trans (hb2.mono (Nat.le_trans HBB.out HBp.out.size)))
        have p0 : w2.cell? ⟨bp, 0, none⟩ = some (.int .i64 (adR r).1) := (HP2.out 0 (by decide)).1
        have p1 : w2.cell? ⟨bp, 1, none⟩ = some (.int .u64 (adR r).2.1) := (HP2.out 1 (by decide)).1
        have p2 : w2.cell? ⟨bp, 2, none⟩ = some (.int .u64 (adR r).2.2) := (HP2.out 2 (by decide)).1
        clear hb2
        cases hon : decide (m ∈ way L r.n) with
        | false =>
          have HK2 := Lib.hid (show eadK l L m (k + 1) = eadK l L m k by rw [HK.out]; unfold fldS; rw [if_neg]; rintro ⟨h1, -⟩; exact of_decide_eq_false hon (of_decide_eq_true h1).2)
          go_wp2
          go_roundw
          case rel => exact ⟨k + 1, n2, ao2, cap2, by omega, by go_num, rfl, by omega, by show RwE _ _ _ _; rw [HK2.out]; exact HE2.out, by show _ = _; rw [HK2.out]; exact HN.out, HB2⟩
          case measure => simp [intOf]; omega
        | true =>
          have HK2 := Lib.hid (show eadK l L m (k + 1) = if (eadK l L m k).getLast? ≠ some c then eadK l L m k ++ [c] else eadK l L m k by
            rw [HK.out]; unfold fldS
            simp only [show decide (m ≤ r.n ∧ m ∈ way L r.n) = true from decide_eq_true ⟨hm', of_decide_eq_true hon⟩, true_and, ← Hc.out])
          clear hon
          go_wp2_with fail
          refine (HC.out _).mono ?_
          rintro e w3 ⟨rfl, hb3⟩
          obtain ⟨w4, hw4⟩ : ∃ w4, w4 = w3.alloc (.cells #[.int .i64 c.1, .int .u64 c.2.1, .int .u64 c.2.2] 25) := ⟨_, rfl⟩
          have HE3 := Lib.hid (rowE_far HE2.out hb3 (fun g hg => (World.ownsRow.lt HE2.out g hg).2))
          have HB3 := Lib.hid (HB2.out.trans (hb3.mono (Nat.le_trans HBB.out HB2.out.size)))
          obtain ⟨ba, hba⟩ : ∃ x, x = w3.heap.size := ⟨_, rfl⟩
          have HE4 := Lib.hid (show RwE w4 B (.slice ao2 n2 cap2) _ by rw [hw4]; exact World.ownsRow.alloc HE3.out _)
          have HB4 := Lib.hid (show Below B w1 w4 by rw [hw4]; exact HB3.out.alloc (Nat.le_trans HBB.out HB3.out.size) _)
          have a0 : w4.cell? ⟨ba, 0, none⟩ = some (.int .i64 c.1) := by rw [hw4, hba]; simp
          have a1 : w4.cell? ⟨ba, 1, none⟩ = some (.int .u64 c.2.1) := by rw [hw4, hba]; simp
          have a2 : w4.cell? ⟨ba, 2, none⟩ = some (.int .u64 c.2.2) := by rw [hw4, hba]; simp
          have Hw4 := Lib.hid hw4
          have Hba := Lib.hid hba
          clear hb3 hw4 hba p0 p1 p2 c0 c1 c2 c3
          by_cases hn0 : n2 = 0
          · subst hn0
            have HK3 := Lib.hid (show eadK l L m (k + 1) = eadK l L m k ++ [c] by
              rw [HK2.out, if_pos]
              rw [List.eq_nil_of_length_eq_zero HN.out.symm]
              simp)
            go_wp2_with fail
            rw [← Hw4.out, ← Hba.out]
            go_quiet (fail)
            go_wp2_with fail
            have HE4' := Lib.hid (show RwE (w4.drewN nq) B (.slice ao2 0 cap2) _ from HE4.out)
            have HB4' := Lib.hid (show Below B w1 (w4.drewN nq) from ⟨HB4.out.os, HB4.out.tape, HB4.out.output, HB4.out.size, HB4.out.block⟩)
            refine (HLk.out _ HB4'.out).mono ?_
            rintro e w5 ⟨rfl, hb5⟩
            have HB5 := Lib.hid (HB4'.out.trans (hb5.mono (Nat.le_trans HBB.out HB4'.out.size)))
            have HE5 := Lib.hid (rowE_far HE4'.out hb5 (fun g hg => (World.ownsRow.lt HE4'.out g hg).2))
            clear hb5
            have hB5 : B ≤ w5.heap.size := Nat.le_trans HBB.out HB5.out.size
            have HN2 := Lib.hid (show 0 = ((eadK l L m k).map (enOf l L m)).length by rw [List.length_map]; exact HN.out)
            go_wp2_with (at_builtin; refine wpList_append_lies _ rfl _ _ 131 rfl B 119 i0 (.agg #[.int .i64 0, .int .u64 0, .int .u64 0, .int .i64 0, .int .i64 0, .int .i64 0]) 6 48 Try.underlying131 hi0 hz0 hz1 hz2 rfl (by decide) _ (0) (flatE ((eadK l L m k).map (enOf l L m))) rfl ?c0 ⟨w5.heap.size + 1, 0, none⟩ 1 1 (ec (enOf l L m c)) rfl rfl ?c2 (ec_one _) (by decide) ?c4 ?c5 ?c6 _ rfl ?_)
            case c0 =>
              refine World.ownsRow.alloc (World.ownsRow.alloc ?_ _) _
              have h := HE5.out
              unfold RwE at h
              rw [← HN2.out] at h
              exact h
            case c2 => exact news_en2 w5 (enOf l L m c) _ _
            case c4 => unfold maxLen; omega
            case c5 => omega
            case c6 => simp; omega
            intro g3 cap3 w7 hown3 hgrow3 hat3 hgz3
            have HB7 := Lib.hid (below_grown (HB5.out.trans ((two_boxes w5 _ _).mono hB5)) hgrow3 (fun b hb => (World.ownsRow.lt HE5.out b hb).1) (by simp; omega))
            have HE7 := Lib.hid (show RwE w7 B (.slice (some ⟨g3, 0, none⟩) (0 + 1) cap3) ((eadK l L m (k + 1)).map (enOf l L m)) by
              unfold RwE
              rw [HK3.out, List.map_append, flatE_append, List.length_append, ← HN2.out]
              exact hown3)
            clear hown3 hgrow3 hat3
            go_wp2
            go_roundw
            case rel => exact ⟨k + 1, 0 + 1, _, cap3, by omega, by go_num, rfl, by omega, HE7, by show _ = _; rw [HK3.out, List.length_append, ← HN.out]; rfl, HB7⟩
            case measure => simp [intOf]; omega
          · obtain ⟨q, rfl⟩ : ∃ q, n2 = q + 1 := ⟨n2 - 1, by omega⟩
            clear hn0
            obtain ⟨x, hx⟩ : ∃ x, (eadK l L m k)[q]? = some x := ⟨_, List.getElem?_eq_getElem (by rw [← HN.out]; omega)⟩
            have hlast : (eadK l L m k).getLast? = some x := by
              rw [List.getLast?_eq_getElem?, ← HN.out]; exact hx
            obtain ⟨gq, rfl, -, hcells, -, hgB, hgz⟩ := RwE.at HE4.out (show ((eadK l L m k).map (enOf l L m))[q]? = some (enOf l L m x) by rw [List.getElem?_map, hx]; rfl)
            have x0 : w4.cell? ⟨gq, q * 6, none⟩ = some (.int .i64 x.1) := hcells 0 _ rfl
            have x1 : w4.cell? ⟨gq, q * 6 + 1, none⟩ = some (.int .u64 x.2.1) := hcells 1 _ rfl
            have x2 : w4.cell? ⟨gq, q * 6 + 2, none⟩ = some (.int .u64 x.2.2) := hcells 2 _ rfl
            have q0 : (0 : Int) ≤ (q : Int) := by omega
            have qz : ((q : Int) + 1 == 0) = false := by rw [Bool.eq_false_iff]; intro e; simp at e; omega
            have hE := neq_ad x c
            clear hcells hx hgB hgz
            by_cases hxc : x = c
            · have HK3 := Lib.hid (show eadK l L m (k + 1) = eadK l L m k by rw [HK2.out, if_neg]; rw [hlast, hxc]; simp)
              rw [decide_eq_true hxc, Bool.not_true] at hE
              clear hlast hxc
              go_wp2_with fail
              rw [← Hw4.out, ← Hba.out]
              go_quiet (fail)
              go_wp2
              go_roundw
              case rel => exact ⟨k + 1, q + 1, _, cap2, by omega, by go_num, rfl, by omega, by show RwE _ _ _ _; rw [HK3.out]; exact HE4.out, by show _ = _; rw [HK3.out]; exact HN.out, ⟨HB4.out.os, HB4.out.tape, HB4.out.output, HB4.out.size, HB4.out.block⟩⟩
              case measure => simp [intOf]; omega
            · have HK3 := Lib.hid (show eadK l L m (k + 1) = eadK l L m k ++ [c] by rw [HK2.out, if_pos]; rw [hlast]; intro e; exact hxc (Option.some.inj e))
              rw [decide_eq_false hxc, Bool.not_false] at hE
              clear hlast hxc
              go_wp2_with fail
              rw [← Hw4.out, ← Hba.out]
              go_quiet (fail)
              go_wp2_with fail
              have HE4' := Lib.hid (show RwE (w4.drewN nq) B (.slice (some ⟨gq, 0, none⟩) (q + 1) cap2) _ from HE4.out)
              have HB4' := Lib.hid (show Below B w1 (w4.drewN nq) from ⟨HB4.out.os, HB4.out.tape, HB4.out.output, HB4.out.size, HB4.out.block⟩)
              refine (HLk.out _ HB4'.out).mono ?_
              rintro e w5 ⟨rfl, hb5⟩
              have HB5 := Lib.hid (HB4'.out.trans (hb5.mono (Nat.le_trans HBB.out HB4'.out.size)))
              have HE5 := Lib.hid (rowE_far HE4'.out hb5 (fun g hg => (World.ownsRow.lt HE4'.out g hg).2))
              clear hb5
              have hB5 : B ≤ w5.heap.size := Nat.le_trans HBB.out HB5.out.size
              have HN2 := Lib.hid (show (q + 1) = ((eadK l L m k).map (enOf l L m)).length by rw [List.length_map]; exact HN.out)
              go_wp2_with (at_builtin; refine wpList_append_lies _ rfl _ _ 131 rfl B 119 i0 (.agg #[.int .i64 0, .int .u64 0, .int .u64 0, .int .i64 0, .int .i64 0, .int .i64 0]) 6 48 Try.underlying131 hi0 hz0 hz1 hz2 rfl (by decide) _ ((q + 1)) (flatE ((eadK l L m k).map (enOf l L m))) rfl ?c0 ⟨w5.heap.size + 1, 0, none⟩ 1 1 (ec (enOf l L m c)) rfl rfl ?c2 (ec_one _) (by decide) ?c4 ?c5 ?c6 _ rfl ?_)
              case c0 =>
                refine World.ownsRow.alloc (World.ownsRow.alloc ?_ _) _
                have h := HE5.out
                unfold RwE at h
                rw [← HN2.out] at h
                exact h
              case c2 => exact news_en2 w5 (enOf l L m c) _ _
              case c4 => unfold maxLen; omega
              case c5 => omega
              case c6 => simp; omega
              intro g3 cap3 w7 hown3 hgrow3 hat3 hgz3
              have HB7 := Lib.hid (below_grown (HB5.out.trans ((two_boxes w5 _ _).mono hB5)) hgrow3 (fun b hb => (World.ownsRow.lt HE5.out b hb).1) (by simp; omega))
              have HE7 := Lib.hid (show RwE w7 B (.slice (some ⟨g3, 0, none⟩) ((q + 1) + 1) cap3) ((eadK l L m (k + 1)).map (enOf l L m)) by
                unfold RwE
                rw [HK3.out, List.map_append, flatE_append, List.length_append, ← HN2.out]
                exact hown3)
              clear hown3 hgrow3 hat3
              go_wp2
              go_roundw
              case rel => exact ⟨k + 1, (q + 1) + 1, _, cap3, by omega, by go_num, rfl, by omega, HE7, by show _ = _; rw [HK3.out, List.length_append, ← HN.out]; rfl, HB7⟩
              case measure => simp [intOf]; omega
    · obtain rfl : k = y := by omega
      go_wp2
      go_ret
      have h1 := HE.out
      have h2 := HN.out
      rw [Hy.out, eadK_all] at h1 h2
      exact ⟨ao2, n2, cap2, rfl, h2, row_lower h1 HwB.out, HB1.out.trans (HB.out.mono HwB.out)⟩
end Go.Proofs.Ytnfkgnjeamnhfab
