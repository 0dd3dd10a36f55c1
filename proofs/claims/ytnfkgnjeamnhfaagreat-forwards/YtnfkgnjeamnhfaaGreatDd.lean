import Derived.Test.YtnfkgnjeamnhfaaGreatDc
namespace Go.Proofs.YtnfkgnjeamnhfaaGreat
open Go.RowKit Go.Sort

theorem grp_app (l : List Rt) (r : Rt) (a : Ad) (m : Int) : grpOf (l ++ [r]) a m = if isP a m r then r.g else grpOf l a m := by
  unfold grpOf; rw [List.foldl_append]; rfl
theorem mks_app (l : List Rt) (r : Rt) (L : List Int) (a : Ad) (m : Int) : mks (l ++ [r]) L a m = mks l L a m + (if mrk L a m r then 1 else 0) := by
  unfold mks; rw [List.filter_append, List.length_append]
  congr 1
  cases hm : mrk L a m r <;> simp [hm]
theorem mrk_mkB (L : List Int) (a : Ad) (m : Int) (r : Rt) : mrk L a m r = (mkB L r m && decide (cutD (adR r) m = a)) := by
  unfold mrk mkB
  cases decide (m < r.n) <;> cases decide (m ∈ way L r.n) <;> cases decide (cutD (adR r) m = a) <;> rfl
theorem thr_app {l : List Rt} {r : Rt} {L : List Int} {a : Ad} {m : Int} (hg : 0 ≤ r.g) : thr (l ++ [r]) L a m = (isP a m r || mrk L a m r || thr l L a m) := by
  unfold thr
  rw [grp_app, mks_app]
  cases h1 : isP a m r with
  | true =>
    rw [if_pos rfl]
    simp only [Bool.true_or]
    exact decide_eq_true (.inl (by omega))
  | false =>
    rw [if_neg Bool.false_ne_true]
    cases h2 : mrk L a m r with
    | true =>
      simp only [Bool.false_or, Bool.true_or, if_true]
      exact decide_eq_true (.inr (by omega))
    | false => simp

set_option maxRecDepth 4000 in
set_option maxHeartbeats 8000000 in
theorem rentry_any (N T : Nat) (v : Value) (rs : List Rt) (lv : Value) (L : List Int) (a : Ad) (m : Int) (w : World) (hc : w.cell? ⟨T, 3, none⟩ = some v) (hr : RwO w N v rs) (hlen : rs.length ≤ 1000) (hg : ∀ r ∈ rs, Gd r) (ha : Adr a) (hl : RdL w lv L) (hu : Up L) (hL : ∀ r ∈ rs, r.f = a.1 → r.n ∈ L) (h0 : 0 ≤ m) (h1 : m ≤ wid a.1) :
    Calls Tryz.prog 67 #[.pointer (some ⟨T, 0, none⟩), lv, adV a, .int .i64 m] w fun e w' => e = .returned (.tuple #[enV a (grpOf (famF rs a.1) a m) (mks (famF rs a.1) L a m) (bst (famF rs a.1) a m), .bool (thr (famF rs a.1) L a m)]) ∧ Below w.heap.size w w' := by
  obtain ⟨lo, lc, rfl, -⟩ := RwO.form hr
  have hT : T < w.heap.size := World.block_lt_of_cell? w ⟨T, 3, none⟩ hc
  have HMk := Lib.hid (fun (w1 : World) (hb : Below w.heap.size w w1) (r : Rt) (hr' : r ∈ rs) (hf : r.f = a.1) => rmarks_any lv L r m w1 (hl.below hb) hu (hL r hr' hf))
  have HCu := Lib.hid (fun (w1 : World) (r : Rt) (hr' : r ∈ rs) (hf : r.f = a.1) => rcut_any (adR r) m w1 (hg r hr').adr h0 (by show m ≤ wid r.f; rw [hf]; exact h1))
  have HLg := Lib.hid (fun (w1 : World) (hb : Below w.heap.size w w1) => rlongest_any N T (.slice lo rs.length lc) rs a m w1 ((hb.cell (p := ⟨T, 3, none⟩) hT).trans hc) (hr.far hb (fun g hg => (World.ownsRow.lt hr g hg).2)) hlen hg ha)
  have HR := Lib.hid hr
  have HG := Lib.hid hg
  obtain ⟨y, hy⟩ : ∃ y, y = rs.length := ⟨_, rfl⟩
  rw [← hy] at hlen hc
  have Hy := Lib.hid hy
  have Hc := Lib.hid hc
  obtain ⟨w0, hw0⟩ : ∃ w0, w0 = ((w.alloc (.cells #[.int .i64 a.1, .int .u64 a.2.1, .int .u64 a.2.2] 31)).alloc (.cells #[.int .i64 0, .int .u64 0, .int .u64 0, .int .i64 0, .int .i64 0, .int .i64 0] 88)).alloc (.cells #[.int .i64 a.1, .int .u64 a.2.1, .int .u64 a.2.2, .int .i64 (-1), .int .i64 0, .int .i64 (-1)] 88) := ⟨_, rfl⟩
  obtain ⟨ba, hba⟩ : ∃ x, x = w.heap.size := ⟨_, rfl⟩
  obtain ⟨br, hbr⟩ : ∃ x, x = w.heap.size + 1 := ⟨_, rfl⟩
  obtain ⟨bx, hbx⟩ : ∃ x, x = w.heap.size + 1 + 1 := ⟨_, rfl⟩
  have HA0 := Lib.hid (show St w0 ba 3 (adF a) by rw [hw0, hba]; exact ((ad_at a _ rfl).alloc (by decide) _).alloc (by decide) _)
  have HR0 := Lib.hid (show St w0 br 6 (enF (0, 0, 0) 0 0 0) by rw [hw0, hbr]; exact (en_at (0, 0, 0) 0 0 0 _ (by simp)).alloc (by decide) _)
  have HX0 := Lib.hid (show St w0 bx 6 (enF a (-1) 0 (-1)) by rw [hw0, hbx]; exact en_at a (-1) 0 (-1) _ (by simp))
  have HB0 := Lib.hid (show Below w.heap.size w w0 by rw [hw0]; exact (two_boxes _ _ _).alloc (by simp; omega) _)
  have Hbx := Lib.hid (show w.heap.size ≤ bx ∧ w.heap.size ≤ br by omega)
  have n1 : ba ≠ bx := by omega
  have n2 : br ≠ bx := by omega
  have Hw0 := Lib.hid hw0
  have Hba := Lib.hid hba
  have Hbr := Lib.hid hbr
  have Hbxe := Lib.hid hbx
  clear hr hg ha hy hc hw0 hba hbr hbx hl hu hL h0 h1
  go_enter Tryz.func67, Tryz.ntmps67
  go_wp2_with fail
  rw [← Hw0.out, ← Hbxe.out, ← Hbr.out, ← Hba.out]
  go_loopw [11, 12] (fun tv i wr => ∃ (k : Nat) (t : Bool), k ≤ y ∧ i = .int .i64 k ∧ tv = .bool t ∧ Hid (t = thr (famF (rs.take k) a.1) L a m) ∧ Hid (St wr bx 6 (enF a (grpOf (famF (rs.take k) a.1) a m) (mks (famF (rs.take k) a.1) L a m) (-1))) ∧ Hid (St wr ba 3 (adF a)) ∧ Hid (St wr br 6 (enF (0, 0, 0) 0 0 0)) ∧ Hid (Below w.heap.size w wr)) (fun _ i _ => y - (intOf i).toNat)
  case atStart => exact ⟨0, false, Nat.zero_le _, rfl, rfl, rfl, HX0, HA0, HR0, HB0⟩
  case round =>
    obtain ⟨k, t, hk, rfl, rfl, HTh, HX, HA, HRr, HB⟩ := hrel
    have cT := (HB.out.cell (p := ⟨T, 3, none⟩) hT).trans Hc.out
    by_cases hlt : k < y
    · obtain ⟨r, hrk⟩ : ∃ r, rs[k]? = some r := ⟨_, List.getElem?_eq_getElem (by rw [← Hy.out]; exact hlt)⟩
      obtain ⟨b, rfl, hat, -, -, hbl⟩ := RwO.at HR.out hrk
      have c0 := (HB.out.cell (p := ⟨b, k * 5, none⟩) hbl).trans hat.c0
      have c1 := (HB.out.cell (p := ⟨b, k * 5 + 1, none⟩) hbl).trans hat.c1
      have c2 := (HB.out.cell (p := ⟨b, k * 5 + 2, none⟩) hbl).trans hat.c2
      have c3 := (HB.out.cell (p := ⟨b, k * 5 + 3, none⟩) hbl).trans hat.c3
      have c4 := (HB.out.cell (p := ⟨b, k * 5 + 4, none⟩) hbl).trans hat.c4
      have a0 : wr.cell? ⟨ba, 0, none⟩ = some (.int .i64 a.1) := (HA.out 0 (by decide)).1
      have hza := HA.out.lt (by decide)
      have hzx := HX.out.lt (by decide)
      have q1 : (k : Int) < (y : Int) := by omega
      have Hrk := Lib.hid hrk
      have hmem := List.mem_of_getElem? hrk
      obtain ⟨wp, hwp⟩ : ∃ wp, wp = wr.alloc (.cells #[.int .i64 r.f, .int .u64 r.hi, .int .u64 r.lo, .int .i64 r.n, .int .i64 r.g] 35) := ⟨_, rfl⟩
      obtain ⟨bp, hbp⟩ : ∃ bp, bp = wr.heap.size := ⟨_, rfl⟩
      have HPp := Lib.hid (show St wp bp 5 (rtF r) by rw [hwp, hbp]; exact rt_at r _ rfl)
      have HXp := Lib.hid (show St wp bx 6 _ by rw [hwp]; exact HX.out.alloc (by decide) _)
      have HAp := Lib.hid (show St wp ba 3 (adF a) by rw [hwp]; exact HA.out.alloc (by decide) _)
      have HRp := Lib.hid (show St wp br 6 _ by rw [hwp]; exact HRr.out.alloc (by decide) _)
      have HBp := Lib.hid (show Below w.heap.size w wp by rw [hwp]; exact HB.out.alloc HB.out.size _)
      have n4 : bp ≠ bx := by rw [hbp]; omega
      have Hwp := Lib.hid hwp
      have Hbp := Lib.hid hbp
      have hg0 := (HG.out r hmem).g0
      clear hat hrk hwp hbp
      by_cases hf : r.f = a.1
      · have p1 : (r.f != a.1) = false := by rw [hf]; simp
        have HMk1 := Lib.hid (fun (w1 : World) (hb : Below w.heap.size w w1) => HMk.out w1 hb r hmem hf)
        have HCu1 := Lib.hid (fun (w1 : World) => HCu.out w1 r hmem hf)
        have HFy := Lib.hid (fam_yes (fam := a.1) Hrk.out (by rw [hf]; simp))
        obtain ⟨D, hD⟩ : ∃ D, D = famF (rs.take k) a.1 := ⟨_, rfl⟩
        obtain ⟨K, hK⟩ : ∃ K, K = mks D L a m := ⟨_, rfl⟩
        have hKl : K ≤ 1000 := by
          rw [hK, hD]; have h1 := mks_le (famF (rs.take k) a.1) L a m; have h2 := famF_le (rs.take k) a.1; rw [List.length_take] at h2; omega
        rw [← hD] at HFy HTh HXp
        rw [← hK] at HXp
        have HK := Lib.hid hK
        have Hf := Lib.hid hf
        obtain ⟨c, hcd⟩ : ∃ c, c = cutD (adR r) m := ⟨_, rfl⟩
        rw [← hcd] at HCu1
        have Hcd := Lib.hid hcd
        obtain ⟨G, hG⟩ : ∃ G, G = grpOf D a m := ⟨_, rfl⟩
        have HX2 := HX
        rw [← hD, ← hG, ← hK] at HX2
        rw [← hG] at HXp
        clear hf hmem hD hK hcd HX
        have a1 : wr.cell? ⟨ba, 1, none⟩ = some (.int .u64 a.2.1) := (HA.out 1 (by decide)).1
        have a2 : wr.cell? ⟨ba, 2, none⟩ = some (.int .u64 a.2.2) := (HA.out 2 (by decide)).1
        have hE : ∀ w, Sem.run Tryz.prog (binOp BinOp.eql 31 (.agg #[.int .i64 r.f, .int .u64 r.hi, .int .u64 r.lo]) (adV a)) w = .ok (.bool (decide (adR r = a))) w := eql_ad (adR r) a
        by_cases hn : r.n = m
        · have p2 : (r.n == m) = true := by rw [hn]; simp
          cases he : decide (adR r = a) with
          | true =>
            rw [he] at hE
            have hp : isP a m r = true := decide_eq_true ⟨of_decide_eq_true he, hn⟩
            clear hn he
            have HG1 := Lib.hid (show grpOf (D ++ [r]) a m = r.g by rw [grp_app, hp, if_pos rfl])
            have HT1 := Lib.hid (show (isP a m r || thr D L a m) = true by rw [hp, Bool.true_or])
            have o3 : wr.cell? ⟨bx, 3, none⟩ = some (.int .i64 G) := (HX2.out 3 (by decide)).1
            have f3 := (HX2.out 3 (by decide)).2
            clear hp hG
            go_wp2_with fail
            rw [← Hbp.out]
            obtain ⟨w1, hw1⟩ : ∃ w1, w1 = (wr.setCell ⟨bx, 3, none⟩ (.int .i64 r.g)).alloc (.cells #[.int .i64 r.f, .int .u64 r.hi, .int .u64 r.lo, .int .i64 r.n, .int .i64 r.g] 35) := ⟨_, rfl⟩
            rw [← hw1]
            have HS1 := Lib.hid (show St w1 bx 6 (enF a r.g K (-1)) by rw [hw1]; exact (en_setG HX2.out _).alloc (by decide) _)
            have HP1 := Lib.hid (show St w1 bp 5 (rtF r) by rw [hw1, Hbp.out]; exact rt_at r _ (by simp [World.setCell]))
            have HA1 := Lib.hid (show St w1 ba 3 (adF a) by rw [hw1]; exact (HA.out.setOther n1 _).alloc (by decide) _)
            have HR1 := Lib.hid (show St w1 br 6 (enF (0, 0, 0) 0 0 0) by rw [hw1]; exact (HRr.out.setOther n2 _).alloc (by decide) _)
            have HB1 := Lib.hid (show Below w.heap.size w w1 by rw [hw1]; exact (below_set HB.out Hbx.out.1 _).alloc (by simp [World.setCell]; exact HB.out.size) _)
            clear hw1 c0 c1 c2 c3 c4 a0 a1 a2 o3 f3 hE
            refine (HMk1.out w1 HB1.out).mono ?_
            rintro e w2 ⟨rfl, hb2⟩
            have HS2 := Lib.hid (HS1.out.below hb2 (HS1.out.lt (by decide)))
            have HP2 := Lib.hid (HP1.out.below hb2 (HP1.out.lt (by decide)))
            have HA2 := Lib.hid (HA1.out.below hb2 (HA1.out.lt (by decide)))
            have HR2 := Lib.hid (HR1.out.below hb2 (HR1.out.lt (by decide)))
            have HB2 := Lib.hid (HB1.out.trans (hb2.mono HB1.out.size))
            have b0 : w2.cell? ⟨bp, 0, none⟩ = some (.int .i64 r.f) := (HP2.out 0 (by decide)).1
            have b1 : w2.cell? ⟨bp, 1, none⟩ = some (.int .u64 r.hi) := (HP2.out 1 (by decide)).1
            have b2 : w2.cell? ⟨bp, 2, none⟩ = some (.int .u64 r.lo) := (HP2.out 2 (by decide)).1
            clear hb2
            go_wp2_with fail
            refine (HCu1.out _).mono ?_
            rintro e w3 ⟨rfl, hb3⟩
            have HS3 := Lib.hid ((HS2.out.below hb3 (HS2.out.lt (by decide))).alloc (by decide) (.cells #[.int .i64 c.1, .int .u64 c.2.1, .int .u64 c.2.2] 31))
            have HA3 := Lib.hid ((HA2.out.below hb3 (HA2.out.lt (by decide))).alloc (by decide) (.cells #[.int .i64 c.1, .int .u64 c.2.1, .int .u64 c.2.2] 31))
            have HR3 := Lib.hid ((HR2.out.below hb3 (HR2.out.lt (by decide))).alloc (by decide) (.cells #[.int .i64 c.1, .int .u64 c.2.1, .int .u64 c.2.2] 31))
            have hB3 := HB2.out.trans (hb3.mono HB2.out.size)
            have HB3 := Lib.hid (hB3.alloc hB3.size (.cells #[.int .i64 c.1, .int .u64 c.2.1, .int .u64 c.2.2] 31))
            obtain ⟨w4, hw4⟩ : ∃ w4, w4 = w3.alloc (.cells #[.int .i64 c.1, .int .u64 c.2.1, .int .u64 c.2.2] 31) := ⟨_, rfl⟩
            obtain ⟨bc, hbc⟩ : ∃ bc, bc = w3.heap.size := ⟨_, rfl⟩
            have HC4 := Lib.hid (show St w4 bc 3 (adF c) by rw [hw4, hbc]; exact ad_at c _ rfl)
            rw [← hw4] at HS3 HA3 HR3 HB3
            have Hw4 := Lib.hid hw4
            have Hbc := Lib.hid hbc
            have c0 : w4.cell? ⟨bc, 0, none⟩ = some (.int .i64 c.1) := (HC4.out 0 (by decide)).1
            have c1 : w4.cell? ⟨bc, 1, none⟩ = some (.int .u64 c.2.1) := (HC4.out 1 (by decide)).1
            have c2 : w4.cell? ⟨bc, 2, none⟩ = some (.int .u64 c.2.2) := (HC4.out 2 (by decide)).1
            have a0 : w4.cell? ⟨ba, 0, none⟩ = some (.int .i64 a.1) := (HA3.out 0 (by decide)).1
            have a1 : w4.cell? ⟨ba, 1, none⟩ = some (.int .u64 a.2.1) := (HA3.out 1 (by decide)).1
            have a2 : w4.cell? ⟨ba, 2, none⟩ = some (.int .u64 a.2.2) := (HA3.out 2 (by decide)).1
            have o4 : w4.cell? ⟨bx, 4, none⟩ = some (.int .i64 K) := (HS3.out 4 (by decide)).1
            have f4 := (HS3.out 4 (by decide)).2
            clear hb3 hB3 hw4 hbc b0 b1 b2
            go_upto_region 13 with fail
            rw [← Hw4.out, ← Hbc.out]
            cases hmk : mkB L r m with
            | false =>
              have HKn := Lib.hid (show (mks (D ++ [r]) L a m : Int) = (K : Int) by rw [mks_app, mrk_mkB, hmk, Bool.false_and, HK.out]; simp)
              have HTn := Lib.hid (show true = thr (D ++ [r]) L a m by rw [thr_app hg0, mrk_mkB, hmk, Bool.false_and, Bool.or_false, HT1.out])
              clear hmk
              go_wp2
              go_roundw
              case rel => exact ⟨k + 1, _, by omega, by go_num, rfl, by show _ = _; rw [HFy.out]; exact HTn.out, by show St _ _ _ _; rw [HFy.out, HG1.out, HKn.out]; exact HS3.out, HA3.out, HR3.out, ⟨HB3.out.os, HB3.out.tape, HB3.out.output, HB3.out.size, HB3.out.block⟩⟩
              case measure => simp [intOf]; omega
            | true =>
              have hE2 := eql_ad c a
              cases hca : decide (c = a) with
              | false =>
                rw [hca] at hE2
                have HKn := Lib.hid (show (mks (D ++ [r]) L a m : Int) = (K : Int) by rw [mks_app, mrk_mkB, hmk, ← Hcd.out, hca, Bool.true_and, HK.out]; simp)
                have HTn := Lib.hid (show true = thr (D ++ [r]) L a m by rw [thr_app hg0, mrk_mkB, hmk, ← Hcd.out, hca, Bool.true_and, Bool.or_false, HT1.out])
                clear hmk hca
                go_wp2
                go_roundw
                case rel => exact ⟨k + 1, _, by omega, by go_num, rfl, by show _ = _; rw [HFy.out]; exact HTn.out, by show St _ _ _ _; rw [HFy.out, HG1.out, HKn.out]; exact HS3.out, HA3.out, HR3.out, ⟨HB3.out.os, HB3.out.tape, HB3.out.output, HB3.out.size, HB3.out.block⟩⟩
                case measure => simp [intOf]; omega
              | true =>
                rw [hca] at hE2
                have HKn := Lib.hid (show (mks (D ++ [r]) L a m : Int) = (K : Int) + 1 by rw [mks_app, mrk_mkB, hmk, ← Hcd.out, hca, Bool.true_and, HK.out]; simp)
                have HTn := Lib.hid (show true = thr (D ++ [r]) L a m by rw [thr_app hg0, mrk_mkB, hmk, ← Hcd.out, hca, Bool.true_and, Bool.or_true, Bool.true_or])
                clear hmk hca
                go_wp2
                go_roundw
                case rel => exact ⟨k + 1, _, by omega, by go_num, rfl, by show _ = _; rw [HFy.out]; exact HTn.out, by show St _ _ _ _; rw [HFy.out, HG1.out, HKn.out]; exact en_setK HS3.out _, HA3.out.setOther n1 _, HR3.out.setOther n2 _, below_set (show Below w.heap.size w _ from ⟨HB3.out.os, HB3.out.tape, HB3.out.output, HB3.out.size, HB3.out.block⟩) Hbx.out.1 _⟩
                case measure => simp [intOf]; omega
          | false =>
            rw [he] at hE
            have hp : isP a m r = false := decide_eq_false (fun h => of_decide_eq_false he h.1)
            clear hn he
            have HG1 := Lib.hid (show grpOf (D ++ [r]) a m = G by rw [grp_app, hp, if_neg Bool.false_ne_true, hG])
            have HT1 := Lib.hid (show (isP a m r || thr D L a m) = t by rw [hp, Bool.false_or, ← HTh.out])
            clear hp hG
            go_wp2_with fail
            rw [← Hwp.out, ← Hbp.out]
            obtain ⟨w1, hw1⟩ : ∃ w1, w1 = wp := ⟨_, rfl⟩
            rw [← hw1]
            have HS1 := Lib.hid (show St w1 bx 6 (enF a G K (-1)) by rw [hw1]; exact HXp.out)
            have HP1 := Lib.hid (show St w1 bp 5 (rtF r) by rw [hw1]; exact HPp.out)
            have HA1 := Lib.hid (show St w1 ba 3 (adF a) by rw [hw1]; exact HAp.out)
            have HR1 := Lib.hid (show St w1 br 6 (enF (0, 0, 0) 0 0 0) by rw [hw1]; exact HRp.out)
            have HB1 := Lib.hid (show Below w.heap.size w w1 by rw [hw1]; exact HBp.out)
            clear hw1 c0 c1 c2 c3 c4 a0 a1 a2 hE
            refine (HMk1.out w1 HB1.out).mono ?_
            rintro e w2 ⟨rfl, hb2⟩
            have HS2 := Lib.hid (HS1.out.below hb2 (HS1.out.lt (by decide)))
            have HP2 := Lib.hid (HP1.out.below hb2 (HP1.out.lt (by decide)))
            have HA2 := Lib.hid (HA1.out.below hb2 (HA1.out.lt (by decide)))
            have HR2 := Lib.hid (HR1.out.below hb2 (HR1.out.lt (by decide)))
            have HB2 := Lib.hid (HB1.out.trans (hb2.mono HB1.out.size))
            have b0 : w2.cell? ⟨bp, 0, none⟩ = some (.int .i64 r.f) := (HP2.out 0 (by decide)).1
            have b1 : w2.cell? ⟨bp, 1, none⟩ = some (.int .u64 r.hi) := (HP2.out 1 (by decide)).1
            have b2 : w2.cell? ⟨bp, 2, none⟩ = some (.int .u64 r.lo) := (HP2.out 2 (by decide)).1
            clear hb2
            go_wp2_with fail
            refine (HCu1.out _).mono ?_
            rintro e w3 ⟨rfl, hb3⟩
            have HS3 := Lib.hid ((HS2.out.below hb3 (HS2.out.lt (by decide))).alloc (by decide) (.cells #[.int .i64 c.1, .int .u64 c.2.1, .int .u64 c.2.2] 31))
            have HA3 := Lib.hid ((HA2.out.below hb3 (HA2.out.lt (by decide))).alloc (by decide) (.cells #[.int .i64 c.1, .int .u64 c.2.1, .int .u64 c.2.2] 31))
            have HR3 := Lib.hid ((HR2.out.below hb3 (HR2.out.lt (by decide))).alloc (by decide) (.cells #[.int .i64 c.1, .int .u64 c.2.1, .int .u64 c.2.2] 31))
            have hB3 := HB2.out.trans (hb3.mono HB2.out.size)
            have HB3 := Lib.hid (hB3.alloc hB3.size (.cells #[.int .i64 c.1, .int .u64 c.2.1, .int .u64 c.2.2] 31))
            obtain ⟨w4, hw4⟩ : ∃ w4, w4 = w3.alloc (.cells #[.int .i64 c.1, .int .u64 c.2.1, .int .u64 c.2.2] 31) := ⟨_, rfl⟩
            obtain ⟨bc, hbc⟩ : ∃ bc, bc = w3.heap.size := ⟨_, rfl⟩
            have HC4 := Lib.hid (show St w4 bc 3 (adF c) by rw [hw4, hbc]; exact ad_at c _ rfl)
            rw [← hw4] at HS3 HA3 HR3 HB3
            have Hw4 := Lib.hid hw4
            have Hbc := Lib.hid hbc
            have c0 : w4.cell? ⟨bc, 0, none⟩ = some (.int .i64 c.1) := (HC4.out 0 (by decide)).1
            have c1 : w4.cell? ⟨bc, 1, none⟩ = some (.int .u64 c.2.1) := (HC4.out 1 (by decide)).1
            have c2 : w4.cell? ⟨bc, 2, none⟩ = some (.int .u64 c.2.2) := (HC4.out 2 (by decide)).1
            have a0 : w4.cell? ⟨ba, 0, none⟩ = some (.int .i64 a.1) := (HA3.out 0 (by decide)).1
            have a1 : w4.cell? ⟨ba, 1, none⟩ = some (.int .u64 a.2.1) := (HA3.out 1 (by decide)).1
            have a2 : w4.cell? ⟨ba, 2, none⟩ = some (.int .u64 a.2.2) := (HA3.out 2 (by decide)).1
            have o4 : w4.cell? ⟨bx, 4, none⟩ = some (.int .i64 K) := (HS3.out 4 (by decide)).1
            have f4 := (HS3.out 4 (by decide)).2
            clear hb3 hB3 hw4 hbc b0 b1 b2
            go_upto_region 13 with fail
            rw [← Hw4.out, ← Hbc.out]
            cases hmk : mkB L r m with
            | false =>
              have HKn := Lib.hid (show (mks (D ++ [r]) L a m : Int) = (K : Int) by rw [mks_app, mrk_mkB, hmk, Bool.false_and, HK.out]; simp)
              have HTn := Lib.hid (show t = thr (D ++ [r]) L a m by rw [thr_app hg0, mrk_mkB, hmk, Bool.false_and, Bool.or_false, HT1.out])
              clear hmk
              go_wp2
              go_roundw
              case rel => exact ⟨k + 1, _, by omega, by go_num, rfl, by show _ = _; rw [HFy.out]; exact HTn.out, by show St _ _ _ _; rw [HFy.out, HG1.out, HKn.out]; exact HS3.out, HA3.out, HR3.out, ⟨HB3.out.os, HB3.out.tape, HB3.out.output, HB3.out.size, HB3.out.block⟩⟩
              case measure => simp [intOf]; omega
            | true =>
              have hE2 := eql_ad c a
              cases hca : decide (c = a) with
              | false =>
                rw [hca] at hE2
                have HKn := Lib.hid (show (mks (D ++ [r]) L a m : Int) = (K : Int) by rw [mks_app, mrk_mkB, hmk, ← Hcd.out, hca, Bool.true_and, HK.out]; simp)
                have HTn := Lib.hid (show t = thr (D ++ [r]) L a m by rw [thr_app hg0, mrk_mkB, hmk, ← Hcd.out, hca, Bool.true_and, Bool.or_false, HT1.out])
                clear hmk hca
                go_wp2
                go_roundw
                case rel => exact ⟨k + 1, _, by omega, by go_num, rfl, by show _ = _; rw [HFy.out]; exact HTn.out, by show St _ _ _ _; rw [HFy.out, HG1.out, HKn.out]; exact HS3.out, HA3.out, HR3.out, ⟨HB3.out.os, HB3.out.tape, HB3.out.output, HB3.out.size, HB3.out.block⟩⟩
                case measure => simp [intOf]; omega
              | true =>
                rw [hca] at hE2
                have HKn := Lib.hid (show (mks (D ++ [r]) L a m : Int) = (K : Int) + 1 by rw [mks_app, mrk_mkB, hmk, ← Hcd.out, hca, Bool.true_and, HK.out]; simp)
                have HTn := Lib.hid (show true = thr (D ++ [r]) L a m by rw [thr_app hg0, mrk_mkB, hmk, ← Hcd.out, hca, Bool.true_and, Bool.or_true, Bool.true_or])
                clear hmk hca
                go_wp2
                go_roundw
                case rel => exact ⟨k + 1, _, by omega, by go_num, rfl, by show _ = _; rw [HFy.out]; exact HTn.out, by show St _ _ _ _; rw [HFy.out, HG1.out, HKn.out]; exact en_setK HS3.out _, HA3.out.setOther n1 _, HR3.out.setOther n2 _, below_set (show Below w.heap.size w _ from ⟨HB3.out.os, HB3.out.tape, HB3.out.output, HB3.out.size, HB3.out.block⟩) Hbx.out.1 _⟩
                case measure => simp [intOf]; omega
        · have p2 : (r.n == m) = false := ine_beq hn
          have hp : isP a m r = false := decide_eq_false (fun h => hn h.2)
          clear hn
          have HG1 := Lib.hid (show grpOf (D ++ [r]) a m = G by rw [grp_app, hp, if_neg Bool.false_ne_true, hG])
          have HT1 := Lib.hid (show (isP a m r || thr D L a m) = t by rw [hp, Bool.false_or, ← HTh.out])
          clear hp hG
          go_wp2_with fail
          rw [← Hwp.out, ← Hbp.out]
          obtain ⟨w1, hw1⟩ : ∃ w1, w1 = wp := ⟨_, rfl⟩
          rw [← hw1]
          have HS1 := Lib.hid (show St w1 bx 6 (enF a G K (-1)) by rw [hw1]; exact HXp.out)
          have HP1 := Lib.hid (show St w1 bp 5 (rtF r) by rw [hw1]; exact HPp.out)
          have HA1 := Lib.hid (show St w1 ba 3 (adF a) by rw [hw1]; exact HAp.out)
          have HR1 := Lib.hid (show St w1 br 6 (enF (0, 0, 0) 0 0 0) by rw [hw1]; exact HRp.out)
          have HB1 := Lib.hid (show Below w.heap.size w w1 by rw [hw1]; exact HBp.out)
          clear hw1 c0 c1 c2 c3 c4 a0 a1 a2 hE
          refine (HMk1.out w1 HB1.out).mono ?_
          rintro e w2 ⟨rfl, hb2⟩
          have HS2 := Lib.hid (HS1.out.below hb2 (HS1.out.lt (by decide)))
          have HP2 := Lib.hid (HP1.out.below hb2 (HP1.out.lt (by decide)))
          have HA2 := Lib.hid (HA1.out.below hb2 (HA1.out.lt (by decide)))
          have HR2 := Lib.hid (HR1.out.below hb2 (HR1.out.lt (by decide)))
          have HB2 := Lib.hid (HB1.out.trans (hb2.mono HB1.out.size))
          have b0 : w2.cell? ⟨bp, 0, none⟩ = some (.int .i64 r.f) := (HP2.out 0 (by decide)).1
          have b1 : w2.cell? ⟨bp, 1, none⟩ = some (.int .u64 r.hi) := (HP2.out 1 (by decide)).1
          have b2 : w2.cell? ⟨bp, 2, none⟩ = some (.int .u64 r.lo) := (HP2.out 2 (by decide)).1
          clear hb2
          go_wp2_with fail
          refine (HCu1.out _).mono ?_
          rintro e w3 ⟨rfl, hb3⟩
          have HS3 := Lib.hid ((HS2.out.below hb3 (HS2.out.lt (by decide))).alloc (by decide) (.cells #[.int .i64 c.1, .int .u64 c.2.1, .int .u64 c.2.2] 31))
          have HA3 := Lib.hid ((HA2.out.below hb3 (HA2.out.lt (by decide))).alloc (by decide) (.cells #[.int .i64 c.1, .int .u64 c.2.1, .int .u64 c.2.2] 31))
          have HR3 := Lib.hid ((HR2.out.below hb3 (HR2.out.lt (by decide))).alloc (by decide) (.cells #[.int .i64 c.1, .int .u64 c.2.1, .int .u64 c.2.2] 31))
          have hB3 := HB2.out.trans (hb3.mono HB2.out.size)
          have HB3 := Lib.hid (hB3.alloc hB3.size (.cells #[.int .i64 c.1, .int .u64 c.2.1, .int .u64 c.2.2] 31))
          obtain ⟨w4, hw4⟩ : ∃ w4, w4 = w3.alloc (.cells #[.int .i64 c.1, .int .u64 c.2.1, .int .u64 c.2.2] 31) := ⟨_, rfl⟩
          obtain ⟨bc, hbc⟩ : ∃ bc, bc = w3.heap.size := ⟨_, rfl⟩
          have HC4 := Lib.hid (show St w4 bc 3 (adF c) by rw [hw4, hbc]; exact ad_at c _ rfl)
          rw [← hw4] at HS3 HA3 HR3 HB3
          have Hw4 := Lib.hid hw4
          have Hbc := Lib.hid hbc
          have c0 : w4.cell? ⟨bc, 0, none⟩ = some (.int .i64 c.1) := (HC4.out 0 (by decide)).1
          have c1 : w4.cell? ⟨bc, 1, none⟩ = some (.int .u64 c.2.1) := (HC4.out 1 (by decide)).1
          have c2 : w4.cell? ⟨bc, 2, none⟩ = some (.int .u64 c.2.2) := (HC4.out 2 (by decide)).1
          have a0 : w4.cell? ⟨ba, 0, none⟩ = some (.int .i64 a.1) := (HA3.out 0 (by decide)).1
          have a1 : w4.cell? ⟨ba, 1, none⟩ = some (.int .u64 a.2.1) := (HA3.out 1 (by decide)).1
          have a2 : w4.cell? ⟨ba, 2, none⟩ = some (.int .u64 a.2.2) := (HA3.out 2 (by decide)).1
          have o4 : w4.cell? ⟨bx, 4, none⟩ = some (.int .i64 K) := (HS3.out 4 (by decide)).1
          have f4 := (HS3.out 4 (by decide)).2
          clear hb3 hB3 hw4 hbc b0 b1 b2
          go_upto_region 13 with fail
          rw [← Hw4.out, ← Hbc.out]
          cases hmk : mkB L r m with
          | false =>
            have HKn := Lib.hid (show (mks (D ++ [r]) L a m : Int) = (K : Int) by rw [mks_app, mrk_mkB, hmk, Bool.false_and, HK.out]; simp)
            have HTn := Lib.hid (show t = thr (D ++ [r]) L a m by rw [thr_app hg0, mrk_mkB, hmk, Bool.false_and, Bool.or_false, HT1.out])
            clear hmk
            go_wp2
            go_roundw
            case rel => exact ⟨k + 1, _, by omega, by go_num, rfl, by show _ = _; rw [HFy.out]; exact HTn.out, by show St _ _ _ _; rw [HFy.out, HG1.out, HKn.out]; exact HS3.out, HA3.out, HR3.out, ⟨HB3.out.os, HB3.out.tape, HB3.out.output, HB3.out.size, HB3.out.block⟩⟩
            case measure => simp [intOf]; omega
          | true =>
            have hE2 := eql_ad c a
            cases hca : decide (c = a) with
            | false =>
              rw [hca] at hE2
              have HKn := Lib.hid (show (mks (D ++ [r]) L a m : Int) = (K : Int) by rw [mks_app, mrk_mkB, hmk, ← Hcd.out, hca, Bool.true_and, HK.out]; simp)
              have HTn := Lib.hid (show t = thr (D ++ [r]) L a m by rw [thr_app hg0, mrk_mkB, hmk, ← Hcd.out, hca, Bool.true_and, Bool.or_false, HT1.out])
              clear hmk hca
              go_wp2
              go_roundw
              case rel => exact ⟨k + 1, _, by omega, by go_num, rfl, by show _ = _; rw [HFy.out]; exact HTn.out, by show St _ _ _ _; rw [HFy.out, HG1.out, HKn.out]; exact HS3.out, HA3.out, HR3.out, ⟨HB3.out.os, HB3.out.tape, HB3.out.output, HB3.out.size, HB3.out.block⟩⟩
              case measure => simp [intOf]; omega
            | true =>
              rw [hca] at hE2
              have HKn := Lib.hid (show (mks (D ++ [r]) L a m : Int) = (K : Int) + 1 by rw [mks_app, mrk_mkB, hmk, ← Hcd.out, hca, Bool.true_and, HK.out]; simp)
              have HTn := Lib.hid (show true = thr (D ++ [r]) L a m by rw [thr_app hg0, mrk_mkB, hmk, ← Hcd.out, hca, Bool.true_and, Bool.or_true, Bool.true_or])
              clear hmk hca
              go_wp2
              go_roundw
              case rel => exact ⟨k + 1, _, by omega, by go_num, rfl, by show _ = _; rw [HFy.out]; exact HTn.out, by show St _ _ _ _; rw [HFy.out, HG1.out, HKn.out]; exact en_setK HS3.out _, HA3.out.setOther n1 _, HR3.out.setOther n2 _, below_set (show Below w.heap.size w _ from ⟨HB3.out.os, HB3.out.tape, HB3.out.output, HB3.out.size, HB3.out.block⟩) Hbx.out.1 _⟩
              case measure => simp [intOf]; omega
      · have p1 : (r.f != a.1) = true := by rw [bne, ine_beq hf]; rfl
        have HFn := Lib.hid (fam_no (fam := a.1) Hrk.out (ine_beq hf))
        clear hf hmem
        go_wp2
        rw [← Hwp.out]
        go_roundw
        case rel => exact ⟨k + 1, t, by omega, by go_num, rfl, by show t = _; rw [HFn.out]; exact HTh.out, by show St _ _ _ _; rw [HFn.out]; exact HXp.out, HAp, HRp, HBp⟩
        case measure => simp [intOf]; omega
    · obtain rfl : k = y := by omega
      have hfull := HX.out
      have hthr := HTh.out
      rw [Hy.out, List.take_length] at hfull hthr
      have HX2 := Lib.hid hfull
      have HT2 := Lib.hid hthr
      clear hfull hthr HX HTh
      obtain ⟨G, hG⟩ : ∃ G, G = grpOf (famF rs a.1) a m := ⟨_, rfl⟩
      obtain ⟨K, hK⟩ : ∃ K, K = mks (famF rs a.1) L a m := ⟨_, rfl⟩
      rw [← hG, ← hK] at HX2
      have HG2 := Lib.hid hG
      have HK2 := Lib.hid hK
      clear hG hK
      have a0 : wr.cell? ⟨ba, 0, none⟩ = some (.int .i64 a.1) := (HA.out 0 (by decide)).1
      have a1 : wr.cell? ⟨ba, 1, none⟩ = some (.int .u64 a.2.1) := (HA.out 1 (by decide)).1
      have a2 : wr.cell? ⟨ba, 2, none⟩ = some (.int .u64 a.2.2) := (HA.out 2 (by decide)).1
      go_wp2_with fail
      have HA' := HA
      refine (HLg.out wr HB.out).mono ?_
      rintro e w1 ⟨bi, rfl, hI, hb1⟩
      have HXF := Lib.hid (HX2.out.below hb1 (HX2.out.lt (by decide)))
      have HRF := Lib.hid (HRr.out.below hb1 (HRr.out.lt (by decide)))
      have HBF := Lib.hid (HB.out.trans (hb1.mono HB.out.size))
      have cT1 := (HBF.out.cell (p := ⟨T, 3, none⟩) hT).trans Hc.out
      unfold LgI at hI
      rw [List.take_length] at hI
      clear hb1 a0 a1 a2 cT HA'
      have o0 : w1.cell? ⟨bx, 0, none⟩ = some (.int .i64 a.1) := (HXF.out 0 (by decide)).1
      have o1 : w1.cell? ⟨bx, 1, none⟩ = some (.int .u64 a.2.1) := (HXF.out 1 (by decide)).1
      have o2 : w1.cell? ⟨bx, 2, none⟩ = some (.int .u64 a.2.2) := (HXF.out 2 (by decide)).1
      have o3 : w1.cell? ⟨bx, 3, none⟩ = some (.int .i64 G) := (HXF.out 3 (by decide)).1
      have o4 : w1.cell? ⟨bx, 4, none⟩ = some (.int .i64 K) := (HXF.out 4 (by decide)).1
      have o5 : w1.cell? ⟨bx, 5, none⟩ = some (.int .i64 (-1)) := (HXF.out 5 (by decide)).1
      have g5 := (HXF.out 5 (by decide)).2
      have r0 : w1.cell? ⟨br, 0, none⟩ = some (.int .i64 0) := (HRF.out 0 (by decide)).1
      have r1 : w1.cell? ⟨br, 1, none⟩ = some (.int .u64 0) := (HRF.out 1 (by decide)).1
      have r2 : w1.cell? ⟨br, 2, none⟩ = some (.int .u64 0) := (HRF.out 2 (by decide)).1
      have r3 : w1.cell? ⟨br, 3, none⟩ = some (.int .i64 0) := (HRF.out 3 (by decide)).1
      have r4 : w1.cell? ⟨br, 4, none⟩ = some (.int .i64 0) := (HRF.out 4 (by decide)).1
      have r5 : w1.cell? ⟨br, 5, none⟩ = some (.int .i64 0) := (HRF.out 5 (by decide)).1
      have f0 := (HRF.out 0 (by decide)).2
      have f1 := (HRF.out 1 (by decide)).2
      have f2 := (HRF.out 2 (by decide)).2
      have f3 := (HRF.out 3 (by decide)).2
      have f4 := (HRF.out 4 (by decide)).2
      have f5 := (HRF.out 5 (by decide)).2
      rcases hI with ⟨rfl, h2⟩ | ⟨j, r0', rfl, h2, h3, h4, h5⟩
      · have Hb := Lib.hid h2
        clear h2
        go_wp2
        refine bodyPost_ret (v := .tuple #[enV a G K (-1), .bool t]) (by simp [results, Tryz.results67, go_sem, r0, r1, r2, r3, r4, r5]) rfl ⟨?_, below_set (below_set (below_set (below_set (below_set (below_set HBF.out Hbx.out.2 _) Hbx.out.2 _) Hbx.out.2 _) Hbx.out.2 _) Hbx.out.2 _) Hbx.out.2 _⟩
        rw [Hb.out, ← HG2.out, ← HK2.out, ← HT2.out]
      · obtain ⟨b', rfl, hat, -, -, hbl'⟩ := RwO.at HR.out h2
        have d3 := (HBF.out.cell (p := ⟨b', j * 5 + 3, none⟩) hbl').trans hat.c3
        have hjk : (j : Int) < (k : Int) := by have := (List.getElem?_eq_some_iff.1 h2).1; rw [← Hy.out] at this; omega
        have qj : (0 : Int) ≤ (j : Int) := by omega
        have H5 := Lib.hid h5
        have nb : b' ≠ bx := by have := Hbx.out.1; omega
        have nT : T ≠ bx := by have := Hbx.out.1; omega
        clear h2 h3 h4 h5 hat
        go_wp2
        refine bodyPost_ret (v := .tuple #[enV a G K r0'.n, .bool t]) (by simp [results, Tryz.results67, go_sem, r0, r1, r2, r3, r4, r5]) rfl ⟨?_, below_set (below_set (below_set (below_set (below_set (below_set (below_set HBF.out Hbx.out.1 _) Hbx.out.2 _) Hbx.out.2 _) Hbx.out.2 _) Hbx.out.2 _) Hbx.out.2 _) Hbx.out.2 _⟩
        rw [H5.out, ← HG2.out, ← HK2.out, ← HT2.out]
end Go.Proofs.YtnfkgnjeamnhfaaGreat
