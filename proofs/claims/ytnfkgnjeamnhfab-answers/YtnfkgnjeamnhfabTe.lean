import Derived.Test.YtnfkgnjeamnhfabTc
namespace Go.Proofs.Ytnfkgnjeamnhfab
open Go.RowKit Go.Sort

abbrev enV (a : Ad) (g k b : Int) : Value := .agg #[.int .i64 a.1, .int .u64 a.2.1, .int .u64 a.2.2, .int .i64 g, .int .i64 k, .int .i64 b]
abbrev enF (a : Ad) (g k b : Int) : Nat → Value := fun j => if j = 0 then .int .i64 a.1 else if j = 1 then .int .u64 a.2.1 else if j = 2 then .int .u64 a.2.2 else if j = 3 then .int .i64 g else if j = 4 then .int .i64 k else .int .i64 b
theorem take_app {rs : List Rt} {k : Nat} {r : Rt} (h : rs[k]? = some r) : rs.take (k + 1) = rs.take k ++ [r] := by rw [List.take_add_one, h]; rfl
theorem grp_succ {l : List Rt} {k : Nat} {r : Rt} (h : l[k]? = some r) (a : Ad) (m : Int) : grpOf (l.take (k + 1)) a m = if isP a m r then r.g else grpOf (l.take k) a m := by
  unfold grpOf; rw [take_app h, List.foldl_append]; rfl
theorem bst_succ {l : List Rt} {k : Nat} {r : Rt} (h : l[k]? = some r) (a : Ad) (m : Int) : bst (l.take (k + 1)) a m = bstS a m (bst (l.take k) a m) r := by
  unfold bst; rw [take_app h, List.foldl_append]; rfl
theorem mks_succ {l : List Rt} {k : Nat} {r : Rt} (h : l[k]? = some r) (L : List Int) (a : Ad) (m : Int) : mks (l.take (k + 1)) L a m = mks (l.take k) L a m + (if mrk L a m r then 1 else 0) := by
  unfold mks; rw [take_app h, List.filter_append, List.length_append]
  congr 1
  cases hm : mrk L a m r <;> simp [hm]
theorem mks_le (l : List Rt) (L : List Int) (a : Ad) (m : Int) : mks l L a m ≤ l.length := List.length_filter_le _ _

theorem pr_at {w : World} {b : Nat} (a : Ad) (n : Int) (t : TypeId) (hb : b = w.heap.size) : St (w.alloc (.cells #[.int .i64 a.1, .int .u64 a.2.1, .int .u64 a.2.2, .int .i64 n] t)) b 4 (prF a n) := by
  subst hb; exact pr_new w a n t
theorem en_at {w : World} {b : Nat} (a : Ad) (g k x : Int) (t : TypeId) (hb : b = w.heap.size) : St (w.alloc (.cells #[.int .i64 a.1, .int .u64 a.2.1, .int .u64 a.2.2, .int .i64 g, .int .i64 k, .int .i64 x] t)) b 6 (enF a g k x) := by
  subst hb
  intro j hj
  rcases (by omega : j = 0 ∨ j = 1 ∨ j = 2 ∨ j = 3 ∨ j = 4 ∨ j = 5) with rfl | rfl | rfl | rfl | rfl | rfl <;> simp [enF]
theorem en_setG {w : World} {b : Nat} {a : Ad} {g k x : Int} (h : St w b 6 (enF a g k x)) (y : Int) : St (w.setCell ⟨b, 3, none⟩ (.int .i64 y)) b 6 (enF a y k x) := by
  refine (h.set (k := 3) (by decide) _).congr (fun j hj => ?_)
  rcases (by omega : j = 0 ∨ j = 1 ∨ j = 2 ∨ j = 3 ∨ j = 4 ∨ j = 5) with rfl | rfl | rfl | rfl | rfl | rfl <;> simp [upd, enF]
theorem en_setK {w : World} {b : Nat} {a : Ad} {g k x : Int} (h : St w b 6 (enF a g k x)) (y : Int) : St (w.setCell ⟨b, 4, none⟩ (.int .i64 y)) b 6 (enF a g y x) := by
  refine (h.set (k := 4) (by decide) _).congr (fun j hj => ?_)
  rcases (by omega : j = 0 ∨ j = 1 ∨ j = 2 ∨ j = 3 ∨ j = 4 ∨ j = 5) with rfl | rfl | rfl | rfl | rfl | rfl <;> simp [upd, enF]
theorem en_setB {w : World} {b : Nat} {a : Ad} {g k x : Int} (h : St w b 6 (enF a g k x)) (y : Int) : St (w.setCell ⟨b, 5, none⟩ (.int .i64 y)) b 6 (enF a g k y) := by
  refine (h.set (k := 5) (by decide) _).congr (fun j hj => ?_)
  rcases (by omega : j = 0 ∨ j = 1 ∨ j = 2 ∨ j = 3 ∨ j = 4 ∨ j = 5) with rfl | rfl | rfl | rfl | rfl | rfl <;> simp [upd, enF]

set_option maxHeartbeats 4000000 in
theorem look_any (N : Nat) (v : Value) (l : List Rt) (ao : Option Addr) (z cap : Nat) (L : List Int) (a : Ad) (m fam : Int) (w : World) (hl : RwO w N v l) (hlen : l.length ≤ 1000) (hr : Rd w ao z L) (hz : z ≤ 200) (hg : ∀ r ∈ l, Gd r) (hfl : ∀ r ∈ l, r.f = fam) (ha : a.1 = fam) (hfam : fam = 4 ∨ fam = 6) (hfit : FitA a) (h0 : 0 ≤ m) (h1 : m ≤ wid fam) :
    Calls Try.prog 65 #[v, .slice ao z cap, prV a m] w fun e w' => e = .returned (enV a (grpOf l a m) (mks l L a m) (bst l a m)) ∧ Below w.heap.size w w' := by
  obtain ⟨lo, lc, rfl, -⟩ := RwO.form hl
  have HM := Lib.hid (fun (w1 : World) (hb : Below w.heap.size w w1) (r : Rt) (hr' : r ∈ l) => hasMark_any ao z cap L r a m w1 (hr.below hb) hz (by rw [hfl r hr']; exact hfam) (hg r hr').fit h0 (by rw [hfl r hr']; exact h1))
  have HC := Lib.hid (fun (w1 : World) (r : Rt) (hr' : r ∈ l) => contains_any (adR r) r.n a m w1 (by rw [ha]; exact hfam) hfit (hg r hr').len.1 (by rw [ha, ← hfl r hr']; have := (hg r hr').len; unfold wid; split; exact this.2.2 (by assumption); exact this.2.1))
  have HL := Lib.hid hl
  obtain ⟨y, hy⟩ : ∃ y, y = l.length := ⟨_, rfl⟩
  rw [← hy] at hlen ⊢
  have Hy := Lib.hid hy
  have HG := Lib.hid hg
  clear hl hr hg hfl ha hfam hfit h0 h1 hy hz
  go_enter Try.func65, Try.ntmps65
  go_wp2
  obtain ⟨ba, hba⟩ : ∃ x, x = w.heap.size := ⟨_, rfl⟩
  obtain ⟨br, hbr⟩ : ∃ x, x = w.heap.size + 1 := ⟨_, rfl⟩
  obtain ⟨bo, hbo⟩ : ∃ x, x = w.heap.size + 1 + 1 := ⟨_, rfl⟩
  obtain ⟨w0, hw0⟩ : ∃ w0, w0 = ((w.alloc (Obj.cells #[.int .i64 a.1, .int .u64 a.2.1, .int .u64 a.2.2, .int .i64 m] 43)).alloc (Obj.cells #[.int .i64 0, .int .u64 0, .int .u64 0, .int .i64 0, .int .i64 0, .int .i64 0] 119)).alloc (Obj.cells #[.int .i64 a.1, .int .u64 a.2.1, .int .u64 a.2.2, .int .i64 (-1), .int .i64 0, .int .i64 (-1)] 119) := ⟨_, rfl⟩
  rw [← hw0, ← hbo, ← hbr, ← hba]
  have hA0 : St w0 ba 4 (prF a m) := by rw [hw0, hba]; exact ((pr_new w a m _).alloc (by decide) _).alloc (by decide) _
  have hR0 : St w0 br 6 (enF (0, 0, 0) 0 0 0) := by
    rw [hw0, hbr]
    exact (en_at (0, 0, 0) 0 0 0 _ (by simp)).alloc (by decide) _
  have hO0 : St w0 bo 6 (enF a (-1) 0 (-1)) := by
    rw [hw0, hbo]
    exact en_at a (-1) 0 (-1) _ (by simp)
  have hB0 : Below w.heap.size w w0 := by rw [hw0]; exact (two_boxes _ _ _).alloc (by simp; omega) _
  have HA0 := Lib.hid hA0
  have HR0 := Lib.hid hR0
  have HO0 := Lib.hid hO0
  have HB0 := Lib.hid hB0
  have Hbo := Lib.hid (show w.heap.size ≤ bo ∧ w.heap.size ≤ br by omega)
  have n1 : ba ≠ bo := by omega
  have n2 : br ≠ bo := by omega
  have n3 : ba ≠ br := by omega
  clear hw0 hba hbr hbo hA0 hR0 hO0 hB0
  go_loopw [8] (fun i wr => ∃ k : Nat, k ≤ y ∧ i = .int .i64 k ∧ Hid (St wr bo 6 (enF a (grpOf (l.take k) a m) (mks (l.take k) L a m) (bst (l.take k) a m))) ∧ Hid (St wr ba 4 (prF a m)) ∧ Hid (St wr br 6 (enF (0, 0, 0) 0 0 0)) ∧ Hid (Below w.heap.size w wr)) (fun i _ => y - (intOf i).toNat)
  case atStart => exact ⟨0, Nat.zero_le _, rfl, HO0.out, HA0.out, HR0.out, HB0.out⟩
  case round =>
    obtain ⟨k, hk, rfl, HO, HA, HR, HB⟩ := hrel
    by_cases hlt : k < y
    · obtain ⟨r, hrk⟩ : ∃ r, l[k]? = some r := ⟨_, List.getElem?_eq_getElem (by rw [← Hy.out]; exact hlt)⟩
      obtain ⟨b, rfl, hat, -, -, hbl⟩ := RwO.at HL.out hrk
      have c0 : wr.cell? ⟨b, k * 5, none⟩ = some (.int .i64 (adR r).1) := (HB.out.cell (p := ⟨b, k * 5, none⟩) hbl).trans hat.c0
      have c1 : wr.cell? ⟨b, k * 5 + 1, none⟩ = some (.int .u64 (adR r).2.1) := (HB.out.cell (p := ⟨b, k * 5 + 1, none⟩) hbl).trans hat.c1
      have c2 : wr.cell? ⟨b, k * 5 + 2, none⟩ = some (.int .u64 (adR r).2.2) := (HB.out.cell (p := ⟨b, k * 5 + 2, none⟩) hbl).trans hat.c2
      have c3 := (HB.out.cell (p := ⟨b, k * 5 + 3, none⟩) hbl).trans hat.c3
      have c4 := (HB.out.cell (p := ⟨b, k * 5 + 4, none⟩) hbl).trans hat.c4
      have a0 : wr.cell? ⟨ba, 0, none⟩ = some (.int .i64 a.1) := (HA.out 0 (by decide)).1
      have a1 : wr.cell? ⟨ba, 1, none⟩ = some (.int .u64 a.2.1) := (HA.out 1 (by decide)).1
      have a2 : wr.cell? ⟨ba, 2, none⟩ = some (.int .u64 a.2.2) := (HA.out 2 (by decide)).1
      have a3 : wr.cell? ⟨ba, 3, none⟩ = some (.int .i64 m) := (HA.out 3 (by decide)).1
      have o3 : wr.cell? ⟨bo, 3, none⟩ = some (.int .i64 (grpOf (l.take k) a m)) := (HO.out 3 (by decide)).1
      have f3 := (HO.out 3 (by decide)).2
      have hzo := HO.out.lt (by decide)
      have hza := HA.out.lt (by decide)
      have hbl2 : b < wr.heap.size := Nat.lt_of_lt_of_le hbl HB.out.size
      have hzr := HR.out.lt (by decide)
      have Hrk := Lib.hid hrk
      have Hat := Lib.hid hat
      have q1 : (k : Int) < (y : Int) := by omega
      clear hat hrk
      have HM1 := Lib.hid (List.mem_of_getElem? Hrk.out)
      obtain ⟨Kk, hKk0⟩ : ∃ x, x = mks (l.take k) L a m := ⟨_, rfl⟩
      obtain ⟨Bk, hBk0⟩ : ∃ x, x = bst (l.take k) a m := ⟨_, rfl⟩
      have hKl : Kk ≤ 1000 := by
        rw [hKk0]; have h := mks_le (l.take k) L a m; rw [List.length_take] at h; omega
      rw [← hKk0, ← hBk0] at HO
      have hKk := Lib.hid hKk0.symm
      have hBk := Lib.hid hBk0.symm
      clear hKk0 hBk0
      obtain ⟨wp, hwp⟩ : ∃ wp, wp = wr.alloc (.cells #[.int .i64 (adR r).1, .int .u64 (adR r).2.1, .int .u64 (adR r).2.2, .int .i64 r.n] 43) := ⟨_, rfl⟩
      obtain ⟨bp, hbp⟩ : ∃ bp, bp = wr.heap.size := ⟨_, rfl⟩
      have HPp := Lib.hid (show St wp bp 4 (prF (adR r) r.n) by rw [hwp, hbp]; exact pr_new wr (adR r) r.n _)
      have HOp := Lib.hid (show St wp bo 6 _ by rw [hwp]; exact HO.out.alloc (by decide) _)
      have HAp := Lib.hid (show St wp ba 4 _ by rw [hwp]; exact HA.out.alloc (by decide) _)
      have HRp := Lib.hid (show St wp br 6 _ by rw [hwp]; exact HR.out.alloc (by decide) _)
      have HBp := Lib.hid (show Below w.heap.size w wp by rw [hwp]; exact HB.out.alloc HB.out.size _)
      have n4 : bp ≠ bo := by rw [hbp]; omega
      have Hwp := Lib.hid hwp
      have Hbp := Lib.hid hbp
      clear hwp hbp
      have hE := eql_pr (adR r) a r.n m
      cases hp : isP a m r with
      | true =>
        have hE2 : decide (adR r = a ∧ r.n = m) = true := hp
        rw [hE2] at hE
        obtain ⟨Gk, hGk⟩ : ∃ x, x = r.g := ⟨_, rfl⟩
        have HGk := Lib.hid (show grpOf (l.take (k + 1)) a m = Gk by rw [grp_succ Hrk.out, hp, if_pos rfl, hGk])
        clear hp hE2
        go_wp2_with fail
        rw [← Hbp.out, ← hGk]
        obtain ⟨w1, hw1⟩ : ∃ w1, w1 = (wr.setCell ⟨bo, 3, none⟩ (.int .i64 Gk)).alloc (.cells #[.int .i64 (adR r).1, .int .u64 (adR r).2.1, .int .u64 (adR r).2.2, .int .i64 r.n] 43) := ⟨_, rfl⟩
        rw [← hw1]
        have HS1 := Lib.hid (show St w1 bo 6 (enF a Gk Kk Bk) by rw [hw1]; exact (en_setG HO.out _).alloc (by decide) _)
        have HP1 := Lib.hid (show St w1 bp 4 (prF (adR r) r.n) by rw [hw1, Hbp.out]; exact pr_at (adR r) r.n _ (by simp [World.setCell]))
        have HA1 := Lib.hid (show St w1 ba 4 (prF a m) by rw [hw1]; exact (HA.out.setOther n1 _).alloc (by decide) _)
        have HR1 := Lib.hid (show St w1 br 6 (enF (0, 0, 0) 0 0 0) by rw [hw1]; exact (HR.out.setOther n2 _).alloc (by decide) _)
        have HB1 := Lib.hid (show Below w.heap.size w w1 by rw [hw1]; exact (below_set HB.out Hbo.out.1 _).alloc (by simp [World.setCell]; exact HB.out.size) _)
        clear hw1 hGk c0 c1 c2 c3 c4 a0 a1 a2 a3 o3 f3 hE
        refine (HM.out w1 HB1.out r HM1.out).mono ?_
        rintro e w2 ⟨rfl, hb2⟩
        have HS2 := Lib.hid (HS1.out.below hb2 (HS1.out.lt (by decide)))
        have HP2 := Lib.hid (HP1.out.below hb2 (HP1.out.lt (by decide)))
        have HA2 := Lib.hid (HA1.out.below hb2 (HA1.out.lt (by decide)))
        have HR2 := Lib.hid (HR1.out.below hb2 (HR1.out.lt (by decide)))
        have HB2 := Lib.hid (HB1.out.trans (hb2.mono HB1.out.size))
        have p0 : w2.cell? ⟨bp, 0, none⟩ = some (.int .i64 (adR r).1) := (HP2.out 0 (by decide)).1
        have p1 : w2.cell? ⟨bp, 1, none⟩ = some (.int .u64 (adR r).2.1) := (HP2.out 1 (by decide)).1
        have p2 : w2.cell? ⟨bp, 2, none⟩ = some (.int .u64 (adR r).2.2) := (HP2.out 2 (by decide)).1
        have p3 : w2.cell? ⟨bp, 3, none⟩ = some (.int .i64 r.n) := (HP2.out 3 (by decide)).1
        have a0 : w2.cell? ⟨ba, 0, none⟩ = some (.int .i64 a.1) := (HA2.out 0 (by decide)).1
        have a1 : w2.cell? ⟨ba, 1, none⟩ = some (.int .u64 a.2.1) := (HA2.out 1 (by decide)).1
        have a2 : w2.cell? ⟨ba, 2, none⟩ = some (.int .u64 a.2.2) := (HA2.out 2 (by decide)).1
        have a3 : w2.cell? ⟨ba, 3, none⟩ = some (.int .i64 m) := (HA2.out 3 (by decide)).1
        have o4 : w2.cell? ⟨bo, 4, none⟩ = some (.int .i64 Kk) := (HS2.out 4 (by decide)).1
        have f4 := (HS2.out 4 (by decide)).2
        clear hb2
        cases hmk : mrk L a m r with
        | false =>
          have HKk := Lib.hid (show (mks (l.take (k + 1)) L a m : Int) = (Kk : Int) by rw [mks_succ Hrk.out, hmk, hKk.out]; simp)
          clear hmk
          go_wp2_with fail
          refine (HC.out w2 r HM1.out).mono ?_
          rintro e w3 ⟨rfl, hb3⟩
          have HS3 := Lib.hid (HS2.out.below hb3 (HS2.out.lt (by decide)))
          have HP3 := Lib.hid (HP2.out.below hb3 (HP2.out.lt (by decide)))
          have HA3 := Lib.hid (HA2.out.below hb3 (HA2.out.lt (by decide)))
          have HR3 := Lib.hid (HR2.out.below hb3 (HR2.out.lt (by decide)))
          have HB3 := Lib.hid (HB2.out.trans (hb3.mono HB2.out.size))
          have p3 : w3.cell? ⟨bp, 3, none⟩ = some (.int .i64 r.n) := (HP3.out 3 (by decide)).1
          have o5 : w3.cell? ⟨bo, 5, none⟩ = some (.int .i64 Bk) := (HS3.out 5 (by decide)).1
          have f5 := (HS3.out 5 (by decide)).2
          clear hb3
          cases hcc : ctn (adR r) r.n a m with
          | false =>
            have HBk := Lib.hid (show bst (l.take (k + 1)) a m = Bk by
              rw [bst_succ Hrk.out, hBk.out]
              unfold bstS
              rw [if_neg]
              rintro ⟨⟨e1, e2⟩, -⟩
              unfold ctn at hcc
              rw [decide_eq_true e1, decide_eq_true e2] at hcc
              cases hcc)
            clear hcc
            go_wp2
            go_roundw
            case rel => exact ⟨k + 1, by omega, by go_num, by show St _ _ _ _; rw [HBk.out, HGk.out, HKk.out]; exact HS3.out, HA3, HR3, HB3⟩
            case measure => simp [intOf]; omega
          | true =>
            by_cases hgt : Bk < r.n
            · have HBk := Lib.hid (show bst (l.take (k + 1)) a m = r.n by
                rw [bst_succ Hrk.out, hBk.out]
                unfold bstS
                unfold ctn at hcc
                simp only [Bool.and_eq_true, decide_eq_true_eq] at hcc
                rw [if_pos ⟨hcc, hgt⟩])
              clear hcc
              go_wp2
              go_roundw
              case rel => exact ⟨k + 1, by omega, by go_num, by show St _ _ _ _; rw [HBk.out, HGk.out, HKk.out]; exact en_setB HS3.out r.n, HA3.out.setOther n1 _, HR3.out.setOther n2 _, below_set HB3.out Hbo.out.1 _⟩
              case measure => simp [intOf]; omega
            · have HBk := Lib.hid (show bst (l.take (k + 1)) a m = Bk by
                rw [bst_succ Hrk.out, hBk.out]
                unfold bstS
                rw [if_neg (fun h => hgt h.2)])
              have hle : r.n ≤ Bk := by omega
              clear hcc
              go_wp2
              go_roundw
              case rel => exact ⟨k + 1, by omega, by go_num, by show St _ _ _ _; rw [HBk.out, HGk.out, HKk.out]; exact HS3.out, HA3, HR3, HB3⟩
              case measure => simp [intOf]; omega
        | true =>
          have HKk := Lib.hid (show (mks (l.take (k + 1)) L a m : Int) = ((Kk : Int) + 1) by rw [mks_succ Hrk.out, hmk, hKk.out]; simp)
          clear hmk
          go_wp2_with fail
          obtain ⟨w4, hw4⟩ : ∃ w4, w4 = w2.setCell ⟨bo, 4, none⟩ (.int .i64 ((Kk : Int) + 1)) := ⟨_, rfl⟩
          rw [← hw4]
          replace HS2 := Lib.hid (show St w4 bo 6 (enF a Gk ((Kk : Int) + 1) Bk) by rw [hw4]; exact en_setK HS2.out _)
          replace HP2 := Lib.hid (show St w4 bp 4 (prF (adR r) r.n) by rw [hw4]; exact HP2.out.setOther n4 _)
          replace HA2 := Lib.hid (show St w4 ba 4 (prF a m) by rw [hw4]; exact HA2.out.setOther n1 _)
          replace HR2 := Lib.hid (show St w4 br 6 (enF (0, 0, 0) 0 0 0) by rw [hw4]; exact HR2.out.setOther n2 _)
          replace HB2 := Lib.hid (show Below w.heap.size w w4 by rw [hw4]; exact below_set HB2.out Hbo.out.1 _)
          clear hw4 p0 p1 p2 p3 a0 a1 a2 a3 o4 f4
          refine (HC.out w4 r HM1.out).mono ?_
          rintro e w3 ⟨rfl, hb3⟩
          have HS3 := Lib.hid (HS2.out.below hb3 (HS2.out.lt (by decide)))
          have HP3 := Lib.hid (HP2.out.below hb3 (HP2.out.lt (by decide)))
          have HA3 := Lib.hid (HA2.out.below hb3 (HA2.out.lt (by decide)))
          have HR3 := Lib.hid (HR2.out.below hb3 (HR2.out.lt (by decide)))
          have HB3 := Lib.hid (HB2.out.trans (hb3.mono HB2.out.size))
          have p3 : w3.cell? ⟨bp, 3, none⟩ = some (.int .i64 r.n) := (HP3.out 3 (by decide)).1
          have o5 : w3.cell? ⟨bo, 5, none⟩ = some (.int .i64 Bk) := (HS3.out 5 (by decide)).1
          have f5 := (HS3.out 5 (by decide)).2
          clear hb3
          cases hcc : ctn (adR r) r.n a m with
          | false =>
            have HBk := Lib.hid (show bst (l.take (k + 1)) a m = Bk by
              rw [bst_succ Hrk.out, hBk.out]
              unfold bstS
              rw [if_neg]
              rintro ⟨⟨e1, e2⟩, -⟩
              unfold ctn at hcc
              rw [decide_eq_true e1, decide_eq_true e2] at hcc
              cases hcc)
            clear hcc
            go_wp2
            go_roundw
            case rel => exact ⟨k + 1, by omega, by go_num, by show St _ _ _ _; rw [HBk.out, HGk.out, HKk.out]; exact HS3.out, HA3, HR3, HB3⟩
            case measure => simp [intOf]; omega
          | true =>
            by_cases hgt : Bk < r.n
            · have HBk := Lib.hid (show bst (l.take (k + 1)) a m = r.n by
                rw [bst_succ Hrk.out, hBk.out]
                unfold bstS
                unfold ctn at hcc
                simp only [Bool.and_eq_true, decide_eq_true_eq] at hcc
                rw [if_pos ⟨hcc, hgt⟩])
              clear hcc
              go_wp2
              go_roundw
              case rel => exact ⟨k + 1, by omega, by go_num, by show St _ _ _ _; rw [HBk.out, HGk.out, HKk.out]; exact en_setB HS3.out r.n, HA3.out.setOther n1 _, HR3.out.setOther n2 _, below_set HB3.out Hbo.out.1 _⟩
              case measure => simp [intOf]; omega
            · have HBk := Lib.hid (show bst (l.take (k + 1)) a m = Bk by
                rw [bst_succ Hrk.out, hBk.out]
                unfold bstS
                rw [if_neg (fun h => hgt h.2)])
              have hle : r.n ≤ Bk := by omega
              clear hcc
              go_wp2
              go_roundw
              case rel => exact ⟨k + 1, by omega, by go_num, by show St _ _ _ _; rw [HBk.out, HGk.out, HKk.out]; exact HS3.out, HA3, HR3, HB3⟩
              case measure => simp [intOf]; omega
      | false =>
        have hE2 : decide (adR r = a ∧ r.n = m) = false := hp
        rw [hE2] at hE
        obtain ⟨Gk, hGk⟩ : ∃ x, x = grpOf (l.take k) a m := ⟨_, rfl⟩
        have HGk := Lib.hid (show grpOf (l.take (k + 1)) a m = Gk by rw [grp_succ Hrk.out, hp, if_neg Bool.false_ne_true, hGk])
        rw [← hGk] at HOp
        clear hp hE2
        go_wp2_with fail
        rw [← Hwp.out, ← Hbp.out]
        obtain ⟨w1, hw1⟩ : ∃ w1, w1 = wp := ⟨_, rfl⟩
        rw [← hw1]
        have HS1 := Lib.hid (show St w1 bo 6 (enF a Gk Kk Bk) by rw [hw1]; exact HOp.out)
        have HP1 := Lib.hid (show St w1 bp 4 (prF (adR r) r.n) by rw [hw1]; exact HPp.out)
        have HA1 := Lib.hid (show St w1 ba 4 (prF a m) by rw [hw1]; exact HAp.out)
        have HR1 := Lib.hid (show St w1 br 6 (enF (0, 0, 0) 0 0 0) by rw [hw1]; exact HRp.out)
        have HB1 := Lib.hid (show Below w.heap.size w w1 by rw [hw1]; exact HBp.out)
        clear hw1 hGk c0 c1 c2 c3 c4 a0 a1 a2 a3 o3 f3 hE
        refine (HM.out w1 HB1.out r HM1.out).mono ?_
        rintro e w2 ⟨rfl, hb2⟩
        have HS2 := Lib.hid (HS1.out.below hb2 (HS1.out.lt (by decide)))
        have HP2 := Lib.hid (HP1.out.below hb2 (HP1.out.lt (by decide)))
        have HA2 := Lib.hid (HA1.out.below hb2 (HA1.out.lt (by decide)))
        have HR2 := Lib.hid (HR1.out.below hb2 (HR1.out.lt (by decide)))
        have HB2 := Lib.hid (HB1.out.trans (hb2.mono HB1.out.size))
        have p0 : w2.cell? ⟨bp, 0, none⟩ = some (.int .i64 (adR r).1) := (HP2.out 0 (by decide)).1
        have p1 : w2.cell? ⟨bp, 1, none⟩ = some (.int .u64 (adR r).2.1) := (HP2.out 1 (by decide)).1
        have p2 : w2.cell? ⟨bp, 2, none⟩ = some (.int .u64 (adR r).2.2) := (HP2.out 2 (by decide)).1
        have p3 : w2.cell? ⟨bp, 3, none⟩ = some (.int .i64 r.n) := (HP2.out 3 (by decide)).1
        have a0 : w2.cell? ⟨ba, 0, none⟩ = some (.int .i64 a.1) := (HA2.out 0 (by decide)).1
        have a1 : w2.cell? ⟨ba, 1, none⟩ = some (.int .u64 a.2.1) := (HA2.out 1 (by decide)).1
        have a2 : w2.cell? ⟨ba, 2, none⟩ = some (.int .u64 a.2.2) := (HA2.out 2 (by decide)).1
        have a3 : w2.cell? ⟨ba, 3, none⟩ = some (.int .i64 m) := (HA2.out 3 (by decide)).1
        have o4 : w2.cell? ⟨bo, 4, none⟩ = some (.int .i64 Kk) := (HS2.out 4 (by decide)).1
        have f4 := (HS2.out 4 (by decide)).2
        clear hb2
        cases hmk : mrk L a m r with
        | false =>
          have HKk := Lib.hid (show (mks (l.take (k + 1)) L a m : Int) = (Kk : Int) by rw [mks_succ Hrk.out, hmk, hKk.out]; simp)
          clear hmk
          go_wp2_with fail
          refine (HC.out w2 r HM1.out).mono ?_
          rintro e w3 ⟨rfl, hb3⟩
          have HS3 := Lib.hid (HS2.out.below hb3 (HS2.out.lt (by decide)))
          have HP3 := Lib.hid (HP2.out.below hb3 (HP2.out.lt (by decide)))
          have HA3 := Lib.hid (HA2.out.below hb3 (HA2.out.lt (by decide)))
          have HR3 := Lib.hid (HR2.out.below hb3 (HR2.out.lt (by decide)))
          have HB3 := Lib.hid (HB2.out.trans (hb3.mono HB2.out.size))
          have p3 : w3.cell? ⟨bp, 3, none⟩ = some (.int .i64 r.n) := (HP3.out 3 (by decide)).1
          have o5 : w3.cell? ⟨bo, 5, none⟩ = some (.int .i64 Bk) := (HS3.out 5 (by decide)).1
          have f5 := (HS3.out 5 (by decide)).2
          clear hb3
          cases hcc : ctn (adR r) r.n a m with
          | false =>
            have HBk := Lib.hid (show bst (l.take (k + 1)) a m = Bk by
              rw [bst_succ Hrk.out, hBk.out]
              unfold bstS
              rw [if_neg]
              rintro ⟨⟨e1, e2⟩, -⟩
              unfold ctn at hcc
              rw [decide_eq_true e1, decide_eq_true e2] at hcc
              cases hcc)
            clear hcc
            go_wp2
            go_roundw
            case rel => exact ⟨k + 1, by omega, by go_num, by show St _ _ _ _; rw [HBk.out, HGk.out, HKk.out]; exact HS3.out, HA3, HR3, HB3⟩
            case measure => simp [intOf]; omega
          | true =>
            by_cases hgt : Bk < r.n
            · have HBk := Lib.hid (show bst (l.take (k + 1)) a m = r.n by
                rw [bst_succ Hrk.out, hBk.out]
                unfold bstS
                unfold ctn at hcc
                simp only [Bool.and_eq_true, decide_eq_true_eq] at hcc
                rw [if_pos ⟨hcc, hgt⟩])
              clear hcc
              go_wp2
              go_roundw
              case rel => exact ⟨k + 1, by omega, by go_num, by show St _ _ _ _; rw [HBk.out, HGk.out, HKk.out]; exact en_setB HS3.out r.n, HA3.out.setOther n1 _, HR3.out.setOther n2 _, below_set HB3.out Hbo.out.1 _⟩
              case measure => simp [intOf]; omega
            · have HBk := Lib.hid (show bst (l.take (k + 1)) a m = Bk by
                rw [bst_succ Hrk.out, hBk.out]
                unfold bstS
                rw [if_neg (fun h => hgt h.2)])
              have hle : r.n ≤ Bk := by omega
              clear hcc
              go_wp2
              go_roundw
              case rel => exact ⟨k + 1, by omega, by go_num, by show St _ _ _ _; rw [HBk.out, HGk.out, HKk.out]; exact HS3.out, HA3, HR3, HB3⟩
              case measure => simp [intOf]; omega
        | true =>
          have HKk := Lib.hid (show (mks (l.take (k + 1)) L a m : Int) = ((Kk : Int) + 1) by rw [mks_succ Hrk.out, hmk, hKk.out]; simp)
          clear hmk
          go_wp2_with fail
          obtain ⟨w4, hw4⟩ : ∃ w4, w4 = w2.setCell ⟨bo, 4, none⟩ (.int .i64 ((Kk : Int) + 1)) := ⟨_, rfl⟩
          rw [← hw4]
          replace HS2 := Lib.hid (show St w4 bo 6 (enF a Gk ((Kk : Int) + 1) Bk) by rw [hw4]; exact en_setK HS2.out _)
          replace HP2 := Lib.hid (show St w4 bp 4 (prF (adR r) r.n) by rw [hw4]; exact HP2.out.setOther n4 _)
          replace HA2 := Lib.hid (show St w4 ba 4 (prF a m) by rw [hw4]; exact HA2.out.setOther n1 _)
          replace HR2 := Lib.hid (show St w4 br 6 (enF (0, 0, 0) 0 0 0) by rw [hw4]; exact HR2.out.setOther n2 _)
          replace HB2 := Lib.hid (show Below w.heap.size w w4 by rw [hw4]; exact below_set HB2.out Hbo.out.1 _)
          clear hw4 p0 p1 p2 p3 a0 a1 a2 a3 o4 f4
          refine (HC.out w4 r HM1.out).mono ?_
          rintro e w3 ⟨rfl, hb3⟩
          have HS3 := Lib.hid (HS2.out.below hb3 (HS2.out.lt (by decide)))
          have HP3 := Lib.hid (HP2.out.below hb3 (HP2.out.lt (by decide)))
          have HA3 := Lib.hid (HA2.out.below hb3 (HA2.out.lt (by decide)))
          have HR3 := Lib.hid (HR2.out.below hb3 (HR2.out.lt (by decide)))
          have HB3 := Lib.hid (HB2.out.trans (hb3.mono HB2.out.size))
          have p3 : w3.cell? ⟨bp, 3, none⟩ = some (.int .i64 r.n) := (HP3.out 3 (by decide)).1
          have o5 : w3.cell? ⟨bo, 5, none⟩ = some (.int .i64 Bk) := (HS3.out 5 (by decide)).1
          have f5 := (HS3.out 5 (by decide)).2
          clear hb3
          cases hcc : ctn (adR r) r.n a m with
          | false =>
            have HBk := Lib.hid (show bst (l.take (k + 1)) a m = Bk by
              rw [bst_succ Hrk.out, hBk.out]
              unfold bstS
              rw [if_neg]
              rintro ⟨⟨e1, e2⟩, -⟩
              unfold ctn at hcc
              rw [decide_eq_true e1, decide_eq_true e2] at hcc
              cases hcc)
            clear hcc
            go_wp2
            go_roundw
            case rel => exact ⟨k + 1, by omega, by go_num, by show St _ _ _ _; rw [HBk.out, HGk.out, HKk.out]; exact HS3.out, HA3, HR3, HB3⟩
            case measure => simp [intOf]; omega
          | true =>
            by_cases hgt : Bk < r.n
            · have HBk := Lib.hid (show bst (l.take (k + 1)) a m = r.n by
                rw [bst_succ Hrk.out, hBk.out]
                unfold bstS
                unfold ctn at hcc
                simp only [Bool.and_eq_true, decide_eq_true_eq] at hcc
                rw [if_pos ⟨hcc, hgt⟩])
              clear hcc
              go_wp2
              go_roundw
              case rel => exact ⟨k + 1, by omega, by go_num, by show St _ _ _ _; rw [HBk.out, HGk.out, HKk.out]; exact en_setB HS3.out r.n, HA3.out.setOther n1 _, HR3.out.setOther n2 _, below_set HB3.out Hbo.out.1 _⟩
              case measure => simp [intOf]; omega
            · have HBk := Lib.hid (show bst (l.take (k + 1)) a m = Bk by
                rw [bst_succ Hrk.out, hBk.out]
                unfold bstS
                rw [if_neg (fun h => hgt h.2)])
              have hle : r.n ≤ Bk := by omega
              clear hcc
              go_wp2
              go_roundw
              case rel => exact ⟨k + 1, by omega, by go_num, by show St _ _ _ _; rw [HBk.out, HGk.out, HKk.out]; exact HS3.out, HA3, HR3, HB3⟩
              case measure => simp [intOf]; omega
    · obtain rfl : k = y := by omega
      have hfull := HO.out
      rw [Hy.out, List.take_length] at hfull
      have HO2 := Lib.hid hfull
      clear hfull
      have o0 : wr.cell? ⟨bo, 0, none⟩ = some (.int .i64 a.1) := (HO2.out 0 (by decide)).1
      have o1 : wr.cell? ⟨bo, 1, none⟩ = some (.int .u64 a.2.1) := (HO2.out 1 (by decide)).1
      have o2 : wr.cell? ⟨bo, 2, none⟩ = some (.int .u64 a.2.2) := (HO2.out 2 (by decide)).1
      have o3 : wr.cell? ⟨bo, 3, none⟩ = some (.int .i64 (grpOf l a m)) := (HO2.out 3 (by decide)).1
      have o4 : wr.cell? ⟨bo, 4, none⟩ = some (.int .i64 (mks l L a m)) := (HO2.out 4 (by decide)).1
      have o5 : wr.cell? ⟨bo, 5, none⟩ = some (.int .i64 (bst l a m)) := (HO2.out 5 (by decide)).1
      have r0 : wr.cell? ⟨br, 0, none⟩ = some (.int .i64 0) := (HR.out 0 (by decide)).1
      have r1 : wr.cell? ⟨br, 1, none⟩ = some (.int .u64 0) := (HR.out 1 (by decide)).1
      have r2 : wr.cell? ⟨br, 2, none⟩ = some (.int .u64 0) := (HR.out 2 (by decide)).1
      have r3 : wr.cell? ⟨br, 3, none⟩ = some (.int .i64 0) := (HR.out 3 (by decide)).1
      have r4 : wr.cell? ⟨br, 4, none⟩ = some (.int .i64 0) := (HR.out 4 (by decide)).1
      have r5 : wr.cell? ⟨br, 5, none⟩ = some (.int .i64 0) := (HR.out 5 (by decide)).1
      have f0 := (HR.out 0 (by decide)).2
      have f1 := (HR.out 1 (by decide)).2
      have f2 := (HR.out 2 (by decide)).2
      have f3 := (HR.out 3 (by decide)).2
      have f4 := (HR.out 4 (by decide)).2
      have f5 := (HR.out 5 (by decide)).2
      go_wp2
      exact bodyPost_ret (v := enV a (grpOf l a m) (mks l L a m) (bst l a m)) (by simp [results, Try.results65, go_sem, r0, r1, r2, r3, r4, r5]) rfl ⟨rfl, below_set (below_set (below_set (below_set (below_set (below_set HB.out Hbo.out.2 _) Hbo.out.2 _) Hbo.out.2 _) Hbo.out.2 _) Hbo.out.2 _) Hbo.out.2 _⟩
end Go.Proofs.Ytnfkgnjeamnhfab
namespace Go.Proofs.Ytnfkgnjeamnhfab
open Go.RowKit Go.Sort

theorem row_lower {w : World} {N M e z : Nat} {v : Value} {n : Nat} {xs : List Value} (h : w.ownsRow N e z v n xs) (hM : M ≤ N) : w.ownsRow M e z v n xs := by
  refine ⟨h.1, ?_⟩
  rcases h.2 with h1 | ⟨g, cap, cur, h1, hb, rest⟩
  · exact .inl h1
  · exact .inr ⟨g, cap, cur, h1, Nat.le_trans hM hb, rest⟩
def zeros129 : Array Value := Array.replicate 129 (.bool false)
theorem zv129 (w : World) : (zeroValue 124).run Try.prog w = .ok (.agg zeros129) w := by kernel_rfl

def hasF (l : List Rt) : Nat → Value := fun j => .bool (hasN l j)
theorem has_new (w : World) (t : TypeId) : St (w.alloc (.cells zeros129 t)) w.heap.size 129 (hasF []) := by
  have h := St.new w zeros129 t
  rw [show zeros129.size = 129 from by simp [zeros129]] at h
  refine h.congr (fun j hj => ?_)
  simp [zeros129, hasF, hasN, Array.getD, hj]
theorem has_set {w : World} {b k c : Nat} {l : List Rt} {r : Rt} (hr : l[k]? = some r) (hc : r.n = (c : Int)) (hlt : c < 129) (h : St w b 129 (hasF (l.take k))) : St (w.setCell ⟨b, c, none⟩ (.bool true)) b 129 (hasF (l.take (k + 1))) := by
  refine (h.set hlt _).congr (fun j hj => ?_)
  unfold upd hasF
  rw [hasN_succ hr, hc]
  by_cases e : j = c
  · subst e; simp
  · rw [if_neg e, show ((c : Int) == (j : Int)) = false from ne_beq (fun x => e x.symm), Bool.or_false]

set_option maxRecDepth 4000 in
set_option maxHeartbeats 4000000 in
theorem elens_any (N : Nat) (v : Value) (l : List Rt) (w : World) (hl : RwO w N v l) (hlen : l.length ≤ 1000) (hg : ∀ r ∈ l, 0 ≤ r.n ∧ r.n < 129) :
    Calls Try.prog 40 #[v] w fun e w' => ∃ ao n cap, e = .returned (.slice ao n cap) ∧ n = (lensC l 129).length ∧ w'.ownsRow w.heap.size 3 1 (.slice ao n cap) n (ints (lensC l 129)) ∧ Below w.heap.size w w' := by
  obtain ⟨lo, lc, rfl, -⟩ := RwO.form hl
  have HL := Lib.hid hl
  obtain ⟨y, hy⟩ : ∃ y, y = l.length := ⟨_, rfl⟩
  rw [← hy] at hlen ⊢
  have Hy := Lib.hid hy
  have HG := Lib.hid hg
  have hzv := zv129
  clear hl hg hy
  go_enter Try.func40, Try.ntmps40
  go_wp2
  obtain ⟨bh, hbh⟩ : ∃ x, x = w.heap.size := ⟨_, rfl⟩
  obtain ⟨w0, hw0⟩ : ∃ w0, w0 = w.alloc (.cells zeros129 124) := ⟨_, rfl⟩
  rw [← hw0, ← hbh]
  have HS0 := Lib.hid (show St w0 bh 129 (hasF []) by rw [hw0, hbh]; exact has_new w _)
  have HB0 := Lib.hid (show Below w.heap.size w w0 by rw [hw0]; exact box1 _ _)
  have Hbh := Lib.hid (show w.heap.size ≤ bh by omega)
  obtain ⟨i0, hi0, hz0, hz1, hz2⟩ := info3
  clear hw0 hbh hzv
  go_loopw [4] (fun i wr => ∃ k : Nat, k ≤ y ∧ i = .int .i64 k ∧ Hid (St wr bh 129 (hasF (l.take k))) ∧ Hid (Below w.heap.size w wr)) (fun i _ => y - (intOf i).toNat)
  case atStart => exact ⟨0, Nat.zero_le _, rfl, HS0, HB0⟩
  case round =>
    obtain ⟨k, hk, rfl, HS, HB⟩ := hrel
    by_cases hlt : k < y
    · obtain ⟨r, hrk⟩ : ∃ r, l[k]? = some r := ⟨_, List.getElem?_eq_getElem (by rw [← Hy.out]; exact hlt)⟩
      obtain ⟨b, rfl, hat, -, -, hbl⟩ := RwO.at HL.out hrk
      have c3 := (HB.out.cell (p := ⟨b, k * 5 + 3, none⟩) hbl).trans hat.c3
      obtain ⟨c, hc⟩ : ∃ c : Nat, r.n = (c : Int) := ⟨r.n.toNat, by have := HG.out r (List.mem_of_getElem? hrk); omega⟩
      have hc129 : c < 129 := by have := HG.out r (List.mem_of_getElem? hrk); omega
      rw [hc] at c3
      have h1 := (HS.out c hc129).1
      have h2 := (HS.out c hc129).2
      have q1 : (k : Int) < (y : Int) := by omega
      have q2 : (0 : Int) ≤ (c : Int) := by omega
      have q3 : (c : Int) < 129 := by omega
      have HN := Lib.hid (has_set (c := c) hrk hc hc129 HS.out)
      clear hat hrk hc
      go_wp2
      go_roundw
      case rel => exact ⟨k + 1, by omega, by go_num, HN, below_set HB.out Hbh.out _⟩
      case measure => simp [intOf]; omega
    · obtain rfl : k = y := by omega
      have HS2 := Lib.hid (show St wr bh 129 (hasF l) by have h := HS.out; rw [Hy.out, List.take_length] at h; exact h)
      have HB2 := HB
      clear HS HB
      go_wp2
      go_loopw [6, 7] (fun lv i wr => ∃ (j n2 : Nat) (ao2 : Option Addr) (cap2 : Nat), j ≤ 129 ∧ i = .int .i64 j ∧ lv = .slice ao2 n2 cap2 ∧ n2 ≤ j ∧ Hid (St wr bh 129 (hasF l)) ∧ Hid (wr.ownsRow (bh + 1) 3 1 (.slice ao2 n2 cap2) n2 (ints (lensC l j))) ∧ Hid (n2 = (lensC l j).length) ∧ Hid (Below w.heap.size w wr)) (fun _ i _ => 129 - (intOf i).toNat)
      case atStart =>
        refine ⟨0, 0, _, _, Nat.zero_le _, rfl, rfl, Nat.le_refl _, HS2.out.alloc (by decide) _, ?_, rfl, HB2.out.alloc HB2.out.size _⟩
        exact World.ownsRow_lit wr #[] 0 (HS2.out.lt (by decide)) (by unfold maxLen; omega) rfl
      case round =>
        obtain ⟨j, n2, ao2, cap2, hj, rfl, rfl, hn2, HS, HL2, HN, HB⟩ := hrel
        by_cases hlt2 : j < 129
        · have h1 : wr.cell? ⟨bh, j, none⟩ = some (.bool (hasN l j)) := (HS.out j hlt2).1
          have q1 : (j : Int) < 129 := by omega
          have q0 : (0 : Int) ≤ (j : Int) := by omega
          have hzb := HS.out.lt (by decide)
          cases ht : hasN l j with
          | true =>
            rw [ht] at h1
            have Ht := Lib.hid ht
            clear ht
            have hwl : w.heap.size ≤ wr.heap.size := HB.out.size
            go_wp2_with (at_builtin; refine wpList_append_lies _ rfl _ _ 31 rfl (bh + 1) 3 i0 (.int .i64 0) 1 8 Try.underlying31 hi0 hz0 hz1 hz2 rfl (by decide) _ n2 (ints (lensC l j)) rfl (HL2.out.alloc _) ⟨wr.heap.size, 0, none⟩ 1 1 [.int .i64 j] rfl rfl (news_one _ _ _) ?c2 (by decide) ?c4 ?c5 ?c6 _ rfl ?_)
            case c2 => intro u hu; rw [List.mem_singleton.1 hu]; rfl
            case c4 => unfold maxLen; omega
            case c5 => omega
            case c6 => simp; omega
            intro g3 cap3 w3 hown3 hgrow3 hat3 hgz3
            have HB3 := Lib.hid (below_grown (HB.out.trans (((Below.refl wr.heap.size wr).alloc (Nat.le_refl _) _).mono hwl)) hgrow3 (fun b hb => Nat.le_trans Hbh.out (Nat.le_of_succ_le (World.ownsRow.lt HL2.out b hb).1)) (by simp; omega))
            have HS3 := Lib.hid (show St w3 bh 129 (hasF l) from (HS.out.alloc (by decide) _).same (hgrow3.block bh (by simp; omega) (fun e => by have := (World.ownsRow.lt HL2.out bh e.symm).1; omega)))
            have HO3 := Lib.hid (show w3.ownsRow (bh + 1) 3 1 (.slice (some ⟨g3, 0, none⟩) (n2 + 1) cap3) (n2 + 1) (ints (lensC l (j + 1))) by rw [lensC_yes Ht.out, ints, List.map_append]; exact hown3)
            clear hown3 hgrow3 hat3
            go_wp2
            go_roundw
            case rel => exact ⟨j + 1, n2 + 1, _, cap3, by omega, by go_num, rfl, by omega, HS3, HO3, by show _ = _; rw [lensC_yes Ht.out, List.length_append, ← HN.out]; rfl, HB3⟩
            case measure => simp [intOf]; omega
          | false =>
            rw [ht] at h1
            have Ht := Lib.hid ht
            clear ht
            go_wp2
            go_roundw
            case rel => exact ⟨j + 1, n2, ao2, cap2, by omega, by go_num, rfl, by omega, HS, by show World.ownsRow _ _ _ _ _ _ _; rw [lensC_no Ht.out]; exact HL2.out, by show _ = _; rw [lensC_no Ht.out]; exact HN.out, HB⟩
            case measure => simp [intOf]; omega
        · obtain rfl : j = 129 := by omega
          go_wp2
          go_ret
          exact ⟨ao2, n2, cap2, rfl, HN.out, row_lower HL2.out (Nat.le_succ_of_le Hbh.out), HB.out⟩
end Go.Proofs.Ytnfkgnjeamnhfab
