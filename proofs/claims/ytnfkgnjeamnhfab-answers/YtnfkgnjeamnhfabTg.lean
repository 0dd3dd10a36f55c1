import Derived.Test.YtnfkgnjeamnhfabTf
import Derived.Deep.CutRange
namespace Go.Proofs.Ytnfkgnjeamnhfab
open Go.RowKit Go.Sort

set_option maxHeartbeats 1000000 in
theorem isThere_any (a : Ad) (g : Int) (k : Nat) (b : Int) (w : World) : Calls Try.prog 66 #[enV a g k b] w fun e w' => e = .returned (.bool (decide (g ≠ -1 ∨ 0 < k))) ∧ Below w.heap.size w w' := by
  obtain ⟨t, ht⟩ : ∃ t, t = decide (g ≠ -1 ∨ 0 < k) := ⟨_, rfl⟩
  rw [← ht]
  have Ht := Lib.hid ht
  clear ht
  by_cases h : g = -1
  · have q1 : (g != -1) = false := by rw [h]; rfl
    by_cases h2 : 0 < k
    · have Ht2 := Lib.hid (show t = true by rw [Ht.out]; exact decide_eq_true (.inr h2))
      have H2 := Lib.hid h2
      clear h h2
      go_enter Try.func66, Try.ntmps66
      go_wp2
      go_ret
      refine ⟨?_, box1 _ _⟩
      show Ending.returned (.bool (decide (0 < k))) = _
      rw [Ht2.out, decide_eq_true H2.out]
    · have Ht2 := Lib.hid (show t = false by rw [Ht.out]; exact decide_eq_false (by omega))
      have H2 := Lib.hid h2
      clear h h2
      go_enter Try.func66, Try.ntmps66
      go_wp2
      go_ret
      refine ⟨?_, box1 _ _⟩
      show Ending.returned (.bool (decide (0 < k))) = _
      rw [Ht2.out, decide_eq_false H2.out]
  · have q1 : (g != -1) = true := by rw [bne, ine_beq h]; rfl
    have Ht2 := Lib.hid (show t = true by rw [Ht.out]; exact decide_eq_true (.inl h))
    clear h
    go_enter Try.func66, Try.ntmps66
    go_wp2
    go_ret
    rw [Ht2.out]
    exact ⟨rfl, box1 _ _⟩
theorem gof_at {l : List Rt} {a : Ad} {b : Int} {k : Nat} {r : Rt} (h : ∀ j s, j < k → l[j]? = some s → hit a b s = false) (hr : l[k]? = some r) (hh : hit a b r = true) : gof l a b = r.g := by
  unfold gof
  have e : l.find? (hit a b) = some r := by
    induction l generalizing k with
    | nil => simp at hr
    | cons x l ih =>
      cases k with
      | zero => simp at hr; subst hr; rw [List.find?_cons, hh]
      | succ k =>
        rw [List.find?_cons, h 0 x (by omega) rfl]
        exact ih (k := k) (fun j s hj hs => h (j + 1) s (by omega) (by simpa using hs)) (by simpa using hr)
  rw [e]
theorem gof_no {l : List Rt} {a : Ad} {b : Int} (h : ∀ j s, j < l.length → l[j]? = some s → hit a b s = false) : gof l a b = -1 := by
  unfold gof
  rw [List.find?_eq_none.2]
  intro r hr
  obtain ⟨j, hj, e⟩ := List.getElem_of_mem hr
  rw [h j r hj (by rw [← e]; exact List.getElem?_eq_getElem hj)]
  exact Bool.false_ne_true
theorem width_any (f : Int) (w : World) (h : f = 4 ∨ f = 6) : Calls Try.prog 38 #[.int .i64 f] w fun e w' => e = .returned (.int .i64 (wid f)) ∧ w' = w := by
  rcases h with rfl | rfl
  · exact H.width_4 w
  · exact H.width_6 w

set_option maxHeartbeats 4000000 in
theorem groupOf_any (N : Nat) (v : Value) (l : List Rt) (a : Ad) (b : Int) (w : World) (hl : RwO w N v l) (hlen : l.length ≤ 1000) (hF : Fam l a.1) (hfam : a.1 = 4 ∨ a.1 = 6) (hfit : FitA a) :
    Calls Try.prog 69 #[v, adV a, .int .i64 b] w fun e w' => e = .returned (.int .i64 (gof l a b)) ∧ Below w.heap.size w w' := by
  obtain ⟨lo, lc, rfl, -⟩ := RwO.form hl
  have hwid : ∀ r ∈ l, 0 ≤ r.n ∧ r.n ≤ wid a.1 := fun r hr => by
    have h1 := (hF.gd r hr).len
    refine ⟨h1.1, ?_⟩
    unfold wid
    split
    · rename_i h4; exact h1.2.2 (by rw [hF.fam r hr]; exact h4)
    · exact h1.2.1
  have HC := Lib.hid (fun (w1 : World) (r : Rt) (hr' : r ∈ l) => contains_any (adR r) r.n a (wid a.1) w1 hfam hfit (hwid r hr').1 (hwid r hr').2)
  have HW := Lib.hid (fun (w : World) => width_any a.1 w hfam)
  have HL := Lib.hid hl
  have Hwid := Lib.hid hwid
  obtain ⟨y, hy⟩ : ∃ y, y = l.length := ⟨_, rfl⟩
  rw [← hy] at hlen ⊢
  have Hy := Lib.hid hy
  obtain ⟨wi, hwi⟩ : ∃ wi, wi = wid a.1 := ⟨_, rfl⟩
  rw [← hwi] at HW HC
  have Hwi := Lib.hid hwi
  clear hl hF hy hwid hfam hfit hwi
  go_enter Try.func69, Try.ntmps69
  go_upto_region 1 with fail
  go_cut [7] from 10 to 14 (fun s7 wx => s7 = .pointer (some ⟨w.heap.size + 1, 0, none⟩) ∧ Hid (St wx (w.heap.size + 1) 4 (prF a wi)) ∧ Hid (Below w.heap.size w wx))
  case first =>
    go_region_with (go_at_call 38; refine (HW.out _).mono ?_; rintro e w1 ⟨rfl, rfl⟩)
    all_goals
      go_wp2_with fail
      go_meet
      have h1 := two_boxes w (.cells #[.int .i64 a.1, .int .u64 a.2.1, .int .u64 a.2.2] 25) (.cells #[.int .i64 a.1, .int .u64 a.2.1, .int .u64 a.2.2, .int .i64 wi] 43)
      have h2 := pr_at (w := w.alloc (.cells #[.int .i64 a.1, .int .u64 a.2.1, .int .u64 a.2.2] 25)) (b := w.heap.size + 1) a wi 43 (by simp)
      exact ⟨rfl, h2, ⟨h1.os, h1.tape, h1.output, h1.size, h1.block⟩⟩
  case rest =>
  obtain ⟨rfl, HA0, HB0⟩ := hcut
  obtain ⟨ba, hba⟩ : ∃ x, x = w.heap.size + 1 := ⟨_, rfl⟩
  rw [← hba] at HA0 ⊢
  clear hba
  go_wp2_with fail
  go_loopw [8] (fun i wr => ∃ k : Nat, k ≤ y ∧ i = .int .i64 k ∧ Hid (St wr ba 4 (prF a wi)) ∧ Hid (∀ j s, j < k → l[j]? = some s → hit a b s = false) ∧ Hid (Below w.heap.size w wr)) (fun i _ => y - (intOf i).toNat)
  case atStart => exact ⟨0, Nat.zero_le _, rfl, HA0, by intro j s hj; omega, HB0⟩
  case round =>
    obtain ⟨k, hk, rfl, HA, HK, HB⟩ := hrel
    by_cases hlt : k < y
    · obtain ⟨r, hrk⟩ : ∃ r, l[k]? = some r := ⟨_, List.getElem?_eq_getElem (by rw [← Hy.out]; exact hlt)⟩
      obtain ⟨b', rfl, hat, -, -, hbl⟩ := RwO.at HL.out hrk
      have c0 : wr.cell? ⟨b', k * 5, none⟩ = some (.int .i64 (adR r).1) := (HB.out.cell (p := ⟨b', k * 5, none⟩) hbl).trans hat.c0
      have c1 : wr.cell? ⟨b', k * 5 + 1, none⟩ = some (.int .u64 (adR r).2.1) := (HB.out.cell (p := ⟨b', k * 5 + 1, none⟩) hbl).trans hat.c1
      have c2 : wr.cell? ⟨b', k * 5 + 2, none⟩ = some (.int .u64 (adR r).2.2) := (HB.out.cell (p := ⟨b', k * 5 + 2, none⟩) hbl).trans hat.c2
      have c3 := (HB.out.cell (p := ⟨b', k * 5 + 3, none⟩) hbl).trans hat.c3
      have a0 : wr.cell? ⟨ba, 0, none⟩ = some (.int .i64 a.1) := (HA.out 0 (by decide)).1
      have a1 : wr.cell? ⟨ba, 1, none⟩ = some (.int .u64 a.2.1) := (HA.out 1 (by decide)).1
      have a2 : wr.cell? ⟨ba, 2, none⟩ = some (.int .u64 a.2.2) := (HA.out 2 (by decide)).1
      have a3 : wr.cell? ⟨ba, 3, none⟩ = some (.int .i64 wi) := (HA.out 3 (by decide)).1
      have hza := HA.out.lt (by decide)
      have hbl2 : b' < wr.heap.size := Nat.lt_of_lt_of_le hbl HB.out.size
      have Hrk := Lib.hid hrk
      have Hat := Lib.hid hat
      have q1 : (k : Int) < (y : Int) := by omega
      have HC1 := Lib.hid (fun (w1 : World) => HC.out w1 r (List.mem_of_getElem? hrk))
      obtain ⟨wp, hwp⟩ : ∃ wp, wp = wr.alloc (.cells #[.int .i64 (adR r).1, .int .u64 (adR r).2.1, .int .u64 (adR r).2.2, .int .i64 r.n] 43) := ⟨_, rfl⟩
      have HAp := Lib.hid (show St wp ba 4 _ by rw [hwp]; exact HA.out.alloc (by decide) _)
      have HBp := Lib.hid (show Below w.heap.size w wp by rw [hwp]; exact HB.out.alloc HB.out.size _)
      have Hwp := Lib.hid hwp
      have hn : ∀ hh : hit a b r = false, ∀ j s, j < k + 1 → l[j]? = some s → hit a b s = false := fun hh j s hj hs => by
        by_cases e : j = k
        · subst e; rw [Hrk.out] at hs; cases hs; exact hh
        · exact HK.out j s (by omega) hs
      have HNx := Lib.hid hn
      have hwr : r.n ≤ wi := by rw [Hwi.out]; exact (Hwid.out r (List.mem_of_getElem? hrk)).2
      clear hat hrk hwp hn
      by_cases hb : r.n = b
      · have p1 : (r.n == b) = true := by rw [hb]; simp
        have Hb := Lib.hid hb
        clear hb
        go_wp2_with fail
        rw [← Hwp.out]
        refine (HC1.out wp).mono ?_
        rintro e w2 ⟨rfl, hb2⟩
        have HA2 := Lib.hid (HAp.out.below hb2 (HAp.out.lt (by decide)))
        have HB2 := Lib.hid (HBp.out.trans (hb2.mono HBp.out.size))
        have d4 := (HB2.out.cell (p := ⟨b', k * 5 + 4, none⟩) hbl).trans Hat.out.c4
        clear hb2 c0 c1 c2 c3 a0 a1 a2 a3
        cases hc : ctn (adR r) r.n a wi with
        | true =>
          have Hg := Lib.hid (show gof l a b = r.g from gof_at HK.out Hrk.out (by
            unfold ctn at hc
            simp only [Bool.and_eq_true, decide_eq_true_eq] at hc
            exact decide_eq_true ⟨Hb.out, hc.2⟩))
          clear hc
          go_wp2
          go_ret
          rw [Hg.out]
          exact ⟨rfl, HB2.out⟩
        | false =>
          have Hh := Lib.hid (HNx.out (by
            unfold ctn at hc
            rw [decide_eq_true hwr, Bool.true_and] at hc
            exact decide_eq_false (fun h => of_decide_eq_false hc h.2)))
          clear hc
          go_wp2
          go_roundw
          case rel => exact ⟨k + 1, by omega, by go_num, HA2, Hh, HB2⟩
          case measure => simp [intOf]; omega
      · have p1 : (r.n == b) = false := ine_beq hb
        have Hh := Lib.hid (HNx.out (decide_eq_false (fun h => hb h.1)))
        clear hb
        go_wp2
        rw [← Hwp.out]
        go_roundw
        case rel => exact ⟨k + 1, by omega, by go_num, HAp, Hh, HBp⟩
        case measure => simp [intOf]; omega
    · obtain rfl : k = y := by omega
      have Hg := Lib.hid (show gof l a b = -1 from gof_no (by rw [← Hy.out]; exact HK.out))
      go_wp2
      go_ret
      rw [Hg.out]
      exact ⟨rfl, HB.out⟩
end Go.Proofs.Ytnfkgnjeamnhfab
