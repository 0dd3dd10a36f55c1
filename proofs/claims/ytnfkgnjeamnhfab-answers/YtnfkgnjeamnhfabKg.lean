import Derived.Test.YtnfkgnjeamnhfabKf
namespace Go.Proofs.Ytnfkgnjeamnhfab
open Go.RowKit Go.Sort

theorem kcut_any (a : Ad) (n : Int) (w : World) (hf : a.1 = 4 ∨ a.1 = 6) (hfit : FitA a) (h0 : 0 ≤ n) (h1 : n ≤ wid a.1) :
    Calls Try.prog 39 #[adV a, .int .i64 n] w fun e w' => e = .returned (adV (cutD a n)) ∧ Below w.heap.size w w' := by
  obtain ⟨f, hi, lo⟩ := a
  unfold wid at h1
  unfold cutD
  rcases hf with h | h
  · simp only [] at h; subst h
    exact H.kcut_4 hi lo n w hfit.2 h0 h1
  · simp only [] at h; subst h
    exact H.kcut_6 hi lo n w hfit.1 hfit.2 h0 h1
/-- Of the first k routes the longest: its place. -/
def LgK (l : List Rt) (a : Ad) (most : Int) (k : Nat) (bi : Int) : Prop :=
  (bi = -1 ∧ bst (l.take k) a most = -1) ∨ ∃ (j : Nat) (r : Rt), bi = (j : Int) ∧ l[j]? = some r ∧ Mat a most r ∧ r.n = bst (l.take k) a most
theorem LgK.same {l : List Rt} {a : Ad} {most : Int} {k : Nat} {bi : Int} (h : LgK l a most k bi) (e : bst (l.take (k + 1)) a most = bst (l.take k) a most) : LgK l a most (k + 1) bi := by
  unfold LgK at *
  rw [e]; exact h
theorem LgK.put {l : List Rt} {a : Ad} {most : Int} {k : Nat} {r : Rt} (hr : l[k]? = some r) (hm : Mat a most r) (hlt : bst (l.take k) a most < r.n) : LgK l a most (k + 1) (k : Int) := by
  refine .inr ⟨k, r, rfl, hr, hm, ?_⟩
  rw [bst_succ hr]
  unfold bstS
  rw [if_pos ⟨hm, hlt⟩]
theorem wid_gd {r : Rt} (h : Gd r) : 0 ≤ r.n ∧ r.n ≤ wid r.f := by
  have := h.len
  refine ⟨this.1, ?_⟩
  unfold wid
  split
  · exact this.2.2 (by assumption)
  · exact this.2.1
set_option maxRecDepth 4000 in
set_option maxHeartbeats 4000000 in
theorem longest_any (N : Nat) (lo : Option Addr) (y lc : Nat) (l : List Rt) (a : Ad) (most : Int) (w : World) (hr : RwO w N (.slice lo y lc) l) (hy : y = l.length) (hlen : y ≤ 1000) (hg : ∀ r ∈ l, Gd r) (hfa : ∀ r ∈ l, r.f = a.1) (hf : a.1 = 4 ∨ a.1 = 6) (hfit : FitA a) :
    Calls Try.prog 13 #[.slice lo y lc, adV a, .int .i64 most] w fun e w' => ∃ bi : Int, e = .returned (.int .i64 bi) ∧ LgK l a most l.length bi ∧ Below w.heap.size w w' := by
  have HC := Lib.hid (fun (w1 : World) (r : Rt) (hr' : r ∈ l) => show Calls Try.prog 39 #[.agg #[.int .i64 a.1, .int .u64 a.2.1, .int .u64 a.2.2], .int .i64 r.n] w1 fun e w' => e = .returned (.agg #[.int .i64 (cutD a r.n).1, .int .u64 (cutD a r.n).2.1, .int .u64 (cutD a r.n).2.2]) ∧ Below w1.heap.size w1 w' from kcut_any a r.n w1 hf hfit (wid_gd (hg r hr')).1 (by rw [← hfa r hr']; exact (wid_gd (hg r hr')).2))
  have HR := Lib.hid hr
  have HG := Lib.hid hg
  have Hy := Lib.hid hy
  rw [← hy]
  obtain ⟨w0, hw0⟩ : ∃ w0, w0 = w.alloc (.cells #[.int .i64 a.1, .int .u64 a.2.1, .int .u64 a.2.2] 25) := ⟨_, rfl⟩
  obtain ⟨ba, hba⟩ : ∃ x, x = w.heap.size := ⟨_, rfl⟩
  have HA0 := Lib.hid (show St w0 ba 3 (adF a) by rw [hw0, hba]; exact ad_at a _ rfl)
  have HB0 := Lib.hid (show Below w.heap.size w w0 by rw [hw0]; exact box1 _ _)
  have Hw0 := Lib.hid hw0
  have Hba := Lib.hid hba
  clear hr hg hy hw0 hba hfa hf hfit
  go_enter Try.func13, Try.ntmps13
  go_wp2_with fail
  rw [← Hw0.out, ← Hba.out]
  go_loopw [7, 8] (fun bv i wr => ∃ (k : Nat) (bi : Int), k ≤ y ∧ i = .int .i64 k ∧ bv = .int .i64 bi ∧ Hid (LgK l a most k bi) ∧ Hid (St wr ba 3 (adF a)) ∧ Hid (Below w.heap.size w wr)) (fun _ i _ => y - (intOf i).toNat)
  case atStart => exact ⟨0, -1, Nat.zero_le _, rfl, rfl, .inl ⟨rfl, rfl⟩, HA0, HB0⟩
  case round =>
    obtain ⟨k, bi, hk, rfl, rfl, HI, HA, HB⟩ := hrel
    by_cases hlt : k < y
    · obtain ⟨r, hrk⟩ : ∃ r, l[k]? = some r := ⟨_, List.getElem?_eq_getElem (by rw [← Hy.out]; exact hlt)⟩
      obtain ⟨b, rfl, hat, -, -, hbl⟩ := RwO.at HR.out hrk
      have Hat := Lib.hid hat
      have c3 := (HB.out.cell (p := ⟨b, k * 5 + 3, none⟩) hbl).trans hat.c3
      have a0 : wr.cell? ⟨ba, 0, none⟩ = some (.int .i64 a.1) := (HA.out 0 (by decide)).1
      have a1 : wr.cell? ⟨ba, 1, none⟩ = some (.int .u64 a.2.1) := (HA.out 1 (by decide)).1
      have a2 : wr.cell? ⟨ba, 2, none⟩ = some (.int .u64 a.2.2) := (HA.out 2 (by decide)).1
      have q1 : (k : Int) < (y : Int) := by omega
      have q0 : (0 : Int) ≤ (k : Int) := by omega
      have Hrk := Lib.hid hrk
      have hmem := List.mem_of_getElem? hrk
      have HC1 := Lib.hid (fun (w1 : World) => HC.out w1 r hmem)
      have hn0 := (HG.out r hmem).len.1
      have hcut : ∃ c, c = cutD a r.n := ⟨_, rfl⟩
      obtain ⟨c, hcc⟩ := hcut
      rw [← hcc] at HC1
      have Hcc := Lib.hid hcc
      clear hat hrk hcc hmem
      go_wp2_with fail
      refine (HC1.out wr).mono ?_
      rintro e w2 ⟨rfl, hb2⟩
      have HA2 := Lib.hid (HA.out.below hb2 (HA.out.lt (by decide)))
      have HB2 := Lib.hid (HB.out.trans (hb2.mono HB.out.size))
      have e0 : w2.cell? ⟨b, k * 5, none⟩ = some (.int .i64 (adR r).1) := (HB2.out.cell (p := ⟨b, k * 5, none⟩) hbl).trans Hat.out.c0
      have e1 : w2.cell? ⟨b, k * 5 + 1, none⟩ = some (.int .u64 (adR r).2.1) := (HB2.out.cell (p := ⟨b, k * 5 + 1, none⟩) hbl).trans Hat.out.c1
      have e2 : w2.cell? ⟨b, k * 5 + 2, none⟩ = some (.int .u64 (adR r).2.2) := (HB2.out.cell (p := ⟨b, k * 5 + 2, none⟩) hbl).trans Hat.out.c2
      have hb2l : b < w2.heap.size := Nat.lt_of_lt_of_le hbl HB2.out.size
      have he : ∀ w, Sem.run Try.prog (binOp BinOp.eql 25 (.agg #[.int .i64 c.1, .int .u64 c.2.1, .int .u64 c.2.2]) (.agg #[.int .i64 (adR r).1, .int .u64 (adR r).2.1, .int .u64 (adR r).2.2])) w = .ok (.bool (decide (c = adR r))) w := fun w => eql_ad c (adR r) w
      clear hb2 c3 a0 a1 a2
      have HA3 := Lib.hid (fun (ob : Obj) (q : Nat) => show St ((w2.alloc ob).drewN q) ba 3 (adF a) from fun j hj => (HA2.out.alloc (by decide) ob) j hj)
      have HB3 := Lib.hid (fun (ob : Obj) (q : Nat) => show Below w.heap.size w ((w2.alloc ob).drewN q) from by
        have h := HB2.out.alloc HB2.out.size ob
        exact ⟨h.os, h.tape, h.output, h.size, h.block⟩)
      by_cases hmo : r.n ≤ most
      · cases hc : decide (c = adR r) with
        | false =>
          have HS := Lib.hid (HI.out.same (by rw [bst_succ Hrk.out]; unfold bstS; rw [if_neg (fun h => of_decide_eq_false hc (by rw [Hcc.out]; exact h.1.2))]))
          rw [hc] at he
          clear hc
          go_wp2_with fail
          go_quiet (fail)
          go_wp2
          exact ⟨⟨k + 1, bi, by omega, by go_num, rfl, HS, HA3.out _ _, HB3.out _ _⟩, by simp [intOf]; omega⟩
        | true =>
          have HM := Lib.hid (show Mat a most r from ⟨hmo, by rw [← Hcc.out]; exact of_decide_eq_true hc⟩)
          rw [hc] at he
          clear hc
          rcases HI.out with ⟨rfl, h2⟩ | ⟨j, r0, rfl, h2, h4, h5⟩
          · have HS := Lib.hid (LgK.put Hrk.out HM.out (by rw [h2]; omega))
            clear h2
            go_wp2_with fail
            go_quiet (fail)
            go_wp2
            exact ⟨⟨k + 1, k, by omega, by go_num, rfl, HS, HA3.out _ _, HB3.out _ _⟩, by simp [intOf]; omega⟩
          · obtain ⟨b', e', hat, -, -, hbl'⟩ := RwO.at HR.out h2
            simp only [Option.some.injEq, Addr.mk.injEq, and_true] at e'
            subst e'
            have d3 := (HB2.out.cell (p := ⟨b, j * 5 + 3, none⟩) hbl').trans hat.c3
            have hjy : (j : Int) < (y : Int) := by have := (List.getElem?_eq_some_iff.1 h2).1; rw [← Hy.out] at this; omega
            have qj : ¬ (j : Int) < 0 := by omega
            have H5 := Lib.hid h5
            clear h2 h4 h5 hat
            by_cases hgt : r0.n < r.n
            · have HS := Lib.hid (LgK.put Hrk.out HM.out (by rw [← H5.out]; exact hgt))
              go_wp2_with fail
              go_quiet (fail)
              go_wp2
              exact ⟨⟨k + 1, k, by omega, by go_num, rfl, HS, HA3.out _ _, HB3.out _ _⟩, by simp [intOf]; omega⟩
            · have HS := Lib.hid (HI.out.same (by rw [bst_succ Hrk.out]; unfold bstS; rw [if_neg (fun h => by have := h.2; rw [← H5.out] at this; exact hgt this)]))
              go_wp2_with fail
              go_quiet (fail)
              go_wp2
              exact ⟨⟨k + 1, j, by omega, by go_num, rfl, HS, HA3.out _ _, HB3.out _ _⟩, by simp [intOf]; omega⟩
      · have HS := Lib.hid (HI.out.same (by rw [bst_succ Hrk.out]; unfold bstS; rw [if_neg (fun h => hmo h.1.1)]))
        have hmo1 : decide (r.n ≤ most) = false := decide_eq_false hmo
        have hmo2 : most < r.n := by omega
        clear hmo
        go_wp2_with fail
        go_quiet (fail)
        go_wp2
        exact ⟨⟨k + 1, bi, by omega, by go_num, rfl, HS, HA3.out _ _, HB3.out _ _⟩, by simp [intOf]; omega⟩
    · obtain rfl : k = y := by omega
      go_wp2
      go_ret
      exact ⟨bi, rfl, HI.out, HB.out⟩
end Go.Proofs.Ytnfkgnjeamnhfab
