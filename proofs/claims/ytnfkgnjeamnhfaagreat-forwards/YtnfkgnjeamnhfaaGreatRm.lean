import Derived.Test.YtnfkgnjeamnhfaaGreatRj
import Derived.Test.YtnfkgnjeamnhfaaGreatHRef6
import Derived.Test.YtnfkgnjeamnhfaaGreatGf
namespace Go.Proofs.YtnfkgnjeamnhfaaGreat
open Go.RowKit Go.Sort

/-- Where a prefix is among the routes; -1: nowhere. -/
def whr (rs : List Rt) (p : Rt) : Int := match rs.findIdx? (fun r => sameP r p) with
  | some i => i
  | none => -1
theorem whr_at {rs : List Rt} {p : Rt} {k : Nat} {r : Rt} (h : ∀ j r, j < k → rs[j]? = some r → sameP r p = false) (hr : rs[k]? = some r) (hs : sameP r p = true) : whr rs p = k := by
  have : rs.findIdx? (fun r => sameP r p) = some k := by
    rw [List.findIdx?_eq_some_iff_getElem]
    obtain ⟨hl, e⟩ := List.getElem?_eq_some_iff.1 hr
    refine ⟨hl, by rw [e]; exact hs, fun j hj => ?_⟩
    have := h j rs[j] hj (List.getElem?_eq_getElem (by omega))
    simp [this]
  unfold whr; rw [this]
theorem whr_none {rs : List Rt} {p : Rt} (h : ∀ j r, j < rs.length → rs[j]? = some r → sameP r p = false) : whr rs p = -1 := by
  have : rs.findIdx? (fun r => sameP r p) = none := by
    rw [List.findIdx?_eq_none_iff]
    intro x hx
    obtain ⟨j, hj, e⟩ := List.getElem_of_mem hx
    exact h j x hj (by rw [← e]; exact List.getElem?_eq_getElem hj)
  unfold whr; rw [this]
theorem whr_cases (rs : List Rt) (p : Rt) : (whr rs p = -1 ∧ ∀ r ∈ rs, sameP r p = false) ∨ ∃ k r, whr rs p = (k : Nat) ∧ rs[k]? = some r ∧ sameP r p = true ∧ ∀ j r, j < k → rs[j]? = some r → sameP r p = false := by
  unfold whr
  cases h : rs.findIdx? (fun r => sameP r p) with
  | none =>
    rw [List.findIdx?_eq_none_iff] at h
    exact .inl ⟨rfl, h⟩
  | some k =>
    rw [List.findIdx?_eq_some_iff_getElem] at h
    obtain ⟨hl, h1, h2⟩ := h
    refine .inr ⟨k, rs[k], rfl, List.getElem?_eq_getElem hl, h1, fun j r hj hr => ?_⟩
    have := h2 j hj
    rw [List.getElem?_eq_getElem (by omega)] at hr
    cases hr
    simpa using this

set_option maxHeartbeats 1000000 in
theorem where_any (N T : Nat) (v : Value) (rs : List Rt) (p : Rt) (w : World) (hc : w.cell? ⟨T, 3, none⟩ = some v) (hr : RwO w N v rs) :
    Calls Tryz.prog 97 #[.pointer (some ⟨T, 0, none⟩), .agg #[.int .i64 p.f, .int .u64 p.hi, .int .u64 p.lo, .int .i64 p.n]] w fun e w' => e = .returned (.int .i64 (whr rs p)) ∧ Below w.heap.size w w' := by
  obtain ⟨ao, cap, rfl, hm⟩ := RwO.form hr
  have HR := Lib.hid hr
  clear hr
  obtain ⟨z, hz⟩ : ∃ z, z = rs.length := ⟨_, rfl⟩
  rw [← hz] at hc hm
  have Hz := Lib.hid hz
  clear hz
  unfold maxLen at hm
  obtain ⟨w0, hw0⟩ : ∃ w0, w0 = w.alloc (.cells #[.int .i64 p.f, .int .u64 p.hi, .int .u64 p.lo, .int .i64 p.n] 33) := ⟨_, rfl⟩
  have hT : T < w.heap.size := World.block_lt_of_cell? w ⟨T, 3, none⟩ hc
  have HB0 := Lib.hid (show Below w.heap.size w w0 by rw [hw0]; exact (Below.refl _ _).alloc (Nat.le_refl _) _)
  obtain ⟨bx, hbx⟩ : ∃ bx, bx = w.heap.size := ⟨_, rfl⟩
  have k0 : w0.cell? ⟨bx, 0, none⟩ = some (.int .i64 p.f) := by rw [hw0, hbx]; simp
  have k1 : w0.cell? ⟨bx, 1, none⟩ = some (.int .u64 p.hi) := by rw [hw0, hbx]; simp
  have k2 : w0.cell? ⟨bx, 2, none⟩ = some (.int .u64 p.lo) := by rw [hw0, hbx]; simp
  have k3 : w0.cell? ⟨bx, 3, none⟩ = some (.int .i64 p.n) := by rw [hw0, hbx]; simp
  have Hw0 := Lib.hid hw0
  have Hbx := Lib.hid hbx
  have hc0 : w0.cell? ⟨T, 3, none⟩ = some (.slice ao z cap) := (HB0.out.cell (p := ⟨T, 3, none⟩) hT).trans hc
  have HR0 := Lib.hid (show RwO w0 N (.slice ao rs.length cap) rs by rw [hw0]; exact HR.out.alloc _)
  clear hw0 hbx hc HR hT
  go_enter Tryz.func97, Tryz.ntmps97
  go_wp2
  rw [← Hw0.out, ← Hbx.out]
  go_loopw [5] (fun i wr => ∃ k d : Nat, k ≤ z ∧ i = .int .i64 k ∧ Hid (∀ j r, j < k → rs[j]? = some r → sameP r p = false) ∧ wr = w0.drewN d) (fun i _ => z - (intOf i).toNat)
  case atStart => exact ⟨0, 0, Nat.zero_le _, rfl, by intro j r hj; omega, rfl⟩
  case round =>
    obtain ⟨k, d, hk, rfl, HK, rfl⟩ := hrel
    have HD := Lib.hid (fun (d : Nat) => (show Below w.heap.size w (w0.drewN d) from ⟨HB0.out.os, HB0.out.tape, HB0.out.output, HB0.out.size, HB0.out.block⟩))
    by_cases hlt : k < z
    · obtain ⟨r, hrk⟩ : ∃ r, rs[k]? = some r := ⟨_, List.getElem?_eq_getElem (by rw [← Hz.out]; exact hlt)⟩
      obtain ⟨b, rfl, hat, -, -, hbl⟩ := RwO.at HR0.out hrk
      have c0 := hat.c0
      have c1 := hat.c1
      have c2 := hat.c2
      have c3 := hat.c3
      have Hrk := Lib.hid hrk
      clear hat hrk
      have q1 : (k : Int) < (z : Int) := by omega
      have hE := eql_pref r p
      go_wp2
      go_quiet (fail)
      cases ha : sameP r p with
      | true =>
        go_wp2
        go_ret
        rw [whr_at HK.out Hrk.out ha]
        exact ⟨rfl, by rw [World.drewN_drewN]; exact HD.out _⟩
      | false =>
        go_wp2
        go_roundw
        case rel =>
          refine ⟨k + 1, _, by omega, by go_num, ?_, rfl⟩
          intro j r' hj hr'
          by_cases e : j = k
          · subst e; rw [Hrk.out] at hr'; cases hr'; exact ha
          · exact HK.out j r' (by omega) hr'
        case measure => simp [intOf]; omega
    · obtain rfl : k = z := by omega
      go_wp2
      go_ret
      rw [whr_none (fun j r hj hr => HK.out j r (by rw [Hz.out]; exact hj) hr)]
      exact ⟨rfl, HD.out _⟩

/-- Put, as the document has it. -/
def putR (gs : Nat → List Int) (lim : Int) (rs : List Rt) (p : Rt) : Int × List Rt :=
  if chkR p = 0 then (if hasB gs p.g then (if 0 ≤ whr rs p then (0, rs.set (whr rs p).toNat p) else if lim ≤ rs.length then (9, rs) else (0, rs ++ [p])) else (7, rs)) else (chkR p, rs)
/-- Take, as the document has it. -/
def takeR (rs : List Rt) (p : Rt) : Int × List Rt :=
  if chkR p = 0 then (if 0 ≤ whr rs p then (0, rs.eraseIdx (whr rs p).toNat) else (8, rs)) else (chkR p, rs)
/-- Take, as the program has it. -/
def takeT (rs : List Rt) (p : Rt) : Int × List Rt := if chkR p = 0 then takeC rs p else (chkR p, rs)
end Go.Proofs.YtnfkgnjeamnhfaaGreat
namespace Go.Proofs.YtnfkgnjeamnhfaaGreat
open Go.RowKit Go.Sort

theorem push_done {N : Nat} {ρ ρ4 : Nat → Nat} {w w5 : World} {T rS rQ c g n cap : Nat} {f : Nat → Value} {rs' : List Rt} (hE : Ev (fun q => q = rS ∨ q = rQ) ρ w ρ4 w5) (hF : Fr ρ4 w5) (h15 : ∀ k, ρ4 k ≠ 15) (hT : ρ4 T = rS) (hS : St w5 T 36 (upd f c (.slice (some ⟨g, 0, none⟩) n cap))) (hg : ρ4 g = rQ) (hr : RwO w5 N (.slice (some ⟨g, 0, none⟩) n cap) rs') : RqPost N ρ w T rS rQ c f rs' w5 := by
  refine ⟨ρ4, _, ⟨hT, hS, ?_, ?_⟩, fun j hj => upd_ne hj, hF, h15, hE⟩
  · rw [upd_same]; exact hr
  · rw [upd_same]; intro k hk; simp [Value.ownBlock] at hk; subst hk; exact hg
theorem RqPost.drew {N : Nat} {ρ : Nat → Nat} {w w' : World} {T rS rQ c : Nat} {f : Nat → Value} {rs' : List Rt} (h : RqPost N ρ w T rS rQ c f rs' w') : RqPost N ρ w T rS rQ c f rs' w'.drew := by
  obtain ⟨ρ', f', h1, h2, h3, h4, h5⟩ := h
  exact ⟨ρ', f', ⟨h1.role, h1.st, h1.row⟩, h2, h3, h4, h5.drewR⟩

set_option maxRecDepth 4000 in
set_option maxHeartbeats 4000000 in
theorem rput_any {N : Nat} {ρ : Nat → Nat} {w : World} {T rS rQ : Nat} {gs : Nat → List Int} {rs : List Rt} {lim : Int} {f : Nat → Value} (h : Tq N ρ w T rS rQ 4 3 gs rs lim f) (hro : Ro rS rQ) (hN : N ≤ w.heap.size) (hF : Fr ρ w) (h15 : ∀ k, ρ k ≠ 15) (hlen : rs.length ≤ 1000) (p : Rt) (hp : Fit p) :
    Calls Tryz.prog 48 #[.pointer (some ⟨T, 0, none⟩), .agg #[.int .i64 p.f, .int .u64 p.hi, .int .u64 p.lo, .int .i64 p.n, .int .i64 p.g]] w fun e w' => e = .returned (.int .i64 (putR gs lim rs p).1) ∧ TqPost N ρ w T rS rQ 4 3 gs lim (putR gs lim rs p).2 w' := by
  obtain ⟨ρ0, hE0, hF0, hb0, h150⟩ := boxE hF h15 (.cells #[.int .i64 p.f, .int .u64 p.hi, .int .u64 p.lo, .int .i64 p.n, .int .i64 p.g] 35)
  obtain ⟨w0, hw0⟩ : ∃ w0, w0 = w.alloc (.cells #[.int .i64 p.f, .int .u64 p.hi, .int .u64 p.lo, .int .i64 p.n, .int .i64 p.g] 35) := ⟨_, rfl⟩
  obtain ⟨bx, hbx⟩ : ∃ bx, bx = w.heap.size := ⟨_, rfl⟩
  have hz0 : bx < w0.heap.size := by rw [hw0, hbx]; simp
  have hSb : St w0 bx 5 (fun j => (#[Value.int .i64 p.f, .int .u64 p.hi, .int .u64 p.lo, .int .i64 p.n, .int .i64 p.g]).getD j undef) := by rw [hw0, hbx]; exact St.new w _ _
  have hN0 : N ≤ w0.heap.size := by rw [hw0]; simp; omega
  rw [← hw0] at hE0 hF0
  have h0 := h.ev (hE0 (fun _ => False)) id id id hro
  have hT0 := h0.rq.st.lt (by decide)
  have c0 := (h0.rq.st 0 (by decide)).1
  rw [h.lim] at c0
  obtain ⟨ao, cap, hv, hm⟩ := RwO.form h0.rq.row.1
  have c3 := (h0.rq.st 3 (by decide)).1
  rw [hv] at c3
  have HC := Lib.hid (fun (w1 : World) => H.rgood_any p.f p.hi p.lo p.n w1 hp.1 hp.2)
  have HH := Lib.hid (fun (w1 : World) (hb : Below w0.heap.size w0 w1) => there_any T f gs p.g w1 (h0.ev (Ev.of_below (R := fun _ => False) ρ0 hb) id id id hro).rq.st (h0.ev (Ev.of_below (R := fun _ => False) ρ0 hb) id id id hro).Ls)
  have HW := Lib.hid (fun (w1 : World) (hb : Below w0.heap.size w0 w1) => where_any N T (f 3) rs p w1 ((hb.cell (p := ⟨T, 3, none⟩) hT0).trans (h0.rq.st 3 (by decide)).1) (h0.ev (Ev.of_below (R := fun _ => False) ρ0 hb) id id id hro).rq.row.1)
  have HQ := Lib.hid h
  have HQ0 := Lib.hid h0
  have HE := Lib.hid hE0
  have HF := Lib.hid hF0
  have H15 := Lib.hid h150
  have Hw0 := Lib.hid hw0
  have Hbx := Lib.hid hbx
  have HRo := Lib.hid hro
  have Hv := Lib.hid hv
  have b0 : w0.cell? ⟨bx, 0, none⟩ = some (.int .i64 p.f) := (hSb 0 (by decide)).1
  have b1 : w0.cell? ⟨bx, 1, none⟩ = some (.int .u64 p.hi) := (hSb 1 (by decide)).1
  have b2 : w0.cell? ⟨bx, 2, none⟩ = some (.int .u64 p.lo) := (hSb 2 (by decide)).1
  have b3 : w0.cell? ⟨bx, 3, none⟩ = some (.int .i64 p.n) := (hSb 3 (by decide)).1
  have b4 : w0.cell? ⟨bx, 4, none⟩ = some (.int .i64 p.g) := (hSb 4 (by decide)).1
  obtain ⟨x, hx⟩ : ∃ x, x = chkR p := ⟨_, rfl⟩
  have HX : Hid (∀ w1 : World, Calls Tryz.prog 96 #[.agg #[.int .i64 p.f, .int .u64 p.hi, .int .u64 p.lo, .int .i64 p.n]] w1 fun e w' => e = .returned (.int .i64 x) ∧ Below w1.heap.size w1 w') := by rw [hx]; exact HC.out
  obtain ⟨t, ht⟩ : ∃ t, t = hasB gs p.g := ⟨_, rfl⟩
  rw [← ht] at HH
  obtain ⟨y, hy⟩ : ∃ y, y = whr rs p := ⟨_, rfl⟩
  rw [← hy] at HW
  have Hx := Lib.hid hx
  have Ht := Lib.hid ht
  have Hy := Lib.hid hy
  clear hw0 hbx h h0 hE0 hF0 h150 hb0 hSb hF h15 HC hx ht hro hp hy hv hm
  go_enter Tryz.func48, Tryz.ntmps48
  go_wp2_with fail
  rw [← Hw0.out, ← Hbx.out]
  refine (HX.out _).mono ?_
  rintro e w1 ⟨rfl, hb1⟩
  have HB1 := Lib.hid hb1
  have d0 := (hb1.cell (p := ⟨bx, 0, none⟩) hz0).trans b0
  have d1 := (hb1.cell (p := ⟨bx, 1, none⟩) hz0).trans b1
  have d2 := (hb1.cell (p := ⟨bx, 2, none⟩) hz0).trans b2
  have d3 := (hb1.cell (p := ⟨bx, 3, none⟩) hz0).trans b3
  have d4 := (hb1.cell (p := ⟨bx, 4, none⟩) hz0).trans b4
  clear hb1
  by_cases hx0 : x = 0
  · have Hx0 := Lib.hid hx0
    have q1 : (x == 0) = true := by rw [hx0]; rfl
    clear hx0
    go_wp2_with fail
    refine (HH.out _ HB1.out).mono ?_
    rintro e w1' ⟨rfl, rfl⟩
    cases htt : t with
    | false =>
      have Hput := Lib.hid (show putR gs lim rs p = (7, rs) by unfold putR; rw [← Hx.out, if_pos Hx0.out, ← Ht.out, htt, if_neg Bool.false_ne_true])
      go_wp2
      go_ret
      rw [Hput.out]
      exact ⟨rfl, TqPost.same HQ.out HRo.out (HF.out.grow HB1.out.size) H15.out (fun R => (HE.out R).trans (Ev.of_below ρ0 HB1.out))⟩
    | true =>
      have Hput := Lib.hid (show putR gs lim rs p = (if 0 ≤ y then (0, rs.set y.toNat p) else if lim ≤ rs.length then (9, rs) else (0, rs ++ [p])) by unfold putR; rw [← Hx.out, if_pos Hx0.out, ← Ht.out, htt, if_pos rfl, ← Hy.out])
      go_wp2_with fail
      refine (HW.out _ HB1.out).mono ?_
      rintro e w2 ⟨rfl, hb2⟩
      have HB2 := Lib.hid (HB1.out.trans (hb2.mono HB1.out.size))
      clear d0 d1 d2 d3 d4 hb2 HH HW HX
      have d0 := (HB2.out.cell (p := ⟨bx, 0, none⟩) hz0).trans b0
      have d1 := (HB2.out.cell (p := ⟨bx, 1, none⟩) hz0).trans b1
      have d2 := (HB2.out.cell (p := ⟨bx, 2, none⟩) hz0).trans b2
      have d3 := (HB2.out.cell (p := ⟨bx, 3, none⟩) hz0).trans b3
      have d4 := (HB2.out.cell (p := ⟨bx, 4, none⟩) hz0).trans b4
      have dT := (HB2.out.cell (p := ⟨T, 3, none⟩) hT0).trans c3
      have dL := (HB2.out.cell (p := ⟨T, 0, none⟩) hT0).trans c0
      have HQ2 := Lib.hid (HQ0.out.ev (Ev.of_below (R := fun _ => False) ρ0 HB2.out) id id id HRo.out)
      have HF2 := Lib.hid (HF.out.grow HB2.out.size)
      have HE2 := Lib.hid (fun R => (HE.out R).trans (Ev.of_below ρ0 HB2.out))
      have HED := Lib.hid (fun (d : Nat) R => (HE.out R).trans (Ev.of_below ρ0 (show Below w0.heap.size w0 (w2.drewN d) from ⟨HB2.out.os, HB2.out.tape, HB2.out.output, HB2.out.size, HB2.out.block⟩)))
      clear b0 b1 b2 b3 b4 c0 c3
      rcases whr_cases rs p with ⟨h1, h2⟩ | ⟨k, r, h1, h2, h3, -⟩
      · rw [← Hy.out] at h1
        subst h1
        have q2 : ¬ (0 : Int) ≤ -1 := by decide
        rw [if_neg q2] at Hput
        by_cases hfull : lim ≤ rs.length
        · rw [if_pos hfull] at Hput
          obtain ⟨z, hz⟩ : ∃ z, z = rs.length := ⟨_, rfl⟩
          rw [← hz] at dT hlen hfull
          clear hz h2
          go_wp2
          go_quiet (fail)
          go_wp2
          go_ret
          rw [Hput.out]
          exact ⟨rfl, TqPost.same HQ.out HRo.out HF2.out H15.out (HED.out _)⟩
        · rw [if_neg hfull] at Hput
          have hfull' : (rs.length : Int) < lim := by omega
          obtain ⟨i0, hi0, hz0', hz1, hz2⟩ := info42
          obtain ⟨z, hz⟩ : ∃ z, z = rs.length := ⟨_, rfl⟩
          rw [← hz] at dT hlen hfull'
          have Hz := Lib.hid hz
          have HO2 := Lib.hid (fun (d : Nat) => show OwnZ N ρ0 (w2.drewN d) rQ 35 5 (.slice ao z cap) z (flat rs) by have := HQ2.out.rq.row; rw [Hv.out, ← hz] at this; exact this)
          have HS2 := Lib.hid (fun (d : Nat) => show St (w2.drewN d) T 36 f from HQ2.out.rq.st)
          have hT2 : T < w2.heap.size := Nat.lt_of_lt_of_le hT0 HB2.out.size
          have hb2 : bx < w2.heap.size := Nat.lt_of_lt_of_le hz0 HB2.out.size
          clear hz hfull h2
          go_wp2
          go_quiet (fail)
          generalize hw3 : w2.drewN _ = w3
          have g0 : w3.cell? ⟨bx, 0, none⟩ = some (.int .i64 p.f) := by rw [← hw3]; exact d0
          have g1 : w3.cell? ⟨bx, 1, none⟩ = some (.int .u64 p.hi) := by rw [← hw3]; exact d1
          have g2 : w3.cell? ⟨bx, 2, none⟩ = some (.int .u64 p.lo) := by rw [← hw3]; exact d2
          have g3 : w3.cell? ⟨bx, 3, none⟩ = some (.int .i64 p.n) := by rw [← hw3]; exact d3
          have gg4 : w3.cell? ⟨bx, 4, none⟩ = some (.int .i64 p.g) := by rw [← hw3]; exact d4
          have gT : w3.cell? ⟨T, 3, none⟩ = some (.slice ao z cap) := by rw [← hw3]; exact dT
          have HE3 := Lib.hid (fun R => show Ev R ρ w ρ0 w3 by rw [← hw3]; exact HED.out _ R)
          have HO3 := Lib.hid (show OwnZ N ρ0 w3 rQ 35 5 (.slice ao z cap) z (flat rs) by rw [← hw3]; exact HO2.out _)
          have HS3 := Lib.hid (show St w3 T 36 f by rw [← hw3]; exact HS2.out _)
          have HF3 := Lib.hid (show Fr ρ0 w3 by rw [← hw3]; exact HF2.out)
          have hT3 : T < w3.heap.size := by rw [← hw3]; exact hT2
          have hb3 : bx < w3.heap.size := by rw [← hw3]; exact hb2
          have hN3 : N ≤ w3.heap.size := by rw [← hw3]; exact Nat.le_trans hN0 HB2.out.size
          clear d0 d1 d2 d3 d4 dT dL hw3 HO2 HS2 HED hT2 hb2
          go_wp2
          go_region_law (refine step_append_lies _ rfl (.tmp 28) (.tmp 30) 85 rfl N 35 i0 _ 5 40 Tryz.underlying85 hi0 hz0' hz1 hz2 rfl (by decide) (.slice ao z cap) z (flat rs) (by simp [Act.eval]) (World.ownsRow.alloc (World.ownsRow.drew HO3.out.1) _) ⟨w3.heap.size, 0, none⟩ 1 1 (rc p) (by simp [Act.eval]) rfl (news_rt w3.drew p _) (rc_one p) (by decide) (by unfold maxLen; omega) (by omega) (by simp; omega) (w3.heap.size + 1) (by simp) ?_; intro g4 cap4 w4 hown4 hgrow4 hat4 hgz4; obtain ⟨hS4, ρ4, hF4, hE4, hB4, hS5, hO5, h154⟩ := pushZ HF3.out HQ2.out.rq.role HRo.out.1 HS3.out (c := 3) (by decide) HRo.out.2.2.2.2.1 HO3.out (((Below.refl w3.heap.size w3).drew).alloc (Nat.le_refl _) _) hown4 hgrow4 (by simpa using hat4) hgz4; have s1 := (hS4 3 (by decide)).1; have s2 := (hS4 3 (by decide)).2; have HF4 := Lib.hid hF4; have HE4 := Lib.hid hE4; have HB4 := Lib.hid hB4; have HS4 := Lib.hid hS5; have HO4 := Lib.hid hO5; have H154 := Lib.hid (h154 HRo.out.2.2.1 H15.out); clear hS4 hF4 hE4 hB4 hS5 hO5 h154 hown4 hgrow4 hat4)
          all_goals
            generalize w4.setCell ⟨T, 3, none⟩ (Value.slice (some ⟨g4, 0, none⟩) (z + 1) cap4) = w5 at *
            have HR5 := Lib.hid (show RwO w5 N (.slice (some ⟨g4, 0, none⟩) (z + 1) cap4) (rs ++ [p]) by
              have := HO4.out.1
              rw [flat_snoc] at this
              unfold RwO
              rw [List.length_append, ← Hz.out]
              exact this)
            have HO4g := Lib.hid (HO4.out.2 g4 rfl)
            clear s1 s2 hgz4 g0 g1 g2 g3 gg4 gT HO4
            go_wp2
            go_ret
            rw [Hput.out]
            exact ⟨rfl, lift_post HQ.out HRo.out HE3.out (push_done HE4.out HF4.out H154.out HB4.out HS4.out HO4g.out HR5.out) (by decide) (by omega)⟩
      · rw [← Hy.out] at h1
        subst h1
        have q2 : (0 : Int) ≤ (k : Int) := by omega
        rw [if_pos q2, Int.toNat_natCast] at Hput
        have hrp : { r with g := p.g } = p := by
          obtain ⟨e1, e2, e3, e4⟩ := sameP_iff.1 h3
          obtain ⟨a, b, c, d, e⟩ := p
          obtain ⟨a', b', c', d', e'⟩ := r
          simp at e1 e2 e3 e4
          subst e1 e2 e3 e4; rfl
        have hw2 : RwO w2 N (.slice ao rs.length cap) rs := by have := HQ2.out.rq.row.1; rw [Hv.out] at this; exact this
        obtain ⟨g, hg, hat, hfz, hNg, hgl⟩ := RwO.at hw2 h2
        subst hg
        have hk := (List.getElem?_eq_some_iff.1 h2).1
        have q3 : (k : Int) < (rs.length : Int) := by omega
        have c4 := hat.c4
        have f4 := hfz (k * 5 + 4)
        have Hr := Lib.hid h2
        have Hrp := Lib.hid hrp
        obtain ⟨z, hz⟩ : ∃ z, z = rs.length := ⟨_, rfl⟩
        rw [← hz] at q3 dT hlen
        clear hw2 hat hfz h2 hrp h3 hz hk
        go_wp2
        go_region
        all_goals go_wp2
        all_goals go_ret
        all_goals
          rw [Hput.out]
          exact ⟨rfl, lift_post HQ.out HRo.out HE2.out (putG HQ2.out.rq (fun R => Ev.refl R _ _) HF2.out H15.out Hv.out HRo.out.2.2.2.2.1 Hr.out Hrp.out 1) (by decide) (by omega)⟩
  · have q1 : (x == 0) = false := ine_beq hx0
    have Hput := Lib.hid (show putR gs lim rs p = (x, rs) by unfold putR; rw [← Hx.out, if_neg hx0])
    go_wp2
    go_ret
    rw [Hput.out]
    exact ⟨rfl, TqPost.same HQ.out HRo.out (HF.out.grow HB1.out.size) H15.out (fun R => (HE.out R).trans (Ev.of_below ρ0 HB1.out))⟩
end Go.Proofs.YtnfkgnjeamnhfaaGreat
