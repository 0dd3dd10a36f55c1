import Derived.Test.YtnfkgnjeamnhfaaGreatRm
namespace Go.Proofs.YtnfkgnjeamnhfaaGreat
open Go.RowKit Go.Sort

/-- A fresh row takes the place of the routes. -/
theorem fresh_done {N : Nat} {ρ ρ0 : Nat → Nat} {w w2 w4 : World} {T rS rQ c : Nat} {f : Nat → Value} {rs rs' : List Rt} {v : Value} (hq : Rq N ρ0 w2 T rS rQ c f rs) (hE : ∀ R, Ev R ρ w ρ0 w2) (hF : Fr ρ0 w2) (h15 : ∀ k, ρ0 k ≠ 15) (hro : Ro rS rQ) (hN : N ≤ w2.heap.size) (hc : c < 36)
    (hb : Below w2.heap.size w2 w4) (hr : RwO w4 w2.heap.size v rs') : RqPost N ρ w T rS rQ c f rs' (w4.setCell ⟨T, c, none⟩ v) := by
  have hlt := hq.st.lt (by decide)
  have hst4 : St w4 T 36 f := hq.st.below hb hlt
  have hE4 : Ev (fun q => q = rS ∨ q = rQ) ρ w ρ0 (w4.setCell ⟨T, c, none⟩ v) := ((hE _).trans (Ev.of_below ρ0 hb)).trans (Ev.of_set ρ0 w4 T c v (.inr (.inl hq.role)))
  have hsz : (w4.setCell ⟨T, c, none⟩ v).heap.size = w4.heap.size := by simp [World.setCell]
  have hF4 : Fr ρ0 (w4.setCell ⟨T, c, none⟩ v) := (hF.grow hb.size).grow (Nat.le_of_eq hsz.symm)
  have hr4 : RwO (w4.setCell ⟨T, c, none⟩ v) N v rs' := (hr.lower hN).setOther (fun k hk e => by have := hr.base k hk; omega) v
  cases hv : v.ownBlock with
  | none => exact ⟨ρ0, _, ⟨hq.role, hst4.set hc _, by rw [upd_same]; exact ⟨hr4, fun g hg => by rw [hv] at hg; cases hg⟩⟩, fun j hj => upd_ne hj, hF4, h15, hE4⟩
  | some g =>
    have hg := World.ownsRow.lt hr g hv
    have hne : T ≠ g := by omega
    refine ⟨rl ρ0 g rQ, _, ⟨by rw [rl_ne hne]; exact hq.role, hst4.set hc _, by rw [upd_same]; exact ⟨hr4, fun g' hg' => by rw [hv] at hg'; cases hg'; exact rl_same _ _ _⟩⟩, fun j hj => upd_ne hj, hF4.rl (by rw [hsz]; exact hg.2) rQ, fun k => ?_, hE4.trans (Ev.rl _ rQ (.inl (hF g hg.1)))⟩
    unfold rl; split
    · exact hro.2.2.1
    · exact h15 k
theorem src_take {w : World} {N g n cap : Nat} {rs : List Rt} (h : RwO w N (.slice (some ⟨g, 0, none⟩) n cap) rs) {i c : Nat} (hi : i ≤ rs.length) : SrcR w (.slice (some ⟨g, 0, none⟩) i c) (rs.take i) := by
  refine .inr ⟨⟨g, 0, none⟩, c, by rw [List.length_take, Nat.min_eq_left hi], fun j u hu => ?_⟩
  refine World.ownsRow.cells h rfl j u ?_
  have e : flat rs = flat (rs.take i) ++ flat (rs.drop i) := by rw [← flat_append, List.take_append_drop]
  rw [e, List.getElem?_append_left (List.getElem?_eq_some_iff.1 hu).1]; exact hu
theorem src_drop {w : World} {N g n cap : Nat} {rs : List Rt} (h : RwO w N (.slice (some ⟨g, 0, none⟩) n cap) rs) {i m c : Nat} (hi : i ≤ rs.length) (hm : m = rs.length - i) : SrcR w (.slice (some ⟨g, i * 5, none⟩) m c) (rs.drop i) := by
  refine .inr ⟨⟨g, i * 5, none⟩, c, by rw [List.length_drop, hm], fun j u hu => ?_⟩
  have := World.ownsRow.cells h (g := g) rfl (i * 5 + j) u (by
    have e : flat rs = flat (rs.take i) ++ flat (rs.drop i) := by rw [← flat_append, List.take_append_drop]
    have hl : (flat (rs.take i)).length = i * 5 := by rw [flat_len, List.length_take, Nat.min_eq_left hi]
    rw [e, List.getElem?_append_right (by omega), hl, Nat.add_sub_cancel_left]; exact hu)
  rw [Lib.add_plain] at this ⊢
  simpa using this

set_option maxRecDepth 4000 in
set_option maxHeartbeats 4000000 in
theorem rtake_any {N : Nat} {ρ : Nat → Nat} {w : World} {T rS rQ : Nat} {gs : Nat → List Int} {rs : List Rt} {lim : Int} {f : Nat → Value} (h : Tq N ρ w T rS rQ 4 3 gs rs lim f) (hro : Ro rS rQ) (hN : N ≤ w.heap.size) (hF : Fr ρ w) (h15 : ∀ k, ρ k ≠ 15) (hlen : rs.length ≤ 1000) (p : Rt) (hp : Fit p) :
    Calls Tryz.prog 50 #[.pointer (some ⟨T, 0, none⟩), .agg #[.int .i64 p.f, .int .u64 p.hi, .int .u64 p.lo, .int .i64 p.n]] w fun e w' => e = .returned (.int .i64 (takeR rs p).1) ∧ TqPost N ρ w T rS rQ 4 3 gs lim (takeR rs p).2 w' := by
  obtain ⟨ρ0, hE0, hF0, hb0, h150⟩ := boxE hF h15 (.cells #[.int .i64 p.f, .int .u64 p.hi, .int .u64 p.lo, .int .i64 p.n] 33)
  obtain ⟨w0, hw0⟩ : ∃ w0, w0 = w.alloc (.cells #[.int .i64 p.f, .int .u64 p.hi, .int .u64 p.lo, .int .i64 p.n] 33) := ⟨_, rfl⟩
  obtain ⟨bx, hbx⟩ : ∃ bx, bx = w.heap.size := ⟨_, rfl⟩
  have hz0 : bx < w0.heap.size := by rw [hw0, hbx]; simp
  have hSb : St w0 bx 4 (fun j => (#[Value.int .i64 p.f, .int .u64 p.hi, .int .u64 p.lo, .int .i64 p.n]).getD j undef) := by rw [hw0, hbx]; exact St.new w _ _
  have hN0 : N ≤ w0.heap.size := by rw [hw0]; simp; omega
  rw [← hw0] at hE0 hF0
  have h0 := h.ev (hE0 (fun _ => False)) id id id hro
  have hT0 := h0.rq.st.lt (by decide)
  obtain ⟨ao, cap, hv, hm⟩ := RwO.form h0.rq.row.1
  have c3 := (h0.rq.st 3 (by decide)).1
  rw [hv] at c3
  have HC := Lib.hid (fun (w1 : World) => H.rgood_any p.f p.hi p.lo p.n w1 hp.1 hp.2)
  have HW := Lib.hid (fun (w1 : World) (hb : Below w0.heap.size w0 w1) => where_any N T (f 3) rs p w1 ((hb.cell (p := ⟨T, 3, none⟩) hT0).trans (h0.rq.st 3 (by decide)).1) (h0.ev (Ev.of_below (R := fun _ => False) ρ0 hb) id id id hro).rq.row.1)
  have HQ := Lib.hid h
  have HQ0 := Lib.hid h0
  have HE := Lib.hid hE0
  have HF := Lib.hid hF0
  have H15 := Lib.hid h150
  have Hw0 := Lib.hid hw0
  have Hbx := Lib.hid hbx
  have HRo := Lib.hid hro
  have Hv := Lib.hid hv
  have b0 : w0.cell? ⟨bx, 0, none⟩ = some (.int .i64 p.f) := (hSb 0 (by decide)).1
  have b1 : w0.cell? ⟨bx, 1, none⟩ = some (.int .u64 p.hi) := (hSb 1 (by decide)).1
  have b2 : w0.cell? ⟨bx, 2, none⟩ = some (.int .u64 p.lo) := (hSb 2 (by decide)).1
  have b3 : w0.cell? ⟨bx, 3, none⟩ = some (.int .i64 p.n) := (hSb 3 (by decide)).1
  obtain ⟨x, hx⟩ : ∃ x, x = chkR p := ⟨_, rfl⟩
  have HX : Hid (∀ w1 : World, Calls Tryz.prog 96 #[.agg #[.int .i64 p.f, .int .u64 p.hi, .int .u64 p.lo, .int .i64 p.n]] w1 fun e w' => e = .returned (.int .i64 x) ∧ Below w1.heap.size w1 w') := by rw [hx]; exact HC.out
  obtain ⟨y, hy⟩ : ∃ y, y = whr rs p := ⟨_, rfl⟩
  rw [← hy] at HW
  have Hx := Lib.hid hx
  have Hy := Lib.hid hy
  clear hw0 hbx h h0 hE0 hF0 h150 hb0 hSb hF h15 HC hx hro hp hy hv hm
  go_enter Tryz.func50, Tryz.ntmps50
  go_wp2_with fail
  rw [← Hw0.out, ← Hbx.out]
  refine (HX.out _).mono ?_
  rintro e w1 ⟨rfl, hb1⟩
  have HB1 := Lib.hid hb1
  have d0 := (hb1.cell (p := ⟨bx, 0, none⟩) hz0).trans b0
  have d1 := (hb1.cell (p := ⟨bx, 1, none⟩) hz0).trans b1
  have d2 := (hb1.cell (p := ⟨bx, 2, none⟩) hz0).trans b2
  have d3 := (hb1.cell (p := ⟨bx, 3, none⟩) hz0).trans b3
  clear hb1
  by_cases hx0 : x = 0
  · have Hx0 := Lib.hid hx0
    have q1 : (x == 0) = true := by rw [hx0]; rfl
    clear hx0
    have Hput := Lib.hid (show takeR rs p = (if 0 ≤ y then (0, rs.eraseIdx y.toNat) else (8, rs)) by unfold takeR; rw [← Hx.out, if_pos Hx0.out, ← Hy.out])
    go_wp2_with fail
    refine (HW.out _ HB1.out).mono ?_
    rintro e w2 ⟨rfl, hb2⟩
    have HB2 := Lib.hid (HB1.out.trans (hb2.mono HB1.out.size))
    clear d0 d1 d2 d3 hb2 HW HX
    have dT := (HB2.out.cell (p := ⟨T, 3, none⟩) hT0).trans c3
    have HQ2 := Lib.hid (HQ0.out.ev (Ev.of_below (R := fun _ => False) ρ0 HB2.out) id id id HRo.out)
    have HF2 := Lib.hid (HF.out.grow HB2.out.size)
    have HE2 := Lib.hid (fun R => (HE.out R).trans (Ev.of_below ρ0 HB2.out))
    clear b0 b1 b2 b3 c3
    rcases whr_cases rs p with ⟨h1, h2⟩ | ⟨k, r, h1, h2, h3, -⟩
    · rw [← Hy.out] at h1
      subst h1
      have q2 : ¬ (0 : Int) ≤ -1 := by decide
      rw [if_neg q2] at Hput
      clear h2
      go_wp2
      go_ret
      rw [Hput.out]
      exact ⟨rfl, TqPost.same HQ.out HRo.out HF2.out H15.out HE2.out⟩
    · rw [← Hy.out] at h1
      subst h1
      have q2 : (0 : Int) ≤ (k : Int) := by omega
      rw [if_pos q2, Int.toNat_natCast] at Hput
      have hk := (List.getElem?_eq_some_iff.1 h2).1
      have hw2 : RwO w2 N (.slice ao rs.length cap) rs := by have := HQ2.out.rq.row.1; rw [Hv.out] at this; exact this
      obtain ⟨g, hg, -, -, hNg, hgl⟩ := RwO.at hw2 h2
      subst hg
      have hcap : rs.length ≤ cap := by
        rcases hw2.2 with ⟨h', _⟩ | ⟨g', cap', cur, hv', _, _, hc, _⟩
        · cases h'
        · obtain ⟨-, h3⟩ : _ ∧ cap = cap' := by simpa using hv'
          rw [h3]; exact hc
      have Hk := Lib.hid hk
      have HT1 := Lib.hid (src_take hw2 (i := k) (c := cap) (by omega))
      have HW2 := Lib.hid hw2
      obtain ⟨z, hz⟩ : ∃ z, z = rs.length := ⟨_, rfl⟩
      rw [← hz] at dT hlen hk hcap
      have Hz := Lib.hid hz
      have hT2 : T < w2.heap.size := Nat.lt_of_lt_of_le hT0 HB2.out.size
      have fT := (HQ2.out.rq.st 3 (by decide)).2
      have q3 : (k : Int) ≤ (cap : Int) := by omega
      have q4 : (k : Int) + 1 ≤ (z : Int) := by omega
      clear hw2 h2 h3 hz
      go_wp2_with (at_builtin; refine wpList_append_rt rfl _ _ rfl w2.heap.size _ [] rfl (World.ownsRow_nil _ _ _ _) _ (rs.take k) rfl HT1.out ?c1 (Nat.le_refl _) ?_)
      case c1 => rw [List.length_take, ← Hz.out]; simp; omega
      intro ao3 m3 cap3 w3 hm3 hr3 hg3 hat3
      have hr3 : RwO w3 w2.heap.size (.slice ao3 m3 cap3) (rs.take k) := hr3
      have hB3 : Below w2.heap.size w2 w3 := below_grown (Below.refl _ _) hg3 (fun k hk => by simp [Value.ownBlock] at hk) (Nat.le_refl _)
      have dT3 := (hB3.cell (p := ⟨T, 3, none⟩) hT2).trans dT
      have fT3 := (hB3.frozen (p := ⟨T, 3, none⟩) hT2).trans fT
      have HR3 := Lib.hid hr3
      have HB3 := Lib.hid hB3
      have hm3k : m3 = k := by have h5 : m3 = min k rs.length := hm3; have := Hz.out; omega
      subst hm3k
      have hWf := HW2.out.far hB3 (fun b hb => by simp [Value.ownBlock] at hb; omega)
      have Hrest := Lib.hid (show rs.take m3 ++ rs.drop (m3 + 1) = rs.eraseIdx m3 from (List.eraseIdx_eq_take_drop_succ rs m3).symm)
      have hc1 : (rs.take m3).length + (rs.drop (m3 + 1)).length ≤ 100000 := by rw [List.length_take, List.length_drop, ← Hz.out]; omega
      clear hr3 hg3 hat3 hm3 dT fT
      by_cases hce : cap = m3 + 1
      · subst hce
        have hzk : z = m3 + 1 := by omega
        have HD3 := Lib.hid (show SrcR w3 (.slice (some ⟨g, 0, none⟩) 0 0) (rs.drop (m3 + 1)) from .inr ⟨⟨g, 0, none⟩, 0, by rw [List.length_drop, ← Hz.out, hzk, Nat.sub_self], fun j u hu => by rw [List.drop_of_length_le (by rw [← Hz.out]; omega)] at hu; simp [flat] at hu⟩)
        clear hWf hzk hB3
        go_wp2_with (at_builtin; refine wpList_append_rt rfl _ _ rfl w2.heap.size _ (rs.take m3) rfl HR3.out _ (rs.drop (m3 + 1)) rfl HD3.out hc1 HB3.out.size ?_)
        intro ao5 m5 cap5 w5 hm5 hr5 hg5 hat5
        have HR5 := Lib.hid (show RwO w5 w2.heap.size (.slice ao5 m5 cap5) (rs.eraseIdx m3) by rw [← Hrest.out]; exact hr5)
        have hB5 := below_grown HB3.out hg5 HR3.out.base HB3.out.size
        have dT5 := (hB5.cell (p := ⟨T, 3, none⟩) hT2).trans ((HB3.out.cell (p := ⟨T, 3, none⟩) hT2).symm.trans dT3)
        have fT5 := (hB5.frozen (p := ⟨T, 3, none⟩) hT2).trans ((HB3.out.frozen (p := ⟨T, 3, none⟩) hT2).symm.trans fT3)
        have HB5 := Lib.hid hB5
        clear hm5 hr5 hg5 hat5 hB5 dT3 fT3
        go_wp2
        go_ret
        rw [Hput.out]
        exact ⟨rfl, lift_post HQ.out HRo.out HE2.out (fresh_done HQ2.out.rq (fun R => Ev.refl R _ _) HF2.out H15.out HRo.out (Nat.le_trans hN0 HB2.out.size) (by decide) HB5.out HR5.out) (by decide) (by omega)⟩
      · have HD3 := Lib.hid (src_drop hWf (i := m3 + 1) (m := z - (m3 + 1)) (c := cap - (m3 + 1)) (by rw [← Hz.out]; omega) (by rw [← Hz.out]))
        clear hWf hB3
        go_wp2_with (at_builtin; refine wpList_append_rt rfl _ _ rfl w2.heap.size _ (rs.take m3) rfl HR3.out _ (rs.drop (m3 + 1)) rfl HD3.out hc1 HB3.out.size ?_)
        intro ao5 m5 cap5 w5 hm5 hr5 hg5 hat5
        have HR5 := Lib.hid (show RwO w5 w2.heap.size (.slice ao5 m5 cap5) (rs.eraseIdx m3) by rw [← Hrest.out]; exact hr5)
        have hB5 := below_grown HB3.out hg5 HR3.out.base HB3.out.size
        have dT5 := (hB5.cell (p := ⟨T, 3, none⟩) hT2).trans ((HB3.out.cell (p := ⟨T, 3, none⟩) hT2).symm.trans dT3)
        have fT5 := (hB5.frozen (p := ⟨T, 3, none⟩) hT2).trans ((HB3.out.frozen (p := ⟨T, 3, none⟩) hT2).symm.trans fT3)
        have HB5 := Lib.hid hB5
        clear hm5 hr5 hg5 hat5 hB5 dT3 fT3
        go_wp2
        go_ret
        rw [Hput.out]
        exact ⟨rfl, lift_post HQ.out HRo.out HE2.out (fresh_done HQ2.out.rq (fun R => Ev.refl R _ _) HF2.out H15.out HRo.out (Nat.le_trans hN0 HB2.out.size) (by decide) HB5.out HR5.out) (by decide) (by omega)⟩
  · have q1 : (x == 0) = false := ine_beq hx0
    have Hput := Lib.hid (show takeR rs p = (x, rs) by unfold takeR; rw [← Hx.out, if_neg hx0])
    go_wp2
    go_ret
    rw [Hput.out]
    exact ⟨rfl, TqPost.same HQ.out HRo.out (HF.out.grow HB1.out.size) H15.out (fun R => (HE.out R).trans (Ev.of_below ρ0 HB1.out))⟩
end Go.Proofs.YtnfkgnjeamnhfaaGreat
namespace Go.Proofs.YtnfkgnjeamnhfaaGreat
open Go.RowKit Go.Sort

set_option maxRecDepth 4000 in
set_option maxHeartbeats 4000000 in
theorem ttake_any {N : Nat} {ρ : Nat → Nat} {w : World} {T rS rQ : Nat} {gs : Nat → List Int} {rs : List Rt} {lim : Int} {f : Nat → Value} (h : Tq N ρ w T rS rQ 3 35 gs rs lim f) (hro : Ro rS rQ) (hF : Fr ρ w) (h15 : ∀ k, ρ k ≠ 15) (hlen : rs.length ≤ 1000) (p : Rt) (hp : Fit p) :
    Calls Tryz.prog 49 #[.pointer (some ⟨T, 0, none⟩), .agg #[.int .i64 p.f, .int .u64 p.hi, .int .u64 p.lo, .int .i64 p.n]] w fun e w' => e = .returned (.int .i64 (takeT rs p).1) ∧ TqPost N ρ w T rS rQ 3 35 gs lim (takeT rs p).2 w' := by
  obtain ⟨ρ0, hE0, hF0, hb0, h150⟩ := boxE hF h15 (.cells #[.int .i64 p.f, .int .u64 p.hi, .int .u64 p.lo, .int .i64 p.n] 33)
  obtain ⟨w0, hw0⟩ : ∃ w0, w0 = w.alloc (.cells #[.int .i64 p.f, .int .u64 p.hi, .int .u64 p.lo, .int .i64 p.n] 33) := ⟨_, rfl⟩
  obtain ⟨bx, hbx⟩ : ∃ bx, bx = w.heap.size := ⟨_, rfl⟩
  have hz0 : bx < w0.heap.size := by rw [hw0, hbx]; simp
  have hSb : St w0 bx 4 (fun j => (#[Value.int .i64 p.f, .int .u64 p.hi, .int .u64 p.lo, .int .i64 p.n]).getD j undef) := by rw [hw0, hbx]; exact St.new w _ _
  rw [← hw0] at hE0 hF0
  have h0 := h.ev (hE0 (fun _ => False)) id id id hro
  have hT0 := h0.rq.st.lt (by decide)
  have HC := Lib.hid (fun (w1 : World) => H.check_any p.f p.hi p.lo p.n w1 hp.1 hp.2)
  have HP := Lib.hid (fun (w1 : World) (hb : Below w0.heap.size w0 w1) => rtTake_any N ρ0 T rS rQ f rs p w1 (hF0.grow hb.size) h150 (h0.ev (Ev.of_below (R := fun _ => False) ρ0 hb) id id id hro).rq hro.1 hro.2.1 hro.2.2.2.2.1 hlen)
  have HQ := Lib.hid h
  have HE := Lib.hid hE0
  have HF := Lib.hid hF0
  have H15 := Lib.hid h150
  have Hw0 := Lib.hid hw0
  have Hbx := Lib.hid hbx
  have HRo := Lib.hid hro
  have b0 : w0.cell? ⟨bx, 0, none⟩ = some (.int .i64 p.f) := (hSb 0 (by decide)).1
  have b1 : w0.cell? ⟨bx, 1, none⟩ = some (.int .u64 p.hi) := (hSb 1 (by decide)).1
  have b2 : w0.cell? ⟨bx, 2, none⟩ = some (.int .u64 p.lo) := (hSb 2 (by decide)).1
  have b3 : w0.cell? ⟨bx, 3, none⟩ = some (.int .i64 p.n) := (hSb 3 (by decide)).1
  obtain ⟨x, hx⟩ : ∃ x, x = chkR p := ⟨_, rfl⟩
  have HX : Hid (∀ w1 : World, Calls Tryz.prog 94 #[.agg #[.int .i64 p.f, .int .u64 p.hi, .int .u64 p.lo, .int .i64 p.n]] w1 fun e w' => e = .returned (.int .i64 x) ∧ Below w1.heap.size w1 w') := by rw [hx]; exact HC.out
  have Hx := Lib.hid hx
  clear hw0 hbx h h0 hE0 hF0 h150 hb0 hSb hF h15 HC hx hro hp
  go_enter Tryz.func49, Tryz.ntmps49
  go_wp2_with fail
  rw [← Hw0.out, ← Hbx.out]
  refine (HX.out _).mono ?_
  rintro e w1 ⟨rfl, hb1⟩
  have HB1 := Lib.hid hb1
  have HE1 := Lib.hid (fun (d : Nat) R => (HE.out R).trans (Ev.of_below ρ0 (show Below w0.heap.size w0 (w1.drewN d) from ⟨hb1.os, hb1.tape, hb1.output, hb1.size, hb1.block⟩)))
  have HF1 := Lib.hid (HF.out.grow hb1.size)
  have d0 := (hb1.cell (p := ⟨bx, 0, none⟩) hz0).trans b0
  have d1 := (hb1.cell (p := ⟨bx, 1, none⟩) hz0).trans b1
  have d2 := (hb1.cell (p := ⟨bx, 2, none⟩) hz0).trans b2
  have d3 := (hb1.cell (p := ⟨bx, 3, none⟩) hz0).trans b3
  clear hb1 b0 b1 b2 b3
  by_cases hx0 : x = 0
  · have Hx0 := Lib.hid hx0
    have q1 : (x == 0) = true := by rw [hx0]; rfl
    have Hput := Lib.hid (show takeT rs p = takeC rs p by unfold takeT; rw [← Hx.out, if_pos hx0])
    clear hx0
    go_wp2
    go_region_with (go_at_call 98; refine (HP.out _ (by exact ⟨HB1.out.os, HB1.out.tape, HB1.out.output, HB1.out.size, HB1.out.block⟩)).mono ?_; rintro e w2 ⟨rfl, hp2⟩; have Hp2 := Lib.hid hp2; clear hp2)
    all_goals
      go_wp2
      go_ret
      rw [Hput.out]
      exact ⟨rfl, lift_post HQ.out HRo.out (HE1.out 1) Hp2.out (by decide) (by omega)⟩
  · have q1 : (x == 0) = false := ine_beq hx0
    have Hput := Lib.hid (show takeT rs p = (x, rs) by unfold takeT; rw [← Hx.out, if_neg hx0])
    go_wp2
    go_ret
    rw [Hput.out]
    exact ⟨rfl, TqPost.same HQ.out HRo.out HF1.out H15.out (HE1.out 0)⟩

/-- What a call of Drop leaves. -/
def DPost2 (T o : Nat) (f : Nat → Value) (gs : Nat → List Int) (rs : List Rt) (k : Int) (w : World) (e : Ending) (w' : World) : Prop :=
  (hasB gs k = false ∧ e = .returned (.int .i64 7) ∧ Below w.heap.size w w') ∨ (hasB gs k = true ∧ busyB rs k = true ∧ e = .returned (.int .i64 10) ∧ Below w.heap.size w w') ∨
  (hasB gs k = true ∧ busyB rs k = false ∧ e = .returned (.int .i64 0) ∧ w.grownBy w' (some T) ∧ St w' T 36 (upd f (o + k.toNat) nilS))

set_option maxHeartbeats 1000000 in
theorem drop2_any (N T : Nat) (f : Nat → Value) (gs : Nat → List Int) (rs : List Rt) (g : Int) (w : World) (hs : St w T 36 f) (hl : Ls w f 3 gs) (hr : RwO w N (f 35) rs) :
    Calls Tryz.prog 45 #[.pointer (some ⟨T, 0, none⟩), .int .i64 g] w (DPost2 T 3 f gs rs g w) := by
  have H := Lib.hid (has_any T f gs g w hs hl)
  cases hg : hasB gs g with
  | false =>
    rw [hg] at H
    have HG := Lib.hid hg
    clear hs hl hg hr
    go_enter Tryz.func45, Tryz.ntmps45
    go_wp2_with (go_at_call 91; refine H.out.mono ?_; rintro e w1 ⟨rfl, rfl⟩)
    go_ret
    exact .inl ⟨HG.out, rfl, Below.refl _ _⟩
  | true =>
    rw [hg] at H
    have HG := Lib.hid hg
    obtain ⟨k, rfl, hk, hk0⟩ := hasB_some hg
    have HR := Lib.hid (haveGroup_any N T (f 35) rs k w (hs 35 (by decide)).1 hr)
    have HM := Lib.hid (remove_any T f gs k w hs hl hk hg)
    have HS := Lib.hid hs
    clear hs hl hg hr
    cases hb : busyB rs k with
    | true =>
      rw [hb] at HR
      have HBy := Lib.hid hb
      clear hb
      go_enter Tryz.func45, Tryz.ntmps45
      go_wp2_with (first | (go_at_call 91; refine H.out.mono ?_; rintro e w1 ⟨rfl, rfl⟩) | (go_at_call 92; refine HR.out.mono ?_; rintro e w1 ⟨rfl, rfl⟩))
      go_ret
      exact .inr (.inl ⟨HG.out, HBy.out, rfl, Below.refl _ _⟩)
    | false =>
      rw [hb] at HR
      have HBy := Lib.hid hb
      clear hb
      go_enter Tryz.func45, Tryz.ntmps45
      go_wp2_with (first | (go_at_call 91; refine H.out.mono ?_; rintro e w1 ⟨rfl, rfl⟩) | (go_at_call 92; refine HR.out.mono ?_; rintro e w1 ⟨rfl, rfl⟩) | (go_at_call 93; refine HM.out.mono ?_; rintro e w1 ⟨rfl, rfl⟩))
      go_ret
      refine .inr (.inr ⟨HG.out, HBy.out, rfl, grownBy_set (Below.refl _ _) _, ?_⟩)
      rw [Int.toNat_natCast]
      exact HS.out.set (by omega) _

set_option maxHeartbeats 1000000 in
theorem rdrop2_any (N T : Nat) (f : Nat → Value) (gs : Nat → List Int) (rs : List Rt) (g : Int) (w : World) (hs : St w T 36 f) (hl : Ls w f 4 gs) (hr : RwO w N (f 3) rs) :
    Calls Tryz.prog 46 #[.pointer (some ⟨T, 0, none⟩), .int .i64 g] w (DPost2 T 4 f gs rs g w) := by
  have H := Lib.hid (there_any T f gs g w hs hl)
  cases hg : hasB gs g with
  | false =>
    rw [hg] at H
    have HG := Lib.hid hg
    clear hs hl hg hr
    go_enter Tryz.func46, Tryz.ntmps46
    go_wp2_with (go_at_call 90; refine H.out.mono ?_; rintro e w1 ⟨rfl, rfl⟩)
    go_ret
    exact .inl ⟨HG.out, rfl, Below.refl _ _⟩
  | true =>
    rw [hg] at H
    have HG := Lib.hid hg
    obtain ⟨i, rfl, hi, hi0⟩ := hasB_some hg
    obtain ⟨ao1, n1, cap1, hf1, -⟩ := hl i hi
    have hc := (hs (4 + i) (by omega)).1
    have hfz := (hs (4 + i) (by omega)).2
    rw [hf1] at hc
    obtain ⟨ao, cap, hv, hm⟩ := RwO.form hr
    have hc3 := (hs 3 (by omega)).1
    rw [hv] at hc3 hr
    have HR := Lib.hid hr
    have HS := Lib.hid hs
    obtain ⟨z, hz⟩ : ∃ z, z = rs.length := ⟨_, rfl⟩
    rw [← hz] at hc3 hm
    have Hz := Lib.hid hz
    unfold maxLen at hm
    have q0 : (0 : Int) ≤ (i : Int) := by omega
    have q9 : (i : Int) < 32 := by omega
    clear hs hl hg hr hv hf1 hz
    go_enter Tryz.func46, Tryz.ntmps46
    go_wp2_with (go_at_call 90; refine H.out.mono ?_; rintro e w1 ⟨rfl, rfl⟩)
    go_loop [6] (fun x => ∃ k : Nat, k ≤ z ∧ x = .int .i64 k ∧ Hid (∀ j r, j < k → rs[j]? = some r → r.g ≠ i)) (fun i => z - (intOf i).toNat)
    case atStart => exact ⟨0, Nat.zero_le _, rfl, by intro j r hj; omega⟩
    case round =>
      obtain ⟨k, hk, rfl, HK⟩ := hrel
      by_cases hlt : k < z
      · obtain ⟨r, hrk⟩ : ∃ r, rs[k]? = some r := ⟨_, List.getElem?_eq_getElem (by rw [← Hz.out]; exact hlt)⟩
        obtain ⟨b, rfl, hat, -, -, -⟩ := RwO.at HR.out hrk
        have c4 := hat.c4
        have Hrk := Lib.hid hrk
        clear hat hrk
        have q1 : (k : Int) < (z : Int) := by omega
        by_cases h1 : r.g = i
        · have q2 : (r.g == (i : Int)) = true := by rw [h1]; simp
          have Hq2 := Lib.hid q2
          go_wp2
          go_ret
          exact .inr (.inl ⟨HG.out, List.any_eq_true.2 ⟨r, List.mem_of_getElem? Hrk.out, Hq2.out⟩, rfl, Below.refl _ _⟩)
        · have q2 : (r.g == (i : Int)) = false := ine_beq h1
          go_wp2
          go_round
          case rel =>
            refine ⟨k + 1, by omega, by go_num, ?_⟩
            intro j r' hj hr'
            by_cases e : j = k
            · subst e; rw [Hrk.out] at hr'; cases hr'; exact h1
            · exact HK.out j r' (by omega) hr'
          case measure => simp [intOf]; omega
      · obtain rfl : k = z := by omega
        have hb : busyB rs i = false := by
          rw [busyB, List.any_eq_false]
          intro r hr
          obtain ⟨j, hj, e⟩ := List.getElem_of_mem hr
          have := HK.out j r (by rw [Hz.out]; exact hj) (by rw [← e]; exact List.getElem?_eq_getElem hj)
          simpa using this
        have HBy := Lib.hid hb
        clear hb
        go_wp2
        go_ret
        refine .inr (.inr ⟨HG.out, HBy.out, rfl, grownBy_set (Below.refl _ _) _, ?_⟩)
        rw [Int.toNat_natCast]
        exact HS.out.set (by omega) _
end Go.Proofs.YtnfkgnjeamnhfaaGreat
