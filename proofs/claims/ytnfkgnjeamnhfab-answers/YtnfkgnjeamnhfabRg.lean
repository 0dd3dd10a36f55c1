import Derived.Test.YtnfkgnjeamnhfabRe
namespace Go.Proofs.Ytnfkgnjeamnhfab
open Go.RowKit Go.Sort

theorem info42m : (Try.prog.info? 45).map (fun i => (i.size, i.bytes, i.zero)) = some (5, 40, some (.agg #[.int .i64 0, .int .u64 0, .int .u64 0, .int .i64 0, .int .i64 0])) := by kernel_rfl
theorem info42 : ∃ i, Try.prog.info? 45 = some i ∧ i.zero = some (.agg #[.int .i64 0, .int .u64 0, .int .u64 0, .int .i64 0, .int .i64 0]) ∧ i.size = 5 ∧ i.bytes = 40 := by
  obtain ⟨i, hi, he⟩ := Option.map_eq_some_iff.1 info42m
  simp only [Prod.mk.injEq] at he
  exact ⟨i, hi, he.2.2, he.1, he.2.1⟩
theorem news_rt (w : World) (r : Rt) (t : TypeId) : ∀ j u, (rc r)[j]? = some u → (w.alloc (.cells #[.int .i64 r.f, .int .u64 r.hi, .int .u64 r.lo, .int .i64 r.n, .int .i64 r.g] t)).cell? ((⟨w.heap.size, 0, none⟩ : Addr).add j) = some u :=
  World.news_of_block (cs := #[.int .i64 r.f, .int .u64 r.hi, .int .u64 r.lo, .int .i64 r.n, .int .i64 r.g]) (heap_alloc_new w _)
theorem rc_one (r : Rt) : ∀ u ∈ rc r, u.oneCell' = true := by
  intro u hu
  simp only [rc, List.mem_cons, List.not_mem_nil, or_false] at hu
  rcases hu with rfl | rfl | rfl | rfl | rfl <;> rfl
theorem flat_snoc (rs : List Rt) (r : Rt) : flat rs ++ rc r = flat (rs ++ [r]) := by rw [flat_append, flat_cons, flat_nil, List.append_nil]

/-- A table's struct and its row of routes. -/
structure Rq (N : Nat) (ρ : Nat → Nat) (w : World) (T rS rQ c : Nat) (f : Nat → Value) (rs : List Rt) : Prop where
  role : ρ T = rS
  st : St w T 36 f
  row : OwnZ N ρ w rQ 45 5 (f c) rs.length (flat rs)
theorem Rq.ev {R : Nat → Prop} {N : Nat} {ρ ρ' : Nat → Nat} {w w' : World} {T rS rQ c : Nat} {f : Nat → Value} {rs : List Rt} (h : Rq N ρ w T rS rQ c f rs) (he : Ev R ρ w ρ' w') (hS : ¬ R rS) (hQ : ¬ R rQ) (hS14 : rS ≠ 14) (hQ14 : rQ ≠ 14) : Rq N ρ' w' T rS rQ c f rs := by
  have hlt := h.st.lt (by decide)
  exact ⟨by rw [he.role T hlt (by rw [h.role]; exact hS14), h.role], h.st.ev (by decide) he (by rw [h.role]; exact hS) (by rw [h.role]; exact hS14), h.row.ev he hQ hQ14⟩
/-- What a change of the routes leaves. -/
def RqPost (N : Nat) (ρ : Nat → Nat) (w : World) (T rS rQ c : Nat) (f : Nat → Value) (rs' : List Rt) (w' : World) : Prop :=
  ∃ ρ' f', Rq N ρ' w' T rS rQ c f' rs' ∧ (∀ j, j ≠ c → f' j = f j) ∧ Fr ρ' w' ∧ (∀ k, ρ' k ≠ 15) ∧ Ev (fun q => q = rS ∨ q = rQ) ρ w ρ' w'
/-- Put, as the program has it. -/
def putC (rs : List Rt) (p : Rt) (lim : Int) : Int × List Rt :=
  if isB rs (plc rs p) p then (0, rs.set (plc rs p) p) else if lim ≤ rs.length then (9, rs) else (0, rs.take (plc rs p) ++ p :: rs.drop (plc rs p))
theorem isB_some {rs : List Rt} {k : Nat} {p : Rt} (h : isB rs k p = true) : ∃ r, rs[k]? = some r ∧ { r with g := p.g } = p := by
  unfold isB at h
  split at h
  · rename_i r hr
    obtain ⟨h1, h2, h3, h4⟩ := sameP_iff.1 h
    refine ⟨r, hr, ?_⟩
    obtain ⟨a, b, c, d, e⟩ := p
    obtain ⟨a', b', c', d', e'⟩ := r
    simp at h1 h2 h3 h4
    subst h1 h2 h3 h4; rfl
  · cases h
/-- Nothing was changed. -/
theorem RqPost.same {N : Nat} {ρ ρ' : Nat → Nat} {w w' : World} {T rS rQ c : Nat} {f : Nat → Value} {rs : List Rt} (h : Rq N ρ w T rS rQ c f rs) (hF : Fr ρ' w') (h15 : ∀ k, ρ' k ≠ 15) (he : ∀ R, Ev R ρ w ρ' w') (hS14 : rS ≠ 14) (hQ14 : rQ ≠ 14) : RqPost N ρ w T rS rQ c f rs w' :=
  ⟨ρ', f, h.ev (he (fun _ => False)) id id hS14 hQ14, fun _ _ => rfl, hF, h15, he _⟩

theorem evc {Q : Nat → Prop} {ρ ρ' : Nat → Nat} {w w' : World} (h : Ev Q ρ w ρ' w') {b : Nat} (o : Nat) (hb : b < w.heap.size) (h14 : ρ b ≠ 14) (hQ : ¬ Q (ρ b)) : w'.cell? ⟨b, o, none⟩ = w.cell? ⟨b, o, none⟩ :=
  World.cell?_of_block (a := ⟨b, o, none⟩) (h.block b hb h14 hQ)
theorem grown_trans {w w1 w2 : World} {o : Option Nat} (h : w.grownBy w1 o) (k : w1.grownBy w2 o) : w.grownBy w2 o :=
  ⟨k.os.trans h.os, k.tape.trans h.tape, k.output.trans h.output, Nat.le_trans h.size k.size, fun i hi hn => (k.block i (Nat.lt_of_lt_of_le hi h.size) hn).trans (h.block i hi hn)⟩
theorem grown_set (w : World) (g o : Nat) (v : Value) : w.grownBy (w.setCell ⟨g, o, none⟩ v) (some g) := grownBy_set (Below.refl _ _) v
/-- Only the row was turned. -/
theorem RqPost.rowed {N : Nat} {ρ ρ0 : Nat → Nat} {w w2 w3 : World} {T rS rQ c : Nat} {f : Nat → Value} {rs rs' : List Rt} (hq : Rq N ρ0 w2 T rS rQ c f rs) (hE : ∀ R, Ev R ρ w ρ0 w2) (hF : Fr ρ0 w2) (h15 : ∀ k, ρ0 k ≠ 15)
    (hg : w2.grownBy w3 (f c).ownBlock) (hr : RwO w3 N (f c) rs') (hSQ : rQ ≠ rS) : RqPost N ρ w T rS rQ c f rs' w3 := by
  have hlt := hq.st.lt (by decide)
  refine ⟨ρ0, f, ⟨hq.role, hq.st.same (hg.block T hlt fun e => ?_), hr, hq.row.2⟩, fun _ _ => rfl, hF.grow hg.size, h15, (hE _).trans (Ev.of_grown ρ0 hg fun k hk => .inr (.inr (hq.row.2 k hk)))⟩
  have := hq.row.2 T e.symm
  rw [hq.role] at this
  exact hSQ this.symm
theorem putG {N : Nat} {ρ ρ0 : Nat → Nat} {w w2 : World} {T rS rQ c g n cap : Nat} {f : Nat → Value} {rs : List Rt} (hq : Rq N ρ0 w2 T rS rQ c f rs) (hE : ∀ R, Ev R ρ w ρ0 w2) (hF : Fr ρ0 w2) (h15 : ∀ k, ρ0 k ≠ 15) (hv : f c = .slice (some ⟨g, 0, none⟩) n cap) (hSQ : rQ ≠ rS)
    {k : Nat} {r p : Rt} (hr : rs[k]? = some r) (hp : { r with g := p.g } = p) (d : Nat) : RqPost N ρ w T rS rQ c f (rs.set k p) ((w2.drewN d).setCell ⟨g, k * 5 + 4, none⟩ (.int .i64 p.g)) := by
  have h := hq.row.1
  rw [hv] at h
  refine RqPost.rowed hq hE hF h15 ?_ ?_ hSQ
  · rw [hv]; exact grownBy_set (w := w2) (w' := w2.drewN d) ⟨rfl, rfl, rfl, Nat.le_refl _, fun _ _ => rfl⟩ _
  · rw [hv]
    have := RwO.setG (w := w2.drewN d) (by exact h) hr p.g
    rw [hp] at this
    exact this

theorem shifted {w : World} {N : Nat} {v : Value} {rs : List Rt} {j k : Nat} {r y : Rt} (hk : k = j + 1) (hr : rs[j]? = some r) (h : RwO w N v ((rs.take k ++ y :: rs.drop k).set k r)) : RwO w N v (rs.take j ++ r :: rs.drop j) := by
  have hl := (List.getElem?_eq_some_iff.1 hr).1
  rw [set_app _ _ _ _ (by rw [List.length_take]; omega)] at h
  have e : rs.take k ++ r :: rs.drop k = rs.take j ++ r :: rs.drop j := by
    subst hk
    rw [List.take_add_one, hr, List.append_assoc, List.drop_eq_getElem_cons hl]
    have : rs[j] = r := by rw [List.getElem?_eq_getElem hl] at hr; exact Option.some.inj hr
    rw [this]; rfl
  rw [e] at h
  exact h
theorem grown5 (w : World) (g o : Nat) (a b c d e : Value) : w.grownBy (((((w.setCell ⟨g, o, none⟩ a).setCell ⟨g, o + 1, none⟩ b).setCell ⟨g, o + 2, none⟩ c).setCell ⟨g, o + 3, none⟩ d).setCell ⟨g, o + 4, none⟩ e) (some g) :=
  grown_trans (grown_trans (grown_trans (grown_trans (grown_set _ _ _ a) (grown_set _ _ _ _)) (grown_set _ _ _ _)) (grown_set _ _ _ _)) (grown_set _ _ _ _)
theorem grown_drew {w w1 : World} {o : Option Nat} (h : w.grownBy w1 o) : w.grownBy w1.drew o := ⟨h.os, h.tape, h.output, h.size, h.block⟩
theorem RwO.drew {w : World} {N : Nat} {v : Value} {rs : List Rt} (h : RwO w N v rs) : RwO w.drew N v rs := h
theorem shift_set {w : World} {N g n cap : Nat} {rs : List Rt} {j k : Nat} {r y : Rt} (hk : k = j + 1) (hr : rs[j]? = some r) (h : RwO w N (.slice (some ⟨g, 0, none⟩) n cap) (rs.take k ++ y :: rs.drop k)) :
    RwO (((((w.setCell ⟨g, k * 5, none⟩ (.int .i64 r.f)).setCell ⟨g, k * 5 + 1, none⟩ (.int .u64 r.hi)).setCell ⟨g, k * 5 + 2, none⟩ (.int .u64 r.lo)).setCell ⟨g, k * 5 + 3, none⟩ (.int .i64 r.n)).setCell ⟨g, k * 5 + 4, none⟩ (.int .i64 r.g)).drew N (.slice (some ⟨g, 0, none⟩) n cap) (rs.take j ++ r :: rs.drop j) := by
  have hl := (List.getElem?_eq_some_iff.1 hr).1
  exact (shifted hk hr (h.set (by rw [List.length_append, List.length_cons, List.length_take, List.length_drop]; omega) r)).drew
theorem place_set {w : World} {N g n cap : Nat} {rs : List Rt} {k : Nat} {p y : Rt} (hk : k ≤ rs.length) (h : RwO w N (.slice (some ⟨g, 0, none⟩) n cap) (rs.take k ++ y :: rs.drop k)) :
    RwO (((((w.setCell ⟨g, k * 5, none⟩ (.int .i64 p.f)).setCell ⟨g, k * 5 + 1, none⟩ (.int .u64 p.hi)).setCell ⟨g, k * 5 + 2, none⟩ (.int .u64 p.lo)).setCell ⟨g, k * 5 + 3, none⟩ (.int .i64 p.n)).setCell ⟨g, k * 5 + 4, none⟩ (.int .i64 p.g)).drew N (.slice (some ⟨g, 0, none⟩) n cap) (rs.take k ++ p :: rs.drop k) := by
  have := h.set (k := k) (by rw [List.length_append, List.length_cons, List.length_take, List.length_drop]; omega) p
  rw [set_app _ _ _ _ (by rw [List.length_take]; omega)] at this
  exact this.drew
theorem put_done {N : Nat} {ρ ρ4 : Nat → Nat} {w w5 w6 : World} {T rS rQ g n cap : Nat} {f : Nat → Value} {rs' : List Rt} (hE : Ev (fun q => q = rS ∨ q = rQ) ρ w ρ4 w5) (hF : Fr ρ4 w5) (h15 : ∀ k, ρ4 k ≠ 15) (hT : ρ4 T = rS) (hS : St w5 T 36 (upd f 35 (.slice (some ⟨g, 0, none⟩) n cap))) (hg : ρ4 g = rQ) (hSQ : rQ ≠ rS)
    (hgr : w5.grownBy w6 (some g)) (hr : RwO w6 N (.slice (some ⟨g, 0, none⟩) n cap) rs') : RqPost N ρ w T rS rQ 35 f rs' w6 := by
  have hlt := hS.lt (by decide)
  have hne : T ≠ g := fun e => by rw [e, hg] at hT; exact hSQ hT
  refine ⟨ρ4, _, ⟨hT, hS.same (hgr.block T hlt (fun e => hne (by simpa using e))), ?_, ?_⟩, fun j hj => upd_ne hj, hF.grow hgr.size, h15, hE.trans (Ev.of_grown ρ4 hgr (fun k hk => by cases hk; exact .inr (.inr hg)))⟩
  · rw [upd_same]; exact hr
  · rw [upd_same]; intro k hk; simp [Value.ownBlock] at hk; subst hk; exact hg

set_option maxRecDepth 4000 in
set_option maxHeartbeats 4000000 in
theorem rtPut_any (N : Nat) (ρ : Nat → Nat) (T rS rQ : Nat) (f : Nat → Value) (rs : List Rt) (p : Rt) (lim : Int) (w : World) (hN : N ≤ w.heap.size) (hF : Fr ρ w) (h15 : ∀ k, ρ k ≠ 15) (hq : Rq N ρ w T rS rQ 35 f rs)
    (hS14 : rS ≠ 14) (hQ14 : rQ ≠ 14) (hQ15 : rQ ≠ 15) (hSQ : rQ ≠ rS) (hS13 : rS ≠ 13) (hQ13 : rQ ≠ 13) (hlen : rs.length ≤ 1000) :
    Calls Try.prog 47 #[.pointer (some ⟨T, 35, none⟩), .agg #[.int .i64 p.f, .int .u64 p.hi, .int .u64 p.lo, .int .i64 p.n, .int .i64 p.g], .int .i64 lim] w fun e w' => e = .returned (.int .i64 (putC rs p lim).1) ∧ RqPost N ρ w T rS rQ 35 f (putC rs p lim).2 w' := by
  obtain ⟨ρ0, hE0, hF0, hb0, h150⟩ := boxE hF h15 (.cells #[.int .i64 p.f, .int .u64 p.hi, .int .u64 p.lo, .int .i64 p.n, .int .i64 p.g] 45)
  obtain ⟨w0, hw0⟩ : ∃ w0, w0 = w.alloc (.cells #[.int .i64 p.f, .int .u64 p.hi, .int .u64 p.lo, .int .i64 p.n, .int .i64 p.g] 45) := ⟨_, rfl⟩
  obtain ⟨bx, hbx⟩ : ∃ bx, bx = w.heap.size := ⟨_, rfl⟩
  have hz0 : bx < w0.heap.size := by rw [hw0, hbx]; simp
  have hSb : St w0 bx 5 (fun j => (#[Value.int .i64 p.f, .int .u64 p.hi, .int .u64 p.lo, .int .i64 p.n, .int .i64 p.g]).getD j undef) := by rw [hw0, hbx]; exact St.new w _ _
  have hN0 : N ≤ w0.heap.size := by rw [hw0]; simp; omega
  rw [← hw0] at hE0 hF0
  rw [← hbx] at hb0
  have hq0 := hq.ev (hE0 (fun _ => False)) id id hS14 hQ14
  have hT0 := hq0.st.lt (by decide)
  obtain ⟨ao, cap, hv, hm⟩ := RwO.form hq0.row.1
  have hc0 := (hq0.st 35 (by decide)).1
  rw [hv] at hc0
  have HP := Lib.hid (fun (w1 : World) (hb : Below w0.heap.size w0 w1) => place_any N T (f 35) rs p w1 ((hb.cell (p := ⟨T, 35, none⟩) hT0).trans (hq0.st 35 (by decide)).1) ((hq0.row.ev (Ev.of_below (R := fun _ => False) ρ0 hb) id hQ14).1))
  have HI := Lib.hid (fun (w1 : World) (hb : Below w0.heap.size w0 w1) => isAt_any N T (f 35) rs (plc rs p) p w1 ((hb.cell (p := ⟨T, 35, none⟩) hT0).trans (hq0.st 35 (by decide)).1) ((hq0.row.ev (Ev.of_below (R := fun _ => False) ρ0 hb) id hQ14).1) (plc_le rs p))
  have HQ := Lib.hid hq
  have HQ0 := Lib.hid hq0
  have HE := Lib.hid hE0
  have HF := Lib.hid hF0
  have H15 := Lib.hid h150
  have Hb0 := Lib.hid hb0
  have HSb := Lib.hid hSb
  have Hw0 := Lib.hid hw0
  have Hbx := Lib.hid hbx
  have b0 : w0.cell? ⟨bx, 0, none⟩ = some (.int .i64 p.f) := (hSb 0 (by decide)).1
  have b1 : w0.cell? ⟨bx, 1, none⟩ = some (.int .u64 p.hi) := (hSb 1 (by decide)).1
  have b2 : w0.cell? ⟨bx, 2, none⟩ = some (.int .u64 p.lo) := (hSb 2 (by decide)).1
  have b3 : w0.cell? ⟨bx, 3, none⟩ = some (.int .i64 p.n) := (hSb 3 (by decide)).1
  have b4 : w0.cell? ⟨bx, 4, none⟩ = some (.int .i64 p.g) := (hSb 4 (by decide)).1
  have Hv := Lib.hid hv
  have hple := plc_le rs p
  obtain ⟨at0, hat0⟩ : ∃ a, a = plc rs p := ⟨_, rfl⟩
  rw [← hat0] at HP HI hple
  have Hat := Lib.hid hat0
  clear hw0 hbx hq hq0 hE0 hF0 h150 hb0 hSb hF h15 hv hm hat0
  go_enter Try.func47, Try.ntmps47
  go_wp2_with fail
  rw [← Hw0.out, ← Hbx.out]
  refine (HP.out _ (Below.refl _ _)).mono ?_
  rintro e w1 ⟨rfl, hb1⟩
  have HB1 := Lib.hid hb1
  have d0 := (hb1.cell (p := ⟨bx, 0, none⟩) hz0).trans b0
  have d1 := (hb1.cell (p := ⟨bx, 1, none⟩) hz0).trans b1
  have d2 := (hb1.cell (p := ⟨bx, 2, none⟩) hz0).trans b2
  have d3 := (hb1.cell (p := ⟨bx, 3, none⟩) hz0).trans b3
  clear hb1
  go_wp2_with fail
  refine (HI.out _ HB1.out).mono ?_
  rintro e w2 ⟨rfl, hb2⟩
  have HB2 := Lib.hid (HB1.out.trans (hb2.mono HB1.out.size))
  clear d0 d1 d2 d3 hb2 HP HI
  have d0 := (HB2.out.cell (p := ⟨bx, 0, none⟩) hz0).trans b0
  have d1 := (HB2.out.cell (p := ⟨bx, 1, none⟩) hz0).trans b1
  have d2 := (HB2.out.cell (p := ⟨bx, 2, none⟩) hz0).trans b2
  have d3 := (HB2.out.cell (p := ⟨bx, 3, none⟩) hz0).trans b3
  have d4 := (HB2.out.cell (p := ⟨bx, 4, none⟩) hz0).trans b4
  have dT := (HB2.out.cell (p := ⟨T, 35, none⟩) hT0).trans hc0
  have HQ2 := Lib.hid (HQ0.out.ev (Ev.of_below (R := fun _ => False) ρ0 HB2.out) id id hS14 hQ14)
  have HF2 := Lib.hid (HF.out.grow HB2.out.size)
  have HE2 := Lib.hid (fun R => (HE.out R).trans (Ev.of_below ρ0 HB2.out))
  clear b0 b1 b2 b3 b4 hc0
  cases hi : isB rs at0 p with
  | true =>
    have Hput := Lib.hid (show putC rs p lim = (0, rs.set at0 p) by unfold putC; rw [← Hat.out, hi, if_pos rfl])
    obtain ⟨r, hr, hrp⟩ := isB_some hi
    have hw2 : RwO w2 N (.slice ao rs.length cap) rs := by have := HQ2.out.row.1; rw [Hv.out] at this; exact this
    obtain ⟨g, hg, hat, hfz, hNg, hgl⟩ := RwO.at hw2 hr
    subst hg
    have HW2 := Lib.hid hw2
    have hk := (List.getElem?_eq_some_iff.1 hr).1
    have q1 : (at0 : Int) < (rs.length : Int) := by omega
    have q0 : (0 : Int) ≤ (at0 : Int) := by omega
    have c4 := hat.c4
    have f4 := hfz (at0 * 5 + 4)
    have Hr := Lib.hid hr
    have Hrp := Lib.hid hrp
    obtain ⟨z, hz⟩ : ∃ z, z = rs.length := ⟨_, rfl⟩
    rw [← hz] at q1 dT hlen
    have Hz := Lib.hid hz
    clear hw2 hat hfz hr hrp hz hi hk hple
    go_wp2
    go_region
    all_goals go_wp2
    all_goals go_ret
    all_goals
      rw [Hput.out]
      exact ⟨rfl, putG HQ2.out HE2.out HF2.out H15.out Hv.out hSQ Hr.out Hrp.out 1⟩
  | false =>
    by_cases hfull : lim ≤ rs.length
    · have Hput := Lib.hid (show putC rs p lim = (9, rs) by unfold putC; rw [← Hat.out, hi, if_neg Bool.false_ne_true, if_pos hfull])
      obtain ⟨z, hz⟩ : ∃ z, z = rs.length := ⟨_, rfl⟩
      rw [← hz] at dT hlen hfull
      clear hi hz
      go_wp2
      go_ret
      rw [Hput.out]
      exact ⟨rfl, RqPost.same HQ.out HF2.out H15.out HE2.out hS14 hQ14⟩
    · have Hput := Lib.hid (show putC rs p lim = (0, rs.take at0 ++ p :: rs.drop at0) by unfold putC; rw [← Hat.out, hi, if_neg Bool.false_ne_true, if_neg hfull])
      have hfull' : (rs.length : Int) < lim := by omega
      obtain ⟨i0, hi0, hz0', hz1, hz2⟩ := info42
      obtain ⟨z, hz⟩ : ∃ z, z = rs.length := ⟨_, rfl⟩
      rw [← hz] at dT hlen hfull' hple
      have hNr : N ≤ w2.heap.size := Nat.le_trans hN0 HB2.out.size
      have Hz := Lib.hid hz
      have HO2 := Lib.hid (show OwnZ N ρ0 w2 rQ 45 5 (.slice ao z cap) z (flat rs) by have := HQ2.out.row; rw [Hv.out, ← hz] at this; exact this)
      have HS2 := Lib.hid HQ2.out.st
      have hT2 : T < w2.heap.size := Nat.lt_of_lt_of_le hT0 HB2.out.size
      have hb2 : bx < w2.heap.size := Nat.lt_of_lt_of_le hz0 HB2.out.size
      clear hi hz hfull
      go_wp2
      go_region_law (refine step_append_lies _ rfl (.tmp 38) (.tmp 40) 38 rfl N 45 i0 _ 5 40 Try.underlying38 hi0 hz0' hz1 hz2 rfl (by decide) (.slice ao z cap) z (flat rs) (by simp [Act.eval]) (World.ownsRow.alloc (World.ownsRow.drew HO2.out.1) _) ⟨w2.heap.size, 0, none⟩ 1 1 (rc p) (by simp [Act.eval]) rfl (news_rt w2.drew p _) (rc_one p) (by decide) (by unfold maxLen; omega) (by omega) (by simp; omega) (w2.heap.size + 1) (by simp) ?_; intro g4 cap4 w4 hown4 hgrow4 hat4 hgz4; obtain ⟨hS4, ρ4, hF4, hE4, hB4, hS5, hO5, h154⟩ := pushZ HF2.out HQ2.out.role hS14 HS2.out (c := 35) (by decide) hSQ HO2.out (((Below.refl w2.heap.size w2).drew).alloc (Nat.le_refl _) _) hown4 hgrow4 (by simpa using hat4) hgz4; have s1 := (hS4 35 (by decide)).1; have s2 := (hS4 35 (by decide)).2; have HF4 := Lib.hid hF4; have HE4 := Lib.hid hE4; have HB4 := Lib.hid hB4; have HS4 := Lib.hid hS5; have HO4 := Lib.hid hO5; have H154 := Lib.hid (h154 hQ15 H15.out); clear hS4 hF4 hE4 hB4 hS5 hO5 h154 hown4 hgrow4 hat4)
      all_goals
        generalize w4.setCell ⟨T, 35, none⟩ (Value.slice (some ⟨g4, 0, none⟩) (z + 1) cap4) = w5 at *
        clear s1 s2 hgz4 d0 d1 d2 d3 d4 dT
        have h13 : ¬ (13 = rS ∨ 13 = rQ) := by omega
        have e0 := (evc HE4.out 0 hb2 (by rw [Hb0.out]; decide) (by rw [Hb0.out]; exact h13)).trans ((HB2.out.cell (p := ⟨bx, 0, none⟩) hz0).trans (HSb.out 0 (by decide)).1)
        have e1 := (evc HE4.out 1 hb2 (by rw [Hb0.out]; decide) (by rw [Hb0.out]; exact h13)).trans ((HB2.out.cell (p := ⟨bx, 1, none⟩) hz0).trans (HSb.out 1 (by decide)).1)
        have e2 := (evc HE4.out 2 hb2 (by rw [Hb0.out]; decide) (by rw [Hb0.out]; exact h13)).trans ((HB2.out.cell (p := ⟨bx, 2, none⟩) hz0).trans (HSb.out 2 (by decide)).1)
        have e3 := (evc HE4.out 3 hb2 (by rw [Hb0.out]; decide) (by rw [Hb0.out]; exact h13)).trans ((HB2.out.cell (p := ⟨bx, 3, none⟩) hz0).trans (HSb.out 3 (by decide)).1)
        have e4 := (evc HE4.out 4 hb2 (by rw [Hb0.out]; decide) (by rw [Hb0.out]; exact h13)).trans ((HB2.out.cell (p := ⟨bx, 4, none⟩) hz0).trans (HSb.out 4 (by decide)).1)
        have HEb := Lib.hid (And.intro e0 (And.intro e1 (And.intro e2 (And.intro e3 e4))))
        have hb5 : bx < w5.heap.size := Nat.lt_of_lt_of_le hb2 HE4.out.size
        have Hb5 : Hid (ρ4 bx = 13) := by show _ = _; rw [HE4.out.role bx hb2 (by rw [Hb0.out]; decide)]; exact Hb0.out
        have hgT : T ≠ g4 := fun e => by have h1 := HO4.out.2 g4 rfl; have h2 := HB4.out; rw [e, h1] at h2; exact hSQ h2
        have hgb : bx ≠ g4 := fun e => by have h1 := HO4.out.2 g4 rfl; have h2 := Hb5.out; rw [e, h1] at h2; exact hQ13 h2
        have cT := (HS4.out 35 (by decide)).1
        rw [upd_same] at cT
        have HcT := Lib.hid cT
        have hT5 : T < w5.heap.size := HS4.out.lt (by decide)
        have HR5 := Lib.hid (show RwO w5 N (.slice (some ⟨g4, 0, none⟩) (z + 1) cap4) (rs.take z ++ p :: rs.drop z) by
          have := HO4.out.1
          rw [flat_snoc] at this
          rw [Hz.out, List.take_length, List.drop_length]
          unfold RwO
          rw [List.length_append, ← Hz.out]
          exact this)
        have HO4g := Lib.hid (HO4.out.2 g4 rfl)
        clear e0 e1 e2 e3 e4 HO4
        go_wp2
        clear cT
        go_loopw [8] (fun i wr => ∃ (k : Nat) (y : Rt), at0 ≤ k ∧ k ≤ z ∧ i = .int .i64 k ∧ Hid (RwO wr N (.slice (some ⟨g4, 0, none⟩) (z + 1) cap4) (rs.take k ++ y :: rs.drop k)) ∧ Hid (w5.grownBy wr (some g4))) (fun i _ => (intOf i).toNat)
        case atStart => exact ⟨z, p, hple, Nat.le_refl _, by go_num, HR5, ⟨rfl, rfl, rfl, Nat.le_refl _, fun _ _ _ => rfl⟩⟩
        case round =>
          obtain ⟨k, y, hk0, hk1, rfl, HRk, HGk⟩ := hrel
          have cT : wr.cell? ⟨T, 35, none⟩ = _ := (HGk.out.cell_far ⟨T, 35, none⟩ hT5 (fun e => hgT (by simpa using e))).trans HcT.out
          by_cases hlt : at0 < k
          · obtain ⟨j, hj⟩ : ∃ j, k = j + 1 := ⟨k - 1, by omega⟩
            have hjl : j < rs.length := by rw [← Hz.out]; omega
            obtain ⟨r, hr⟩ : ∃ r, rs[j]? = some r := ⟨_, List.getElem?_eq_getElem hjl⟩
            have hx : (rs.take k ++ y :: rs.drop k)[j]? = some r := by rw [List.getElem?_append_left (by rw [List.length_take, ← Hz.out]; omega), List.getElem?_take, if_pos (by omega), hr]
            have hy : (rs.take k ++ y :: rs.drop k)[k]? = some y := by rw [List.getElem?_append_right (by rw [List.length_take]; omega), List.length_take, ← Hz.out, Nat.min_eq_left hk1, Nat.sub_self]; rfl
            obtain ⟨g5, hg5, hatj, hfz, -, -⟩ := RwO.at HRk.out hx
            obtain ⟨g6, hg6, hatk, -, -, -⟩ := RwO.at HRk.out hy
            obtain rfl : g4 = g5 := by simpa using hg5
            obtain rfl : g4 = g6 := by simpa using hg6
            have j0 := hatj.c0
            have j1 := hatj.c1
            have j2 := hatj.c2
            have j3 := hatj.c3
            have j4 := hatj.c4
            have k0 := hatk.c0
            have k1 := hatk.c1
            have k2 := hatk.c2
            have k3 := hatk.c3
            have k4 := hatk.c4
            have f0 := hfz (k * 5)
            have f1 := hfz (k * 5 + 1)
            have f2 := hfz (k * 5 + 2)
            have f3 := hfz (k * 5 + 3)
            have f4 := hfz (k * 5 + 4)
            have q5 : (k : Int) - 1 = (j : Int) := by omega
            have q6 : (at0 : Int) < (k : Int) := by omega
            have q7 : (k : Int) < (z : Int) + 1 := by omega
            have q8 : (j : Int) < (z : Int) + 1 := by omega
            have Hj := Lib.hid hj
            have Hr := Lib.hid hr
            clear hx hy hg5 hg6 hatj hatk hfz hr hj
            go_wp2
            go_region
            all_goals
              go_wp2
              go_roundw
              case rel =>
                refine ⟨j, r, by have := Hj.out; omega, by have := Hj.out; omega, by go_num, ?_, ?_⟩
                · exact shift_set Hj.out Hr.out HRk.out
                · exact grown_drew (grown_trans HGk.out (grown5 wr g4 (k * 5) _ _ _ _ _))
              case measure => simp [intOf]; have := Hj.out; omega
          · obtain rfl : k = at0 := by omega
            have hy : (rs.take k ++ y :: rs.drop k)[k]? = some y := by rw [List.getElem?_append_right (by rw [List.length_take]; omega), List.length_take, ← Hz.out, Nat.min_eq_left hk1, Nat.sub_self]; rfl
            obtain ⟨g6, hg6, hatk, hfz, -, -⟩ := RwO.at HRk.out hy
            obtain rfl : g4 = g6 := by simpa using hg6
            have k0 := hatk.c0
            have k1 := hatk.c1
            have k2 := hatk.c2
            have k3 := hatk.c3
            have k4 := hatk.c4
            have f0 := hfz (k * 5)
            have f1 := hfz (k * 5 + 1)
            have f2 := hfz (k * 5 + 2)
            have f3 := hfz (k * 5 + 3)
            have f4 := hfz (k * 5 + 4)
            have q7 : (k : Int) < (z : Int) + 1 := by omega
            have e0 : wr.cell? ⟨bx, 0, none⟩ = _ := (HGk.out.cell_far ⟨bx, 0, none⟩ hb5 (fun e => hgb (by simpa using e))).trans HEb.out.1
            have e1 : wr.cell? ⟨bx, 1, none⟩ = _ := (HGk.out.cell_far ⟨bx, 1, none⟩ hb5 (fun e => hgb (by simpa using e))).trans HEb.out.2.1
            have e2 : wr.cell? ⟨bx, 2, none⟩ = _ := (HGk.out.cell_far ⟨bx, 2, none⟩ hb5 (fun e => hgb (by simpa using e))).trans HEb.out.2.2.1
            have e3 : wr.cell? ⟨bx, 3, none⟩ = _ := (HGk.out.cell_far ⟨bx, 3, none⟩ hb5 (fun e => hgb (by simpa using e))).trans HEb.out.2.2.2.1
            have e4 : wr.cell? ⟨bx, 4, none⟩ = _ := (HGk.out.cell_far ⟨bx, 4, none⟩ hb5 (fun e => hgb (by simpa using e))).trans HEb.out.2.2.2.2
            rw [show (#[Value.int .i64 p.f, .int .u64 p.hi, .int .u64 p.lo, .int .i64 p.n, .int .i64 p.g]).getD 0 undef = .int .i64 p.f from rfl] at e0
            rw [show (#[Value.int .i64 p.f, .int .u64 p.hi, .int .u64 p.lo, .int .i64 p.n, .int .i64 p.g]).getD 1 undef = .int .u64 p.hi from rfl] at e1
            rw [show (#[Value.int .i64 p.f, .int .u64 p.hi, .int .u64 p.lo, .int .i64 p.n, .int .i64 p.g]).getD 2 undef = .int .u64 p.lo from rfl] at e2
            rw [show (#[Value.int .i64 p.f, .int .u64 p.hi, .int .u64 p.lo, .int .i64 p.n, .int .i64 p.g]).getD 3 undef = .int .i64 p.n from rfl] at e3
            rw [show (#[Value.int .i64 p.f, .int .u64 p.hi, .int .u64 p.lo, .int .i64 p.n, .int .i64 p.g]).getD 4 undef = .int .i64 p.g from rfl] at e4
            clear hy hg6 hatk hfz
            go_wp2
            go_region
            all_goals
              go_wp2
              go_ret
              rw [Hput.out]
              exact ⟨rfl, put_done ((HE2.out _).trans HE4.out) HF4.out H154.out HB4.out HS4.out HO4g.out hSQ (grown_drew (grown_trans HGk.out (grown5 wr g4 (k * 5) _ _ _ _ _))) (place_set (by rw [← Hz.out]; exact hk1) HRk.out)⟩
end Go.Proofs.Ytnfkgnjeamnhfab
namespace Go.Proofs.Ytnfkgnjeamnhfab
open Go.RowKit Go.Sort

/-- Take, as the program has it. -/
def takeC (rs : List Rt) (p : Rt) : Int × List Rt := if isB rs (plc rs p) p then (0, rs.eraseIdx (plc rs p)) else (8, rs)
theorem erase_at {rs : List Rt} {a j : Nat} {r : Rt} (ha : a ≤ j) (hr : rs[j + 1]? = some r) : (rs.eraseIdx a)[j]? = some r := by
  rw [List.getElem?_eraseIdx, if_neg (by omega), hr]
theorem erase_start {rs : List Rt} {a : Nat} (ha : a < rs.length) : (rs.eraseIdx a).take a ++ rs.drop a = rs := by
  rw [List.eraseIdx_eq_take_drop_succ, List.take_append_of_le_length (by rw [List.length_take]; omega), List.take_take, Nat.min_self, List.take_append_drop]
theorem erase_step {w : World} {N : Nat} {v : Value} {rs : List Rt} {a j : Nat} {r : Rt} (ha : a ≤ j) (hr : rs[j + 1]? = some r) (h : RwO w N v (((rs.eraseIdx a).take j ++ rs.drop j).set j r)) : RwO w N v ((rs.eraseIdx a).take (j + 1) ++ rs.drop (j + 1)) := by
  have hl := (List.getElem?_eq_some_iff.1 hr).1
  have he := erase_at ha hr
  have hel := (List.getElem?_eq_some_iff.1 he).1
  have hd : rs.drop j = rs[j] :: rs.drop (j + 1) := List.drop_eq_getElem_cons (by omega)
  rw [hd, set_app _ _ _ _ (by rw [List.length_take]; omega)] at h
  rw [List.take_add_one, he, List.append_assoc]
  exact h
theorem RwO.shrink {w : World} {N g n cap : Nat} {E : List Rt} {x : Rt} (h : RwO w N (.slice (some ⟨g, 0, none⟩) n cap) (E ++ [x])) : RwO w N (.slice (some ⟨g, 0, none⟩) E.length cap) E := by
  refine ⟨flat_len E, .inr ?_⟩
  rcases h.2 with ⟨h1, _⟩ | ⟨g', cap', cur, hv, hb, hgg, hc, hm, hs, ht⟩
  · cases h1
  · obtain ⟨rfl, -, rfl⟩ : g = g' ∧ n = (E ++ [x]).length ∧ cap = cap' := by simpa using hv
    refine ⟨g, cap, cur, rfl, hb, hgg, by simp at hc; omega, hm, hs, ?_⟩
    have : cur.toList.take (E.length * 5) = (cur.toList.take ((E ++ [x]).length * 5)).take (E.length * 5) := by rw [List.take_take, Nat.min_eq_left (by simp; omega)]
    rw [this, ht, flat_append, List.take_left' (flat_len E)]
theorem erase_end {w : World} {N g n cap z : Nat} {rs : List Rt} {a : Nat} (ha : a < rs.length) (hz : rs.length = z + 1) (h : RwO w N (.slice (some ⟨g, 0, none⟩) n cap) ((rs.eraseIdx a).take z ++ rs.drop z)) : RwO w N (.slice (some ⟨g, 0, none⟩) z cap) (rs.eraseIdx a) := by
  have hl : (rs.eraseIdx a).length = z := by rw [List.length_eraseIdx, if_pos ha]; omega
  have hd : rs.drop z = [rs[z]] := by rw [List.drop_eq_getElem_cons (by omega), List.drop_of_length_le (by omega)]
  rw [List.take_of_length_le (by omega), hd] at h
  have := h.shrink
  rw [hl] at this
  exact this
theorem Ev.drewR {R : Nat → Prop} {ρ ρ' : Nat → Nat} {w w' : World} (h : Ev R ρ w ρ' w') : Ev R ρ w ρ' w'.drew := ⟨h.os, h.tape, h.output, h.size, h.role, h.block⟩
theorem take_done {N : Nat} {ρ ρ0 : Nat → Nat} {w w2 w3 : World} {T rS rQ g n n' cap : Nat} {f : Nat → Value} {rs rs' : List Rt} (hq : Rq N ρ0 w2 T rS rQ 35 f rs) (hE : ∀ R, Ev R ρ w ρ0 w2) (hF : Fr ρ0 w2) (h15 : ∀ k, ρ0 k ≠ 15) (hv : f 35 = .slice (some ⟨g, 0, none⟩) n cap) (hSQ : rQ ≠ rS)
    (hg : w2.grownBy w3 (some g)) (hr : RwO w3 N (.slice (some ⟨g, 0, none⟩) n' cap) rs') : RqPost N ρ w T rS rQ 35 f rs' (w3.setCell ⟨T, 35, none⟩ (.slice (some ⟨g, 0, none⟩) n' cap)).drew := by
  have hlt := hq.st.lt (by decide)
  have hgr : ρ0 g = rQ := hq.row.2 g (by rw [hv]; rfl)
  have hne : g ≠ T := fun e => by have := hq.role; rw [← e, hgr] at this; exact hSQ this
  have hst : St w3 T 36 f := hq.st.same (hg.block T hlt (fun e => hne (by simpa using e.symm)))
  have hE3 : Ev (fun q => q = rS ∨ q = rQ) ρ0 w2 ρ0 w3 := Ev.of_grown ρ0 hg (fun k hk => by cases hk; exact .inr (.inr hgr))
  refine ⟨ρ0, _, ⟨hq.role, hst.set (by decide) _, ?_, ?_⟩, fun j hj => upd_ne hj, hF.grow (by simp [World.setCell]; exact hg.size), h15, (hE _).trans (Ev.drewR (hE3.trans (Ev.of_set ρ0 _ T 35 _ (.inr (.inl hq.role)))))⟩
  · rw [upd_same]
    refine ⟨hr.1, ?_⟩
    rcases hr.2 with ⟨h', _⟩ | ⟨g', cap', cur, hv', hb, hgg, rest⟩
    · cases h'
    · have : g' = g := by simp at hv'; exact hv'.1.symm
      subst this
      exact .inr ⟨g', cap', cur, hv', hb, by show (w3.setCell _ _).heap[g']? = _; rw [Below.heap_setCell _ _ _ _ hne]; exact hgg, rest⟩
  · rw [upd_same]; intro k hk; simp [Value.ownBlock] at hk; subst hk; exact hgr

set_option maxRecDepth 4000 in
set_option maxHeartbeats 4000000 in
theorem rtTake_any (N : Nat) (ρ : Nat → Nat) (T rS rQ : Nat) (f : Nat → Value) (rs : List Rt) (p : Rt) (w : World) (hF : Fr ρ w) (h15 : ∀ k, ρ k ≠ 15) (hq : Rq N ρ w T rS rQ 35 f rs)
    (hS14 : rS ≠ 14) (hQ14 : rQ ≠ 14) (hSQ : rQ ≠ rS) (hlen : rs.length ≤ 1000) :
    Calls Try.prog 57 #[.pointer (some ⟨T, 35, none⟩), .agg #[.int .i64 p.f, .int .u64 p.hi, .int .u64 p.lo, .int .i64 p.n]] w fun e w' => e = .returned (.int .i64 (takeC rs p).1) ∧ RqPost N ρ w T rS rQ 35 f (takeC rs p).2 w' := by
  obtain ⟨ρ0, hE0, hF0, hb0, h150⟩ := boxE hF h15 (.cells #[.int .i64 p.f, .int .u64 p.hi, .int .u64 p.lo, .int .i64 p.n] 43)
  obtain ⟨w0, hw0⟩ : ∃ w0, w0 = w.alloc (.cells #[.int .i64 p.f, .int .u64 p.hi, .int .u64 p.lo, .int .i64 p.n] 43) := ⟨_, rfl⟩
  obtain ⟨bx, hbx⟩ : ∃ bx, bx = w.heap.size := ⟨_, rfl⟩
  have hz0 : bx < w0.heap.size := by rw [hw0, hbx]; simp
  have hSb : St w0 bx 4 (fun j => (#[Value.int .i64 p.f, .int .u64 p.hi, .int .u64 p.lo, .int .i64 p.n]).getD j undef) := by rw [hw0, hbx]; exact St.new w _ _
  rw [← hw0] at hE0 hF0
  have hq0 := hq.ev (hE0 (fun _ => False)) id id hS14 hQ14
  have hT0 := hq0.st.lt (by decide)
  obtain ⟨ao, cap, hv, hm⟩ := RwO.form hq0.row.1
  have hc0 := (hq0.st 35 (by decide)).1
  rw [hv] at hc0
  have HP := Lib.hid (fun (w1 : World) (hb : Below w0.heap.size w0 w1) => place_any N T (f 35) rs p w1 ((hb.cell (p := ⟨T, 35, none⟩) hT0).trans (hq0.st 35 (by decide)).1) ((hq0.row.ev (Ev.of_below (R := fun _ => False) ρ0 hb) id hQ14).1))
  have HI := Lib.hid (fun (w1 : World) (hb : Below w0.heap.size w0 w1) => isAt_any N T (f 35) rs (plc rs p) p w1 ((hb.cell (p := ⟨T, 35, none⟩) hT0).trans (hq0.st 35 (by decide)).1) ((hq0.row.ev (Ev.of_below (R := fun _ => False) ρ0 hb) id hQ14).1) (plc_le rs p))
  have HQ := Lib.hid hq
  have HQ0 := Lib.hid hq0
  have HE := Lib.hid hE0
  have HF := Lib.hid hF0
  have H15 := Lib.hid h150
  have Hw0 := Lib.hid hw0
  have Hbx := Lib.hid hbx
  have b0 : w0.cell? ⟨bx, 0, none⟩ = some (.int .i64 p.f) := (hSb 0 (by decide)).1
  have b1 : w0.cell? ⟨bx, 1, none⟩ = some (.int .u64 p.hi) := (hSb 1 (by decide)).1
  have b2 : w0.cell? ⟨bx, 2, none⟩ = some (.int .u64 p.lo) := (hSb 2 (by decide)).1
  have b3 : w0.cell? ⟨bx, 3, none⟩ = some (.int .i64 p.n) := (hSb 3 (by decide)).1
  have Hv := Lib.hid hv
  have hple := plc_le rs p
  obtain ⟨at0, hat0⟩ : ∃ a, a = plc rs p := ⟨_, rfl⟩
  rw [← hat0] at HP HI hple
  have Hat := Lib.hid hat0
  clear hw0 hbx hq hq0 hE0 hF0 h150 hb0 hSb hF h15 hv hm hat0
  go_enter Try.func57, Try.ntmps57
  go_wp2_with fail
  rw [← Hw0.out, ← Hbx.out]
  refine (HP.out _ (Below.refl _ _)).mono ?_
  rintro e w1 ⟨rfl, hb1⟩
  have HB1 := Lib.hid hb1
  have d0 := (hb1.cell (p := ⟨bx, 0, none⟩) hz0).trans b0
  have d1 := (hb1.cell (p := ⟨bx, 1, none⟩) hz0).trans b1
  have d2 := (hb1.cell (p := ⟨bx, 2, none⟩) hz0).trans b2
  have d3 := (hb1.cell (p := ⟨bx, 3, none⟩) hz0).trans b3
  clear hb1
  go_wp2_with fail
  refine (HI.out _ HB1.out).mono ?_
  rintro e w2 ⟨rfl, hb2⟩
  have HB2 := Lib.hid (HB1.out.trans (hb2.mono HB1.out.size))
  clear d0 d1 d2 d3 hb2 HP HI
  have dT := (HB2.out.cell (p := ⟨T, 35, none⟩) hT0).trans hc0
  have HQ2 := Lib.hid (HQ0.out.ev (Ev.of_below (R := fun _ => False) ρ0 HB2.out) id id hS14 hQ14)
  have HF2 := Lib.hid (HF.out.grow HB2.out.size)
  have HE2 := Lib.hid (fun R => (HE.out R).trans (Ev.of_below ρ0 HB2.out))
  clear b0 b1 b2 b3 hc0
  cases hi : isB rs at0 p with
  | false =>
    have Hput := Lib.hid (show takeC rs p = (8, rs) by unfold takeC; rw [← Hat.out, hi, if_neg Bool.false_ne_true])
    clear hi
    go_wp2
    go_ret
    rw [Hput.out]
    exact ⟨rfl, RqPost.same HQ.out HF2.out H15.out HE2.out hS14 hQ14⟩
  | true =>
    have Hput := Lib.hid (show takeC rs p = (0, rs.eraseIdx at0) by unfold takeC; rw [← Hat.out, hi, if_pos rfl])
    obtain ⟨r, hr, -⟩ := isB_some hi
    have hw2 : RwO w2 N (.slice ao rs.length cap) rs := by have := HQ2.out.row.1; rw [Hv.out] at this; exact this
    obtain ⟨g, hg, -, -, -, -⟩ := RwO.at hw2 hr
    subst hg
    have hk := (List.getElem?_eq_some_iff.1 hr).1
    have Hk := Lib.hid hk
    obtain ⟨y, hy⟩ : ∃ y, rs.length = y + 1 := ⟨rs.length - 1, by omega⟩
    obtain ⟨z, hz⟩ : ∃ z, z = rs.length := ⟨_, rfl⟩
    have HR2 := Lib.hid (show RwO w2 N (.slice (some ⟨g, 0, none⟩) z cap) ((rs.eraseIdx at0).take at0 ++ rs.drop at0) by rw [erase_start hk, hz]; exact hw2)
    rw [← hz] at dT hlen hple hk hy
    have Hz := Lib.hid hz
    have Hy := Lib.hid hy
    have HS2 := Lib.hid HQ2.out.st
    have hT2 : T < w2.heap.size := Nat.lt_of_lt_of_le hT0 HB2.out.size
    have Hvz := Lib.hid (show f 35 = .slice (some ⟨g, 0, none⟩) z cap by rw [Hv.out, ← hz])
    have hgT : T ≠ g := fun e => by have h1 := HQ2.out.row.2 g (by rw [Hvz.out]; rfl); have h2 := HQ2.out.role; rw [e, h1] at h2; exact hSQ h2
    have HcT := Lib.hid dT
    clear hr hi hz hw2 hy
    go_wp2
    clear dT
    go_loopw [6] (fun i wr => ∃ (j : Nat), at0 ≤ j ∧ j + 1 ≤ z ∧ i = .int .i64 ((j + 1 : Nat) : Int) ∧ Hid (RwO wr N (.slice (some ⟨g, 0, none⟩) z cap) ((rs.eraseIdx at0).take j ++ rs.drop j)) ∧ Hid (w2.grownBy wr (some g))) (fun i _ => z - (intOf i).toNat)
    case atStart => exact ⟨at0, Nat.le_refl _, hk, by go_num, HR2, ⟨rfl, rfl, rfl, Nat.le_refl _, fun _ _ _ => rfl⟩⟩
    case round =>
      obtain ⟨j, hj0, hj1, hjv, HRk, HGk⟩ := hrel
      obtain ⟨k, hkj⟩ : ∃ k, k = j + 1 := ⟨_, rfl⟩
      rw [← hkj] at hjv
      subst hjv
      have cT : wr.cell? ⟨T, 35, none⟩ = some (.slice (some ⟨g, 0, none⟩) z cap) := (HGk.out.cell_far ⟨T, 35, none⟩ hT2 (fun e => hgT (by simpa using e))).trans HcT.out
      have Hkj := Lib.hid hkj
      by_cases hlt : k < z
      · obtain ⟨x, hx⟩ : ∃ x, rs[k]? = some x := ⟨_, List.getElem?_eq_getElem (by rw [← Hz.out]; exact hlt)⟩
        have hel : (rs.eraseIdx at0).length = z - 1 := by rw [List.length_eraseIdx, if_pos Hk.out, Hz.out]
        have hx1 : ((rs.eraseIdx at0).take j ++ rs.drop j)[k]? = some x := by rw [List.getElem?_append_right (by rw [List.length_take]; omega), List.length_take, hel, Nat.min_eq_left (by omega), List.getElem?_drop, show j + (k - j) = k by omega, hx]
        obtain ⟨u, hu⟩ : ∃ u, rs[j]? = some u := ⟨_, List.getElem?_eq_getElem (by rw [← Hz.out]; omega)⟩
        have hu1 : ((rs.eraseIdx at0).take j ++ rs.drop j)[j]? = some u := by rw [List.getElem?_append_right (by rw [List.length_take]; omega), List.length_take, hel, Nat.min_eq_left (by omega), List.getElem?_drop, show j + (j - j) = j by omega, hu]
        obtain ⟨g5, hg5, hatj, hfz, -, -⟩ := RwO.at HRk.out hu1
        obtain ⟨g6, hg6, hatk, -, -, -⟩ := RwO.at HRk.out hx1
        obtain rfl : g = g5 := by simpa using hg5
        obtain rfl : g = g6 := by simpa using hg6
        have j0 := hatj.c0
        have j1 := hatj.c1
        have j2 := hatj.c2
        have j3 := hatj.c3
        have j4 := hatj.c4
        have k0 := hatk.c0
        have k1 := hatk.c1
        have k2 := hatk.c2
        have k3 := hatk.c3
        have k4 := hatk.c4
        have f0 := hfz (j * 5)
        have f1 := hfz (j * 5 + 1)
        have f2 := hfz (j * 5 + 2)
        have f3 := hfz (j * 5 + 3)
        have f4 := hfz (j * 5 + 4)
        have q5 : (k : Int) - 1 = (j : Int) := by omega
        have q7 : (k : Int) < (z : Int) := by omega
        have q8 : (j : Int) < (z : Int) := by omega
        have Hx := Lib.hid hx
        have Hel := Lib.hid hel
        clear hx hu hx1 hu1 hg5 hg6 hatj hatk hfz hkj hel
        go_wp2
        go_region
        all_goals
          go_wp2
          go_roundw
          case rel =>
            refine ⟨j + 1, by omega, by have := Hkj.out; omega, by rw [Hkj.out]; go_num, ?_, ?_⟩
            · exact (erase_step hj0 (by rw [← Hkj.out]; exact Hx.out) (HRk.out.set (by rw [List.length_append, List.length_take, List.length_drop, Hel.out, ← Hz.out]; omega) x)).drew
            · exact grown_drew (grown_trans HGk.out (grown5 wr g (j * 5) _ _ _ _ _))
          case measure => simp [intOf]; have := Hkj.out; omega
      · have hjy : j = y := by have := Hy.out; omega
        subst hjy
        have Hrow := Lib.hid (erase_end (by exact Hk.out) (by rw [← Hz.out]; exact Hy.out) HRk.out)
        have q5 : (z : Int) - 1 = (j : Int) := by have := Hy.out; omega
        have q6 : (z : Int) ≤ (k : Int) := by omega
        have hcap : z ≤ cap := by
          rcases HRk.out.2 with ⟨h', _⟩ | ⟨g', cap', cur, hv', _, _, hc, _⟩
          · cases h'
          · obtain ⟨-, h2, h3⟩ : _ ∧ z = _ ∧ cap = cap' := by simpa using hv'
            rw [h3, h2]; simpa using hc
        have q8 : (j : Int) ≤ (cap : Int) := by omega
        have fT : wr.frozen? ⟨T, 35, none⟩ = false := (HGk.out.frozen_far ⟨T, 35, none⟩ hT2 (fun e => hgT (by simpa using e))).trans (HS2.out 35 (by decide)).2
        clear hkj
        go_wp2
        go_region
        all_goals
          go_wp2
          go_ret
          rw [Hput.out]
          exact ⟨rfl, take_done HQ2.out HE2.out HF2.out H15.out Hvz.out hSQ HGk.out Hrow.out⟩
end Go.Proofs.Ytnfkgnjeamnhfab
