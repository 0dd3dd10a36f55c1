import Derived.Test.YteocfjiijmdjcaaGreatRf
namespace Go.Proofs.YteocfjiijmdjcaaGreat
open Go.RowKit Go.Sort

/-- Take, as the program has it. -/
def takeC (rs : List Rt) (p : Rt) : Int × List Rt := if isB rs (plc rs p) p then (0, rs.eraseIdx (plc rs p)) else (8, rs)
theorem erase_at {rs : List Rt} {a j : Nat} {r : Rt} (ha : a ≤ j) (hr : rs[j + 1]? = some r) : (rs.eraseIdx a)[j]? = some r := by
  rw [List.getElem?_eraseIdx, if_neg (by omega), hr]
theorem erase_start {rs : List Rt} {a : Nat} (ha : a < rs.length) : (rs.eraseIdx a).take a ++ rs.drop a = rs := by
  rw [List.eraseIdx_eq_take_drop_succ, List.take_append_of_le_length (by rw [List.length_take]; omega), List.take_take, Nat.min_self, List.take_append_drop]
theorem erase_step {w : World} {N : Nat} {v : Value} {rs : List Rt} {a j : Nat} {r : Rt} (ha : a ≤ j) (hr : rs[j + 1]? = some r) (h : RwO w N v (((rs.eraseIdx a).take j ++ rs.drop j).set j r)) : RwO w N v ((rs.eraseIdx a).take (j + 1) ++ rs.drop (j + 1)) := by
  have hl := (List.getElem?_eq_some_iff.1 hr).1
  have he := erase_at ha hr
  have hel := (List.getElem?_eq_some_iff.1 he).1
  have hd : rs.drop j = rs[j] :: rs.drop (j + 1) := List.drop_eq_getElem_cons (by omega)
  rw [hd, set_app _ _ _ _ (by rw [List.length_take]; omega)] at h
  rw [List.take_add_one, he, List.append_assoc]
  exact h
theorem RwO.shrink {w : World} {N g n cap : Nat} {E : List Rt} {x : Rt} (h : RwO w N (.slice (some ⟨g, 0, none⟩) n cap) (E ++ [x])) : RwO w N (.slice (some ⟨g, 0, none⟩) E.length cap) E := by
  refine ⟨flat_len E, .inr ?_⟩
  rcases h.2 with ⟨h1, _⟩ | ⟨g', cap', cur, hv, hb, hgg, hc, hm, hs, ht⟩
  · cases h1
  · obtain ⟨rfl, -, rfl⟩ : g = g' ∧ n = (E ++ [x]).length ∧ cap = cap' := by simpa using hv
    refine ⟨g, cap, cur, rfl, hb, hgg, by simp at hc; omega, hm, hs, ?_⟩
    have : cur.toList.take (E.length * 5) = (cur.toList.take ((E ++ [x]).length * 5)).take (E.length * 5) := by rw [List.take_take, Nat.min_eq_left (by simp; omega)]
    rw [this, ht, flat_append, List.take_left' (flat_len E)]
theorem erase_end {w : World} {N g n cap z : Nat} {rs : List Rt} {a : Nat} (ha : a < rs.length) (hz : rs.length = z + 1) (h : RwO w N (.slice (some ⟨g, 0, none⟩) n cap) ((rs.eraseIdx a).take z ++ rs.drop z)) : RwO w N (.slice (some ⟨g, 0, none⟩) z cap) (rs.eraseIdx a) := by
  have hl : (rs.eraseIdx a).length = z := by rw [List.length_eraseIdx, if_pos ha]; omega
  have hd : rs.drop z = [rs[z]] := by rw [List.drop_eq_getElem_cons (by omega), List.drop_of_length_le (by omega)]
  rw [List.take_of_length_le (by omega), hd] at h
  have := h.shrink
  rw [hl] at this
  exact this
theorem Ev.drewR {R : Nat → Prop} {ρ ρ' : Nat → Nat} {w w' : World} (h : Ev R ρ w ρ' w') : Ev R ρ w ρ' w'.drew := ⟨h.os, h.tape, h.output, h.size, h.role, h.block⟩
theorem take_done {N : Nat} {ρ ρ0 : Nat → Nat} {w w2 w3 : World} {T rS rQ g n n' cap : Nat} {f : Nat → Value} {rs rs' : List Rt} (hq : Rq N ρ0 w2 T rS rQ 35 f rs) (hE : ∀ R, Ev R ρ w ρ0 w2) (hF : Fr ρ0 w2) (h15 : ∀ k, ρ0 k ≠ 15) (hv : f 35 = .slice (some ⟨g, 0, none⟩) n cap) (hSQ : rQ ≠ rS)
    (hg : w2.grownBy w3 (some g)) (hr : RwO w3 N (.slice (some ⟨g, 0, none⟩) n' cap) rs') : RqPost N ρ w T rS rQ 35 f rs' (w3.setCell ⟨T, 35, none⟩ (.slice (some ⟨g, 0, none⟩) n' cap)).drew := by
  have hlt := hq.st.lt (by decide)
  have hgr : ρ0 g = rQ := hq.row.2 g (by rw [hv]; rfl)
  have hne : g ≠ T := fun e => by have := hq.role; rw [← e, hgr] at this; exact hSQ this
  have hst : St w3 T 36 f := hq.st.same (hg.block T hlt (fun e => hne (by simpa using e.symm)))
  have hE3 : Ev (fun q => q = rS ∨ q = rQ) ρ0 w2 ρ0 w3 := Ev.of_grown ρ0 hg (fun k hk => by cases hk; exact .inr (.inr hgr))
  refine ⟨ρ0, _, ⟨hq.role, hst.set (by decide) _, ?_, ?_⟩, fun j hj => upd_ne hj, hF.grow (by simp [World.setCell]; exact hg.size), h15, (hE _).trans (Ev.drewR (hE3.trans (Ev.of_set ρ0 _ T 35 _ (.inr (.inl hq.role)))))⟩
  · rw [upd_same]
    refine ⟨hr.1, ?_⟩
    rcases hr.2 with ⟨h', _⟩ | ⟨g', cap', cur, hv', hb, hgg, rest⟩
    · cases h'
    · have : g' = g := by simp at hv'; exact hv'.1.symm
      subst this
      exact .inr ⟨g', cap', cur, hv', hb, by show (w3.setCell _ _).heap[g']? = _; rw [Below.heap_setCell _ _ _ _ hne]; exact hgg, rest⟩
  · rw [upd_same]; intro k hk; simp [Value.ownBlock] at hk; subst hk; exact hgr

set_option maxRecDepth 4000 in
set_option maxHeartbeats 4000000 in
theorem rtTake_any (N : Nat) (ρ : Nat → Nat) (T rS rQ : Nat) (f : Nat → Value) (rs : List Rt) (p : Rt) (w : World) (hF : Fr ρ w) (h15 : ∀ k, ρ k ≠ 15) (hq : Rq N ρ w T rS rQ 35 f rs)
    (hS14 : rS ≠ 14) (hQ14 : rQ ≠ 14) (hSQ : rQ ≠ rS) (hlen : rs.length ≤ 1000) :
    Calls Tryz.prog 68 #[.pointer (some ⟨T, 35, none⟩), .agg #[.int .i64 p.f, .int .u64 p.hi, .int .u64 p.lo, .int .i64 p.n]] w fun e w' => e = .returned (.int .i64 (takeC rs p).1) ∧ RqPost N ρ w T rS rQ 35 f (takeC rs p).2 w' := by
  obtain ⟨ρ0, hE0, hF0, hb0, h150⟩ := boxE hF h15 (.cells #[.int .i64 p.f, .int .u64 p.hi, .int .u64 p.lo, .int .i64 p.n] 33)
  obtain ⟨w0, hw0⟩ : ∃ w0, w0 = w.alloc (.cells #[.int .i64 p.f, .int .u64 p.hi, .int .u64 p.lo, .int .i64 p.n] 33) := ⟨_, rfl⟩
  obtain ⟨bx, hbx⟩ : ∃ bx, bx = w.heap.size := ⟨_, rfl⟩
  have hz0 : bx < w0.heap.size := by rw [hw0, hbx]; simp
  have hSb : St w0 bx 4 (fun j => (#[Value.int .i64 p.f, .int .u64 p.hi, .int .u64 p.lo, .int .i64 p.n]).getD j undef) := by rw [hw0, hbx]; exact St.new w _ _
  rw [← hw0] at hE0 hF0
  have hq0 := hq.ev (hE0 (fun _ => False)) id id hS14 hQ14
  have hT0 := hq0.st.lt (by decide)
  obtain ⟨ao, cap, hv, hm⟩ := RwO.form hq0.row.1
  have hc0 := (hq0.st 35 (by decide)).1
  rw [hv] at hc0
  have HP := Lib.hid (fun (w1 : World) (hb : Below w0.heap.size w0 w1) => place_any N T (f 35) rs p w1 ((hb.cell (p := ⟨T, 35, none⟩) hT0).trans (hq0.st 35 (by decide)).1) ((hq0.row.ev (Ev.of_below (R := fun _ => False) ρ0 hb) id hQ14).1))
  have HI := Lib.hid (fun (w1 : World) (hb : Below w0.heap.size w0 w1) => isAt_any N T (f 35) rs (plc rs p) p w1 ((hb.cell (p := ⟨T, 35, none⟩) hT0).trans (hq0.st 35 (by decide)).1) ((hq0.row.ev (Ev.of_below (R := fun _ => False) ρ0 hb) id hQ14).1) (plc_le rs p))
  have HQ := Lib.hid hq
  have HQ0 := Lib.hid hq0
  have HE := Lib.hid hE0
  have HF := Lib.hid hF0
  have H15 := Lib.hid h150
  have Hw0 := Lib.hid hw0
  have Hbx := Lib.hid hbx
  have b0 : w0.cell? ⟨bx, 0, none⟩ = some (.int .i64 p.f) := (hSb 0 (by decide)).1
  have b1 : w0.cell? ⟨bx, 1, none⟩ = some (.int .u64 p.hi) := (hSb 1 (by decide)).1
  have b2 : w0.cell? ⟨bx, 2, none⟩ = some (.int .u64 p.lo) := (hSb 2 (by decide)).1
  have b3 : w0.cell? ⟨bx, 3, none⟩ = some (.int .i64 p.n) := (hSb 3 (by decide)).1
  have Hv := Lib.hid hv
  have hple := plc_le rs p
  obtain ⟨at0, hat0⟩ : ∃ a, a = plc rs p := ⟨_, rfl⟩
  rw [← hat0] at HP HI hple
  have Hat := Lib.hid hat0
  clear hw0 hbx hq hq0 hE0 hF0 h150 hb0 hSb hF h15 hv hm hat0
  go_enter Tryz.func68, Tryz.ntmps68
  go_wp2_with fail
  rw [← Hw0.out, ← Hbx.out]
  refine (HP.out _ (Below.refl _ _)).mono ?_
  rintro e w1 ⟨rfl, hb1⟩
  have HB1 := Lib.hid hb1
  have d0 := (hb1.cell (p := ⟨bx, 0, none⟩) hz0).trans b0
  have d1 := (hb1.cell (p := ⟨bx, 1, none⟩) hz0).trans b1
  have d2 := (hb1.cell (p := ⟨bx, 2, none⟩) hz0).trans b2
  have d3 := (hb1.cell (p := ⟨bx, 3, none⟩) hz0).trans b3
  clear hb1
  go_wp2_with fail
  refine (HI.out _ HB1.out).mono ?_
  rintro e w2 ⟨rfl, hb2⟩
  have HB2 := Lib.hid (HB1.out.trans (hb2.mono HB1.out.size))
  clear d0 d1 d2 d3 hb2 HP HI
  have dT := (HB2.out.cell (p := ⟨T, 35, none⟩) hT0).trans hc0
  have HQ2 := Lib.hid (HQ0.out.ev (Ev.of_below (R := fun _ => False) ρ0 HB2.out) id id hS14 hQ14)
  have HF2 := Lib.hid (HF.out.grow HB2.out.size)
  have HE2 := Lib.hid (fun R => (HE.out R).trans (Ev.of_below ρ0 HB2.out))
  clear b0 b1 b2 b3 hc0
  cases hi : isB rs at0 p with
  | false =>
    have Hput := Lib.hid (show takeC rs p = (8, rs) by unfold takeC; rw [← Hat.out, hi, if_neg Bool.false_ne_true])
    clear hi
    go_wp2
    go_ret
    rw [Hput.out]
    exact ⟨rfl, RqPost.same HQ.out HF2.out H15.out HE2.out hS14 hQ14⟩
  | true =>
    have Hput := Lib.hid (show takeC rs p = (0, rs.eraseIdx at0) by unfold takeC; rw [← Hat.out, hi, if_pos rfl])
    obtain ⟨r, hr, -⟩ := isB_some hi
    have hw2 : RwO w2 N (.slice ao rs.length cap) rs := by have := HQ2.out.row.1; rw [Hv.out] at this; exact this
    obtain ⟨g, hg, -, -, -, -⟩ := RwO.at hw2 hr
    subst hg
    have hk := (List.getElem?_eq_some_iff.1 hr).1
    have Hk := Lib.hid hk
    obtain ⟨y, hy⟩ : ∃ y, rs.length = y + 1 := ⟨rs.length - 1, by omega⟩
    obtain ⟨z, hz⟩ : ∃ z, z = rs.length := ⟨_, rfl⟩
    have HR2 := Lib.hid (show RwO w2 N (.slice (some ⟨g, 0, none⟩) z cap) ((rs.eraseIdx at0).take at0 ++ rs.drop at0) by rw [erase_start hk, hz]; exact hw2)
    rw [← hz] at dT hlen hple hk hy
    have Hz := Lib.hid hz
    have Hy := Lib.hid hy
    have HS2 := Lib.hid HQ2.out.st
    have hT2 : T < w2.heap.size := Nat.lt_of_lt_of_le hT0 HB2.out.size
    have Hvz := Lib.hid (show f 35 = .slice (some ⟨g, 0, none⟩) z cap by rw [Hv.out, ← hz])
    have hgT : T ≠ g := fun e => by have h1 := HQ2.out.row.2 g (by rw [Hvz.out]; rfl); have h2 := HQ2.out.role; rw [e, h1] at h2; exact hSQ h2
    have HcT := Lib.hid dT
    clear hr hi hz hw2 hy
    go_wp2
    clear dT
    go_loopw [6] (fun i wr => ∃ (j : Nat), at0 ≤ j ∧ j + 1 ≤ z ∧ i = .int .i64 ((j + 1 : Nat) : Int) ∧ Hid (RwO wr N (.slice (some ⟨g, 0, none⟩) z cap) ((rs.eraseIdx at0).take j ++ rs.drop j)) ∧ Hid (w2.grownBy wr (some g))) (fun i _ => z - (intOf i).toNat)
    case atStart => exact ⟨at0, Nat.le_refl _, hk, by go_num, HR2, ⟨rfl, rfl, rfl, Nat.le_refl _, fun _ _ _ => rfl⟩⟩
    case round =>
      obtain ⟨j, hj0, hj1, hjv, HRk, HGk⟩ := hrel
      obtain ⟨k, hkj⟩ : ∃ k, k = j + 1 := ⟨_, rfl⟩
      rw [← hkj] at hjv
      subst hjv
      have cT : wr.cell? ⟨T, 35, none⟩ = some (.slice (some ⟨g, 0, none⟩) z cap) := (HGk.out.cell_far ⟨T, 35, none⟩ hT2 (fun e => hgT (by simpa using e))).trans HcT.out
      have Hkj := Lib.hid hkj
      by_cases hlt : k < z
      · obtain ⟨x, hx⟩ : ∃ x, rs[k]? = some x := ⟨_, List.getElem?_eq_getElem (by rw [← Hz.out]; exact hlt)⟩
        have hel : (rs.eraseIdx at0).length = z - 1 := by rw [List.length_eraseIdx, if_pos Hk.out, Hz.out]
        have hx1 : ((rs.eraseIdx at0).take j ++ rs.drop j)[k]? = some x := by rw [List.getElem?_append_right (by rw [List.length_take]; omega), List.length_take, hel, Nat.min_eq_left (by omega), List.getElem?_drop, show j + (k - j) = k by omega, hx]
        obtain ⟨u, hu⟩ : ∃ u, rs[j]? = some u := ⟨_, List.getElem?_eq_getElem (by rw [← Hz.out]; omega)⟩
        have hu1 : ((rs.eraseIdx at0).take j ++ rs.drop j)[j]? = some u := by rw [List.getElem?_append_right (by rw [List.length_take]; omega), List.length_take, hel, Nat.min_eq_left (by omega), List.getElem?_drop, show j + (j - j) = j by omega, hu]
        obtain ⟨g5, hg5, hatj, hfz, -, -⟩ := RwO.at HRk.out hu1
        obtain ⟨g6, hg6, hatk, -, -, -⟩ := RwO.at HRk.out hx1
        obtain rfl : g = g5 := by simpa using hg5
        obtain rfl : g = g6 := by simpa using hg6
        have j0 := hatj.c0
        have j1 := hatj.c1
        have j2 := hatj.c2
        have j3 := hatj.c3
        have j4 := hatj.c4
        have k0 := hatk.c0
        have k1 := hatk.c1
        have k2 := hatk.c2
        have k3 := hatk.c3
        have k4 := hatk.c4
        have f0 := hfz (j * 5)
        have f1 := hfz (j * 5 + 1)
        have f2 := hfz (j * 5 + 2)
        have f3 := hfz (j * 5 + 3)
        have f4 := hfz (j * 5 + 4)
        have q5 : (k : Int) - 1 = (j : Int) := by omega
        have q7 : (k : Int) < (z : Int) := by omega
        have q8 : (j : Int) < (z : Int) := by omega
        have Hx := Lib.hid hx
        have Hel := Lib.hid hel
        clear hx hu hx1 hu1 hg5 hg6 hatj hatk hfz hkj hel
        go_wp2
        go_region
        all_goals
          go_wp2
          go_roundw
          case rel =>
            refine ⟨j + 1, by omega, by have := Hkj.out; omega, by rw [Hkj.out]; go_num, ?_, ?_⟩
            · exact (erase_step hj0 (by rw [← Hkj.out]; exact Hx.out) (HRk.out.set (by rw [List.length_append, List.length_take, List.length_drop, Hel.out, ← Hz.out]; omega) x)).drew
            · exact grown_drew (grown_trans HGk.out (grown5 wr g (j * 5) _ _ _ _ _))
          case measure => simp [intOf]; have := Hkj.out; omega
      · have hjy : j = y := by have := Hy.out; omega
        subst hjy
        have Hrow := Lib.hid (erase_end (by exact Hk.out) (by rw [← Hz.out]; exact Hy.out) HRk.out)
        have q5 : (z : Int) - 1 = (j : Int) := by have := Hy.out; omega
        have q6 : (z : Int) ≤ (k : Int) := by omega
        have hcap : z ≤ cap := by
          rcases HRk.out.2 with ⟨h', _⟩ | ⟨g', cap', cur, hv', _, _, hc, _⟩
          · cases h'
          · obtain ⟨-, h2, h3⟩ : _ ∧ z = _ ∧ cap = cap' := by simpa using hv'
            rw [h3, h2]; simpa using hc
        have q8 : (j : Int) ≤ (cap : Int) := by omega
        have fT : wr.frozen? ⟨T, 35, none⟩ = false := (HGk.out.frozen_far ⟨T, 35, none⟩ hT2 (fun e => hgT (by simpa using e))).trans (HS2.out 35 (by decide)).2
        clear hkj
        go_wp2
        go_region
        all_goals
          go_wp2
          go_ret
          rw [Hput.out]
          exact ⟨rfl, take_done HQ2.out HE2.out HF2.out H15.out Hvz.out hSQ HGk.out Hrow.out⟩
end Go.Proofs.YteocfjiijmdjcaaGreat
