import Derived.Test.YtnfkgnjeamnhfaaGreatBb
namespace Go.Proofs.YtnfkgnjeamnhfaaGreat
open Go.RowKit

theorem rep_of_all {ys : List Value} {n : Nat} {u : Value} (hl : ys.length = n) (h : ∀ y ∈ ys, y = u) : ys = rep n [u] := by
  induction ys generalizing n with
  | nil => subst hl; rfl
  | cons y ys ih =>
    subst hl
    rw [h y (List.mem_cons_self ..)]
    have := ih (n := ys.length) rfl (fun x hx => h x (List.mem_cons_of_mem _ hx))
    rw [List.length_cons, Nat.add_comm, rep_add, rep_one, ← this]; rfl
theorem adoptZ {N : Nat} {ρ : Nat → Nat} {w : World} {e sz : Nat} {v : Value} {n : Nat} {xs : List Value} (r : Nat) (hF : Fr ρ w) (h : w.ownsRow N e sz v n xs) (h14 : ∀ g, v.ownBlock = some g → ρ g = 14) :
    ∃ ρ1, OwnZ N ρ1 w r e sz v n xs ∧ (∀ R, Ev R ρ w ρ1 w) ∧ Fr ρ1 w := by
  cases hv : v.ownBlock with
  | none => exact ⟨ρ, ⟨h, fun g hg => by rw [hv] at hg; cases hg⟩, fun R => Ev.refl _ _ _, hF⟩
  | some g => exact ⟨rl ρ g r, ⟨h, fun g' hg => by rw [hv] at hg; cases hg; exact rl_same _ _ _⟩, fun R => Ev.rl w r (.inl (h14 g hv)), hF.rl (h.lt g hv).2 r⟩
theorem Bo.set0 {N : Nat} {ρ : Nat → Nat} {w : World} {B : Nat} {mark : Int} {F : Nat → Value} {LI LR LE LC : List (Value × Int)} {K : List (Value × Value)} (h : Bo N ρ w B mark F LI LR LE LC K) (v : Value) : St (w.setCell ⟨B, 0, none⟩ v) B 11 (upd F 0 v) := h.st.set (by decide) v
theorem keepI_fin {N : Nat} {ρ : Nat → Nat} {w : World} {B : Nat} {mark m : Int} {F F2 : Nat → Value} {LI LR LE LC : List (Value × Int)} {K : List (Value × Value)} {n0 : Nat} {l : Value} {ρ2 : Nat → Nat} {wr : World} {L2 : List (Value × Int)} {n : Nat} (hb : Bo N ρ w B mark F LI LR LE LC K) (h15 : ∀ k, ρ k ≠ 15)
    (hM : Mi N ρ w B m 2 3 36 3 1 2 (patI m) (upd F 0 (.int .i64 m)) LI n0 l 4 ρ2 wr F2 L2 n) :
    ∃ ρ' F' L', Bo N ρ' wr B m F' (LI ++ L') LR LE LC K ∧ L'.length = 4 ∧ (∀ j, 3 ≤ j → F' j = F j) ∧ Fr ρ' wr ∧ (∀ k, ρ' k ≠ 15) ∧ Ev (fun q => q = 1 ∨ q = 2 ∨ q = 3) ρ w ρ' wr := by
  obtain ⟨h1, h2, h3, h4, h5, h6⟩ := mi_done (by unfold Rs; omega) (by omega) hb.sI h15 hM
  have hj : ∀ j, j ≠ 1 → j ≠ 2 → j ≠ 0 → F2 j = F j := fun j a b c => by rw [hM.same j a b, upd_ne c]
  refine ⟨doneZ 6 ρ2, F2, L2, ⟨h4, hM.st, by rw [hM.same 0 (by decide) (by decide), upd_same], h1, ?_, ?_, ?_, ?_, fun p hp => ((hb.cts p hp).ev h6 (by decide)).dz 6, ?_⟩, hM.len, fun j hj' => hj j (by omega) (by omega) (by omega), h2, h3, h5⟩
  · rw [hj 3 (by decide) (by decide) (by decide), hj 4 (by decide) (by decide) (by decide)]; exact (hb.sR.ev h6 (by decide) (by decide) (by decide) (by decide) (by decide) (by decide)).dz 6 (by decide) (by decide) (by decide)
  · rw [hj 5 (by decide) (by decide) (by decide), hj 6 (by decide) (by decide) (by decide)]; exact (hb.sE.ev h6 (by decide) (by decide) (by decide) (by decide) (by decide) (by decide)).dz 6 (by decide) (by decide) (by decide)
  · rw [hj 7 (by decide) (by decide) (by decide)]; exact (hb.oH.ev h6 (by decide) (by decide)).dz 6 (by decide)
  · rw [hj 8 (by decide) (by decide) (by decide)]; exact (hb.oU.ev h6 (by decide) (by decide)).dz 6 (by decide)
  · rw [hj 9 (by decide) (by decide) (by decide), hj 10 (by decide) (by decide) (by decide)]; exact (hb.sC.ev h6 (by decide) (by decide) (by decide) (by decide) (by decide) (by decide)).dz 6 (by decide) (by decide) (by decide)

set_option maxHeartbeats 4000000 in
set_option maxRecDepth 4000 in
theorem keepI_any (N : Nat) (ρ : Nat → Nat) (w : World) (B : Nat) (mark : Int) (F : Nat → Value) (LI LR LE LC : List (Value × Int)) (K : List (Value × Value)) (l : Value) (n : Nat) (xs : List Value)
    (hN : N ≤ w.heap.size) (hF : Fr ρ w) (hb : Bo N ρ w B mark F LI LR LE LC K) (hl : w.ownsRow N 3 1 l n xs) (h14 : ∀ g, l.ownBlock = some g → ρ g = 14) (hn : n ≤ 1000) (hL : LI.length + 4 ≤ 5864062014805) (hm1 : -4611686018427387904 ≤ mark) (hm2 : mark ≤ 0) (h15 : ∀ k, ρ k ≠ 15) :
    Calls Tryz.prog 22 #[.pointer (some ⟨B, 0, none⟩), l] w fun e w' => e = .returned (.tuple #[]) ∧ ∃ ρ' F' L', Bo N ρ' w' B (mark - 1) F' (LI ++ L') LR LE LC K ∧ L'.length = 4 ∧ (∀ j, 3 ≤ j → F' j = F j) ∧ Fr ρ' w' ∧ (∀ k, ρ' k ≠ 15) ∧ Ev (fun q => q = 1 ∨ q = 2 ∨ q = 3) ρ w ρ' w' := by
  obtain ⟨i0, hi, hz0, hz1, hz2⟩ := info3
  obtain ⟨i6, hj, hy0, hy1, hy2⟩ := info36
  obtain ⟨ao, cap, rfl, hao⟩ := own_slice hl
  have HB := Lib.hid hb
  have HFr := Lib.hid hF
  have HO := Lib.hid hl
  have H14 := Lib.hid h14
  have hBlt := hb.st.lt (by decide)
  have c0 := (hb.st 0 (by decide)).1
  have f0 := (hb.st 0 (by decide)).2
  rw [hb.mark0] at c0
  have HA := Lib.hid hao
  have H15 := Lib.hid h15
  clear hb hF hl h14 hao h15
  go_enter Tryz.func22, Tryz.ntmps22
  go_wp2
  go_loopw [4] (fun i wr => ∃ (k : Nat) (ys : List Value), k ≤ n ∧ i = .int .i64 k ∧ wr.ownsRow N 3 1 (.slice ao n cap) n ys ∧ (∀ j, j < k → ys[j]? = some (.int .i64 (mark - 1))) ∧ St wr B 11 (upd F 0 (.int .i64 (mark - 1))) ∧ Ev (fun q => q = 1) ρ w ρ wr ∧ Fr ρ wr) (fun i _ => n - (intOf i).toNat)
  case atStart =>
    refine ⟨0, xs, Nat.zero_le _, rfl, ?_, fun j hj => by omega, ?_, ?_, ?_⟩
    · exact own_setOther HO.out (fun g hg e => by have h1 := H14.out g hg; rw [e, HB.out.rB] at h1; omega) _
    · exact HB.out.set0 _
    · exact Ev.of_set ρ w B 0 _ (.inr HB.out.rB)
    · exact HFr.out.grow (by simp [World.setCell])
  case round =>
    obtain ⟨k, ys, hk, rfl, hown, hys, hst, hev, hfr⟩ := hrel
    have HO1 := Lib.hid hown
    have HY := Lib.hid hys
    have HS := Lib.hid hst
    have HE := Lib.hid hev
    have HF := Lib.hid hfr
    have c1 := (hst 0 (by decide)).1
    rw [upd_same] at c1
    clear hown hys hst hev hfr c0 f0
    by_cases hlt : k < n
    · obtain ⟨g, rfl⟩ := HA.out (by omega)
      have hc : ∃ u, wr.cell? ⟨g, k, none⟩ = some u := by
        have := HO1.out.cellAt k (by omega)
        rw [this]
        exact ⟨_, List.getElem?_eq_getElem (by have := HO1.out.1; omega)⟩
      obtain ⟨u, hcu⟩ := hc
      have hfu := HO1.out.frozenAt k
      go_wp2
      go_roundw
      case rel =>
        refine ⟨k + 1, ys.set k (.int .i64 (mark - 1)), by omega, by go_num, (HO1.out.stored k _).1, fun j hj => get_set HY.out (by have := HO1.out.1; omega) hj, HS.out.setOther ?_ _, HE.out.trans (Ev.of_set ρ wr g k _ (.inl (H14.out g rfl))), HF.out.grow (by simp [World.setCell])⟩
        intro e
        have h1 := H14.out g rfl
        rw [show g = B from e.symm, HB.out.rB] at h1
        omega
      case measure => simp [intOf]; omega
    · obtain rfl : k = n := by omega
      obtain ⟨ρ1, hO1, hE1, hF1⟩ := adoptZ 15 HF.out HO1.out H14.out
      have hys : ys = rep k (patI (mark - 1)) := rep_of_all (by have := HO1.out.1; omega) (all_of_get HY.out (by have := HO1.out.1; omega))
      rw [hys] at hO1
      have hM : Mi N ρ w B (mark - 1) 2 3 36 3 1 2 (patI (mark - 1)) (upd F 0 (.int .i64 (mark - 1))) LI k (.slice ao k cap) 0 ρ1 wr (upd F 0 (.int .i64 (mark - 1))) [] k := by
        have hEv : Ev (fun q => q = 1) ρ w ρ1 wr := HE.out.trans (hE1 _)
        have hBl : B < wr.heap.size := Nat.lt_of_lt_of_le hBlt HE.out.size
        refine ⟨hEv.mono (fun q h => .inl h), hF1, ?_, HS.out, fun _ _ _ => rfl, ?_, ?_, rfl, (fun p hp => by cases hp), hO1, Nat.le_refl _⟩
        · rw [(hE1 (fun _ => False)).role B hBl (by rw [HB.out.rB]; decide)]; exact HB.out.rB
        · rw [List.append_nil, upd_ne (by decide)]; exact HB.out.sI.oV.ev hEv (by decide) (by decide)
        · rw [List.append_nil, upd_ne (by decide)]; exact HB.out.sI.oM.ev hEv (by decide) (by decide)
      have HM := Lib.hid hM
      clear hO1 hE1 hF1 hM HO1 HY HE c1 HF HS hys
      go_wp2
      go_loopw [1, 5] (fun lv i wr => ∃ (q : Nat) (ρ' : Nat → Nat) (F2 : Nat → Value) (L' : List (Value × Int)) (n : Nat), q ≤ 4 ∧ i = .int .i64 q ∧ Mi N ρ w B (mark - 1) 2 3 36 3 1 2 (patI (mark - 1)) (upd F 0 (.int .i64 (mark - 1))) LI k lv q ρ' wr F2 L' n) (fun _ i _ => 4 - (intOf i).toNat)
      case atStart => exact ⟨0, ρ1, _, [], k, Nat.zero_le _, rfl, HM.out⟩
      case round =>
        clear HM
        obtain ⟨q, ρ2, F2, L2, n2, hq, rfl, hM⟩ := hrel
        have HM := Lib.hid hM
        obtain ⟨ao2, cap2, rfl, hao2⟩ := own_slice hM.ol.1
        clear hao2
        have b0 := (hM.st 0 (by decide)).1
        have b1 := (hM.st 1 (by decide)).1
        have b2 := (hM.st 2 (by decide)).1
        rw [hM.same 0 (by decide) (by decide), upd_same] at b0
        have hBl := hM.st.lt (by decide)
        obtain ⟨z, hz⟩ : ∃ z, z = (LI ++ L2).length := ⟨_, rfl⟩
        have hzq : z + 1 ≤ 5864062014805 ∨ 4 ≤ q := by
          have := hM.len
          rw [List.length_append] at hz
          omega
        have hoI := hM.oV
        have hoM := hM.oM
        obtain ⟨xI, hxI⟩ : ∃ x, x = (LI ++ L2).map (·.1) := ⟨_, rfl⟩
        obtain ⟨xM, hxM⟩ : ∃ x, x = (LI ++ L2).map fun p => Value.int .i64 p.2 := ⟨_, rfl⟩
        obtain ⟨vI2, hvI⟩ : ∃ v, v = F2 1 := ⟨_, rfl⟩
        obtain ⟨vM2, hvM⟩ : ∃ v, v = F2 2 := ⟨_, rfl⟩
        rw [← hz, ← hxI, ← hvI] at hoI
        rw [← hz, ← hxM, ← hvM] at hoM
        rw [← hvI] at b1
        rw [← hvM] at b2
        have HoI := Lib.hid hoI
        have HoM := Lib.hid hoM
        have Hz := Lib.hid hz
        have HxI := Lib.hid hxI
        have HxM := Lib.hid hxM
        have HvI := Lib.hid hvI
        have HvM := Lib.hid hvM
        have hNw : N ≤ wr.heap.size := Nat.le_trans hN hM.ev.size
        clear hM hoI hoM hz hxI hxM hvI hvM
        by_cases hlt4 : q < 4
        · have hz5 : z + 1 ≤ 5864062014805 := by omega
          clear hzq
          go_wp2_with (at_builtin; refine wpList_append_lies _ rfl _ _ 49 rfl N 36 i6 nilS 1 24 Tryz.underlying49 hj hy0 hy1 hy2 rfl (by decide) vI2 z xI rfl (HoI.out.1.alloc _) ⟨wr.heap.size, 0, none⟩ 1 1 [.slice ao2 n2 cap2] rfl rfl (news_one _ _ _) ?c2 (by decide) ?c4 ?c5 ?c6 _ rfl ?_)
          case c2 => intro u hu; cases List.mem_singleton.1 hu; rfl
          case c4 => unfold maxLen; omega
          case c5 => omega
          case c6 => simp; omega
          intro g3 cap3 w2 hown3 hgrow3 hat3 hgz3
          obtain ⟨hS2, ρ3, hF3, hE3, hS3, hO3⟩ := push_cell HM.out.fr HM.out.rB HM.out.st (c := 1) (by decide) (by decide) HoI.out ((Below.refl _ _).alloc (Nat.le_refl _) _) hown3 hgrow3 (by simpa using hat3) hgz3
          have s1 := (hS2 1 (by decide)).1
          have s2 := (hS2 1 (by decide)).2
          have HF3 := Lib.hid hF3
          have HE3 := Lib.hid hE3
          have HSI := Lib.hid hS3
          have HO3 := Lib.hid hO3
          have d0' := (hS3 0 (by decide)).1
          have d2' := (hS3 2 (by decide)).1
          rw [upd_ne (by decide), HM.out.same 0 (by decide) (by decide), upd_same] at d0'
          rw [upd_ne (by decide), ← HvM.out] at d2'
          have Hd := Lib.hid (And.intro d0' d2')
          clear hS2 hF3 hE3 hS3 hO3 hown3 hgrow3 hat3 b0 b1 b2 d0' d2'
          go_wp2
          generalize w2.setCell ⟨B, 1, none⟩ (Value.slice (some ⟨g3, 0, none⟩) (z + 1) cap3) = w3 at *
          clear s1 s2 hgz3
          have d0 := Hd.out.1
          have d2 := Hd.out.2
          have HoM3 := Lib.hid (HoM.out.ev HE3.out (by decide) (by decide))
          have hN3 : N ≤ w3.heap.size := Nat.le_trans hNw HE3.out.size
          have hB3 : B < w3.heap.size := Nat.lt_of_lt_of_le hBl HE3.out.size
          have HrB3 : Hid (ρ3 B = 1) := by show _ = _; rw [HE3.out.role B hBl (by rw [HM.out.rB]; decide)]; exact HM.out.rB
          clear Hd
          go_region_law (refine step_append_lies _ rfl (.tmp 45) (.tmp 50) 36 rfl N 3 i0 (.int .i64 0) 1 8 Tryz.underlying36 hi hz0 hz1 hz2 rfl (by decide) vM2 z xM (by simp [Act.eval]) (World.ownsRow.alloc (World.ownsRow.drew HoM3.out.1) _) ⟨w3.heap.size, 0, none⟩ 1 1 [.int .i64 (mark - 1)] (by simp [Act.eval]) rfl (news_one w3.drew _ _) (by intro u hu; cases List.mem_singleton.1 hu; rfl) (by decide) (by unfold maxLen; omega) (by omega) (by simp; omega) (w3.heap.size + 1) (by simp) ?_; intro g4 cap4 w4 hown4 hgrow4 hat4 hgz4; obtain ⟨hS4, ρ4, hF4, hE4, hS5, hO5⟩ := push_cell HF3.out HrB3.out HSI.out (c := 2) (by decide) (by decide) HoM3.out (((Below.refl w3.heap.size w3).drew).alloc (Nat.le_refl _) _) hown4 hgrow4 (by simpa using hat4) hgz4; have s1 := (hS4 2 (by decide)).1; have s2 := (hS4 2 (by decide)).2; have HF4 := Lib.hid hF4; have HE4 := Lib.hid hE4; have HS4 := Lib.hid hS5; have HO4 := Lib.hid hO5; clear hS4 hF4 hE4 hS5 hO5 hown4 hgrow4 hat4)
          all_goals
            generalize w4.setCell ⟨B, 2, none⟩ (Value.slice (some ⟨g4, 0, none⟩) (z + 1) cap4) = w5 at *
            clear s1 s2 hgz4 d0 d2
            have d0 := (HS4.out 0 (by decide)).1
            rw [upd_ne (by decide), upd_ne (by decide), HM.out.same 0 (by decide) (by decide), upd_same] at d0
            have HoL5 := Lib.hid ((HM.out.ol.ev HE3.out (by decide) (by decide)).ev HE4.out (by decide) (by decide))
            have hN5 : N ≤ w5.heap.size := Nat.le_trans hN3 HE4.out.size
            have hB5 : B < w5.heap.size := Nat.lt_of_lt_of_le hB3 HE4.out.size
            have hn2 : n2 ≤ 1004 := by have := HM.out.le; omega
            go_wp2_with (at_builtin; refine wpList_append_armz _ rfl _ _ 36 rfl N 3 i0 (.int .i64 0) 1 8 Tryz.underlying36 hi hz0 hz1 hz2 rfl _ n2 (rep n2 (patI (mark - 1))) rfl (HoL5.out.1.alloc _) ⟨w5.heap.size, 0, none⟩ 1 1 [.int .i64 (mark - 1)] rfl rfl (news_one _ _ _) ?c2 (by decide) ?c4 ?c5 ?c6 ?_)
            case c2 => intro u hu; cases List.mem_singleton.1 hu; rfl
            case c4 => unfold maxLen; omega
            case c5 => omega
            case c6 => simp; omega
            intro g6 cap6 w6 hown6 hgz6 harm6
            have HOWN6 := Lib.hid hown6
            have HARM6 := Lib.hid harm6
            clear hown6 harm6
            go_wp2
            go_roundw
            case rel =>
              refine ⟨q + 1, rl ρ4 g6 15, upd (upd F2 1 (.slice (some ⟨g3, 0, none⟩) (z + 1) cap3)) 2 (.slice (some ⟨g4, 0, none⟩) (z + 1) cap4), L2 ++ [(.slice ao2 n2 cap2, mark - 1)], n2 + 1, by omega, by go_num, ?_⟩
              refine mi_next (w5' := w5.alloc (.cells #[.int .i64 (mark - 1)] 3)) (by unfold Rs; omega) HM.out HrB3.out HE3.out HE4.out HF4.out HS4.out (fun j h1 h2 => by rw [upd_ne h2, upd_ne h1]; exact HM.out.same j h1 h2) hBl Hz.out HxI.out HxM.out ?_ ?_ (((Below.refl _ _).alloc (Nat.le_refl _) _)) HOWN6.out hgz6 ?_
              · rw [upd_ne (by decide), upd_same]; exact HO3.out
              · rw [upd_same]; exact HO4.out
              · exact HARM6.out.imp (fun h => ⟨by rw [h.1.1, h.1.2], h.2⟩) (fun h => ⟨by simpa using h.1, h.2⟩)
            case measure => simp [intOf]; omega
        · obtain rfl : q = 4 := by omega
          go_wp2
          refine bodyPost_end (results_none rfl _ _ _) rfl ?_
          exact ⟨rfl, keepI_fin HB.out H15.out HM.out⟩
end Go.Proofs.YtnfkgnjeamnhfaaGreat
