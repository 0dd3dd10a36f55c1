import Derived.Test.YtnfkgnjeamnhfaaGreatGi
namespace Go.Proofs.YtnfkgnjeamnhfaaGreat
open Go.RowKit

set_option maxHeartbeats 4000000 in
set_option maxRecDepth 4000 in
theorem keep_any (N : Nat) (ρ : Nat → Nat) (w : World) (B : Nat) (mark : Int) (vI vM vH vU : Value) (L : List (Value × Int)) (K : List (Value × Value)) (l : Value) (n : Nat) (xs : List Value)
    (hN : N ≤ w.heap.size) (hF : Fr ρ w) (hb : Bk N ρ w B mark vI vM vH vU L K) (hl : w.ownsRow N 3 1 l n xs) (h14 : ∀ g, l.ownBlock = some g → ρ g = 14) (hn : n ≤ 1000) (hL : L.length + 4 ≤ 5864062014805) (hm1 : -4611686018427387904 ≤ mark) (hm2 : mark ≤ 0) (h15 : ∀ k, ρ k ≠ 15) :
    Calls Tryz.prog 22 #[.pointer (some ⟨B, 0, none⟩), l] w fun e w' => e = .returned (.tuple #[]) ∧ ∃ ρ' vI' vM' L', Bk N ρ' w' B (mark - 1) vI' vM' vH vU (L ++ L') K ∧ L'.length = 4 ∧ Fr ρ' w' ∧ (∀ k, ρ' k ≠ 15) ∧ Ev (fun q => q = 1 ∨ q = 2 ∨ q = 3) ρ w ρ' w' := by
  obtain ⟨i0, hi, hz0, hz1, hz2⟩ := info3
  obtain ⟨i6, hj, hy0, hy1, hy2⟩ := info36
  obtain ⟨ao, cap, rfl, hao⟩ := own_slice hl
  have HB := Lib.hid hb
  have HFr := Lib.hid hF
  have HO := Lib.hid hl
  have H14 := Lib.hid h14
  have hBlt := hb.st.lt (by decide)
  have c0 := (hb.st 0 (by decide)).1
  have f0 := (hb.st 0 (by decide)).2
  rw [show bookF mark vI vM vH vU 0 = .int .i64 mark from rfl] at c0
  have HA := Lib.hid hao
  have H15 := Lib.hid h15
  clear hb hF hl h14 hao h15
  go_enter Tryz.func22, Tryz.ntmps22
  go_wp2
  go_loopw [4] (fun i wr => ∃ (k : Nat) (ys : List Value), k ≤ n ∧ i = .int .i64 k ∧ wr.ownsRow N 3 1 (.slice ao n cap) n ys ∧ (∀ j, j < k → ys[j]? = some (.int .i64 (mark - 1))) ∧ St wr B 11 (bookF (mark - 1) vI vM vH vU) ∧ Ev (fun q => q = 1) ρ w ρ wr ∧ Fr ρ wr) (fun i _ => n - (intOf i).toNat)
  case atStart =>
    refine ⟨0, xs, Nat.zero_le _, rfl, ?_, fun j hj => by omega, ?_, ?_, ?_⟩
    · exact own_setOther HO.out (fun g hg e => by have h1 := H14.out g hg; rw [e, HB.out.rB] at h1; omega) _
    · exact (HB.out.st.set (by decide) _).congr (upd_mark _ _ _ _ _ _)
    · exact Ev.of_set ρ w B 0 _ (.inr HB.out.rB)
    · exact HFr.out.grow (by simp [World.setCell])
  case round =>
    obtain ⟨k, ys, hk, rfl, hown, hys, hst, hev, hfr⟩ := hrel
    have HO1 := Lib.hid hown
    have HY := Lib.hid hys
    have HS := Lib.hid hst
    have HE := Lib.hid hev
    have HF := Lib.hid hfr
    have c1 := (hst 0 (by decide)).1
    rw [show bookF (mark - 1) vI vM vH vU 0 = .int .i64 (mark - 1) from rfl] at c1
    clear hown hys hst hev hfr c0 f0
    by_cases hlt : k < n
    · obtain ⟨g, rfl⟩ := HA.out (by omega)
      have hc : ∃ u, wr.cell? ⟨g, k, none⟩ = some u := by
        have := HO1.out.cellAt k (by omega)
        rw [this]
        exact ⟨_, List.getElem?_eq_getElem (by have := HO1.out.1; omega)⟩
      obtain ⟨u, hcu⟩ := hc
      have hfu := HO1.out.frozenAt k
      go_wp2
      go_roundw
      case rel =>
        refine ⟨k + 1, ys.set k (.int .i64 (mark - 1)), by omega, by go_num, (HO1.out.stored k _).1, fun j hj => get_set HY.out (by have := HO1.out.1; omega) hj, HS.out.setOther ?_ _, HE.out.trans (Ev.of_set ρ wr g k _ (.inl (H14.out g rfl))), HF.out.grow (by simp [World.setCell])⟩
        intro e
        have h1 := H14.out g rfl
        rw [show g = B from e.symm, HB.out.rB] at h1
        omega
      case measure => simp [intOf]; omega
    · obtain rfl : k = n := by omega
      obtain ⟨ρ1, hO1, hE1, hF1⟩ := adopt 15 HF.out HO1.out H14.out
      have hM : Mid N ρ w B (mark - 1) vH vU L k (.slice ao k cap) 0 ρ1 wr vI vM [] k ys := by
        have hEv : Ev (fun q => q = 1) ρ w ρ1 wr := HE.out.trans (hE1 _)
        have hBl : B < wr.heap.size := Nat.lt_of_lt_of_le hBlt HE.out.size
        refine ⟨hEv.mono (fun q h => .inl h), hF1, ?_, HS.out, ?_, ?_, rfl, (fun p hp => by cases hp), hO1, all_of_get HY.out (by have := HO1.out.1; omega), Nat.le_refl _⟩
        · rw [(hE1 (fun _ => False)).role B hBl (by rw [HB.out.rB]; decide)]; exact HB.out.rB
        · rw [List.append_nil]; exact HB.out.oI.ev hEv (by decide) (by decide)
        · rw [List.append_nil]; exact HB.out.oM.ev hEv (by decide) (by decide)
      have HM := Lib.hid hM
      clear hO1 hE1 hF1 hM HO1 HY HE c1 HF HS
      go_wp2
      go_loopw [1, 5] (fun lv i wr => ∃ (q : Nat) (ρ' : Nat → Nat) (vI vM : Value) (L' : List (Value × Int)) (n : Nat) (ys : List Value), q ≤ 4 ∧ i = .int .i64 q ∧ Mid N ρ w B (mark - 1) vH vU L k lv q ρ' wr vI vM L' n ys) (fun _ i _ => 4 - (intOf i).toNat)
      case atStart => exact ⟨0, ρ1, vI, vM, [], k, ys, Nat.zero_le _, rfl, HM.out⟩
      case round =>
        clear HM
        obtain ⟨q, ρ2, vI2, vM2, L2, n2, ys2, hq, rfl, hM⟩ := hrel
        have HM := Lib.hid hM
        obtain ⟨ao2, cap2, rfl, hao2⟩ := own_slice hM.ol.1
        clear hao2
        have b0 := (hM.st 0 (by decide)).1
        have b1 := (hM.st 1 (by decide)).1
        have b2 := (hM.st 2 (by decide)).1
        rw [show bookF (mark - 1) vI2 vM2 vH vU 0 = .int .i64 (mark - 1) from rfl] at b0
        rw [show bookF (mark - 1) vI2 vM2 vH vU 1 = vI2 from rfl] at b1
        rw [show bookF (mark - 1) vI2 vM2 vH vU 2 = vM2 from rfl] at b2
        have hBl := hM.st.lt (by decide)
        obtain ⟨z, hz⟩ : ∃ z, z = (L ++ L2).length := ⟨_, rfl⟩
        have hzq : z + 1 ≤ 5864062014805 ∨ 4 ≤ q := by
          have := hM.len
          rw [List.length_append] at hz
          omega
        have hoI := hM.oI
        have hoM := hM.oM
        obtain ⟨xI, hxI⟩ : ∃ x, x = (L ++ L2).map (·.1) := ⟨_, rfl⟩
        obtain ⟨xM, hxM⟩ : ∃ x, x = (L ++ L2).map fun p => Value.int .i64 p.2 := ⟨_, rfl⟩
        rw [← hz, ← hxI] at hoI
        rw [← hz, ← hxM] at hoM
        have HoI := Lib.hid hoI
        have HoM := Lib.hid hoM
        have Hz := Lib.hid hz
        have HxI := Lib.hid hxI
        have HxM := Lib.hid hxM
        have hNw : N ≤ wr.heap.size := Nat.le_trans hN hM.ev.size
        clear hM hoI hoM hz hxI hxM
        by_cases hlt4 : q < 4
        · have hz5 : z + 1 ≤ 5864062014805 := by omega
          clear hzq
          go_wp2_with (at_builtin; refine wpList_append_lies _ rfl _ _ 49 rfl N 36 i6 nilS 1 24 Tryz.underlying49 hj hy0 hy1 hy2 rfl (by decide) vI2 z xI rfl (HoI.out.1.alloc _) ⟨wr.heap.size, 0, none⟩ 1 1 [.slice ao2 n2 cap2] rfl rfl (news_one _ _ _) ?c2 (by decide) ?c4 ?c5 ?c6 _ rfl ?_)
          case c2 => intro u hu; cases List.mem_singleton.1 hu; rfl
          case c4 => unfold maxLen; omega
          case c5 => omega
          case c6 => simp; omega
          intro g3 cap3 w2 hown3 hgrow3 hat3 hgz3
          obtain ⟨hS2, ρ3, hF3, hE3, hS3, hO3⟩ := push_cell HM.out.fr HM.out.rB HM.out.st (c := 1) (by decide) (by decide) HoI.out ((Below.refl _ _).alloc (Nat.le_refl _) _) hown3 hgrow3 (by simpa using hat3) hgz3
          have s1 := (hS2 1 (by decide)).1
          have s2 := (hS2 1 (by decide)).2
          have HF3 := Lib.hid hF3
          have HE3 := Lib.hid hE3
          have HS3 := Lib.hid hS3
          have HO3 := Lib.hid hO3
          clear hS2 hF3 hE3 hS3 hO3 hown3 hgrow3 hat3 b0 b1 b2
          go_wp2
          generalize w2.setCell ⟨B, 1, none⟩ (Value.slice (some ⟨g3, 0, none⟩) (z + 1) cap3) = w3 at *
          clear s1 s2 hgz3
          have hS3 := HS3.out.congr (upd_ints _ _ _ _ _ _)
          have HSI := Lib.hid hS3
          have d0 := (hS3 0 (by decide)).1
          have d2 := (hS3 2 (by decide)).1
          rw [show bookF (mark - 1) (Value.slice (some ⟨g3, 0, none⟩) (z + 1) cap3) vM2 vH vU 0 = .int .i64 (mark - 1) from rfl] at d0
          rw [show bookF (mark - 1) (Value.slice (some ⟨g3, 0, none⟩) (z + 1) cap3) vM2 vH vU 2 = vM2 from rfl] at d2
          have HoM3 := Lib.hid (HoM.out.ev HE3.out (by decide) (by decide))
          have hN3 : N ≤ w3.heap.size := Nat.le_trans hNw HE3.out.size
          have hB3 : B < w3.heap.size := Nat.lt_of_lt_of_le hBl HE3.out.size
          have HrB3 : Hid (ρ3 B = 1) := by show _ = _; rw [HE3.out.role B hBl (by rw [HM.out.rB]; decide)]; exact HM.out.rB
          clear hS3 HS3
          go_region_law (refine step_append_lies _ rfl (.tmp 45) (.tmp 50) 36 rfl N 3 i0 (.int .i64 0) 1 8 Tryz.underlying36 hi hz0 hz1 hz2 rfl (by decide) vM2 z xM (by simp [Act.eval]) (World.ownsRow.alloc (World.ownsRow.drew HoM3.out.1) _) ⟨w3.heap.size, 0, none⟩ 1 1 [.int .i64 (mark - 1)] (by simp [Act.eval]) rfl (news_one w3.drew _ _) (by intro u hu; cases List.mem_singleton.1 hu; rfl) (by decide) (by unfold maxLen; omega) (by omega) (by simp; omega) (w3.heap.size + 1) (by simp) ?_; intro g4 cap4 w4 hown4 hgrow4 hat4 hgz4; obtain ⟨hS4, ρ4, hF4, hE4, hS5, hO5⟩ := push_cell HF3.out HrB3.out HSI.out (c := 2) (by decide) (by decide) HoM3.out (((Below.refl w3.heap.size w3).drew).alloc (Nat.le_refl _) _) hown4 hgrow4 (by simpa using hat4) hgz4; have s1 := (hS4 2 (by decide)).1; have s2 := (hS4 2 (by decide)).2; have HF4 := Lib.hid hF4; have HE4 := Lib.hid hE4; have HS4 := Lib.hid hS5; have HO4 := Lib.hid hO5; clear hS4 hF4 hE4 hS5 hO5 hown4 hgrow4 hat4)
          all_goals
            generalize w4.setCell ⟨B, 2, none⟩ (Value.slice (some ⟨g4, 0, none⟩) (z + 1) cap4) = w5 at *
            clear s1 s2 hgz4 d0 d2
            have hS5 := HS4.out.congr (upd_marks _ _ _ _ _ _)
            have HSM := Lib.hid hS5
            have d0 := (hS5 0 (by decide)).1
            rw [show bookF (mark - 1) (Value.slice (some ⟨g3, 0, none⟩) (z + 1) cap3) (Value.slice (some ⟨g4, 0, none⟩) (z + 1) cap4) vH vU 0 = .int .i64 (mark - 1) from rfl] at d0
            have HoL5 := Lib.hid ((HM.out.ol.ev HE3.out (by decide) (by decide)).ev HE4.out (by decide) (by decide))
            have hN5 : N ≤ w5.heap.size := Nat.le_trans hN3 HE4.out.size
            have hB5 : B < w5.heap.size := Nat.lt_of_lt_of_le hB3 HE4.out.size
            have hn2 : n2 ≤ 1004 := by have := HM.out.le; omega
            clear hS5 HS4
            go_wp2_with (at_builtin; refine wpList_append_arms _ rfl _ _ 36 rfl N 3 i0 (.int .i64 0) 8 Tryz.underlying36 hi hz0 hz1 hz2 rfl _ n2 ys2 rfl (HoL5.out.1.alloc _) ⟨w5.heap.size, 0, none⟩ 1 1 [.int .i64 (mark - 1)] rfl rfl (news_one _ _ _) ?c2 (by decide) ?c4 ?c5 ?c6 ?_)
            case c2 => intro u hu; cases List.mem_singleton.1 hu; rfl
            case c4 => unfold maxLen; omega
            case c5 => omega
            case c6 => simp; omega
            intro g6 cap6 w6 hown6 hgz6 harm6
            have HOWN6 := Lib.hid hown6
            have HARM6 := Lib.hid harm6
            clear hown6 harm6
            go_wp2
            go_roundw
            case rel =>
              refine ⟨q + 1, rl ρ4 g6 15, .slice (some ⟨g3, 0, none⟩) (z + 1) cap3, .slice (some ⟨g4, 0, none⟩) (z + 1) cap4, L2 ++ [(.slice ao2 n2 cap2, mark - 1)], n2 + 1, ys2 ++ [.int .i64 (mark - 1)], by omega, by go_num, ?_⟩
              exact mid_next HM.out HrB3.out HE3.out HE4.out HF4.out HSM.out hBl Hz.out HxI.out HxM.out HO3.out HO4.out HOWN6.out hgz6 (HARM6.out.imp (fun h => ⟨by rw [h.1.1, h.1.2], h.2⟩) id)
            case measure => simp [intOf]; omega
        · obtain rfl : q = 4 := by omega
          go_wp2
          refine bodyPost_end (results_none rfl _ _ _) rfl ?_
          exact ⟨rfl, mid_done HB.out H15.out HM.out⟩
end Go.Proofs.YtnfkgnjeamnhfaaGreat
namespace Go.Proofs.YtnfkgnjeamnhfaaGreat
open Go.RowKit

/-- What a handed list reads as, k places turned. -/
def turned (xs : List Int) (k : Nat) : List Int := List.replicate k (-9) ++ (xs ++ [-7]).drop k
theorem turned_zero (xs : List Int) : turned xs 0 = xs ++ [-7] := by simp [turned]
theorem turned_len {xs : List Int} {k : Nat} (h : k ≤ xs.length) : (turned xs k).length = xs.length + 1 := by simp [turned]; omega
theorem set_gen {α : Type} (ys : List α) (a : α) (k : Nat) (h : k < ys.length) : (List.replicate k a ++ ys.drop k).set k a = List.replicate (k + 1) a ++ ys.drop (k + 1) := by
  rw [List.drop_eq_getElem_cons h, List.set_append, if_neg (by simp), List.length_replicate, Nat.sub_self, List.set_cons_zero, List.replicate_succ', List.append_assoc]
  rfl
theorem turned_set {xs : List Int} {k : Nat} (h : k < xs.length) : (ints (turned xs k)).toArray.setIfInBounds k (Value.int .i64 (-9)) = (ints (turned xs (k + 1))).toArray := by
  apply Array.ext'
  rw [Array.toList_setIfInBounds]
  have e : ∀ j, ints (turned xs j) = List.replicate j (Value.int .i64 (-9)) ++ (ints (xs ++ [-7])).drop j := by
    intro j
    simp only [turned, ints, List.map_append, List.map_replicate, List.map_drop]
  rw [e, e]
  exact set_gen _ _ _ (by simp; omega)
theorem turned_at {xs : List Int} {k : Nat} {x : Int} (h : xs[k]? = some x) : (ints (turned xs k))[k]? = some (.int .i64 x) := by
  have hk : k < xs.length := (List.getElem?_eq_some_iff.1 h).1
  simp only [turned, ints, List.getElem?_map]
  rw [List.getElem?_append_right (by simp)]
  simp only [List.length_replicate, Nat.sub_self, List.getElem?_drop, Nat.add_zero]
  rw [List.getElem?_append_left hk, h]
  rfl
theorem turned_last {xs : List Int} {k : Nat} (h : k ≤ xs.length) : (ints (turned xs k))[xs.length]? = some (.int .i64 (-7)) := by
  simp only [turned, ints, List.getElem?_map]
  rw [List.getElem?_append_right (by simpa using h)]
  simp only [List.length_replicate, List.getElem?_drop]
  rw [show k + (xs.length - k) = xs.length by omega]
  simp

/-- The two lists of a turned one get their owner. -/
theorem turn_adopt {N : Nat} {ρ : Nat → Nat} {w wr w2 : World} {g k : Nat} {T : List Int} (hF : Fr ρ w) (hN : N ≤ w.heap.size) (hgN : N ≤ g) (hgl : g < w.heap.size) (h14 : ρ g = 14) (hg : wr.heap[g]? = some (.cells (ints T).toArray 3 (0, 0))) (hgr : w.grownBy wr (some g)) (hb : Below wr.heap.size wr w2) (hlt : wr.heap.size < w2.heap.size)
    (hm : w2.heap[wr.heap.size]? = some (.cells (ints T).toArray 3 (0, 0))) (hT : T.length = k + 1) (hmax : k + 1 ≤ maxLen) :
    ∃ ρA, (∀ R, Ev R ρ w ρA w2) ∧ Fr ρA w2 ∧ Own N ρA w2 7 3 (.slice (some ⟨g, 0, none⟩) (k + 1) (k + 1)) T.length (ints T) ∧ Own N ρA w2 7 3 (.slice (some ⟨wr.heap.size, 0, none⟩) (k + 1) (k + 1)) T.length (ints T) ∧ ((∀ k, ρ k ≠ 15) → ∀ k, ρA k ≠ 15) := by
  have hs := hgr.size
  have hN' := hN
  have hne : wr.heap.size ≠ g := by omega
  have h14m : rl ρ g 7 wr.heap.size = 14 := by rw [rl_ne hne]; exact hF _ hs
  have hg2 : w2.heap[g]? = some (.cells (ints T).toArray 3 (0, 0)) := by rw [hb.block g (by omega)]; exact hg
  refine ⟨rl (rl ρ g 7) wr.heap.size 7, fun R => ?_, ?_, ⟨?_, fun j hj => ?_⟩, ⟨?_, fun j hj => ?_⟩, fun h j => ?_⟩
  · exact (((Ev.of_grown ρ hgr (fun j hj => by cases hj; exact .inl h14)).trans (Ev.of_below ρ hb)).trans (Ev.rl w2 7 (.inl h14))).trans (Ev.rl w2 7 (.inl h14m))
  · exact ((hF.grow (Nat.le_trans hs hb.size)).rl (by omega) 7).rl hlt 7
  · rw [hT]; exact full_own hg2 hgN (by simp [hT]) hmax
  · simp [Value.ownBlock] at hj; subst hj; rw [rl_ne (by omega), rl_same]
  · rw [hT]; exact full_own hm (by omega) (by simp [hT]) hmax
  · simp [Value.ownBlock] at hj; subst hj; exact rl_same _ _ _
  · unfold rl; split
    · decide
    · split
      · decide
      · exact h j

theorem turn_bk {N : Nat} {ρA ρ3 ρ5 : Nat → Nat} {w2 w4 w6 : World} {B : Nat} {mark : Int} {vI vM vH vU vH' vU' s u : Value} {L : List (Value × Int)} {K : List (Value × Value)} {T : List Int}
    (hb : Bk N ρA w2 B mark vI vM vH vU L K) (hE3 : Ev (fun q => q = 1 ∨ q = 4) ρA w2 ρ3 w4) (hE5 : Ev (fun q => q = 1 ∨ q = 5) ρ3 w4 ρ5 w6) (hO3 : Own N ρ3 w4 4 36 vH' (K.length + 1) (K.map (·.1) ++ [s])) (hS5 : St w6 B 11 (upd (bookF mark vI vM vH' vU) 8 vU')) (hO5 : Own N ρ5 w6 5 36 vU' (K.length + 1) (K.map (·.2) ++ [u]))
    (hs : Own N ρA w2 7 3 s T.length (ints T)) (hu : Own N ρA w2 7 3 u T.length (ints T)) : Bk N ρ5 w6 B mark vI vM vH' vU' L (K ++ [(s, u)]) := by
  have hBl := hb.st.lt (by decide)
  have r3 : ρ3 B = 1 := by rw [hE3.role B hBl (by rw [hb.rB]; decide)]; exact hb.rB
  refine ⟨?_, hS5.congr (upd_must _ _ _ _ _ _), (hb.oI.ev hE3 (by decide) (by decide)).ev hE5 (by decide) (by decide), (hb.oM.ev hE3 (by decide) (by decide)).ev hE5 (by decide) (by decide), ?_, ?_, fun p hp => ((hb.mks p hp).ev hE3 (by decide) (by decide)).ev hE5 (by decide) (by decide), fun p hp => ?_⟩
  · rw [hE5.role B (Nat.lt_of_lt_of_le hBl hE3.size) (by rw [r3]; decide)]; exact r3
  · have := hO3.ev hE5 (by decide) (by decide); simpa using this
  · simpa using hO5
  · rcases List.mem_append.1 hp with hp | hp
    · exact ((hb.cts p hp).ev hE3 (by decide)).ev hE5 (by decide)
    · obtain rfl : p = (s, u) := by simpa using hp
      exact ⟨T, (hs.ev hE3 (by decide) (by decide)).ev hE5 (by decide) (by decide), (hu.ev hE3 (by decide) (by decide)).ev hE5 (by decide) (by decide)⟩

set_option maxHeartbeats 4000000 in
set_option maxRecDepth 4000 in
theorem turn_any (N : Nat) (ρ : Nat → Nat) (w : World) (B : Nat) (mark : Int) (vI vM vH vU : Value) (L : List (Value × Int)) (K : List (Value × Value)) (g : Nat) (ao : Option Addr) (n cap : Nat) (xs : List Int)
    (hN : N ≤ w.heap.size) (hF : Fr ρ w) (hb : Bk N ρ w B mark vI vM vH vU L K) (hgN : N ≤ g) (hg : w.heap[g]? = some (.cells (ints (xs ++ [-7])).toArray 3 (0, 0))) (h14 : ρ g = 14) (hr : Rd w ao n xs) (hrg : 0 < n → ∀ b off, ao = some ⟨b, off, none⟩ → b ≠ g) (hn : n ≤ 17592186044415) (hK : K.length + 1 ≤ 5864062014805) :
    Calls Tryz.prog 42 #[.pointer (some ⟨B, 0, none⟩), .slice (some ⟨g, 0, none⟩) (n + 1) (n + 1), .slice ao n cap] w fun e w' => e = .returned (.bool true) ∧ ∃ ρ' vH' vU' p, Bk N ρ' w' B mark vI vM vH' vU' L (K ++ [p]) ∧ Fr ρ' w' ∧ ((∀ k, ρ k ≠ 15) → ∀ k, ρ' k ≠ 15) ∧ Ev (fun q => q = 1 ∨ q = 4 ∨ q = 5) ρ w ρ' w' := by
  obtain ⟨i0, hi, hz0, hz1, hz2⟩ := info3
  obtain ⟨i6, hj, hy0, hy1, hy2⟩ := info36
  have HB := Lib.hid hb
  have HFr := Lib.hid hF
  have HR := Lib.hid hr
  have HRG := Lib.hid hrg
  have HL := Lib.hid hr.1
  have HG : Hid (w.heap[g]? = some (.cells (ints (turned xs 0)).toArray 3 (0, 0))) := by show _ = _; rw [turned_zero]; exact hg
  have hc0 : w.cell? ⟨g, n, none⟩ = some (.int .i64 (-7)) := by
    rw [cell_of_row w g n _ 3 (0, 0) HG.out, ← hr.1]; simpa using turned_last (Nat.zero_le xs.length)
  have hgl : g < w.heap.size := (Array.getElem?_eq_some_iff.1 hg).1
  have q0 : (n : Int) < (n : Int) + 1 := by omega
  have H14 := Lib.hid h14
  clear hb hF hr hrg hg h14
  go_enter Tryz.func42, Tryz.ntmps42
  go_wp2
  go_loopw [7, 8] (fun wh i wr => ∃ k : Nat, k ≤ n ∧ wh = .bool true ∧ i = .int .i64 k ∧ wr.heap[g]? = some (.cells (ints (turned xs k)).toArray 3 (0, 0)) ∧ w.grownBy wr (some g)) (fun _ i _ => n - (intOf i).toNat)
  case atStart => exact ⟨0, Nat.zero_le _, rfl, rfl, HG.out, World.grownBy.refl _ _⟩
  case round =>
    obtain ⟨k, hk, rfl, rfl, hgk, hgr⟩ := hrel
    have HGK := Lib.hid hgk
    have HGR := Lib.hid hgr
    have hgs := hgr.size
    clear hgk hgr hc0 q0 HG
    by_cases hlt : k < n
    · obtain ⟨b, off, rfl, hbl, -⟩ := HR.out.at (by omega)
      obtain ⟨x, hx, hcx⟩ := HR.out.cell hlt
      have hcx' : wr.cell? ⟨b, off + k, none⟩ = some (.int .i64 x) := by
        rw [World.cell?_of_block (w := w) (a := ⟨b, off + k, none⟩) (HGR.out.block b hbl (by simp; exact HRG.out (by omega) b off rfl))]; exact hcx
      have hcg : wr.cell? ⟨g, k, none⟩ = some (.int .i64 x) := by
        rw [cell_of_row wr g k _ 3 (0, 0) HGK.out]; simpa using turned_at hx
      have hfg : wr.frozen? ⟨g, k, none⟩ = false := frozen_of_row wr g k _ 3 HGK.out
      have q1 : (x == x) = true := by simp
      have q2 : (k : Int) < (n : Int) + 1 := by omega
      have q3 : (k : Int) < (n : Int) := by omega
      clear hx hcx
      go_wp2
      go_quiet (fail)
      go_wp2
      go_roundw
      case rel =>
        refine ⟨k + 1, by omega, rfl, by go_num, ?_, ?_⟩
        · refine (heap_setCell_same _ g k _ 3 _ HGK.out).trans ?_
          rw [turned_set (by rw [HL.out]; exact hlt)]
        · exact ⟨HGR.out.os, HGR.out.tape, HGR.out.output, by simp [World.setCell]; exact hgs, fun i hi hne => (Below.heap_setCell _ ⟨g, k, none⟩ _ i (fun e => hne (by rw [e]))).trans (HGR.out.block i hi hne)⟩
      case measure => simp [intOf]; omega
    · obtain rfl : k = n := by omega
      have HLE := Lib.hid (turned_len (Nat.le_refl xs.length))
      rw [HL.out] at HLE
      have hBl := HB.out.st.lt (by decide)
      obtain ⟨T, hT⟩ : ∃ T, T = turned xs k := ⟨_, rfl⟩
      rw [← hT] at HGK HLE
      have HTT := Lib.hid hT
      clear hT
      go_wp2_with (at_make; refine wpList_make_full _ rfl _ _ 36 rfl N 3 i0 (.int .i64 0) 1 Tryz.underlying36 hi hz0 hz1 .i64 .i64 _ _ (k + 1) rfl rfl ?c1 ?c2 ?c3 ?c4 ?c5 ?_)
      case c1 => go_simp
      case c2 => go_simp
      case c3 => rw [hz2]; omega
      case c4 => unfold maxLen; omega
      case c5 => omega
      intro w1 hown hgrow
      rw [madeInts] at hown
      have HGM := Lib.hid (own_full hown).1
      have HB1 := Lib.hid (below_of_grown hgrow)
      have hz : wr.heap.size < w1.heap.size := (Array.getElem?_eq_some_iff.1 (own_full hown).1).1
      have HG1 : Hid (w1.heap[g]? = some (.cells (ints T).toArray 3 (0, 0))) := by show _ = _; rw [HB1.out.block g (by omega)]; exact HGK.out
      clear hown hgrow
      go_wp2_with (refine wpList_copy_splice rfl _ _ 36 36 rfl 3 Tryz.underlying36 info31 _ _ _ _ _ _ rfl rfl wr.heap.size 0 _ 3 HGM.out (ints T) ?c1 ?c2 ?c3 (ints_one _) wr.heap.size wr HB1.out (Nat.le_refl _) ?_)
      case c1 => simp [HLE.out]
      case c2 =>
        intro _ j x hx
        have := World.news_of_block HG1.out j (.int .i64 x) (by simp [hx])
        rwa [Lib.add_plain, Nat.zero_add] at this
      case c3 => simp [HLE.out]
      intro w2 HG2 hb2
      have e : splice (List.replicate (k + 1) (Value.int IntKind.i64 0)) 0 (ints T) = ints T := by
        simp [splice, HLE.out]
      rw [e] at HG2
      have HB2 := Lib.hid hb2
      have hm := hb2.size
      clear hb2 e HGM HB1 HG1
      obtain ⟨ρA, hEA, hFA, hOs, hOm, h15A⟩ := turn_adopt HFr.out hN hgN hgl H14.out HGK.out HGR.out HB2.out (Array.getElem?_eq_some_iff.1 HG2.out).1 HG2.out HLE.out (by unfold maxLen; omega)
      have hbk := HB.out.ev (hEA (fun _ => False)) (fun _ _ _ => id)
      have HBA := Lib.hid hbk
      have b7 := (hbk.st 7 (by decide)).1
      rw [show bookF mark vI vM vH vU 7 = vH from rfl] at b7
      have hN2 : N ≤ w2.heap.size := Nat.le_trans hN (hEA (fun _ => False)).size
      have HEA := Lib.hid hEA
      have HFA := Lib.hid hFA
      have HOs := Lib.hid hOs
      have HOm := Lib.hid hOm
      have H15A := Lib.hid h15A
      clear hbk hEA hFA hOs hOm h15A
      go_wp2_with (at_builtin; refine wpList_append_lies _ rfl _ _ 49 rfl N 36 i6 nilS 1 24 Tryz.underlying49 hj hy0 hy1 hy2 rfl (by decide) vH K.length _ rfl (HBA.out.oH.1.alloc _) ⟨w2.heap.size, 0, none⟩ 1 1 [.slice (some ⟨g, 0, none⟩) (k + 1) (k + 1)] rfl rfl (news_one _ _ _) ?c2 (by decide) ?c4 ?c5 ?c6 _ rfl ?_)
      case c2 => intro u hu; cases List.mem_singleton.1 hu; rfl
      case c4 => unfold maxLen; omega
      case c5 => omega
      case c6 => simp; omega
      intro g3 cap3 w3 hown3 hgrow3 hat3 hgz3
      obtain ⟨hS2, ρ3, hF3, hE3, hS3, hO3, h153⟩ := push_cell15 HFA.out HBA.out.rB HBA.out.st (c := 7) (by decide) (by decide) HBA.out.oH ((Below.refl _ _).alloc (Nat.le_refl _) _) hown3 hgrow3 (by simpa using hat3) hgz3
      have s1 := (hS2 7 (by decide)).1
      have s2 := (hS2 7 (by decide)).2
      have s8 := (hS2 8 (by decide)).1
      rw [show bookF mark vI vM vH vU 8 = vU from rfl] at s8
      have HF3 := Lib.hid hF3
      have HE3 := Lib.hid hE3
      have HS3 := Lib.hid hS3
      have HO3 := Lib.hid hO3
      have H153 := Lib.hid h153
      clear hS2 hF3 hE3 hS3 hO3 hown3 hgrow3 hat3 b7 h153
      have HS3' := Lib.hid (HS3.out.congr (upd_hops _ _ _ _ _ _))
      have HO8 := Lib.hid (HBA.out.oU.ev HE3.out (by decide) (by decide))
      have hN3 : N ≤ (w3.setCell ⟨B, 7, none⟩ (Value.slice (some ⟨g3, 0, none⟩) (K.length + 1) cap3)).heap.size := Nat.le_trans hN2 HE3.out.size
      have HrB3 : Hid (ρ3 B = 1) := by show _ = _; rw [HE3.out.role B (HBA.out.st.lt (by decide)) (by rw [HBA.out.rB]; decide)]; exact HBA.out.rB
      have hKl : K.length + 1 ≤ 5864062014805 := hK
      go_wp2_with (at_builtin; refine wpList_append_lies _ rfl _ _ 49 rfl N 36 i6 nilS 1 24 Tryz.underlying49 hj hy0 hy1 hy2 rfl (by decide) vU K.length _ rfl (HO8.out.1.alloc _) ⟨w3.heap.size, 0, none⟩ 1 1 [.slice (some ⟨wr.heap.size, 0, none⟩) (k + 1) (k + 1)] rfl rfl ?c1 ?c2 (by decide) ?c4 ?c5 ?c6 _ rfl ?_)
      case c1 =>
        have h := news_one (w3.setCell ⟨B, 7, none⟩ (Value.slice (some ⟨g3, 0, none⟩) (K.length + 1) cap3)) (.slice (some ⟨wr.heap.size, 0, none⟩) (k + 1) (k + 1)) 36
        rw [show (w3.setCell ⟨B, 7, none⟩ (Value.slice (some ⟨g3, 0, none⟩) (K.length + 1) cap3)).heap.size = w3.heap.size by simp [World.setCell]] at h
        exact h
      case c2 => intro u hu; cases List.mem_singleton.1 hu; rfl
      case c4 => unfold maxLen; omega
      case c5 => omega
      case c6 => simp at hN3; simp; omega
      intro g5 cap5 w5 hown5 hgrow5 hat5 hgz5
      obtain ⟨hS4, ρ5, hF5, hE5, hS5, hO5, h155⟩ := push_cell15 HF3.out HrB3.out HS3'.out (c := 8) (by decide) (by decide) HO8.out ((Below.refl _ _).alloc (Nat.le_refl _) _) hown5 hgrow5 (by simpa using hat5) hgz5
      have t1 := (hS4 8 (by decide)).1
      have t2 := (hS4 8 (by decide)).2
      have HF5 := Lib.hid hF5
      have HE5 := Lib.hid hE5
      have HS5 := Lib.hid hS5
      have HO5 := Lib.hid hO5
      have H155 := Lib.hid h155
      clear hS4 hF5 hE5 hS5 hO5 hown5 hgrow5 hat5 h155
      go_wp2
      go_ret
      refine ⟨rfl, ρ5, .slice (some ⟨g3, 0, none⟩) (K.length + 1) cap3, .slice (some ⟨g5, 0, none⟩) (K.length + 1) cap5, (.slice (some ⟨g, 0, none⟩) (k + 1) (k + 1), .slice (some ⟨wr.heap.size, 0, none⟩) (k + 1) (k + 1)), ?_, HF5.out, fun h => H155.out (by decide) (H153.out (by decide) (H15A.out h)), ?_⟩
      · exact turn_bk HBA.out HE3.out HE5.out HO3.out HS5.out HO5.out HOs.out HOm.out
      · exact ((HEA.out _).trans (HE3.out.mono (fun q h => h.elim .inl (fun h => .inr (.inl h))))).trans (HE5.out.mono (fun q h => h.elim .inl (fun h => .inr (.inr h))))
end Go.Proofs.YtnfkgnjeamnhfaaGreat
