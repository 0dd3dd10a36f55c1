import Derived.Test.YtnfkgnjeamnhfaaGreatBc
import Derived.Test.YtnfkgnjeamnhfaaGreatRi
namespace Go.Proofs.YtnfkgnjeamnhfaaGreat
open Go.RowKit

/-- A route that is marked. -/
def mkRt (m : Int) : Rt := ⟨0, 0, 0, 0, m⟩
theorem rc_mk (m : Int) : rc (mkRt m) = patR m := rfl
theorem flat_rep (n : Nat) (r : Rt) : flat (List.replicate n r) = rep n (rc r) := by
  unfold flat rep
  induction n with
  | zero => rfl
  | succ n ih => rw [List.replicate_succ, List.flatMap_cons, ih, List.replicate_succ, List.flatten_cons]
theorem all_rt {ys : List Rt} {n : Nat} {r : Rt} (hl : ys.length = n) (h : ∀ j, j < n → ys[j]? = some r) : ys = List.replicate n r := by
  apply List.ext_getElem?
  intro j
  by_cases hj : j < n
  · rw [h j hj, List.getElem?_replicate, if_pos hj]
  · rw [List.getElem?_eq_none (by omega), List.getElem?_replicate, if_neg hj]
theorem get_setR {ys : List Rt} {k j : Nat} {u : Rt} (h : ∀ j, j < k → ys[j]? = some u) (hk : k < ys.length) (hj : j < k + 1) : (ys.set k u)[j]? = some u := by
  by_cases e : j = k
  · subst e; simp [hk]
  · rw [List.getElem?_set_ne (by omega)]; exact h j (by omega)
set_option maxHeartbeats 1000000 in
theorem route_any (m : Int) (w : World) : Calls Tryz.prog 34 #[.int .i64 m] w fun e w' => e = .returned (.agg #[.int .i64 0, .int .u64 0, .int .u64 0, .int .i64 0, .int .i64 m]) ∧ Below w.heap.size w w' := by
  go_enter Tryz.func34, Tryz.ntmps34
  go_wp2
  refine bodyPost_ret (v := .agg #[.int .i64 0, .int .u64 0, .int .u64 0, .int .i64 0, .int .i64 m]) (by simp [results, Tryz.results34, go_sem]) rfl ⟨rfl, (Below.refl _ _).alloc (Nat.le_refl _) _⟩
theorem info50m : (Tryz.prog.info? 85).map (fun i => (i.size, i.bytes, i.zero)) = some (1, 24, some (.slice none 0 0)) := by kernel_rfl
theorem info50 : ∃ i, Tryz.prog.info? 85 = some i ∧ i.zero = some (.slice none 0 0) ∧ i.size = 1 ∧ i.bytes = 24 := by
  obtain ⟨i, hi, he⟩ := Option.map_eq_some_iff.1 info50m
  simp only [Prod.mk.injEq] at he
  exact ⟨i, hi, he.2.2, he.1, he.2.1⟩
theorem news_pat (w : World) (m : Int) (t : TypeId) : ∀ j u, (patR m)[j]? = some u → (w.alloc (.cells #[.int .i64 0, .int .u64 0, .int .u64 0, .int .i64 0, .int .i64 m] t)).cell? ((⟨w.heap.size, 0, none⟩ : Addr).add j) = some u :=
  World.news_of_block (cs := #[.int .i64 0, .int .u64 0, .int .u64 0, .int .i64 0, .int .i64 m]) (heap_alloc_new w _)
theorem pat_one (m : Int) : ∀ u ∈ patR m, u.oneCell' = true := rc_one (mkRt m)
theorem own_slz {w : World} {N e sz n : Nat} {v : Value} {xs : List Value} (h : w.ownsRow N e sz v n xs) : ∃ ao cap, v = .slice ao n cap ∧ (0 < n → ∃ g, ao = some ⟨g, 0, none⟩) := by
  rcases h.2 with ⟨rfl, rfl⟩ | ⟨g, cap, cur, rfl, _⟩
  · exact ⟨none, 0, rfl, fun h => by omega⟩
  · exact ⟨_, cap, rfl, fun _ => ⟨g, rfl⟩⟩
theorem keepR_fin {N : Nat} {ρ : Nat → Nat} {w : World} {B : Nat} {mark m : Int} {F F2 : Nat → Value} {LI LR LE LC : List (Value × Int)} {K : List (Value × Value)} {n0 : Nat} {l : Value} {ρ2 : Nat → Nat} {wr : World} {L2 : List (Value × Int)} {n : Nat} (hb : Bo N ρ w B mark F LI LR LE LC K) (h15 : ∀ k, ρ k ≠ 15)
    (hM : Mi N ρ w B m 20 21 85 35 3 4 (patR m) (upd F 0 (.int .i64 m)) LR n0 l 4 ρ2 wr F2 L2 n) :
    ∃ ρ' F' L', Bo N ρ' wr B m F' LI (LR ++ L') LE LC K ∧ L'.length = 4 ∧ Fr ρ' wr ∧ (∀ k, ρ' k ≠ 15) ∧ Ev (fun q => q = 1 ∨ q = 20 ∨ q = 21) ρ w ρ' wr := by
  obtain ⟨h1, h2, h3, h4, h5, h6⟩ := mi_done (by unfold Rs; omega) (by omega) hb.sR h15 hM
  have hj : ∀ j, j ≠ 3 → j ≠ 4 → j ≠ 0 → F2 j = F j := fun j a b c => by rw [hM.same j a b, upd_ne c]
  refine ⟨doneZ 24 ρ2, F2, L2, ⟨h4, hM.st, by rw [hM.same 0 (by decide) (by decide), upd_same], ?_, h1, ?_, ?_, ?_, fun p hp => ((hb.cts p hp).ev h6 (by decide)).dz 24, ?_⟩, hM.len, h2, h3, h5⟩
  · rw [hj 1 (by decide) (by decide) (by decide), hj 2 (by decide) (by decide) (by decide)]; exact (hb.sI.ev h6 (by decide) (by decide) (by decide) (by decide) (by decide) (by decide)).dz 24 (by decide) (by decide) (by decide)
  · rw [hj 5 (by decide) (by decide) (by decide), hj 6 (by decide) (by decide) (by decide)]; exact (hb.sE.ev h6 (by decide) (by decide) (by decide) (by decide) (by decide) (by decide)).dz 24 (by decide) (by decide) (by decide)
  · rw [hj 7 (by decide) (by decide) (by decide)]; exact (hb.oH.ev h6 (by decide) (by decide)).dz 24 (by decide)
  · rw [hj 8 (by decide) (by decide) (by decide)]; exact (hb.oU.ev h6 (by decide) (by decide)).dz 24 (by decide)
  · rw [hj 9 (by decide) (by decide) (by decide), hj 10 (by decide) (by decide) (by decide)]; exact (hb.sC.ev h6 (by decide) (by decide) (by decide) (by decide) (by decide) (by decide)).dz 24 (by decide) (by decide) (by decide)

set_option maxHeartbeats 4000000 in
set_option maxRecDepth 4000 in
theorem keepR_any (N : Nat) (ρ : Nat → Nat) (w : World) (B : Nat) (mark : Int) (F : Nat → Value) (LI LR LE LC : List (Value × Int)) (K : List (Value × Value)) (l : Value) (n : Nat) (xs : List Rt)
    (hN : N ≤ w.heap.size) (hF : Fr ρ w) (hb : Bo N ρ w B mark F LI LR LE LC K) (hnx : n = xs.length) (hl : RwO w N l xs) (h14 : ∀ g, l.ownBlock = some g → ρ g = 14) (hn : n ≤ 1000) (hL : LR.length + 4 ≤ 5864062014805) (hm1 : -4611686018427387904 ≤ mark) (hm2 : mark ≤ 0) (h15 : ∀ k, ρ k ≠ 15) :
    Calls Tryz.prog 54 #[.pointer (some ⟨B, 0, none⟩), l] w fun e w' => e = .returned (.tuple #[]) ∧ ∃ ρ' F' L', Bo N ρ' w' B (mark - 1) F' LI (LR ++ L') LE LC K ∧ L'.length = 4 ∧ Fr ρ' w' ∧ (∀ k, ρ' k ≠ 15) ∧ Ev (fun q => q = 1 ∨ q = 20 ∨ q = 21) ρ w ρ' w' := by
  obtain ⟨i0, hi, hz0, hz1, hz2⟩ := info3
  obtain ⟨i6, hj, hy0, hy1, hy2⟩ := info50
  obtain ⟨i7, hk7, hx0, hx1, hx2⟩ := info42
  obtain ⟨ao, cap, rfl, hao⟩ := own_slz hl
  have HB := Lib.hid hb
  have HFr := Lib.hid hF
  have HO := Lib.hid hl
  have H14 := Lib.hid h14
  have hBlt := hb.st.lt (by decide)
  have c0 := (hb.st 0 (by decide)).1
  have f0 := (hb.st 0 (by decide)).2
  rw [hb.mark0] at c0
  rw [← hnx] at hao HO H14 ⊢
  have HA := Lib.hid hao
  have H15 := Lib.hid h15
  have Hnx := Lib.hid hnx
  have HRt := Lib.hid (fun (w : World) => route_any (mark - 1) w)
  clear hb hF hl h14 hao h15 hnx
  go_enter Tryz.func54, Tryz.ntmps54
  go_wp2
  go_loopw [4] (fun i wr => ∃ (k : Nat) (ys : List Rt), k ≤ n ∧ i = .int .i64 k ∧ Hid (RwO wr N (.slice ao n cap) ys) ∧ Hid (ys.length = n) ∧ Hid (∀ j, j < k → ys[j]? = some (mkRt (mark - 1))) ∧ Hid (St wr B 11 (upd F 0 (.int .i64 (mark - 1)))) ∧ Hid (Ev (fun q => q = 1) ρ w ρ wr) ∧ Hid (Fr ρ wr)) (fun i _ => n - (intOf i).toNat)
  case atStart =>
    refine ⟨0, xs, Nat.zero_le _, rfl, ?_, Hnx.out.symm, (show ∀ j, j < 0 → _ from fun j hj => by omega), ?_, ?_, ?_⟩
    · exact HO.out.setOther (fun g hg e => by have h1 := H14.out g hg; rw [e, HB.out.rB] at h1; omega) _
    · exact HB.out.set0 _
    · exact Ev.of_set ρ w B 0 _ (.inr HB.out.rB)
    · exact HFr.out.grow (by simp [World.setCell])
  case round =>
    obtain ⟨k, ys, hk, rfl, HO1, HYl, HY, HS, HE, HF⟩ := hrel
    have c1 := (HS.out 0 (by decide)).1
    rw [upd_same] at c1
    clear c0 f0
    by_cases hlt : k < n
    · obtain ⟨g, rfl⟩ := HA.out (by omega)
      obtain ⟨y, hy⟩ : ∃ y, ys[k]? = some y := ⟨_, List.getElem?_eq_getElem (by rw [HYl.out]; exact hlt)⟩
      obtain ⟨g', hg', hat, hfz, -, hgl⟩ := RwO.at HO1.out hy
      obtain rfl : g = g' := by simpa using hg'
      have Hat := Lib.hid hat
      have Hfz := Lib.hid hfz
      have hgB : g ≠ B := fun e => by have h1 := H14.out g rfl; rw [e, HB.out.rB] at h1; omega
      have q1 : (k : Int) < (n : Int) := by omega
      clear hg' hat hfz hy
      go_wp2_with fail
      refine (HRt.out _).mono ?_
      rintro e w1 ⟨rfl, hb1⟩
      have HB1 := Lib.hid hb1
      have j0 := (hb1.cell (p := ⟨g, k * 5, none⟩) hgl).trans Hat.out.c0
      have j1 := (hb1.cell (p := ⟨g, k * 5 + 1, none⟩) hgl).trans Hat.out.c1
      have j2 := (hb1.cell (p := ⟨g, k * 5 + 2, none⟩) hgl).trans Hat.out.c2
      have j3 := (hb1.cell (p := ⟨g, k * 5 + 3, none⟩) hgl).trans Hat.out.c3
      have j4 := (hb1.cell (p := ⟨g, k * 5 + 4, none⟩) hgl).trans Hat.out.c4
      have m0 := (hb1.frozen (p := ⟨g, k * 5, none⟩) hgl).trans (Hfz.out _)
      have m1 := (hb1.frozen (p := ⟨g, k * 5 + 1, none⟩) hgl).trans (Hfz.out _)
      have m2 := (hb1.frozen (p := ⟨g, k * 5 + 2, none⟩) hgl).trans (Hfz.out _)
      have m3 := (hb1.frozen (p := ⟨g, k * 5 + 3, none⟩) hgl).trans (Hfz.out _)
      have m4 := (hb1.frozen (p := ⟨g, k * 5 + 4, none⟩) hgl).trans (Hfz.out _)
      have HO2 := Lib.hid (HO1.out.far hb1 (fun b hb => by simp [Value.ownBlock] at hb; rw [← hb]; exact hgl))
      clear hb1 c1
      go_wp2
      go_roundw
      case rel =>
        refine ⟨k + 1, ys.set k (mkRt (mark - 1)), by omega, by go_num, ?_, (by show _ = _; rw [List.length_set]; exact HYl.out), (show ∀ j, j < k + 1 → _ from fun j hj => get_setR HY.out (by rw [HYl.out]; exact hlt) hj), ?_, ?_, ?_⟩
        · exact HO2.out.set (by rw [HYl.out]; exact hlt) (mkRt (mark - 1))
        · exact ((HS.out.below HB1.out (HS.out.lt (by decide))).same (((grown5 w1 g (k * 5) _ _ _ _ _).block B (Nat.lt_of_lt_of_le (HS.out.lt (by decide)) HB1.out.size) (fun e => hgB (by simpa using e.symm)))))
        · exact (HE.out.trans (Ev.of_below ρ HB1.out)).trans (Ev.of_grown ρ (grown5 w1 g (k * 5) _ _ _ _ _) (fun g' hg' => by cases hg'; exact .inl (H14.out g rfl)))
        · exact HF.out.grow (Nat.le_trans HB1.out.size (grown5 w1 g (k * 5) _ _ _ _ _).size)
      case measure => simp [intOf]; omega
    · obtain rfl : k = n := by omega
      obtain ⟨ρ1, hO1, hE1, hF1⟩ := adoptZ 15 HF.out HO1.out H14.out
      have hys : flat ys = rep k (patR (mark - 1)) := by rw [all_rt HYl.out HY.out, flat_rep, rc_mk]
      rw [hys, HYl.out] at hO1
      have hM : Mi N ρ w B (mark - 1) 20 21 85 35 3 4 (patR (mark - 1)) (upd F 0 (.int .i64 (mark - 1))) LR k (.slice ao k cap) 0 ρ1 wr (upd F 0 (.int .i64 (mark - 1))) [] k := by
        have hEv : Ev (fun q => q = 1) ρ w ρ1 wr := HE.out.trans (hE1 _)
        have hBl : B < wr.heap.size := Nat.lt_of_lt_of_le hBlt HE.out.size
        refine ⟨hEv.mono (fun q h => .inl h), hF1, ?_, HS.out, fun _ _ _ => rfl, ?_, ?_, rfl, (fun p hp => by cases hp), hO1, Nat.le_refl _⟩
        · rw [(hE1 (fun _ => False)).role B hBl (by rw [HB.out.rB]; decide)]; exact HB.out.rB
        · rw [List.append_nil, upd_ne (by decide)]; exact HB.out.sR.oV.ev hEv (by decide) (by decide)
        · rw [List.append_nil, upd_ne (by decide)]; exact HB.out.sR.oM.ev hEv (by decide) (by decide)
      have HM := Lib.hid hM
      clear hO1 hE1 hF1 hM HO1 HY HE c1 HF HS hys HYl
      go_wp2
      go_loopw [1, 5] (fun lv i wr => ∃ (q : Nat) (ρ' : Nat → Nat) (F2 : Nat → Value) (L' : List (Value × Int)) (n : Nat), q ≤ 4 ∧ i = .int .i64 q ∧ Mi N ρ w B (mark - 1) 20 21 85 35 3 4 (patR (mark - 1)) (upd F 0 (.int .i64 (mark - 1))) LR k lv q ρ' wr F2 L' n) (fun _ i _ => 4 - (intOf i).toNat)
      case atStart => exact ⟨0, ρ1, _, [], k, Nat.zero_le _, rfl, HM.out⟩
      case round =>
        clear HM
        obtain ⟨q, ρ2, F2, L2, n2, hq, rfl, hM⟩ := hrel
        have HM := Lib.hid hM
        obtain ⟨ao2, cap2, rfl, hao2⟩ := own_slz hM.ol.1
        clear hao2
        have b0 := (hM.st 0 (by decide)).1
        have b1 := (hM.st 3 (by decide)).1
        have b2 := (hM.st 4 (by decide)).1
        rw [hM.same 0 (by decide) (by decide), upd_same] at b0
        have hBl := hM.st.lt (by decide)
        obtain ⟨z, hz⟩ : ∃ z, z = (LR ++ L2).length := ⟨_, rfl⟩
        have hzq : z + 1 ≤ 5864062014805 ∨ 4 ≤ q := by
          have := hM.len
          rw [List.length_append] at hz
          omega
        have hoI := hM.oV
        have hoM := hM.oM
        obtain ⟨xI, hxI⟩ : ∃ x, x = (LR ++ L2).map (·.1) := ⟨_, rfl⟩
        obtain ⟨xM, hxM⟩ : ∃ x, x = (LR ++ L2).map fun p => Value.int .i64 p.2 := ⟨_, rfl⟩
        obtain ⟨vI2, hvI⟩ : ∃ v, v = F2 3 := ⟨_, rfl⟩
        obtain ⟨vM2, hvM⟩ : ∃ v, v = F2 4 := ⟨_, rfl⟩
        rw [← hz, ← hxI, ← hvI] at hoI
        rw [← hz, ← hxM, ← hvM] at hoM
        rw [← hvI] at b1
        rw [← hvM] at b2
        have HoI := Lib.hid hoI
        have HoM := Lib.hid hoM
        have Hz := Lib.hid hz
        have HxI := Lib.hid hxI
        have HxM := Lib.hid hxM
        have HvI := Lib.hid hvI
        have HvM := Lib.hid hvM
        have hNw : N ≤ wr.heap.size := Nat.le_trans hN hM.ev.size
        clear hM hoI hoM hz hxI hxM hvI hvM
        by_cases hlt4 : q < 4
        · have hz5 : z + 1 ≤ 5864062014805 := by omega
          clear hzq
          go_wp2_with (at_builtin; refine wpList_append_lies _ rfl _ _ 50 rfl N 85 i6 nilS 1 24 Tryz.underlying50 hj hy0 hy1 hy2 rfl (by decide) vI2 z xI rfl (HoI.out.1.alloc _) ⟨wr.heap.size, 0, none⟩ 1 1 [.slice ao2 n2 cap2] rfl rfl (news_one _ _ _) ?c2 (by decide) ?c4 ?c5 ?c6 _ rfl ?_)
          case c2 => intro u hu; cases List.mem_singleton.1 hu; rfl
          case c4 => unfold maxLen; omega
          case c5 => omega
          case c6 => simp; omega
          intro g3 cap3 w2 hown3 hgrow3 hat3 hgz3
          obtain ⟨hS2, ρ3, hF3, hE3, hS3, hO3⟩ := push_cell HM.out.fr HM.out.rB HM.out.st (c := 3) (by decide) (by decide) HoI.out ((Below.refl _ _).alloc (Nat.le_refl _) _) hown3 hgrow3 (by simpa using hat3) hgz3
          have s1 := (hS2 3 (by decide)).1
          have s2 := (hS2 3 (by decide)).2
          have HF3 := Lib.hid hF3
          have HE3 := Lib.hid hE3
          have HSI := Lib.hid hS3
          have HO3 := Lib.hid hO3
          have d0' := (hS3 0 (by decide)).1
          have d2' := (hS3 4 (by decide)).1
          rw [upd_ne (by decide), HM.out.same 0 (by decide) (by decide), upd_same] at d0'
          rw [upd_ne (by decide), ← HvM.out] at d2'
          have Hd := Lib.hid (And.intro d0' d2')
          clear hS2 hF3 hE3 hS3 hO3 hown3 hgrow3 hat3 b0 b1 b2 d0' d2'
          go_wp2
          generalize w2.setCell ⟨B, 3, none⟩ (Value.slice (some ⟨g3, 0, none⟩) (z + 1) cap3) = w3 at *
          clear s1 s2 hgz3
          have d0 := Hd.out.1
          have d2 := Hd.out.2
          have HoM3 := Lib.hid (HoM.out.ev HE3.out (by decide) (by decide))
          have hN3 : N ≤ w3.heap.size := Nat.le_trans hNw HE3.out.size
          have hB3 : B < w3.heap.size := Nat.lt_of_lt_of_le hBl HE3.out.size
          have HrB3 : Hid (ρ3 B = 1) := by show _ = _; rw [HE3.out.role B hBl (by rw [HM.out.rB]; decide)]; exact HM.out.rB
          clear Hd
          go_region_law (refine step_append_lies _ rfl (.tmp 46) (.tmp 51) 36 rfl N 3 i0 (.int .i64 0) 1 8 Tryz.underlying36 hi hz0 hz1 hz2 rfl (by decide) vM2 z xM (by simp [Act.eval]) (World.ownsRow.alloc (World.ownsRow.drew HoM3.out.1) _) ⟨w3.heap.size, 0, none⟩ 1 1 [.int .i64 (mark - 1)] (by simp [Act.eval]) rfl (news_one w3.drew _ _) (by intro u hu; cases List.mem_singleton.1 hu; rfl) (by decide) (by unfold maxLen; omega) (by omega) (by simp; omega) (w3.heap.size + 1) (by simp) ?_; intro g4 cap4 w4 hown4 hgrow4 hat4 hgz4; obtain ⟨hS4, ρ4, hF4, hE4, hS5, hO5⟩ := push_cell HF3.out HrB3.out HSI.out (c := 4) (by decide) (by decide) HoM3.out (((Below.refl w3.heap.size w3).drew).alloc (Nat.le_refl _) _) hown4 hgrow4 (by simpa using hat4) hgz4; have s1 := (hS4 4 (by decide)).1; have s2 := (hS4 4 (by decide)).2; have HF4 := Lib.hid hF4; have HE4 := Lib.hid hE4; have HS4 := Lib.hid hS5; have HO4 := Lib.hid hO5; clear hS4 hF4 hE4 hS5 hO5 hown4 hgrow4 hat4)
          all_goals
            generalize w4.setCell ⟨B, 4, none⟩ (Value.slice (some ⟨g4, 0, none⟩) (z + 1) cap4) = w5 at *
            clear s1 s2 hgz4 d0 d2
            have d0 := (HS4.out 0 (by decide)).1
            rw [upd_ne (by decide), upd_ne (by decide), HM.out.same 0 (by decide) (by decide), upd_same] at d0
            have HoL5 := Lib.hid ((HM.out.ol.ev HE3.out (by decide) (by decide)).ev HE4.out (by decide) (by decide))
            have hN5 : N ≤ w5.heap.size := Nat.le_trans hN3 HE4.out.size
            have hB5 : B < w5.heap.size := Nat.lt_of_lt_of_le hB3 HE4.out.size
            have hn2 : n2 ≤ 1004 := by have := HM.out.le; omega
            go_wp2_with fail
            refine (HRt.out _).mono ?_
            rintro e w7 ⟨rfl, hb7⟩
            have HB7 := Lib.hid hb7
            have HoL7 := Lib.hid (HoL5.out.ev (Ev.of_below (R := fun _ => False) ρ4 hb7) (by simp) (by decide))
            have hN7 : N ≤ w7.heap.size := Nat.le_trans hN5 hb7.size
            clear hb7 d0
            go_wp2_with (at_builtin; refine wpList_append_armz _ rfl _ _ 85 rfl N 35 i7 _ 5 40 Tryz.underlying85 hk7 hx0 hx1 hx2 rfl _ n2 (rep n2 (patR (mark - 1))) rfl (HoL7.out.1.alloc _) ⟨w7.heap.size, 0, none⟩ 1 1 (patR (mark - 1)) rfl rfl (news_pat _ _ _) ?c2 (by decide) ?c4 ?c5 ?c6 ?_)
            case c2 => exact pat_one _
            case c4 => unfold maxLen; omega
            case c5 => omega
            case c6 => simp; omega
            intro g6 cap6 w6 hown6 hgz6 harm6
            have HOWN6 := Lib.hid hown6
            have HARM6 := Lib.hid harm6
            clear hown6 harm6
            go_wp2
            go_roundw
            case rel =>
              refine ⟨q + 1, rl ρ4 g6 15, upd (upd F2 3 (.slice (some ⟨g3, 0, none⟩) (z + 1) cap3)) 4 (.slice (some ⟨g4, 0, none⟩) (z + 1) cap4), L2 ++ [(.slice ao2 n2 cap2, mark - 1)], n2 + 1, by omega, by go_num, ?_⟩
              refine mi_next (w5' := w7.alloc (.cells #[.int .i64 0, .int .u64 0, .int .u64 0, .int .i64 0, .int .i64 (mark - 1)] 35)) (by unfold Rs; omega) HM.out HrB3.out HE3.out HE4.out HF4.out HS4.out (fun j h1 h2 => by rw [upd_ne h2, upd_ne h1]; exact HM.out.same j h1 h2) hBl Hz.out HxI.out HxM.out ?_ ?_ (HB7.out.trans (((Below.refl _ _).alloc (Nat.le_refl _) _).mono HB7.out.size)) HOWN6.out hgz6 ?_
              · rw [upd_ne (by decide), upd_same]; exact HO3.out
              · rw [upd_same]; exact HO4.out
              · exact HARM6.out.imp (fun h => ⟨by rw [h.1.1, h.1.2], h.2⟩) (fun h => ⟨by simpa using h.1, h.2⟩)
            case measure => simp [intOf]; omega
        · obtain rfl : q = 4 := by omega
          go_wp2
          refine bodyPost_end (results_none rfl _ _ _) rfl ?_
          exact ⟨rfl, keepR_fin HB.out H15.out HM.out⟩
end Go.Proofs.YtnfkgnjeamnhfaaGreat
