import Derived.Test.YtnfkgnjeamnhfaaGreatBd
import Derived.Test.YtnfkgnjeamnhfaaGreatTi
namespace Go.Proofs.YtnfkgnjeamnhfaaGreat
open Go.RowKit

theorem flatE_split {rs : List En} {k : Nat} (r : En) (hk : k < rs.length) : flatE (rs.set k r) = flatE (rs.take k) ++ (ec r ++ flatE (rs.drop (k + 1))) := by
  rw [List.set_eq_take_append_cons_drop, if_pos hk, flatE_append, flatE_cons]
theorem flatE_set {rs : List En} {k : Nat} (r : En) (hk : k < rs.length) :
    ((((((flatE rs).set (k * 6) (.int .i64 r.a.1)).set (k * 6 + 1) (.int .u64 r.a.2.1)).set (k * 6 + 2) (.int .u64 r.a.2.2)).set (k * 6 + 3) (.int .i64 r.g)).set (k * 6 + 4) (.int .i64 r.k)).set (k * 6 + 5) (.int .i64 r.b) = flatE (rs.set k r) := by
  have h0 : flatE rs = flatE (rs.take k) ++ (ec rs[k] ++ flatE (rs.drop (k + 1))) := by
    conv => lhs; rw [← List.take_append_drop k rs, List.drop_eq_getElem_cons hk, flatE_append, flatE_cons]
  rw [h0, flatE_split r hk]
  have hl : (flatE (rs.take k)).length = k * 6 := by rw [flatE_len, List.length_take]; omega
  generalize flatE (rs.take k) = A at hl ⊢
  simp only [ec, List.cons_append, List.nil_append]
  rw [← hl]
  simp [List.set_append_right]
/-- An entry stored into a row. -/
theorem RwE.set {w : World} {N g n cap : Nat} {rs : List En} (h : RwE w N (.slice (some ⟨g, 0, none⟩) n cap) rs) {k : Nat} (hk : k < rs.length) (r : En) :
    RwE ((((((w.setCell ⟨g, k * 6, none⟩ (.int .i64 r.a.1)).setCell ⟨g, k * 6 + 1, none⟩ (.int .u64 r.a.2.1)).setCell ⟨g, k * 6 + 2, none⟩ (.int .u64 r.a.2.2)).setCell ⟨g, k * 6 + 3, none⟩ (.int .i64 r.g)).setCell ⟨g, k * 6 + 4, none⟩ (.int .i64 r.k)).setCell ⟨g, k * 6 + 5, none⟩ (.int .i64 r.b)) N (.slice (some ⟨g, 0, none⟩) n cap) (rs.set k r) := by
  obtain ⟨g', cap', e, -⟩ := World.ownsRow.form h (by omega)
  obtain ⟨e1, e2, e3⟩ : g = g' ∧ n = rs.length ∧ cap = cap' := by simpa using e
  subst e1 e2 e3
  have h1 := ((((((h.stored (k * 6) (.int .i64 r.a.1)).1.stored (k * 6 + 1) (.int .u64 r.a.2.1)).1.stored (k * 6 + 2) (.int .u64 r.a.2.2)).1.stored (k * 6 + 3) (.int .i64 r.g)).1.stored (k * 6 + 4) (.int .i64 r.k)).1.stored (k * 6 + 5) (.int .i64 r.b)).1
  rw [flatE_set r hk] at h1
  rw [RwE, List.length_set]
  exact h1
theorem grown6 (w : World) (g o : Nat) (a b c d e f : Value) : w.grownBy ((((((w.setCell ⟨g, o, none⟩ a).setCell ⟨g, o + 1, none⟩ b).setCell ⟨g, o + 2, none⟩ c).setCell ⟨g, o + 3, none⟩ d).setCell ⟨g, o + 4, none⟩ e).setCell ⟨g, o + 5, none⟩ f) (some g) :=
  grown_trans (grown5 w g o a b c d e) (grown_set _ _ _ _)
/-- An entry that is marked. -/
def mkEn (m : Int) : En := ⟨(0, 0, 0), m, 0, 0⟩
theorem ec_mk (m : Int) : ec (mkEn m) = patE m := rfl
theorem flatE_rep (n : Nat) (r : En) : flatE (List.replicate n r) = rep n (ec r) := by
  unfold flatE rep
  induction n with
  | zero => rfl
  | succ n ih => rw [List.replicate_succ, List.flatMap_cons, ih, List.replicate_succ, List.flatten_cons]
theorem all_en {ys : List En} {n : Nat} {r : En} (hl : ys.length = n) (h : ∀ j, j < n → ys[j]? = some r) : ys = List.replicate n r := by
  apply List.ext_getElem?
  intro j
  by_cases hj : j < n
  · rw [h j hj, List.getElem?_replicate, if_pos hj]
  · rw [List.getElem?_eq_none (by omega), List.getElem?_replicate, if_neg hj]
theorem get_setE {ys : List En} {k j : Nat} {u : En} (h : ∀ j, j < k → ys[j]? = some u) (hk : k < ys.length) (hj : j < k + 1) : (ys.set k u)[j]? = some u := by
  by_cases e : j = k
  · subst e; simp [hk]
  · rw [List.getElem?_set_ne (by omega)]; exact h j (by omega)
set_option maxHeartbeats 1000000 in
theorem entry_any (m : Int) (w : World) : Calls Tryz.prog 35 #[.int .i64 m] w fun e w' => e = .returned (.agg #[.int .i64 0, .int .u64 0, .int .u64 0, .int .i64 m, .int .i64 0, .int .i64 0]) ∧ Below w.heap.size w w' := by
  go_enter Tryz.func35, Tryz.ntmps35
  go_wp2
  refine bodyPost_ret (v := .agg #[.int .i64 0, .int .u64 0, .int .u64 0, .int .i64 m, .int .i64 0, .int .i64 0]) (by simp [results, Tryz.results35, go_sem]) rfl ⟨rfl, (Below.refl _ _).alloc (Nat.le_refl _) _⟩
theorem infoLEm : (Tryz.prog.info? 65).map (fun i => (i.size, i.bytes, i.zero)) = some (1, 24, some (.slice none 0 0)) := by kernel_rfl
theorem infoLE : ∃ i, Tryz.prog.info? 65 = some i ∧ i.zero = some (.slice none 0 0) ∧ i.size = 1 ∧ i.bytes = 24 := by
  obtain ⟨i, hi, he⟩ := Option.map_eq_some_iff.1 infoLEm
  simp only [Prod.mk.injEq] at he
  exact ⟨i, hi, he.2.2, he.1, he.2.1⟩
theorem news_patE (w : World) (m : Int) (t : TypeId) : ∀ j u, (patE m)[j]? = some u → (w.alloc (.cells #[.int .i64 0, .int .u64 0, .int .u64 0, .int .i64 m, .int .i64 0, .int .i64 0] t)).cell? ((⟨w.heap.size, 0, none⟩ : Addr).add j) = some u :=
  World.news_of_block (cs := #[.int .i64 0, .int .u64 0, .int .u64 0, .int .i64 m, .int .i64 0, .int .i64 0]) (heap_alloc_new w _)
theorem patE_one (m : Int) : ∀ u ∈ patE m, u.oneCell' = true := ec_one (mkEn m)
theorem keepE_fin {N : Nat} {ρ : Nat → Nat} {w : World} {B : Nat} {mark m : Int} {F F2 : Nat → Value} {LI LR LE LC : List (Value × Int)} {K : List (Value × Value)} {n0 : Nat} {l : Value} {ρ2 : Nat → Nat} {wr : World} {L2 : List (Value × Int)} {n : Nat} (hb : Bo N ρ w B mark F LI LR LE LC K) (h15 : ∀ k, ρ k ≠ 15)
    (hM : Mi N ρ w B m 26 27 65 88 5 6 (patE m) (upd F 0 (.int .i64 m)) LE n0 l 4 ρ2 wr F2 L2 n) :
    ∃ ρ' F' L', Bo N ρ' wr B m F' LI LR (LE ++ L') LC K ∧ L'.length = 4 ∧ Fr ρ' wr ∧ (∀ k, ρ' k ≠ 15) ∧ Ev (fun q => q = 1 ∨ q = 26 ∨ q = 27) ρ w ρ' wr := by
  obtain ⟨h1, h2, h3, h4, h5, h6⟩ := mi_done (by unfold Rs; omega) (by omega) hb.sE h15 hM
  have hj : ∀ j, j ≠ 5 → j ≠ 6 → j ≠ 0 → F2 j = F j := fun j a b c => by rw [hM.same j a b, upd_ne c]
  refine ⟨doneZ 29 ρ2, F2, L2, ⟨h4, hM.st, by rw [hM.same 0 (by decide) (by decide), upd_same], ?_, ?_, h1, ?_, ?_, fun p hp => ((hb.cts p hp).ev h6 (by decide)).dz 29, ?_⟩, hM.len, h2, h3, h5⟩
  · rw [hj 1 (by decide) (by decide) (by decide), hj 2 (by decide) (by decide) (by decide)]; exact (hb.sI.ev h6 (by decide) (by decide) (by decide) (by decide) (by decide) (by decide)).dz 29 (by decide) (by decide) (by decide)
  · rw [hj 3 (by decide) (by decide) (by decide), hj 4 (by decide) (by decide) (by decide)]; exact (hb.sR.ev h6 (by decide) (by decide) (by decide) (by decide) (by decide) (by decide)).dz 29 (by decide) (by decide) (by decide)
  · rw [hj 7 (by decide) (by decide) (by decide)]; exact (hb.oH.ev h6 (by decide) (by decide)).dz 29 (by decide)
  · rw [hj 8 (by decide) (by decide) (by decide)]; exact (hb.oU.ev h6 (by decide) (by decide)).dz 29 (by decide)
  · rw [hj 9 (by decide) (by decide) (by decide), hj 10 (by decide) (by decide) (by decide)]; exact (hb.sC.ev h6 (by decide) (by decide) (by decide) (by decide) (by decide) (by decide)).dz 29 (by decide) (by decide) (by decide)

set_option maxHeartbeats 4000000 in
set_option maxRecDepth 4000 in
theorem keepE_any (N : Nat) (ρ : Nat → Nat) (w : World) (B : Nat) (mark : Int) (F : Nat → Value) (LI LR LE LC : List (Value × Int)) (K : List (Value × Value)) (l : Value) (n : Nat) (xs : List En)
    (hN : N ≤ w.heap.size) (hF : Fr ρ w) (hb : Bo N ρ w B mark F LI LR LE LC K) (hnx : n = xs.length) (hl : RwE w N l xs) (h14 : ∀ g, l.ownBlock = some g → ρ g = 14) (hn : n ≤ 1000) (hL : LE.length + 4 ≤ 5864062014805) (hm1 : -4611686018427387904 ≤ mark) (hm2 : mark ≤ 0) (h15 : ∀ k, ρ k ≠ 15) :
    Calls Tryz.prog 27 #[.pointer (some ⟨B, 0, none⟩), l] w fun e w' => e = .returned (.tuple #[]) ∧ ∃ ρ' F' L', Bo N ρ' w' B (mark - 1) F' LI LR (LE ++ L') LC K ∧ L'.length = 4 ∧ Fr ρ' w' ∧ (∀ k, ρ' k ≠ 15) ∧ Ev (fun q => q = 1 ∨ q = 26 ∨ q = 27) ρ w ρ' w' := by
  obtain ⟨i0, hi, hz0, hz1, hz2⟩ := info3
  obtain ⟨i6, hj, hy0, hy1, hy2⟩ := infoLE
  obtain ⟨i7, hk7, hx0, hx1, hx2⟩ := infoE
  obtain ⟨ao, cap, rfl, hao⟩ := own_slz hl
  have HB := Lib.hid hb
  have HFr := Lib.hid hF
  have HO := Lib.hid hl
  have H14 := Lib.hid h14
  have hBlt := hb.st.lt (by decide)
  have c0 := (hb.st 0 (by decide)).1
  have f0 := (hb.st 0 (by decide)).2
  rw [hb.mark0] at c0
  rw [← hnx] at hao HO H14 ⊢
  have HA := Lib.hid hao
  have H15 := Lib.hid h15
  have Hnx := Lib.hid hnx
  have HRt := Lib.hid (fun (w : World) => entry_any (mark - 1) w)
  clear hb hF hl h14 hao h15 hnx
  go_enter Tryz.func27, Tryz.ntmps27
  go_wp2
  go_loopw [4] (fun i wr => ∃ (k : Nat) (ys : List En), k ≤ n ∧ i = .int .i64 k ∧ Hid (RwE wr N (.slice ao n cap) ys) ∧ Hid (ys.length = n) ∧ Hid (∀ j, j < k → ys[j]? = some (mkEn (mark - 1))) ∧ Hid (St wr B 11 (upd F 0 (.int .i64 (mark - 1)))) ∧ Hid (Ev (fun q => q = 1) ρ w ρ wr) ∧ Hid (Fr ρ wr)) (fun i _ => n - (intOf i).toNat)
  case atStart =>
    refine ⟨0, xs, Nat.zero_le _, rfl, ?_, Hnx.out.symm, (show ∀ j, j < 0 → _ from fun j hj => by omega), ?_, ?_, ?_⟩
    · exact row_set HO.out (fun g hg e => by have h1 := H14.out g hg; rw [e, HB.out.rB] at h1; omega) _
    · exact HB.out.set0 _
    · exact Ev.of_set ρ w B 0 _ (.inr HB.out.rB)
    · exact HFr.out.grow (by simp [World.setCell])
  case round =>
    obtain ⟨k, ys, hk, rfl, HO1, HYl, HY, HS, HE, HF⟩ := hrel
    have c1 := (HS.out 0 (by decide)).1
    rw [upd_same] at c1
    clear c0 f0
    by_cases hlt : k < n
    · obtain ⟨g, rfl⟩ := HA.out (by omega)
      obtain ⟨y, hy⟩ : ∃ y, ys[k]? = some y := ⟨_, List.getElem?_eq_getElem (by rw [HYl.out]; exact hlt)⟩
      obtain ⟨g', hg', -, hat, hfz, -, hgl⟩ := RwE.at HO1.out hy
      obtain rfl : g = g' := by simpa using hg'
      have Hat := Lib.hid hat
      have Hfz := Lib.hid hfz
      have hgB : g ≠ B := fun e => by have h1 := H14.out g rfl; rw [e, HB.out.rB] at h1; omega
      have q1 : (k : Int) < (n : Int) := by omega
      clear hg' hat hfz hy
      go_wp2_with fail
      refine (HRt.out _).mono ?_
      rintro e w1 ⟨rfl, hb1⟩
      have HB1 := Lib.hid hb1
      have j0 : w1.cell? ⟨g, k * 6, none⟩ = some (.int .i64 y.a.1) := (hb1.cell (p := ⟨g, k * 6, none⟩) hgl).trans (Hat.out 0 _ rfl)
      have m0 := (hb1.frozen (p := ⟨g, k * 6, none⟩) hgl).trans (Hfz.out (k * 6))
      have j1 : w1.cell? ⟨g, k * 6 + 1, none⟩ = some (.int .u64 y.a.2.1) := (hb1.cell (p := ⟨g, k * 6 + 1, none⟩) hgl).trans (Hat.out 1 _ rfl)
      have m1 := (hb1.frozen (p := ⟨g, k * 6 + 1, none⟩) hgl).trans (Hfz.out (k * 6 + 1))
      have j2 : w1.cell? ⟨g, k * 6 + 2, none⟩ = some (.int .u64 y.a.2.2) := (hb1.cell (p := ⟨g, k * 6 + 2, none⟩) hgl).trans (Hat.out 2 _ rfl)
      have m2 := (hb1.frozen (p := ⟨g, k * 6 + 2, none⟩) hgl).trans (Hfz.out (k * 6 + 2))
      have j3 : w1.cell? ⟨g, k * 6 + 3, none⟩ = some (.int .i64 y.g) := (hb1.cell (p := ⟨g, k * 6 + 3, none⟩) hgl).trans (Hat.out 3 _ rfl)
      have m3 := (hb1.frozen (p := ⟨g, k * 6 + 3, none⟩) hgl).trans (Hfz.out (k * 6 + 3))
      have j4 : w1.cell? ⟨g, k * 6 + 4, none⟩ = some (.int .i64 y.k) := (hb1.cell (p := ⟨g, k * 6 + 4, none⟩) hgl).trans (Hat.out 4 _ rfl)
      have m4 := (hb1.frozen (p := ⟨g, k * 6 + 4, none⟩) hgl).trans (Hfz.out (k * 6 + 4))
      have j5 : w1.cell? ⟨g, k * 6 + 5, none⟩ = some (.int .i64 y.b) := (hb1.cell (p := ⟨g, k * 6 + 5, none⟩) hgl).trans (Hat.out 5 _ rfl)
      have m5 := (hb1.frozen (p := ⟨g, k * 6 + 5, none⟩) hgl).trans (Hfz.out (k * 6 + 5))
      have HO2 := Lib.hid (rowE_far HO1.out hb1 (fun b hb => by simp [Value.ownBlock] at hb; rw [← hb]; exact hgl))
      clear hb1 c1
      go_wp2
      go_roundw
      case rel =>
        refine ⟨k + 1, ys.set k (mkEn (mark - 1)), by omega, by go_num, ?_, (by show _ = _; rw [List.length_set]; exact HYl.out), (show ∀ j, j < k + 1 → _ from fun j hj => get_setE HY.out (by rw [HYl.out]; exact hlt) hj), ?_, ?_, ?_⟩
        · exact RwE.set HO2.out (by rw [HYl.out]; exact hlt) (mkEn (mark - 1))
        · exact ((HS.out.below HB1.out (HS.out.lt (by decide))).same (((grown6 w1 g (k * 6) _ _ _ _ _ _).block B (Nat.lt_of_lt_of_le (HS.out.lt (by decide)) HB1.out.size) (fun e => hgB (by simpa using e.symm)))))
        · exact (HE.out.trans (Ev.of_below ρ HB1.out)).trans (Ev.of_grown ρ (grown6 w1 g (k * 6) _ _ _ _ _ _) (fun g' hg' => by cases hg'; exact .inl (H14.out g rfl)))
        · exact HF.out.grow (Nat.le_trans HB1.out.size (grown6 w1 g (k * 6) _ _ _ _ _ _).size)
      case measure => simp [intOf]; omega
    · obtain rfl : k = n := by omega
      obtain ⟨ρ1, hO1, hE1, hF1⟩ := adoptZ 15 HF.out HO1.out H14.out
      have hys : flatE ys = rep k (patE (mark - 1)) := by rw [all_en HYl.out HY.out, flatE_rep, ec_mk]
      rw [hys, HYl.out] at hO1
      have hM : Mi N ρ w B (mark - 1) 26 27 65 88 5 6 (patE (mark - 1)) (upd F 0 (.int .i64 (mark - 1))) LE k (.slice ao k cap) 0 ρ1 wr (upd F 0 (.int .i64 (mark - 1))) [] k := by
        have hEv : Ev (fun q => q = 1) ρ w ρ1 wr := HE.out.trans (hE1 _)
        have hBl : B < wr.heap.size := Nat.lt_of_lt_of_le hBlt HE.out.size
        refine ⟨hEv.mono (fun q h => .inl h), hF1, ?_, HS.out, fun _ _ _ => rfl, ?_, ?_, rfl, (fun p hp => by cases hp), hO1, Nat.le_refl _⟩
        · rw [(hE1 (fun _ => False)).role B hBl (by rw [HB.out.rB]; decide)]; exact HB.out.rB
        · rw [List.append_nil, upd_ne (by decide)]; exact HB.out.sE.oV.ev hEv (by decide) (by decide)
        · rw [List.append_nil, upd_ne (by decide)]; exact HB.out.sE.oM.ev hEv (by decide) (by decide)
      have HM := Lib.hid hM
      clear hO1 hE1 hF1 hM HO1 HY HE c1 HF HS hys HYl
      go_wp2
      go_loopw [1, 5] (fun lv i wr => ∃ (q : Nat) (ρ' : Nat → Nat) (F2 : Nat → Value) (L' : List (Value × Int)) (n : Nat), q ≤ 4 ∧ i = .int .i64 q ∧ Mi N ρ w B (mark - 1) 26 27 65 88 5 6 (patE (mark - 1)) (upd F 0 (.int .i64 (mark - 1))) LE k lv q ρ' wr F2 L' n) (fun _ i _ => 4 - (intOf i).toNat)
      case atStart => exact ⟨0, ρ1, _, [], k, Nat.zero_le _, rfl, HM.out⟩
      case round =>
        clear HM
        obtain ⟨q, ρ2, F2, L2, n2, hq, rfl, hM⟩ := hrel
        have HM := Lib.hid hM
        obtain ⟨ao2, cap2, rfl, hao2⟩ := own_slz hM.ol.1
        clear hao2
        have b0 := (hM.st 0 (by decide)).1
        have b1 := (hM.st 5 (by decide)).1
        have b2 := (hM.st 6 (by decide)).1
        rw [hM.same 0 (by decide) (by decide), upd_same] at b0
        have hBl := hM.st.lt (by decide)
        obtain ⟨z, hz⟩ : ∃ z, z = (LE ++ L2).length := ⟨_, rfl⟩
        have hzq : z + 1 ≤ 5864062014805 ∨ 4 ≤ q := by
          have := hM.len
          rw [List.length_append] at hz
          omega
        have hoI := hM.oV
        have hoM := hM.oM
        obtain ⟨xI, hxI⟩ : ∃ x, x = (LE ++ L2).map (·.1) := ⟨_, rfl⟩
        obtain ⟨xM, hxM⟩ : ∃ x, x = (LE ++ L2).map fun p => Value.int .i64 p.2 := ⟨_, rfl⟩
        obtain ⟨vI2, hvI⟩ : ∃ v, v = F2 5 := ⟨_, rfl⟩
        obtain ⟨vM2, hvM⟩ : ∃ v, v = F2 6 := ⟨_, rfl⟩
        rw [← hz, ← hxI, ← hvI] at hoI
        rw [← hz, ← hxM, ← hvM] at hoM
        rw [← hvI] at b1
        rw [← hvM] at b2
        have HoI := Lib.hid hoI
        have HoM := Lib.hid hoM
        have Hz := Lib.hid hz
        have HxI := Lib.hid hxI
        have HxM := Lib.hid hxM
        have HvI := Lib.hid hvI
        have HvM := Lib.hid hvM
        have hNw : N ≤ wr.heap.size := Nat.le_trans hN hM.ev.size
        clear hM hoI hoM hz hxI hxM hvI hvM
        by_cases hlt4 : q < 4
        · have hz5 : z + 1 ≤ 5864062014805 := by omega
          clear hzq
          go_wp2_with (at_builtin; refine wpList_append_lies _ rfl _ _ 51 rfl N 65 i6 nilS 1 24 Tryz.underlying51 hj hy0 hy1 hy2 rfl (by decide) vI2 z xI rfl (HoI.out.1.alloc _) ⟨wr.heap.size, 0, none⟩ 1 1 [.slice ao2 n2 cap2] rfl rfl (news_one _ _ _) ?c2 (by decide) ?c4 ?c5 ?c6 _ rfl ?_)
          case c2 => intro u hu; cases List.mem_singleton.1 hu; rfl
          case c4 => unfold maxLen; omega
          case c5 => omega
          case c6 => simp; omega
          intro g3 cap3 w2 hown3 hgrow3 hat3 hgz3
          obtain ⟨hS2, ρ3, hF3, hE3, hS3, hO3⟩ := push_cell HM.out.fr HM.out.rB HM.out.st (c := 5) (by decide) (by decide) HoI.out ((Below.refl _ _).alloc (Nat.le_refl _) _) hown3 hgrow3 (by simpa using hat3) hgz3
          have s1 := (hS2 5 (by decide)).1
          have s2 := (hS2 5 (by decide)).2
          have HF3 := Lib.hid hF3
          have HE3 := Lib.hid hE3
          have HSI := Lib.hid hS3
          have HO3 := Lib.hid hO3
          have d0' := (hS3 0 (by decide)).1
          have d2' := (hS3 6 (by decide)).1
          rw [upd_ne (by decide), HM.out.same 0 (by decide) (by decide), upd_same] at d0'
          rw [upd_ne (by decide), ← HvM.out] at d2'
          have Hd := Lib.hid (And.intro d0' d2')
          clear hS2 hF3 hE3 hS3 hO3 hown3 hgrow3 hat3 b0 b1 b2 d0' d2'
          go_wp2
          generalize w2.setCell ⟨B, 5, none⟩ (Value.slice (some ⟨g3, 0, none⟩) (z + 1) cap3) = w3 at *
          clear s1 s2 hgz3
          have d0 := Hd.out.1
          have d2 := Hd.out.2
          have HoM3 := Lib.hid (HoM.out.ev HE3.out (by decide) (by decide))
          have hN3 : N ≤ w3.heap.size := Nat.le_trans hNw HE3.out.size
          have hB3 : B < w3.heap.size := Nat.lt_of_lt_of_le hBl HE3.out.size
          have HrB3 : Hid (ρ3 B = 1) := by show _ = _; rw [HE3.out.role B hBl (by rw [HM.out.rB]; decide)]; exact HM.out.rB
          clear Hd
          go_region_law (refine step_append_lies _ rfl (.tmp 46) (.tmp 51) 36 rfl N 3 i0 (.int .i64 0) 1 8 Tryz.underlying36 hi hz0 hz1 hz2 rfl (by decide) vM2 z xM (by simp [Act.eval]) (World.ownsRow.alloc (World.ownsRow.drew HoM3.out.1) _) ⟨w3.heap.size, 0, none⟩ 1 1 [.int .i64 (mark - 1)] (by simp [Act.eval]) rfl (news_one w3.drew _ _) (by intro u hu; cases List.mem_singleton.1 hu; rfl) (by decide) (by unfold maxLen; omega) (by omega) (by simp; omega) (w3.heap.size + 1) (by simp) ?_; intro g4 cap4 w4 hown4 hgrow4 hat4 hgz4; obtain ⟨hS4, ρ4, hF4, hE4, hS5, hO5⟩ := push_cell HF3.out HrB3.out HSI.out (c := 6) (by decide) (by decide) HoM3.out (((Below.refl w3.heap.size w3).drew).alloc (Nat.le_refl _) _) hown4 hgrow4 (by simpa using hat4) hgz4; have s1 := (hS4 6 (by decide)).1; have s2 := (hS4 6 (by decide)).2; have HF4 := Lib.hid hF4; have HE4 := Lib.hid hE4; have HS4 := Lib.hid hS5; have HO4 := Lib.hid hO5; clear hS4 hF4 hE4 hS5 hO5 hown4 hgrow4 hat4)
          all_goals
            generalize w4.setCell ⟨B, 6, none⟩ (Value.slice (some ⟨g4, 0, none⟩) (z + 1) cap4) = w5 at *
            clear s1 s2 hgz4 d0 d2
            have d0 := (HS4.out 0 (by decide)).1
            rw [upd_ne (by decide), upd_ne (by decide), HM.out.same 0 (by decide) (by decide), upd_same] at d0
            have HoL5 := Lib.hid ((HM.out.ol.ev HE3.out (by decide) (by decide)).ev HE4.out (by decide) (by decide))
            have hN5 : N ≤ w5.heap.size := Nat.le_trans hN3 HE4.out.size
            have hB5 : B < w5.heap.size := Nat.lt_of_lt_of_le hB3 HE4.out.size
            have hn2 : n2 ≤ 1004 := by have := HM.out.le; omega
            go_wp2_with fail
            refine (HRt.out _).mono ?_
            rintro e w7 ⟨rfl, hb7⟩
            have HB7 := Lib.hid hb7
            have HoL7 := Lib.hid (HoL5.out.ev (Ev.of_below (R := fun _ => False) ρ4 hb7) (by simp) (by decide))
            have hN7 : N ≤ w7.heap.size := Nat.le_trans hN5 hb7.size
            clear hb7 d0
            go_wp2_with (at_builtin; refine wpList_append_armz _ rfl _ _ 65 rfl N 88 i7 _ 6 48 Tryz.underlying65 hk7 hx0 hx1 hx2 rfl _ n2 (rep n2 (patE (mark - 1))) rfl (HoL7.out.1.alloc _) ⟨w7.heap.size, 0, none⟩ 1 1 (patE (mark - 1)) rfl rfl (news_patE _ _ _) ?c2 (by decide) ?c4 ?c5 ?c6 ?_)
            case c2 => exact patE_one _
            case c4 => unfold maxLen; omega
            case c5 => omega
            case c6 => simp; omega
            intro g6 cap6 w6 hown6 hgz6 harm6
            have HOWN6 := Lib.hid hown6
            have HARM6 := Lib.hid harm6
            clear hown6 harm6
            go_wp2
            go_roundw
            case rel =>
              refine ⟨q + 1, rl ρ4 g6 15, upd (upd F2 5 (.slice (some ⟨g3, 0, none⟩) (z + 1) cap3)) 6 (.slice (some ⟨g4, 0, none⟩) (z + 1) cap4), L2 ++ [(.slice ao2 n2 cap2, mark - 1)], n2 + 1, by omega, by go_num, ?_⟩
              refine mi_next (w5' := w7.alloc (.cells #[.int .i64 0, .int .u64 0, .int .u64 0, .int .i64 (mark - 1), .int .i64 0, .int .i64 0] 88)) (by unfold Rs; omega) HM.out HrB3.out HE3.out HE4.out HF4.out HS4.out (fun j h1 h2 => by rw [upd_ne h2, upd_ne h1]; exact HM.out.same j h1 h2) hBl Hz.out HxI.out HxM.out ?_ ?_ (HB7.out.trans (((Below.refl _ _).alloc (Nat.le_refl _) _).mono HB7.out.size)) HOWN6.out hgz6 ?_
              · rw [upd_ne (by decide), upd_same]; exact HO3.out
              · rw [upd_same]; exact HO4.out
              · exact HARM6.out.imp (fun h => ⟨by rw [h.1.1, h.1.2], h.2⟩) (fun h => ⟨by simpa using h.1, h.2⟩)
            case measure => simp [intOf]; omega
        · obtain rfl : q = 4 := by omega
          go_wp2
          refine bodyPost_end (results_none rfl _ _ _) rfl ?_
          exact ⟨rfl, keepE_fin HB.out H15.out HM.out⟩
end Go.Proofs.YtnfkgnjeamnhfaaGreat
