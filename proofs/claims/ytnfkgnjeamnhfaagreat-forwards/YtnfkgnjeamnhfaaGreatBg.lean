import Derived.Test.YtnfkgnjeamnhfaaGreatBf
import Derived.Test.YtnfkgnjeamnhfaaGreatBk
namespace Go.Proofs.YtnfkgnjeamnhfaaGreat
open Go.RowKit

theorem neq_rt (m : Int) (w : World) : Sem.run Tryz.prog (binOp BinOp.neq 35 (.agg #[.int .i64 0, .int .u64 0, .int .u64 0, .int .i64 0, .int .i64 m]) (.agg #[.int .i64 0, .int .u64 0, .int .u64 0, .int .i64 0, .int .i64 m])) w = .ok (.bool false) w := by
  simp [go_sem]

theorem neq_en (m : Int) (w : World) : Sem.run Tryz.prog (binOp BinOp.neq 88 (.agg #[.int .i64 0, .int .u64 0, .int .u64 0, .int .i64 m, .int .i64 0, .int .i64 0]) (.agg #[.int .i64 0, .int .u64 0, .int .u64 0, .int .i64 m, .int .i64 0, .int .i64 0])) w = .ok (.bool false) w := by
  simp [go_sem]

set_option maxHeartbeats 4000000 in
set_option maxRecDepth 4000 in
theorem looks2_any (N : Nat) (ρ : Nat → Nat) (w : World) (B : Nat) (mark : Int) (F : Nat → Value) (LI LR LE LC : List (Value × Int)) (K : List (Value × Value)) (hb : Bo N ρ w B mark F LI LR LE LC K) (hK : K.length ≤ 5864062014805) (hL : LI.length ≤ 5864062014805) (hR : LR.length ≤ 5864062014805) (hE0 : LE.length ≤ 5864062014805) (hC : LC.length ≤ 5864062014805) :
    Calls Tryz.prog 14 #[.pointer (some ⟨B, 0, none⟩)] w fun e w' => e = .returned (.bool true) ∧ Below w.heap.size w w' := by
  obtain ⟨aI, cI, eI, -⟩ := own_slice hb.sI.oV.1
  obtain ⟨aM, cM, eM, -⟩ := own_slice hb.sI.oM.1
  obtain ⟨aR, cR, eR, -⟩ := own_slice hb.sR.oV.1
  obtain ⟨aP, cP, eP, -⟩ := own_slice hb.sR.oM.1
  obtain ⟨aE, cE, eE, -⟩ := own_slice hb.sE.oV.1
  obtain ⟨aQ, cQ, eQ, -⟩ := own_slice hb.sE.oM.1
  have HB := Lib.hid hb
  have b1 := (hb.st 1 (by decide)).1
  have b2 := (hb.st 2 (by decide)).1
  have b3 := (hb.st 3 (by decide)).1
  have b4 := (hb.st 4 (by decide)).1
  have b5 := (hb.st 5 (by decide)).1
  have b6 := (hb.st 6 (by decide)).1
  have hBl : B < w.heap.size := hb.st.lt (by decide)
  rw [eI] at b1
  rw [eM] at b2
  rw [eR] at b3
  rw [eP] at b4
  rw [eE] at b5
  rw [eQ] at b6
  have HoI := Lib.hid (show Own N ρ w 2 36 (.slice aI LI.length cI) LI.length (LI.map (·.1)) by rw [← eI]; exact hb.sI.oV)
  have HoM := Lib.hid (show Own N ρ w 3 3 (.slice aM LI.length cM) LI.length (LI.map fun p => .int .i64 p.2) by rw [← eM]; exact hb.sI.oM)
  have HoR := Lib.hid (show Own N ρ w 20 85 (.slice aR LR.length cR) LR.length (LR.map (·.1)) by rw [← eR]; exact hb.sR.oV)
  have HoP := Lib.hid (show Own N ρ w 21 3 (.slice aP LR.length cP) LR.length (LR.map fun p => .int .i64 p.2) by rw [← eP]; exact hb.sR.oM)
  have HoE := Lib.hid (show Own N ρ w 26 65 (.slice aE LE.length cE) LE.length (LE.map (·.1)) by rw [← eE]; exact hb.sE.oV)
  have HoQ := Lib.hid (show Own N ρ w 27 3 (.slice aQ LE.length cQ) LE.length (LE.map fun p => .int .i64 p.2) by rw [← eQ]; exact hb.sE.oM)
  have HEn := Lib.hid (fun (m : Int) (w : World) => entry_any m w)
  have HH := Lib.hid (fun (w1 : World) (hb1 : Below w.heap.size w w1) => handed2_any N ρ w1 B mark F LI LR LE LC K (hb.ev (Ev.of_below (R := fun _ => False) ρ hb1) (fun _ _ => id)) hK hC)
  have HRt := Lib.hid (fun (m : Int) (w : World) => route_any m w)
  obtain ⟨zr, hzr⟩ : ∃ z, z = LR.length := ⟨_, rfl⟩
  rw [← hzr] at b3 b4 HoR HoP hR
  have Hzr := Lib.hid hzr
  clear hzr
  obtain ⟨ze, hze⟩ : ∃ z, z = LE.length := ⟨_, rfl⟩
  rw [← hze] at b5 b6 HoE HoQ hE0
  have Hze := Lib.hid hze
  clear hze eI eM eR eP eE eQ
  obtain ⟨z, hz⟩ : ∃ z, z = LI.length := ⟨_, rfl⟩
  rw [← hz] at b1 b2 HoI HoM hL
  have Hz := Lib.hid hz
  clear hb hz
  go_enter Tryz.func14, Tryz.ntmps14
  go_wp2
  go_loopw [3] (fun i wr => ∃ k d : Nat, k ≤ z ∧ i = .int .i64 k ∧ wr = w.drewN d) (fun i _ => z - (intOf i).toNat)
  case atStart => exact ⟨0, 0, Nat.zero_le _, rfl, rfl⟩
  case round =>
    obtain ⟨k, d, hk, rfl, rfl⟩ := hrel
    by_cases hlt : k < z
    · obtain ⟨p, hp⟩ : ∃ p, LI[k]? = some p := ⟨_, List.getElem?_eq_getElem (by rw [← Hz.out]; exact hlt)⟩
      obtain ⟨gI, c1, e1, hc1⟩ := own_cell HoI.out (j := k) (u := p.1) (by simp [hp])
      obtain ⟨gM, c2, e2, hc2⟩ := own_cell HoM.out (j := k) (u := .int .i64 p.2) (by simp [hp])
      obtain ⟨rfl, -, rfl⟩ : aI = some ⟨gI, 0, none⟩ ∧ True ∧ cI = c1 := by simp at e1; exact ⟨e1.1, trivial, e1.2⟩
      obtain ⟨rfl, -, rfl⟩ : aM = some ⟨gM, 0, none⟩ ∧ True ∧ cM = c2 := by simp at e2; exact ⟨e2.1, trivial, e2.2⟩
      obtain ⟨m, h1⟩ := HB.out.sI.mks p (List.mem_of_getElem? hp)
      obtain ⟨a1, d1, f1, -⟩ := own_slz h1.1
      rw [f1] at hc1
      have hcap : m ≤ maxLen := own_max h1.1
      unfold maxLen at hcap
      have HO := Lib.hid h1.1
      have HF1 := Lib.hid f1
      generalize p.2 = mk at *
      clear h1 f1 hp e1 e2
      have q1 : (k : Int) < (z : Int) := by omega
      go_wp2
      go_loopw [4] (fun i wr => ∃ j d : Nat, j ≤ m ∧ i = .int .i64 j ∧ wr = w.drewN d) (fun i _ => m - (intOf i).toNat)
      case atStart => exact ⟨0, d, Nat.zero_le _, rfl, rfl⟩
      case round =>
        obtain ⟨j, d', hj, rfl, rfl⟩ := hrel
        by_cases hlt2 : j < m
        · rw [HF1.out] at HO
          obtain ⟨g3, c3, e3, -, -⟩ := World.ownsRow.form HO.out (by omega)
          obtain ⟨rfl, -, rfl⟩ : a1 = some ⟨g3, 0, none⟩ ∧ True ∧ d1 = c3 := by simp at e3; exact ⟨e3.1, trivial, e3.2⟩
          have hc3 : w.cell? ⟨g3, j, none⟩ = some (.int .i64 mk) := by have := rep_cell HO.out hlt2 (i := 0) (by simp); simpa using this
          have q2 : (j : Int) < (m : Int) := by omega
          have q3 : (mk == mk) = true := by simp
          clear e3
          go_wp2
          go_quiet (fail)
          go_wp2
          go_roundw
          case rel => exact ⟨j + 1, _, by omega, by go_num, rfl⟩
          case measure => simp [intOf]; omega
        · obtain rfl : j = m := by omega
          go_wp2
          go_roundw
          case rel => exact ⟨k + 1, d', by omega, by go_num, rfl⟩
          case measure => simp [intOf]; omega
    · obtain rfl : k = z := by omega
      go_wp2
      go_loopw [5] (fun i wr => ∃ k : Nat, k ≤ zr ∧ i = .int .i64 k ∧ Hid (Below w.heap.size w wr)) (fun i _ => zr - (intOf i).toNat)
      case atStart => exact ⟨0, Nat.zero_le _, rfl, ⟨rfl, rfl, rfl, Nat.le_refl _, fun _ _ => rfl⟩⟩
      case round =>
        clear b1 b2 HoI HoM
        obtain ⟨k, hk, rfl, HBl⟩ := hrel
        have t3 := (HBl.out.cell (p := ⟨B, 3, none⟩) hBl).trans b3
        have t4 := (HBl.out.cell (p := ⟨B, 4, none⟩) hBl).trans b4
        have t5 := (HBl.out.cell (p := ⟨B, 5, none⟩) hBl).trans b5
        by_cases hlt : k < zr
        · obtain ⟨p, hp⟩ : ∃ p, LR[k]? = some p := ⟨_, List.getElem?_eq_getElem (by rw [← Hzr.out]; exact hlt)⟩
          obtain ⟨gR, c1, e1, hc1⟩ := own_cell HoR.out (j := k) (u := p.1) (by simp [hp])
          obtain ⟨gP, c2, e2, hc2⟩ := own_cell HoP.out (j := k) (u := .int .i64 p.2) (by simp [hp])
          obtain ⟨rfl, -, rfl⟩ : aR = some ⟨gR, 0, none⟩ ∧ True ∧ cR = c1 := by simp at e1; exact ⟨e1.1, trivial, e1.2⟩
          obtain ⟨rfl, -, rfl⟩ : aP = some ⟨gP, 0, none⟩ ∧ True ∧ cP = c2 := by simp at e2; exact ⟨e2.1, trivial, e2.2⟩
          obtain ⟨m, h1⟩ := HB.out.sR.mks p (List.mem_of_getElem? hp)
          obtain ⟨a1, d1, f1, -⟩ := own_slz h1.1
          rw [f1] at hc1
          have hcap : m ≤ maxLen := own_max h1.1
          unfold maxLen at hcap
          have HO := Lib.hid h1.1
          have HF1 := Lib.hid f1
          have hgR : gR < w.heap.size := World.block_lt_of_cell? w ⟨gR, k, none⟩ hc1
          have hgP : gP < w.heap.size := World.block_lt_of_cell? w ⟨gP, k, none⟩ hc2
          have Hc1 := Lib.hid hc1
          have Hc2 := Lib.hid hc2
          generalize p.2 = mk at *
          clear h1 f1 hp e1 e2 hc1 hc2
          have q1 : (k : Int) < (zr : Int) := by omega
          go_wp2
          clear t3 t4 t5
          go_loopw [6] (fun i wr => ∃ j : Nat, j ≤ m ∧ i = .int .i64 j ∧ Hid (Below w.heap.size w wr)) (fun i _ => m - (intOf i).toNat)
          case atStart => exact ⟨0, Nat.zero_le _, rfl, HBl⟩
          case round =>
            clear HBl
            obtain ⟨j, hj, rfl, HBl⟩ := hrel
            have t3 := (HBl.out.cell (p := ⟨B, 3, none⟩) hBl).trans b3
            have t4 := (HBl.out.cell (p := ⟨B, 4, none⟩) hBl).trans b4
            have u1 := (HBl.out.cell (p := ⟨gR, k, none⟩) hgR).trans Hc1.out
            have u2 := (HBl.out.cell (p := ⟨gP, k, none⟩) hgP).trans Hc2.out
            by_cases hlt2 : j < m
            · rw [HF1.out] at HO
              obtain ⟨g3, c3, e3, -, hg3⟩ := World.ownsRow.form HO.out (by omega)
              obtain ⟨rfl, -, rfl⟩ : a1 = some ⟨g3, 0, none⟩ ∧ True ∧ d1 = c3 := by simp at e3; exact ⟨e3.1, trivial, e3.2⟩
              have hce := fun (i : Nat) (hi : i < 5) => (rep_cell HO.out hlt2 (i := i) hi)
              have Hce := Lib.hid hce
              have q2 : (j : Int) < (m : Int) := by omega
              clear hce e3
              go_wp2_with fail
              refine (HRt.out _ _).mono ?_
              rintro e w7 ⟨rfl, hb7⟩
              have hbw7 : Below w.heap.size w w7 := HBl.out.trans (hb7.mono HBl.out.size)
              obtain ⟨wb, hwb⟩ : ∃ wb, wb = w7.alloc (.cells #[.int .i64 0, .int .u64 0, .int .u64 0, .int .i64 0, .int .i64 mk] 35) := ⟨_, rfl⟩
              obtain ⟨bx, hbx⟩ : ∃ bx, bx = w7.heap.size := ⟨_, rfl⟩
              have hbwb : Below w.heap.size w wb := by rw [hwb]; exact hbw7.trans (((Below.refl w7.heap.size w7).alloc (Nat.le_refl _) _).mono hbw7.size)
              have HBb := Lib.hid hbwb
              clear t3 t4 u1 u2
              have v3 := (hbwb.cell (p := ⟨B, 3, none⟩) hBl).trans b3
              have u1 := (hbwb.cell (p := ⟨gR, k, none⟩) hgR).trans Hc1.out
              have e0 : wb.cell? ⟨g3, j * 5, none⟩ = some (.int .i64 0) := (hbwb.cell (p := ⟨g3, j * 5, none⟩) hg3).trans (Hce.out 0 (by decide))
              have e1 : wb.cell? ⟨g3, j * 5 + 1, none⟩ = some (.int .u64 0) := (hbwb.cell (p := ⟨g3, j * 5 + 1, none⟩) hg3).trans (Hce.out 1 (by decide))
              have e2 : wb.cell? ⟨g3, j * 5 + 2, none⟩ = some (.int .u64 0) := (hbwb.cell (p := ⟨g3, j * 5 + 2, none⟩) hg3).trans (Hce.out 2 (by decide))
              have e3' : wb.cell? ⟨g3, j * 5 + 3, none⟩ = some (.int .i64 0) := (hbwb.cell (p := ⟨g3, j * 5 + 3, none⟩) hg3).trans (Hce.out 3 (by decide))
              have e4 : wb.cell? ⟨g3, j * 5 + 4, none⟩ = some (.int .i64 mk) := (hbwb.cell (p := ⟨g3, j * 5 + 4, none⟩) hg3).trans (Hce.out 4 (by decide))
              have x0 : wb.cell? ⟨bx, 0, none⟩ = some (.int .i64 0) := by rw [hwb, hbx]; simp
              have x1 : wb.cell? ⟨bx, 1, none⟩ = some (.int .u64 0) := by rw [hwb, hbx]; simp
              have x2 : wb.cell? ⟨bx, 2, none⟩ = some (.int .u64 0) := by rw [hwb, hbx]; simp
              have x3 : wb.cell? ⟨bx, 3, none⟩ = some (.int .i64 0) := by rw [hwb, hbx]; simp
              have x4 : wb.cell? ⟨bx, 4, none⟩ = some (.int .i64 mk) := by rw [hwb, hbx]; simp
              have hE := neq_rt mk
              have Hwb := Lib.hid hwb
              have Hbx := Lib.hid hbx
              clear hb7 hbw7 hbwb hwb hbx HBl
              go_wp2
              rw [← Hwb.out, ← Hbx.out]
              go_quiet (fail)
              go_wp2
              go_roundw
              case rel => exact ⟨j + 1, by omega, by go_num, ⟨HBb.out.os, HBb.out.tape, HBb.out.output, HBb.out.size, HBb.out.block⟩⟩
              case measure => simp [intOf]; omega
            · obtain rfl : j = m := by omega
              go_wp2
              go_roundw
              case rel => exact ⟨k + 1, by omega, by go_num, HBl⟩
              case measure => simp [intOf]; omega
        · obtain rfl : k = zr := by omega
          go_wp2
          clear t3 t4 t5
          go_loopw [8] (fun i wr => ∃ k : Nat, k ≤ ze ∧ i = .int .i64 k ∧ Hid (Below w.heap.size w wr)) (fun i _ => ze - (intOf i).toNat)
          case atStart => exact ⟨0, Nat.zero_le _, rfl, HBl⟩
          case round =>
            clear HBl b3 b4 HoR HoP
            obtain ⟨k, hk, rfl, HBl⟩ := hrel
            have t5 := (HBl.out.cell (p := ⟨B, 5, none⟩) hBl).trans b5
            have t6 := (HBl.out.cell (p := ⟨B, 6, none⟩) hBl).trans b6
            by_cases hlt : k < ze
            · obtain ⟨p, hp⟩ : ∃ p, LE[k]? = some p := ⟨_, List.getElem?_eq_getElem (by rw [← Hze.out]; exact hlt)⟩
              obtain ⟨gR, c1, e1, hc1⟩ := own_cell HoE.out (j := k) (u := p.1) (by simp [hp])
              obtain ⟨gP, c2, e2, hc2⟩ := own_cell HoQ.out (j := k) (u := .int .i64 p.2) (by simp [hp])
              obtain ⟨rfl, -, rfl⟩ : aE = some ⟨gR, 0, none⟩ ∧ True ∧ cE = c1 := by simp at e1; exact ⟨e1.1, trivial, e1.2⟩
              obtain ⟨rfl, -, rfl⟩ : aQ = some ⟨gP, 0, none⟩ ∧ True ∧ cQ = c2 := by simp at e2; exact ⟨e2.1, trivial, e2.2⟩
              obtain ⟨m, h1⟩ := HB.out.sE.mks p (List.mem_of_getElem? hp)
              obtain ⟨a1, d1, f1, -⟩ := own_slz h1.1
              rw [f1] at hc1
              have hcap : m ≤ maxLen := own_max h1.1
              unfold maxLen at hcap
              have HO := Lib.hid h1.1
              have HF1 := Lib.hid f1
              have hgR : gR < w.heap.size := World.block_lt_of_cell? w ⟨gR, k, none⟩ hc1
              have hgP : gP < w.heap.size := World.block_lt_of_cell? w ⟨gP, k, none⟩ hc2
              have Hc1 := Lib.hid hc1
              have Hc2 := Lib.hid hc2
              generalize p.2 = mk at *
              clear h1 f1 hp e1 e2 hc1 hc2
              have q1 : (k : Int) < (ze : Int) := by omega
              go_wp2
              clear t5 t6
              go_loopw [9] (fun i wr => ∃ j : Nat, j ≤ m ∧ i = .int .i64 j ∧ Hid (Below w.heap.size w wr)) (fun i _ => m - (intOf i).toNat)
              case atStart => exact ⟨0, Nat.zero_le _, rfl, HBl⟩
              case round =>
                clear HBl
                obtain ⟨j, hj, rfl, HBl⟩ := hrel
                have t5 := (HBl.out.cell (p := ⟨B, 5, none⟩) hBl).trans b5
                have t6 := (HBl.out.cell (p := ⟨B, 6, none⟩) hBl).trans b6
                have u1 := (HBl.out.cell (p := ⟨gR, k, none⟩) hgR).trans Hc1.out
                have u2 := (HBl.out.cell (p := ⟨gP, k, none⟩) hgP).trans Hc2.out
                by_cases hlt2 : j < m
                · rw [HF1.out] at HO
                  obtain ⟨g3, c3, e3, -, hg3⟩ := World.ownsRow.form HO.out (by omega)
                  obtain ⟨rfl, -, rfl⟩ : a1 = some ⟨g3, 0, none⟩ ∧ True ∧ d1 = c3 := by simp at e3; exact ⟨e3.1, trivial, e3.2⟩
                  have hce := fun (i : Nat) (hi : i < 6) => (rep_cell HO.out hlt2 (i := i) hi)
                  have Hce := Lib.hid hce
                  have q2 : (j : Int) < (m : Int) := by omega
                  clear hce e3
                  go_wp2_with fail
                  refine (HEn.out _ _).mono ?_
                  rintro e w7 ⟨rfl, hb7⟩
                  have hbw7 : Below w.heap.size w w7 := HBl.out.trans (hb7.mono HBl.out.size)
                  obtain ⟨wb, hwb⟩ : ∃ wb, wb = w7.alloc (.cells #[.int .i64 0, .int .u64 0, .int .u64 0, .int .i64 mk, .int .i64 0, .int .i64 0] 88) := ⟨_, rfl⟩
                  obtain ⟨bx, hbx⟩ : ∃ bx, bx = w7.heap.size := ⟨_, rfl⟩
                  have hbwb : Below w.heap.size w wb := by rw [hwb]; exact hbw7.trans (((Below.refl w7.heap.size w7).alloc (Nat.le_refl _) _).mono hbw7.size)
                  have HBb := Lib.hid hbwb
                  clear t5 t6 u1 u2
                  have v3 := (hbwb.cell (p := ⟨B, 5, none⟩) hBl).trans b5
                  have u1 := (hbwb.cell (p := ⟨gR, k, none⟩) hgR).trans Hc1.out
                  have e0 : wb.cell? ⟨g3, j * 6, none⟩ = some (.int .i64 0) := (hbwb.cell (p := ⟨g3, j * 6, none⟩) hg3).trans (Hce.out 0 (by decide))
                  have e1 : wb.cell? ⟨g3, j * 6 + 1, none⟩ = some (.int .u64 0) := (hbwb.cell (p := ⟨g3, j * 6 + 1, none⟩) hg3).trans (Hce.out 1 (by decide))
                  have e2 : wb.cell? ⟨g3, j * 6 + 2, none⟩ = some (.int .u64 0) := (hbwb.cell (p := ⟨g3, j * 6 + 2, none⟩) hg3).trans (Hce.out 2 (by decide))
                  have e3' : wb.cell? ⟨g3, j * 6 + 3, none⟩ = some (.int .i64 mk) := (hbwb.cell (p := ⟨g3, j * 6 + 3, none⟩) hg3).trans (Hce.out 3 (by decide))
                  have e4 : wb.cell? ⟨g3, j * 6 + 4, none⟩ = some (.int .i64 0) := (hbwb.cell (p := ⟨g3, j * 6 + 4, none⟩) hg3).trans (Hce.out 4 (by decide))
                  have e5 : wb.cell? ⟨g3, j * 6 + 5, none⟩ = some (.int .i64 0) := (hbwb.cell (p := ⟨g3, j * 6 + 5, none⟩) hg3).trans (Hce.out 5 (by decide))
                  have x0 : wb.cell? ⟨bx, 0, none⟩ = some (.int .i64 0) := by rw [hwb, hbx]; simp
                  have x1 : wb.cell? ⟨bx, 1, none⟩ = some (.int .u64 0) := by rw [hwb, hbx]; simp
                  have x2 : wb.cell? ⟨bx, 2, none⟩ = some (.int .u64 0) := by rw [hwb, hbx]; simp
                  have x3 : wb.cell? ⟨bx, 3, none⟩ = some (.int .i64 mk) := by rw [hwb, hbx]; simp
                  have x4 : wb.cell? ⟨bx, 4, none⟩ = some (.int .i64 0) := by rw [hwb, hbx]; simp
                  have x5 : wb.cell? ⟨bx, 5, none⟩ = some (.int .i64 0) := by rw [hwb, hbx]; simp
                  have hE := neq_en mk
                  have Hwb := Lib.hid hwb
                  have Hbx := Lib.hid hbx
                  clear hb7 hbw7 hbwb hwb hbx HBl
                  go_wp2
                  rw [← Hwb.out, ← Hbx.out]
                  go_quiet (fail)
                  go_wp2
                  go_roundw
                  case rel => exact ⟨j + 1, by omega, by go_num, ⟨HBb.out.os, HBb.out.tape, HBb.out.output, HBb.out.size, HBb.out.block⟩⟩
                  case measure => simp [intOf]; omega
                · obtain rfl : j = m := by omega
                  go_wp2
                  go_roundw
                  case rel => exact ⟨k + 1, by omega, by go_num, HBl⟩
                  case measure => simp [intOf]; omega
            · obtain rfl : k = ze := by omega
              go_wp2_with (go_at_call 36; refine (HH.out _ HBl.out).mono ?_; rintro e w1 ⟨rfl, d2, rfl⟩)
              go_ret
              exact ⟨rfl, ⟨HBl.out.os, HBl.out.tape, HBl.out.output, HBl.out.size, HBl.out.block⟩⟩
end Go.Proofs.YtnfkgnjeamnhfaaGreat
