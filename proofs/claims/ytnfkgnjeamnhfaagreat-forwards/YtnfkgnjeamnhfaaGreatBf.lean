import Derived.Test.YtnfkgnjeamnhfaaGreatBc
import Derived.Test.YtnfkgnjeamnhfaaGreatBd
import Derived.Test.YtnfkgnjeamnhfaaGreatGm
namespace Go.Proofs.YtnfkgnjeamnhfaaGreat
open Go.RowKit

theorem rep_get {n j i : Nat} {pt : List Value} (hj : j < n) (hi : i < pt.length) : (rep n pt)[j * pt.length + i]? = pt[i]? := by
  obtain ⟨d, rfl⟩ : ∃ d, n = j + (1 + d) := ⟨n - j - 1, by omega⟩
  rw [rep_add, List.getElem?_append_right (by rw [rep_len]; omega), rep_len, Nat.add_sub_cancel_left, rep_add, rep_one, List.getElem?_append_left hi]
theorem rep_cell {w : World} {N e g n cap j : Nat} {pt : List Value} (h : w.ownsRow N e pt.length (.slice (some ⟨g, 0, none⟩) n cap) n (rep n pt)) (hj : j < n) {i : Nat} (hi : i < pt.length) : w.cell? ⟨g, j * pt.length + i, none⟩ = pt[i]? := by
  have hb : j * pt.length + i < n * pt.length := by
    have := Nat.mul_le_mul_right pt.length (show j + 1 ≤ n from hj)
    rw [Nat.add_mul, Nat.one_mul] at this; omega
  rw [World.ownsRow.cellAt h _ hb, rep_get hj hi]
theorem own_max {w : World} {N e sz n : Nat} {v : Value} {xs : List Value} (h : w.ownsRow N e sz v n xs) : n ≤ maxLen := by
  rcases h.2 with ⟨_, h0⟩ | ⟨_, _, _, _, _, _, h3, h4, _⟩
  · unfold maxLen; omega
  · exact Nat.le_trans h3 h4
theorem neq_chg (m : Int) (w : World) : Sem.run Tryz.prog (binOp BinOp.neq 152 (.agg #[.int .i64 m, .int .i64 0, .int .u64 0, .int .u64 0, .int .i64 0, .int .i64 0]) (.agg #[.int .i64 m, .int .i64 0, .int .u64 0, .int .u64 0, .int .i64 0, .int .i64 0])) w = .ok (.bool false) w := by
  simp [go_sem]

set_option maxHeartbeats 4000000 in
set_option maxRecDepth 4000 in
theorem handed2_any (N : Nat) (ρ : Nat → Nat) (w : World) (B : Nat) (mark : Int) (F : Nat → Value) (LI LR LE LC : List (Value × Int)) (K : List (Value × Value)) (hb : Bo N ρ w B mark F LI LR LE LC K) (hK : K.length ≤ 5864062014805) (hC : LC.length ≤ 5864062014805) :
    Calls Tryz.prog 36 #[.pointer (some ⟨B, 0, none⟩)] w fun e w' => e = .returned (.bool true) ∧ ∃ d, w' = w.drewN d := by
  obtain ⟨aH, cH, eH, -⟩ := own_slice hb.oH.1
  obtain ⟨aU, cU, eU, -⟩ := own_slice hb.oU.1
  obtain ⟨aC, cC, eC, -⟩ := own_slice hb.sC.oV.1
  obtain ⟨aD, cD, eD, -⟩ := own_slice hb.sC.oM.1
  have HB := Lib.hid hb
  have b7 := (hb.st 7 (by decide)).1
  have b8 := (hb.st 8 (by decide)).1
  have b9 := (hb.st 9 (by decide)).1
  have b10 := (hb.st 10 (by decide)).1
  rw [eH] at b7
  rw [eU] at b8
  rw [eC] at b9
  rw [eD] at b10
  have HoH := Lib.hid (show Own N ρ w 4 36 (.slice aH K.length cH) K.length (K.map (·.1)) by rw [← eH]; exact hb.oH)
  have HoU := Lib.hid (show Own N ρ w 5 36 (.slice aU K.length cU) K.length (K.map (·.2)) by rw [← eU]; exact hb.oU)
  have HoC := Lib.hid (show Own N ρ w 22 37 (.slice aC LC.length cC) LC.length (LC.map (·.1)) by rw [← eC]; exact hb.sC.oV)
  have HoD := Lib.hid (show Own N ρ w 23 3 (.slice aD LC.length cD) LC.length (LC.map fun p => .int .i64 p.2) by rw [← eD]; exact hb.sC.oM)
  obtain ⟨zc, hzc⟩ : ∃ z, z = LC.length := ⟨_, rfl⟩
  rw [← hzc] at b9 b10 HoC HoD hC
  have Hzc := Lib.hid hzc
  clear hzc eH eU eC eD
  obtain ⟨z, hz⟩ : ∃ z, z = K.length := ⟨_, rfl⟩
  rw [← hz] at b7 b8 HoH HoU hK
  have Hz := Lib.hid hz
  clear hb hz
  go_enter Tryz.func36, Tryz.ntmps36
  go_wp2
  go_loopw [3] (fun i wr => ∃ k d : Nat, k ≤ z ∧ i = .int .i64 k ∧ wr = w.drewN d) (fun i _ => z - (intOf i).toNat)
  case atStart => exact ⟨0, 0, Nat.zero_le _, rfl, rfl⟩
  case round =>
    obtain ⟨k, d, hk, rfl, rfl⟩ := hrel
    by_cases hlt : k < z
    · obtain ⟨p, hp⟩ : ∃ p, K[k]? = some p := ⟨_, List.getElem?_eq_getElem (by rw [← Hz.out]; exact hlt)⟩
      obtain ⟨gH, c1, e1, hc1⟩ := own_cell HoH.out (j := k) (u := p.1) (by simp [hp])
      obtain ⟨gU, c2, e2, hc2⟩ := own_cell HoU.out (j := k) (u := p.2) (by simp [hp])
      obtain ⟨rfl, -, rfl⟩ : aH = some ⟨gH, 0, none⟩ ∧ True ∧ cH = c1 := by simp at e1; exact ⟨e1.1, trivial, e1.2⟩
      obtain ⟨rfl, -, rfl⟩ : aU = some ⟨gU, 0, none⟩ ∧ True ∧ cU = c2 := by simp at e2; exact ⟨e2.1, trivial, e2.2⟩
      obtain ⟨xs, h1, h2⟩ := HB.out.cts p (List.mem_of_getElem? hp)
      obtain ⟨a1, d1, f1, r1, hm1⟩ := h1.rd
      obtain ⟨a2, d2, f2, r2, -⟩ := h2.rd
      rw [f1] at hc1
      rw [f2] at hc2
      have HSM := Lib.hid (fun (j : Nat) => sameInts_yes a1 a2 xs.length d1 d2 xs ((w.drewN d).drewN j) r1 r2 hm1)
      obtain ⟨wd, hwd⟩ : ∃ wd, wd = w.drewN d := ⟨_, rfl⟩
      rw [← hwd] at HSM ⊢
      have b7' : wd.cell? ⟨B, 7, none⟩ = some (.slice (some ⟨gH, 0, none⟩) z cH) := by rw [hwd]; exact b7
      have b8' : wd.cell? ⟨B, 8, none⟩ = some (.slice (some ⟨gU, 0, none⟩) z cU) := by rw [hwd]; exact b8
      have hc1' : wd.cell? ⟨gH, k, none⟩ = some (.slice a1 xs.length d1) := by rw [hwd]; exact hc1
      have hc2' : wd.cell? ⟨gU, k, none⟩ = some (.slice a2 xs.length d2) := by rw [hwd]; exact hc2
      have HWD := Lib.hid hwd
      clear hwd hc1 hc2 b7 b8 b9 b10
      generalize xs.length = m at *
      clear h1 h2 f1 f2 r1 r2 hp e1 e2 hm1
      have q1 : (k : Int) < (z : Int) := by omega
      go_wp2
      go_quiet ((go_at_call 21; exact Calls.quiet_of (HSM.out _)))
      go_wp2
      go_roundw
      case rel => exact ⟨k + 1, _, by omega, by go_num, by rw [HWD.out, World.drewN_drewN]⟩
      case measure => simp [intOf]; omega
    · obtain rfl : k = z := by omega
      go_wp2
      go_loopw [5] (fun i wr => ∃ k d : Nat, k ≤ zc ∧ i = .int .i64 k ∧ wr = w.drewN d) (fun i _ => zc - (intOf i).toNat)
      case atStart => exact ⟨0, d, Nat.zero_le _, rfl, rfl⟩
      case round =>
        clear b7 b8 HoH HoU
        obtain ⟨k, d, hk, rfl, rfl⟩ := hrel
        by_cases hlt : k < zc
        · obtain ⟨p, hp⟩ : ∃ p, LC[k]? = some p := ⟨_, List.getElem?_eq_getElem (by rw [← Hzc.out]; exact hlt)⟩
          obtain ⟨gC, c1, e1, hc1⟩ := own_cell HoC.out (j := k) (u := p.1) (by simp [hp])
          obtain ⟨gD, c2, e2, hc2⟩ := own_cell HoD.out (j := k) (u := .int .i64 p.2) (by simp [hp])
          obtain ⟨rfl, -, rfl⟩ : aC = some ⟨gC, 0, none⟩ ∧ True ∧ cC = c1 := by simp at e1; exact ⟨e1.1, trivial, e1.2⟩
          obtain ⟨rfl, -, rfl⟩ : aD = some ⟨gD, 0, none⟩ ∧ True ∧ cD = c2 := by simp at e2; exact ⟨e2.1, trivial, e2.2⟩
          obtain ⟨m, h1⟩ := HB.out.sC.mks p (List.mem_of_getElem? hp)
          obtain ⟨a1, d1, f1, -⟩ := own_slz h1.1
          rw [f1] at hc1
          have hcap : m ≤ maxLen := own_max h1.1
          unfold maxLen at hcap
          have HO := Lib.hid h1.1
          have HF1 := Lib.hid f1
          generalize p.2 = mk at *
          clear h1 f1 hp e1 e2
          have q1 : (k : Int) < (zc : Int) := by omega
          go_wp2
          go_loopw [6] (fun i wr => ∃ j d : Nat, j ≤ m ∧ i = .int .i64 j ∧ wr = w.drewN d) (fun i _ => m - (intOf i).toNat)
          case atStart => exact ⟨0, d, Nat.zero_le _, rfl, rfl⟩
          case round =>
            obtain ⟨j, d', hj, rfl, rfl⟩ := hrel
            by_cases hlt2 : j < m
            · rw [HF1.out] at HO
              obtain ⟨g3, c3, e3, -, -⟩ := World.ownsRow.form HO.out (by omega)
              obtain ⟨rfl, -, rfl⟩ : a1 = some ⟨g3, 0, none⟩ ∧ True ∧ d1 = c3 := by simp at e3; exact ⟨e3.1, trivial, e3.2⟩
              have hce := fun (i : Nat) (hi : i < 6) => (rep_cell HO.out hlt2 (i := i) hi)
              have e0 : w.cell? ⟨g3, j * 6, none⟩ = some (.int .i64 mk) := hce 0 (by decide)
              have e1 : w.cell? ⟨g3, j * 6 + 1, none⟩ = some (.int .i64 0) := hce 1 (by decide)
              have e2 : w.cell? ⟨g3, j * 6 + 2, none⟩ = some (.int .u64 0) := hce 2 (by decide)
              have e3' : w.cell? ⟨g3, j * 6 + 3, none⟩ = some (.int .u64 0) := hce 3 (by decide)
              have e4 : w.cell? ⟨g3, j * 6 + 4, none⟩ = some (.int .i64 0) := hce 4 (by decide)
              have e5 : w.cell? ⟨g3, j * 6 + 5, none⟩ = some (.int .i64 0) := hce 5 (by decide)
              have q2 : (j : Int) < (m : Int) := by omega
              have hE := neq_chg mk
              clear hce e3
              go_wp2
              go_quiet (fail)
              go_wp2
              go_roundw
              case rel => exact ⟨j + 1, _, by omega, by go_num, rfl⟩
              case measure => simp [intOf]; omega
            · obtain rfl : j = m := by omega
              go_wp2
              go_roundw
              case rel => exact ⟨k + 1, d', by omega, by go_num, rfl⟩
              case measure => simp [intOf]; omega
        · obtain rfl : k = zc := by omega
          go_wp2
          go_ret
          exact ⟨rfl, d, rfl⟩
end Go.Proofs.YtnfkgnjeamnhfaaGreat
