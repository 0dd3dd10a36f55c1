import Derived.Test.YteocfjiijmdjcaaGreatGi
namespace Go.Proofs.YteocfjiijmdjcaaGreat
open Go.RowKit

theorem own_cell {N : Nat} {ρ : Nat → Nat} {w : World} {r e : Nat} {v : Value} {n : Nat} {xs : List Value} (h : Own N ρ w r e v n xs) {j : Nat} {u : Value} (hj : xs[j]? = some u) : ∃ g cap, v = .slice (some ⟨g, 0, none⟩) n cap ∧ w.cell? ⟨g, j, none⟩ = some u := by
  have hl := h.1.1
  have hlt := (List.getElem?_eq_some_iff.1 hj).1
  obtain ⟨g, cap, rfl, -, -⟩ := h.1.form (by omega)
  refine ⟨g, cap, rfl, ?_⟩
  have := h.1.cells (g := g) rfl j u hj
  rwa [Lib.add_plain, Nat.zero_add] at this

set_option maxHeartbeats 4000000 in
set_option maxRecDepth 4000 in
theorem handed_any (N : Nat) (ρ : Nat → Nat) (w : World) (B : Nat) (mark : Int) (vI vM vH vU : Value) (L : List (Value × Int)) (K : List (Value × Value)) (hb : Bk N ρ w B mark vI vM vH vU L K) (hK : K.length ≤ 5864062014805) :
    Calls Tryz.prog 18 #[.pointer (some ⟨B, 0, none⟩)] w fun e w' => e = .returned (.bool true) ∧ ∃ d, w' = w.drewN d := by
  obtain ⟨aH, cH, eH, -⟩ := own_slice hb.oH.1
  obtain ⟨aU, cU, eU, -⟩ := own_slice hb.oU.1
  subst eH eU
  have HB := Lib.hid hb
  have b7 := (hb.st 7 (by decide)).1
  have b8 := (hb.st 8 (by decide)).1
  have b9 := (hb.st 9 (by decide)).1
  rw [show bookF mark vI vM (.slice aH K.length cH) (.slice aU K.length cU) 7 = .slice aH K.length cH from rfl] at b7
  rw [show bookF mark vI vM (.slice aH K.length cH) (.slice aU K.length cU) 8 = .slice aU K.length cU from rfl] at b8
  rw [show bookF mark vI vM (.slice aH K.length cH) (.slice aU K.length cU) 9 = nilS from rfl] at b9
  obtain ⟨z, hz⟩ : ∃ z, z = K.length := ⟨_, rfl⟩
  rw [← hz] at b7 b8 HB hK
  have Hz := Lib.hid hz
  clear hb hz
  go_enter Tryz.func18, Tryz.ntmps18
  go_wp2
  go_loopw [3] (fun i wr => ∃ k d : Nat, k ≤ z ∧ i = .int .i64 k ∧ wr = w.drewN d) (fun i _ => z - (intOf i).toNat)
  case atStart => exact ⟨0, 0, Nat.zero_le _, rfl, rfl⟩
  case round =>
    obtain ⟨k, d, hk, rfl, rfl⟩ := hrel
    by_cases hlt : k < z
    · obtain ⟨p, hp⟩ : ∃ p, K[k]? = some p := ⟨_, List.getElem?_eq_getElem (by rw [← Hz.out]; exact hlt)⟩
      obtain ⟨gH, c1, e1, hc1⟩ := own_cell HB.out.oH (j := k) (u := p.1) (by simp [hp])
      obtain ⟨gU, c2, e2, hc2⟩ := own_cell HB.out.oU (j := k) (u := p.2) (by simp [hp])
      obtain ⟨rfl, -, rfl⟩ : aH = some ⟨gH, 0, none⟩ ∧ True ∧ cH = c1 := by simp at e1; exact ⟨e1.1, trivial, e1.2.2⟩
      obtain ⟨rfl, -, rfl⟩ : aU = some ⟨gU, 0, none⟩ ∧ True ∧ cU = c2 := by simp at e2; exact ⟨e2.1, trivial, e2.2.2⟩
      obtain ⟨xs, h1, h2⟩ := HB.out.cts p (List.mem_of_getElem? hp)
      obtain ⟨a1, d1, f1, r1, hm1⟩ := h1.rd
      obtain ⟨a2, d2, f2, r2, -⟩ := h2.rd
      rw [f1] at hc1
      rw [f2] at hc2
      have HSM := Lib.hid (fun (j : Nat) => sameInts_yes a1 a2 xs.length d1 d2 xs ((w.drewN d).drewN j) r1 r2 hm1)
      obtain ⟨wd, hwd⟩ : ∃ wd, wd = w.drewN d := ⟨_, rfl⟩
      rw [← hwd] at HSM ⊢
      have b7' : wd.cell? ⟨B, 7, none⟩ = some (.slice (some ⟨gH, 0, none⟩) z cH) := by rw [hwd]; exact b7
      have b8' : wd.cell? ⟨B, 8, none⟩ = some (.slice (some ⟨gU, 0, none⟩) z cU) := by rw [hwd]; exact b8
      have hc1' : wd.cell? ⟨gH, k, none⟩ = some (.slice a1 xs.length d1) := by rw [hwd]; exact hc1
      have hc2' : wd.cell? ⟨gU, k, none⟩ = some (.slice a2 xs.length d2) := by rw [hwd]; exact hc2
      have HWD := Lib.hid hwd
      clear hwd hc1 hc2 b7 b8 b9
      generalize xs.length = m at *
      clear h1 h2 f1 f2 r1 r2 hp e1 e2 hm1
      have q1 : (k : Int) < (z : Int) := by omega
      go_wp2
      go_quiet ((go_at_call 29; exact Calls.quiet_of (HSM.out _)))
      go_wp2
      go_roundw
      case rel => exact ⟨k + 1, _, by omega, by go_num, by rw [HWD.out, World.drewN_drewN]⟩
      case measure => simp [intOf]; omega
    · obtain rfl : k = z := by omega
      go_wp2
      go_loop [5] (fun i => i = .int .i64 0) (fun _ => 0)
      case atStart => rfl
      case round =>
        subst hrel
        go_wp2
        go_ret
        exact ⟨rfl, d, rfl⟩

set_option maxHeartbeats 4000000 in
set_option maxRecDepth 4000 in
theorem looks_any (N : Nat) (ρ : Nat → Nat) (w : World) (B : Nat) (mark : Int) (vI vM vH vU : Value) (L : List (Value × Int)) (K : List (Value × Value)) (hb : Bk N ρ w B mark vI vM vH vU L K) (hK : K.length ≤ 5864062014805) (hL : L.length ≤ 5864062014805) :
    Calls Tryz.prog 10 #[.pointer (some ⟨B, 0, none⟩)] w fun e w' => e = .returned (.bool true) ∧ ∃ d, w' = w.drewN d := by
  obtain ⟨aI, cI, eI, -⟩ := own_slice hb.oI.1
  obtain ⟨aM, cM, eM, -⟩ := own_slice hb.oM.1
  subst eI eM
  have HB := Lib.hid hb
  have b1 := (hb.st 1 (by decide)).1
  have b2 := (hb.st 2 (by decide)).1
  have b3 := (hb.st 3 (by decide)).1
  have b5 := (hb.st 5 (by decide)).1
  rw [show bookF mark (.slice aI L.length cI) (.slice aM L.length cM) vH vU 1 = .slice aI L.length cI from rfl] at b1
  rw [show bookF mark (.slice aI L.length cI) (.slice aM L.length cM) vH vU 2 = .slice aM L.length cM from rfl] at b2
  rw [show bookF mark (.slice aI L.length cI) (.slice aM L.length cM) vH vU 3 = nilS from rfl] at b3
  rw [show bookF mark (.slice aI L.length cI) (.slice aM L.length cM) vH vU 5 = nilS from rfl] at b5
  have HH := Lib.hid (fun (d : Nat) => handed_any N ρ (w.drewN d) B mark _ _ vH vU L K (show Bk N ρ (w.drewN d) B mark _ _ vH vU L K from ⟨hb.rB, hb.st, hb.oI, hb.oM, hb.oH, hb.oU, hb.mks, hb.cts⟩) hK)
  obtain ⟨z, hz⟩ : ∃ z, z = L.length := ⟨_, rfl⟩
  rw [← hz] at b1 b2 HB hL
  have Hz := Lib.hid hz
  clear hb hz
  go_enter Tryz.func10, Tryz.ntmps10
  go_wp2
  go_loopw [3] (fun i wr => ∃ k d : Nat, k ≤ z ∧ i = .int .i64 k ∧ wr = w.drewN d) (fun i _ => z - (intOf i).toNat)
  case atStart => exact ⟨0, 0, Nat.zero_le _, rfl, rfl⟩
  case round =>
    obtain ⟨k, d, hk, rfl, rfl⟩ := hrel
    by_cases hlt : k < z
    · obtain ⟨p, hp⟩ : ∃ p, L[k]? = some p := ⟨_, List.getElem?_eq_getElem (by rw [← Hz.out]; exact hlt)⟩
      obtain ⟨gI, c1, e1, hc1⟩ := own_cell HB.out.oI (j := k) (u := p.1) (by simp [hp])
      obtain ⟨gM, c2, e2, hc2⟩ := own_cell HB.out.oM (j := k) (u := .int .i64 p.2) (by simp [hp])
      obtain ⟨rfl, -, rfl⟩ : aI = some ⟨gI, 0, none⟩ ∧ True ∧ cI = c1 := by simp at e1; exact ⟨e1.1, trivial, e1.2.2⟩
      obtain ⟨rfl, -, rfl⟩ : aM = some ⟨gM, 0, none⟩ ∧ True ∧ cM = c2 := by simp at e2; exact ⟨e2.1, trivial, e2.2.2⟩
      obtain ⟨m, ys, h1, h2⟩ := HB.out.mks p (List.mem_of_getElem? hp)
      obtain ⟨a1, d1, f1, -⟩ := own_slice h1.1
      rw [f1] at hc1
      have hcap : m ≤ maxLen := by
        rcases h1.1.2 with ⟨_, h0⟩ | ⟨_, _, _, _, _, _, h3, h4, _⟩
        · unfold maxLen; omega
        · exact Nat.le_trans h3 h4
      unfold maxLen at hcap
      have HO := Lib.hid h1
      have HA := Lib.hid h2
      have HF1 := Lib.hid f1
      generalize p.2 = mk at *
      clear h1 h2 f1 hp e1 e2
      have q1 : (k : Int) < (z : Int) := by omega
      go_wp2
      go_loopw [4] (fun i wr => ∃ j d : Nat, j ≤ m ∧ i = .int .i64 j ∧ wr = w.drewN d) (fun i _ => m - (intOf i).toNat)
      case atStart => exact ⟨0, d, Nat.zero_le _, rfl, rfl⟩
      case round =>
        obtain ⟨j, d', hj, rfl, rfl⟩ := hrel
        by_cases hlt2 : j < m
        · obtain ⟨u, hu⟩ : ∃ u, ys[j]? = some u := ⟨_, List.getElem?_eq_getElem (by have := HO.out.1.1; omega)⟩
          obtain ⟨g3, c3, e3, hc3⟩ := own_cell HO.out hu
          rw [HF1.out] at e3
          obtain ⟨rfl, -, rfl⟩ : a1 = some ⟨g3, 0, none⟩ ∧ True ∧ d1 = c3 := by simp at e3; exact ⟨e3.1, trivial, e3.2⟩
          rw [HA.out u (List.mem_of_getElem? hu)] at hc3
          have q2 : (j : Int) < (m : Int) := by omega
          have q3 : (mk == mk) = true := by simp
          clear hu e3
          go_wp2
          go_quiet (fail)
          go_wp2
          go_roundw
          case rel => exact ⟨j + 1, _, by omega, by go_num, rfl⟩
          case measure => simp [intOf]; omega
        · obtain rfl : j = m := by omega
          go_wp2
          go_roundw
          case rel => exact ⟨k + 1, d', by omega, by go_num, rfl⟩
          case measure => simp [intOf]; omega
    · obtain rfl : k = z := by omega
      go_wp2
      go_loop [5] (fun i => i = .int .i64 0) (fun _ => 0)
      case atStart => rfl
      case round =>
        subst hrel
        go_wp2
        go_loop [8] (fun i => i = .int .i64 0) (fun _ => 0)
        case atStart => rfl
        case round =>
          subst hrel
          go_wp2_with (go_at_call 18; refine (HH.out _).mono ?_; rintro e w1 ⟨rfl, d2, rfl⟩)
          go_ret
          exact ⟨rfl, _, rfl⟩
end Go.Proofs.YteocfjiijmdjcaaGreat
