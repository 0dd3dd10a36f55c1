import Derived.Test.YtnfkgnjeamnhfaaGreatGn
namespace Go.Proofs.YtnfkgnjeamnhfaaGreat
open Go.RowKit

/-- What a step leaves. -/
def SPost (N : Nat) (ρ : Nat → Nat) (w : World) (W T R B rT rR s : Nat) (e : Ending) (w' : World) : Prop :=
  e = .returned (.bool true) ∧ ∃ ρ' gs', Wd N ρ' w' W T R B rT rR gs' ∧ BkX N ρ' w' B (s + 1) ∧ Fr ρ' w' ∧ (∀ k, ρ' k ≠ 15) ∧ Ev (fun q => q = rT ∨ q = rR ∨ (1 ≤ q ∧ q ≤ 5)) ρ w ρ' w'

/-- A call's box, and the tables behind it. -/
theorem boxed {N : Nat} {ρ : Nat → Nat} {w : World} {W T R B rT rR s : Nat} {gs : Nat → List Int} (k n : Int) (x : Nat → Value) (h : Value) (m : Bool)
    (hN : N ≤ w.heap.size) (hF : Fr ρ w) (h15 : ∀ k, ρ k ≠ 15) (hW : Wd N ρ w W T R B rT rR gs) (hB : BkX N ρ w B s) (hT2 : rT ≤ 11) (hR2 : rR ≤ 11) :
    ∃ ρ0 w0, w0 = w.alloc (.cells (opA k n x h m) 39) ∧ N ≤ w0.heap.size ∧ w.heap.size < w0.heap.size ∧ (∀ R, Ev R ρ w ρ0 w0) ∧ Fr ρ0 w0 ∧ (∀ k, ρ0 k ≠ 15) ∧ ρ0 w.heap.size = 13 ∧ Wd N ρ0 w0 W T R B rT rR gs ∧ BkX N ρ0 w0 B s ∧ St w0 w.heap.size 16 (fun j => (opA k n x h m).getD j undef) := by
  obtain ⟨ρ0, hE0, hF0, hb0, h150⟩ := box_ev hF h15 (.cells (opA k n x h m) 39)
  have hW0 := hW.ev (hE0 (fun _ => False)) id id id id (by omega) (by omega)
  have hB0 := hB.ev (hE0 (fun _ => False)) (fun _ _ _ => id)
  exact ⟨ρ0, _, rfl, by simp; omega, by simp, hE0, hF0, h150, hb0, hW0, hB0, St.new w (opA k n x h m) 39⟩

theorem keep_one {N : Nat} {ρ : Nat → Nat} {w : World} {B s : Nat} {l : Value} {n : Nat} {xs : List Value} (hN : N ≤ w.heap.size) (hF : Fr ρ w) (hB : BkX N ρ w B s) (hs : s ≤ 1000000000000) (hl : w.ownsRow N 3 1 l n xs) (h14 : ∀ g, l.ownBlock = some g → ρ g = 14) (hn : n ≤ 1000) (h15 : ∀ k, ρ k ≠ 15) :
    Calls Tryz.prog 22 #[.pointer (some ⟨B, 0, none⟩), l] w fun e w' => e = .returned (.tuple #[]) ∧ ∃ ρ', BkX N ρ' w' B (s + 1) ∧ Fr ρ' w' ∧ (∀ k, ρ' k ≠ 15) ∧ Ev (fun q => q = 1 ∨ q = 2 ∨ q = 3) ρ w ρ' w' := by
  obtain ⟨mark, vI, vM, vH, vU, L, K, h1, h2, h3, h4, h5⟩ := hB
  refine (keep_any N ρ w B mark vI vM vH vU L K l n xs hN hF h1 hl h14 hn (by omega) (by omega) h5 h15).mono ?_
  rintro e w' ⟨rfl, ρ', vI', vM', L', k1, k2, k3, k4, k5⟩
  exact ⟨rfl, ρ', ⟨_, _, _, _, _, _, _, k1, by simp; omega, by omega, by omega, by omega⟩, k3, k4, k5⟩
theorem hops_fin {N : Nat} {ρ ρ0 : Nat → Nat} {w w0 wk w' : World} {W T R B rT rR s : Nat} {gs : Nat → List Int} (hE : ∀ R, Ev R ρ w ρ0 w0) (hW : Wd N ρ0 w0 W T R B rT rR gs) (hb : Below w0.heap.size w0 wk)
    (hK : ∃ ρ', BkX N ρ' w' B (s + 1) ∧ Fr ρ' w' ∧ (∀ k, ρ' k ≠ 15) ∧ Ev (fun q => q = 1 ∨ q = 2 ∨ q = 3) ρ0 wk ρ' w') (hT : 8 ≤ rT) (hT2 : rT ≤ 11) (hR : 8 ≤ rR) (hR2 : rR ≤ 11) : SPost N ρ w W T R B rT rR s (.returned (.bool true)) w' := by
  obtain ⟨ρ', h1, h2, h3, h4⟩ := hK
  refine ⟨rfl, ρ', gs, (hW.ev (Ev.of_below (R := fun _ => False) ρ0 hb) id id id id (by omega) (by omega)).ev h4 (by omega) (by omega) (by omega) (by omega) (by omega) (by omega), h1, h2, h3, ((hE _).trans (Ev.of_below ρ0 hb)).trans (h4.mono fun r h => by omega)⟩

set_option maxRecDepth 4000 in
set_option maxHeartbeats 2000000 in
theorem groups_hops (N : Nat) (ρ : Nat → Nat) (w : World) (W T R B rT rR s : Nat) (gs : Nat → List Int) (n : Int) (x : Nat → Value) (h : Value) (m : Bool)
    (hN : N ≤ w.heap.size) (hF : Fr ρ w) (h15 : ∀ k, ρ k ≠ 15) (hW : Wd N ρ w W T R B rT rR gs) (hB : BkX N ρ w B s) (hs : s ≤ 1000000000000) (hT : 8 ≤ rT) (hT2 : rT ≤ 11) (hR : 8 ≤ rR) (hR2 : rR ≤ 11) :
    Calls Tryz.prog 17 #[.pointer (some ⟨W, 0, none⟩), .agg (opA 2 n x h m)] w (SPost N ρ w W T R B rT rR s) := by
  obtain ⟨ρ0, w0, hw0, hNz, hsz, hE0, hF0, h150, hb0, hW0, hB0, hS0⟩ := boxed 2 n x h m hN hF h15 hW hB hT2 hR2
  have k0 : w0.cell? ⟨w.heap.size, 0, none⟩ = some (.int .i64 2) := (hS0 0 (by decide)).1
  have k1 : w0.cell? ⟨w.heap.size, 1, none⟩ = some (.int .i64 n) := (hS0 1 (by decide)).1
  have c0 : w0.cell? ⟨W, 0, none⟩ = some (.pointer (some ⟨T, 0, none⟩)) := (hW0.st 0 (by decide)).1
  have c1 : w0.cell? ⟨W, 1, none⟩ = some (.pointer (some ⟨R, 0, none⟩)) := (hW0.st 1 (by decide)).1
  have c2 : w0.cell? ⟨W, 2, none⟩ = some (.pointer (some ⟨B, 0, none⟩)) := (hW0.st 2 (by decide)).1
  have HE := Lib.hid hE0
  have hWl := hW0.st.lt (by decide)
  obtain ⟨f, hf⟩ := hW0.t
  obtain ⟨g, hg⟩ := hW0.r
  have HHo := Lib.hid fun (w1 : World) (hb : Below w0.heap.size w0 w1) => hops_one (hf.ev (Ev.of_below (R := fun _ => False) ρ0 hb) id (by omega) id) (Nat.le_trans hNz hb.size) n
  have HRo := Lib.hid fun (w1 : World) (hb : Below w0.heap.size w0 w1) => rhops_one (hg.ev (Ev.of_below (R := fun _ => False) ρ0 hb) id (by omega) id) n
  have HL := Lib.hid (hopsOf_le hf n)
  have HW := Lib.hid hW0
  have HB := Lib.hid hB0
  have HS := Lib.hid hS0
  have HF := Lib.hid hF0
  have H15 := Lib.hid h150
  obtain ⟨bx, hbx⟩ : ∃ bx, bx = w.heap.size := ⟨_, rfl⟩
  rw [← hbx] at k0 k1 hsz
  clear hW hB hF h15 hE0 hF0 h150 hb0 hW0 hB0 hS0 hf hg hN
  simp only [opA] at hw0
  have Hw0 := Lib.hid hw0
  have Hbx := Lib.hid hbx
  clear hw0 hbx
  unfold opA
  go_enter Tryz.func17, Tryz.ntmps17
  go_wp2
  rw [← Hw0.out, ← Hbx.out]
  go_region_with (go_at_call 43; refine (HHo.out _ (by exact ⟨rfl, rfl, rfl, Nat.le_refl _, fun _ _ => rfl⟩)).mono ?_; rintro e w1 ⟨ao, z, cap, rfl, hz, hol, hbl, hb1⟩; have Hz := Lib.hid hz; have Hol := Lib.hid hol; have Hbl := Lib.hid hbl; have Hb1 := Lib.hid (show Below w0.heap.size w0 w1 from ⟨hb1.os, hb1.tape, hb1.output, hb1.size, hb1.block⟩); clear hz hol hbl hb1)
  all_goals
    have k1' := (Hb1.out.cell (p := ⟨bx, 1, none⟩) hsz).trans k1
    have c1' := (Hb1.out.cell (p := ⟨W, 1, none⟩) hWl).trans c1
    have c2' := (Hb1.out.cell (p := ⟨W, 2, none⟩) hWl).trans c2
    clear k0 k1 c0 c1 c2 hsz
    go_wp2
    go_region_with (go_at_call 44; refine (HRo.out _ (by exact ⟨Hb1.out.os, Hb1.out.tape, Hb1.out.output, Hb1.out.size, Hb1.out.block⟩)).mono ?_; rintro e w2 ⟨ao2, z2, cap2, rfl, hz2, hr2, rfl⟩; have Hz2 := Lib.hid hz2; have Hr2 := Lib.hid hr2; clear hz2 hr2)
  all_goals
    obtain rfl : z2 = z := Hz2.out.trans Hz.out.symm
    have hz8 : z2 ≤ 8 := by rw [Hz.out]; exact HL.out
    have HA := Lib.hid (sameInts_yes ao ao2 z2 cap cap2 (hopsOf gs n) w1.drew (own_rd Hol.out Hz.out) Hr2.out (by unfold maxLen; omega))
    have HD := Lib.hid (fun (d : Nat) => (show Below w0.heap.size w0 (w1.drewN d) from ⟨Hb1.out.os, Hb1.out.tape, Hb1.out.output, Hb1.out.size, Hb1.out.block⟩))
    have HK := Lib.hid (fun (d : Nat) => keep_one (w := w1.drewN d) (Nat.le_trans hNz Hb1.out.size) (HF.out.grow Hb1.out.size) (HB.out.ev (Ev.of_below (R := fun _ => False) ρ0 (HD.out d)) (fun _ _ _ => id)) hs Hol.out (fun b hb => HF.out b (Hbl.out b hb)) (by omega) H15.out)
    have HN := Lib.hid (fun w => num_any (codeOf gs n) w)
    have q3 : (codeOf gs n == codeOf gs n) = true := by simp
    go_wp2_with (first | (go_at_call 21; refine HA.out.mono ?_; rintro e w2 ⟨rfl, d, rfl⟩) | (go_at_call 22; refine (HK.out _).mono ?_; rintro e w3 ⟨rfl, hk⟩; have Hk := Lib.hid hk; clear hk) | (go_at_call 23; refine (HN.out _).mono ?_; rintro e w4 ⟨rfl, rfl⟩))
    go_ret
    exact hops_fin HE.out HW.out (HD.out _) Hk.out hT hT2 hR hR2
end Go.Proofs.YtnfkgnjeamnhfaaGreat
