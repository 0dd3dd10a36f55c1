import Derived.Test.YtnfkgnjeamnhfaaGreatGv
namespace Go.Proofs.YtnfkgnjeamnhfaaGreat
open Go.RowKit

def bookA : Array Value := #[.int .i64 (-1000), nilS, nilS, nilS, nilS, nilS, nilS, nilS, nilS, nilS, nilS]
theorem booked {N : Nat} {ρ : Nat → Nat} {w : World} (hF : Fr ρ w) (h15 : ∀ k, ρ k ≠ 15) :
    ∃ ρ', BkX N ρ' (w.alloc (.cells bookA 54)) w.heap.size 0 ∧ Fr ρ' (w.alloc (.cells bookA 54)) ∧ (∀ k, ρ' k ≠ 15) ∧ (∀ R, Ev R ρ w ρ' (w.alloc (.cells bookA 54))) := by
  obtain ⟨e1, e2, e3, e4⟩ := box_role hF h15 (.cells bookA 54) (r := 1) (by decide)
  refine ⟨_, ⟨-1000, nilS, nilS, nilS, nilS, [], [], ⟨e3, (St.new w bookA 54).congr ?_, Own.nil _ _ _ _ _, Own.nil _ _ _ _ _, Own.nil _ _ _ _ _, Own.nil _ _ _ _ _, by simp, by simp⟩, by simp, by simp, by simp, by simp⟩, e2, e4, e1⟩
  intro j hj
  have hj : j < 11 := hj
  iterate 11 (rcases j with _ | j; · rfl)
  omega
set_option maxRecDepth 4000 in
set_option maxHeartbeats 1000000 in
theorem both_no (limit seed own : Int) (w : World) (h1 : limit < 1 ∨ 256 < limit) :
    Calls Tryz.prog 11 #[.int .i64 limit, .int .u64 seed, .int .u32 own] w fun e w' => e = .returned (.tuple #[.pointer none, .pointer none, .bool true]) ∧ Below w.heap.size w w' := by
  have H1 := Lib.hid (begin_no limit seed own w.heap.size (w.alloc (.cells bookA 54)) h1)
  simp only [bookA] at H1
  clear h1
  go_enter Tryz.func11, Tryz.ntmps11
  go_wp2_with (go_at_call 16; refine H1.out.mono ?_; rintro e w1 ⟨rfl, rfl⟩)
  go_ret3
  exact ⟨rfl, (Below.refl _ _).alloc (Nat.le_refl _) _⟩
/-- Two tables beside one another, and the book, behind s steps. -/
def Two (N : Nat) (ρ : Nat → Nat) (w : World) (W V B s : Nat) (w' : World) : Prop :=
  ∃ T R T' R' ρ' gs gs', Wd N ρ' w' W T R B 8 9 gs ∧ Wd N ρ' w' V T' R' B 10 11 gs' ∧ BkX N ρ' w' B s ∧ Fr ρ' w' ∧ (∀ k, ρ' k ≠ 15) ∧ Ev (fun q => 1 ≤ q) ρ w ρ' w'
theorem both_fin {N : Nat} {ρ ρ0 : Nat → Nat} {w w0 w1 w2 : World} {B W V : Nat} (hE : ∀ R, Ev R ρ w ρ0 w0) (hB : BkX N ρ0 w0 B 0) {ρ1 : Nat → Nat} {T R : Nat} (a1 : Wd N ρ1 w1 W T R B 8 9 (fun _ => [])) (a4 : ∀ R, Ev R ρ0 w0 ρ1 w1) (h2 : BPost N ρ1 w1 B 10 11 V w2) : Two N ρ w W V B 0 w2 := by
  obtain ⟨T', R', ρ2, b1, b2, b3, b4⟩ := h2
  exact ⟨T, R, T', R', ρ2, _, _, a1.ev (b4 (fun _ => False)) id id id id (by decide) (by decide), b1, (hB.ev (a4 (fun _ => False)) (fun _ _ _ => id)).ev (b4 (fun _ => False)) (fun _ _ _ => id), b2, b3, ((hE _).trans (a4 _)).trans (b4 _)⟩
set_option maxRecDepth 4000 in
set_option maxHeartbeats 1000000 in
theorem both_any (N : Nat) (ρ : Nat → Nat) (limit seed own : Int) (w : World) (hF : Fr ρ w) (h15 : ∀ k, ρ k ≠ 15) (h1 : ¬ limit < 1) (h2 : ¬ 256 < limit) :
    Calls Tryz.prog 11 #[.int .i64 limit, .int .u64 seed, .int .u32 own] w fun e w' => ∃ W V B, e = .returned (.tuple #[.pointer (some ⟨W, 0, none⟩), .pointer (some ⟨V, 0, none⟩), .bool true]) ∧ Two N ρ w W V B 0 w' := by
  obtain ⟨ρ0, hB0, hF0, h150, hE0⟩ := booked (N := N) hF h15
  have H1 := Lib.hid (begin_any N ρ0 limit seed own w.heap.size 8 9 (w.alloc (.cells bookA 54)) hF0 h150 h1 h2 (by decide) (by decide) (by decide) (by decide))
  have H2 := Lib.hid fun (ρ1 : Nat → Nat) (w1 : World) (hF1 : Fr ρ1 w1) (h151 : ∀ k, ρ1 k ≠ 15) (seed own : Int) => begin_any N ρ1 (257 - limit) seed own w.heap.size 10 11 w1 hF1 h151 (by omega) (by omega) (by decide) (by decide) (by decide) (by decide)
  have HE := Lib.hid hE0
  have HB := Lib.hid hB0
  clear hF h15 hB0 hF0 h150 hE0
  simp only [bookA] at H1 HE HB
  go_enter Tryz.func11, Tryz.ntmps11
  go_wp2_with (go_at_call_of 16 (Value.int IntKind.i64 limit); refine H1.out.mono ?_; rintro e w1 ⟨W, rfl, hp⟩; have HP := Lib.hid hp; clear hp)
  obtain ⟨T, R, ρ1, a1, a2, a3, a4⟩ := HP.out
  refine (H2.out ρ1 w1 a2 a3 _ _).mono ?_
  rintro e w2 ⟨V, rfl, hp⟩
  have HA := Lib.hid (both_fin HE.out HB.out a1 a4 hp)
  clear a1 a2 a3 a4 hp
  go_wp2
  go_ret3
  exact ⟨_, _, _, rfl, HA.out⟩
end Go.Proofs.YtnfkgnjeamnhfaaGreat
