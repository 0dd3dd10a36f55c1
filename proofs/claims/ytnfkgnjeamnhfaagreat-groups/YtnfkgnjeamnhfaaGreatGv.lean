import Derived.Test.YtnfkgnjeamnhfaaGreatGu
namespace Go.Proofs.YtnfkgnjeamnhfaaGreat
open Go.RowKit

/-- A new box gets a role. -/
theorem box_role {ρ : Nat → Nat} {w : World} (hF : Fr ρ w) (h15 : ∀ k, ρ k ≠ 15) (o : Obj) {r : Nat} (hr : r ≠ 15) : (∀ R, Ev R ρ w (rl ρ w.heap.size r) (w.alloc o)) ∧ Fr (rl ρ w.heap.size r) (w.alloc o) ∧ rl ρ w.heap.size r w.heap.size = r ∧ (∀ k, rl ρ w.heap.size r k ≠ 15) := by
  have hal : Below w.heap.size w (w.alloc o) := (Below.refl _ _).alloc (Nat.le_refl _) _
  refine ⟨fun R => (Ev.of_below ρ hal).trans (Ev.rl _ r (.inl (hF _ (Nat.le_refl _)))), (hF.grow hal.size).rl (by simp) r, rl_same _ _ _, fun k => ?_⟩
  unfold YtnfkgnjeamnhfaaGreat.rl; split
  · exact hr
  · exact h15 k
theorem begun {N : Nat} {ρ : Nat → Nat} {w w1 w2 : World} {B rT rR : Nat} (hF : Fr ρ w) (h15 : ∀ k, ρ k ≠ 15) (h1 : NewT 3 35 w w1) (h2 : NewT 4 3 w1 w2) (hT : 8 ≤ rT) (hT2 : rT ≤ 11) (hR : 8 ≤ rR) (hR2 : rR ≤ 11) :
    ∃ ρ', Wd N ρ' (w2.alloc (.cells #[ptr w.heap.size, ptr w1.heap.size, ptr B] 46)) w2.heap.size w.heap.size w1.heap.size B rT rR (fun _ => []) ∧ Fr ρ' (w2.alloc (.cells #[ptr w.heap.size, ptr w1.heap.size, ptr B] 46)) ∧ (∀ k, ρ' k ≠ 15) ∧ (∀ R, Ev R ρ w ρ' (w2.alloc (.cells #[ptr w.heap.size, ptr w1.heap.size, ptr B] 46))) := by
  obtain ⟨ρ1, f1, a1, a2, a3, a4⟩ := Tb.new (N := N) (rT := rT) (by omega) hF h1
  obtain ⟨ρ2, f2, b1, b2, b3, b4⟩ := Tb.new (N := N) (rT := rR) (by omega) a2 h2
  obtain ⟨e1, e2, e3, e4⟩ := box_role b2 (b3 (a3 h15)) (.cells #[ptr w.heap.size, ptr w1.heap.size, ptr B] 46) (r := 12) (by decide)
  refine ⟨_, ⟨e3, (St.new w2 #[ptr w.heap.size, ptr w1.heap.size, ptr B] 46).congr ?_, ⟨f1, (a1.ev (b4 (fun _ => False)) id (by omega) id).ev (e1 (fun _ => False)) id (by omega) id⟩, ⟨f2, b1.ev (e1 (fun _ => False)) id (by omega) id⟩⟩, e2, e4, fun R => ((a4 R).trans (b4 R)).trans (e1 R)⟩
  intro j hj
  have hj : j < 3 := hj
  iterate 3 (rcases j with _ | j; · rfl)
  omega
set_option maxRecDepth 4000 in
set_option maxHeartbeats 1000000 in
theorem begin_no (limit seed own : Int) (B : Nat) (w : World) (h1 : limit < 1 ∨ 256 < limit) :
    Calls Tryz.prog 16 #[.int .i64 limit, .int .u64 seed, .int .u32 own, .pointer (some ⟨B, 0, none⟩)] w fun e w' => e = .returned (.tuple #[.pointer none, .bool true]) ∧ w' = w := by
  have H1 := Lib.hid (new_no limit seed own w h1)
  have H2 := Lib.hid (rnew_no limit seed own w h1)
  have HN := Lib.hid (num_any 1 w)
  clear h1
  go_enter Tryz.func16, Tryz.ntmps16
  go_wp2_with (first | (go_at_call 37; refine H1.out.mono ?_; rintro e w1 ⟨rfl, rfl⟩) | (go_at_call 38; refine H2.out.mono ?_; rintro e w1 ⟨rfl, rfl⟩) | (go_at_call 23; refine HN.out.mono ?_; rintro e w1 ⟨rfl, rfl⟩))
  go_ret2
  exact ⟨rfl, rfl⟩
/-- What begin leaves. -/
def BPost (N : Nat) (ρ : Nat → Nat) (w : World) (B rT rR : Nat) (W : Nat) (w' : World) : Prop := ∃ T R ρ', Wd N ρ' w' W T R B rT rR (fun _ => []) ∧ Fr ρ' w' ∧ (∀ k, ρ' k ≠ 15) ∧ (∀ R, Ev R ρ w ρ' w')
set_option maxRecDepth 4000 in
set_option maxHeartbeats 1000000 in
theorem begin_any (N : Nat) (ρ : Nat → Nat) (limit seed own : Int) (B rT rR : Nat) (w : World) (hF : Fr ρ w) (h15 : ∀ k, ρ k ≠ 15) (h1 : ¬ limit < 1) (h2 : ¬ 256 < limit) (hT : 8 ≤ rT) (hT2 : rT ≤ 11) (hR : 8 ≤ rR) (hR2 : rR ≤ 11) :
    Calls Tryz.prog 16 #[.int .i64 limit, .int .u64 seed, .int .u32 own, .pointer (some ⟨B, 0, none⟩)] w fun e w' => ∃ W, e = .returned (.tuple #[.pointer (some ⟨W, 0, none⟩), .bool true]) ∧ BPost N ρ w B rT rR W w' := by
  have H1 := Lib.hid (new_any limit seed own w h1 h2)
  have H2 := Lib.hid fun w => rnew_any limit seed own w h1 h2
  have HF := Lib.hid hF
  have H15 := Lib.hid h15
  clear h1 h2 hF h15
  go_enter Tryz.func16, Tryz.ntmps16
  go_wp2_with (first | (go_at_call 37; refine H1.out.mono ?_; rintro e w1 ⟨rfl, hn1⟩; have HN1 := Lib.hid hn1; clear hn1) | (go_at_call 38; refine (H2.out _).mono ?_; rintro e w2 ⟨rfl, hn2⟩; have HN2 := Lib.hid hn2; clear hn2))
  go_ret2
  obtain ⟨ρ', b1, b2, b3, b4⟩ := begun (N := N) (B := B) HF.out H15.out HN1.out HN2.out hT hT2 hR hR2
  exact ⟨_, rfl, _, _, ρ', b1, b2, b3, b4⟩
end Go.Proofs.YtnfkgnjeamnhfaaGreat
