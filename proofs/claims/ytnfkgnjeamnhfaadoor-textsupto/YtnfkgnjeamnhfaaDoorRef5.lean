import Derived.Test.YtnfkgnjeamnhfaaDoorChk
import Derived.Lib.Hide
namespace Go.Proofs.YtnfkgnjeamnhfaaDoor
open Go.RowKit

theorem rsize_4 (w : World) : Calls Tryd.prog 26 #[.int .i64 4] w fun e w' => e = .returned (.int .i64 32) ∧ w' = w := by
  go_enter Tryd.func26, Tryd.ntmps26
  go_wp2
  go_ret
  exact ⟨rfl, rfl⟩
theorem rsize_6 (w : World) : Calls Tryd.prog 26 #[.int .i64 6] w fun e w' => e = .returned (.int .i64 128) ∧ w' = w := by
  go_enter Tryd.func26, Tryd.ntmps26
  go_wp2
  go_ret
  exact ⟨rfl, rfl⟩
theorem rsize_no (f : Int) (w : World) (h4 : ¬ f = 4) (h6 : ¬ f = 6) : Calls Tryd.prog 26 #[.int .i64 f] w fun e w' => e = .returned (.int .i64 0) ∧ w' = w := by
  go_enter Tryd.func26, Tryd.ntmps26
  go_wp2
  go_ret
  exact ⟨rfl, rfl⟩
set_option maxHeartbeats 400000 in
theorem raddr_6 (hi lo : Nat) (w : World) : Calls Tryd.prog 27 #[addr 6 hi lo] w fun e w' => e = .returned (.int .i64 0) ∧ Below w.heap.size w w' := by
  go_enter Tryd.func27, Tryd.ntmps27
  go_wp2_with (go_at_call 26; refine (rsize_6 _).mono ?_; rintro e w' ⟨rfl, rfl⟩)
  go_ret
  exact ⟨rfl, (Below.refl _ _).alloc (Nat.le_refl _) _⟩
set_option maxHeartbeats 400000 in
theorem raddr_4y (lo : Nat) (w : World) (h : lo ≤ 4294967295) : Calls Tryd.prog 27 #[addr 4 0 lo] w fun e w' => e = .returned (.int .i64 0) ∧ Below w.heap.size w w' := by
  have h' : ¬ (4294967295 : Int) < (lo : Int) := by omega
  go_enter Tryd.func27, Tryd.ntmps27
  go_wp2_with (go_at_call 26; refine (rsize_4 _).mono ?_; rintro e w' ⟨rfl, rfl⟩)
  go_ret
  exact ⟨rfl, (Below.refl _ _).alloc (Nat.le_refl _) _⟩
set_option maxHeartbeats 400000 in
theorem raddr_4n (lo : Nat) (w : World) (h : ¬ lo ≤ 4294967295) : Calls Tryd.prog 27 #[addr 4 0 lo] w fun e w' => e = .returned (.int .i64 4) ∧ Below w.heap.size w w' := by
  have h' : (4294967295 : Int) < (lo : Int) := by omega
  go_enter Tryd.func27, Tryd.ntmps27
  go_wp2_with (go_at_call 26; refine (rsize_4 _).mono ?_; rintro e w' ⟨rfl, rfl⟩)
  go_ret
  exact ⟨rfl, (Below.refl _ _).alloc (Nat.le_refl _) _⟩
set_option maxHeartbeats 400000 in
theorem raddr_4h (hi lo : Nat) (w : World) (h : 1 ≤ hi) : Calls Tryd.prog 27 #[addr 4 hi lo] w fun e w' => e = .returned (.int .i64 4) ∧ Below w.heap.size w w' := by
  have h' : (0 : Int) < (hi : Int) := by omega
  go_enter Tryd.func27, Tryd.ntmps27
  go_wp2_with (go_at_call 26; refine (rsize_4 _).mono ?_; rintro e w' ⟨rfl, rfl⟩)
  go_ret
  exact ⟨rfl, (Below.refl _ _).alloc (Nat.le_refl _) _⟩

set_option maxHeartbeats 400000 in
theorem rgood_no (f : Int) (hi lo : Nat) (n : Int) (w : World) (h4 : ¬ f = 4) (h6 : ¬ f = 6) :
    Calls Tryd.prog 16 #[pref f hi lo n] w fun e w' => e = .returned (.int .i64 2) ∧ Below w.heap.size w w' := by
  go_enter Tryd.func16, Tryd.ntmps16
  go_wp2_with (go_at_call 26; refine (rsize_no _ _ h4 h6).mono ?_; rintro e w' ⟨rfl, rfl⟩)
  go_ret
  exact ⟨rfl, (Below.refl _ _).alloc (Nat.le_refl _) _⟩
set_option maxHeartbeats 400000 in
theorem rgood_len (f sz : Int) (hi lo : Nat) (n : Int) (w : World) (h0 : 0 < sz) (HS : Hid (∀ w, Calls Tryd.prog 26 #[.int .i64 f] w fun e w' => e = .returned (.int .i64 sz) ∧ w' = w)) (h : n < 0 ∨ sz < n) :
    Calls Tryd.prog 16 #[pref f hi lo n] w fun e w' => e = .returned (.int .i64 3) ∧ Below w.heap.size w w' := by
  rcases h with h | h
  · go_enter Tryd.func16, Tryd.ntmps16
    go_wp2_with (go_at_call 26; refine (HS.out _).mono ?_; rintro e w' ⟨rfl, rfl⟩)
    go_ret
    exact ⟨rfl, (Below.refl _ _).alloc (Nat.le_refl _) _⟩
  · have h' : ¬ n < 0 := by omega
    go_enter Tryd.func16, Tryd.ntmps16
    go_wp2_with (go_at_call 26; refine (HS.out _).mono ?_; rintro e w' ⟨rfl, rfl⟩)
    go_ret
    exact ⟨rfl, (Below.refl _ _).alloc (Nat.le_refl _) _⟩
set_option maxHeartbeats 400000 in
theorem rgood_addr (f sz : Int) (hi lo : Nat) (n : Int) (w : World) (h0 : 0 < sz) (hn0 : 0 ≤ n) (hn1 : n ≤ sz) (HS : Hid (∀ w, Calls Tryd.prog 26 #[.int .i64 f] w fun e w' => e = .returned (.int .i64 sz) ∧ w' = w))
    (HA : Hid (∀ w, Calls Tryd.prog 27 #[addr f hi lo] w fun e w' => e = .returned (.int .i64 4) ∧ Below w.heap.size w w')) :
    Calls Tryd.prog 16 #[pref f hi lo n] w fun e w' => e = .returned (.int .i64 4) ∧ Below w.heap.size w w' := by
  go_enter Tryd.func16, Tryd.ntmps16
  go_wp2_with (first | (go_at_call 26; refine (HS.out _).mono ?_; rintro e w' ⟨rfl, rfl⟩) | (go_at_call 27; refine (HA.out _).mono ?_; rintro e w' ⟨rfl, hb⟩))
  go_ret
  exact ⟨rfl, ((Below.refl _ _).alloc (Nat.le_refl _) _).trans (hb.mono (by simp))⟩
set_option maxHeartbeats 1000000 in
theorem rgood_cut (f sz : Int) (hi lo a b : Nat) (n z : Int) (w : World) (h0 : 0 < sz) (hn0 : 0 ≤ n) (hn1 : n ≤ sz) (HS : Hid (∀ w, Calls Tryd.prog 26 #[.int .i64 f] w fun e w' => e = .returned (.int .i64 sz) ∧ w' = w))
    (HA : Hid (∀ w, Calls Tryd.prog 27 #[addr f hi lo] w fun e w' => e = .returned (.int .i64 0) ∧ Below w.heap.size w w'))
    (HC : Hid (∀ w, Calls Tryd.prog 28 #[addr f hi lo, .int .i64 n] w fun e w' => e = .returned (addr f a b) ∧ Below w.heap.size w w'))
    (hz : ((a : Int) == (hi : Int)) = false ∧ z = 4 ∨ a = hi ∧ ((b : Int) == (lo : Int)) = false ∧ z = 4 ∨ a = hi ∧ b = lo ∧ z = 0) :
    Calls Tryd.prog 16 #[pref f hi lo n] w fun e w' => e = .returned (.int .i64 z) ∧ Below w.heap.size w w' := by
  rcases hz with ⟨hz, rfl⟩ | ⟨rfl, hz, rfl⟩ | ⟨rfl, rfl, rfl⟩
  all_goals
    go_enter Tryd.func16, Tryd.ntmps16
    go_wp2_with (first | (go_at_call 26; refine (HS.out _).mono ?_; rintro e w' ⟨rfl, rfl⟩) | (go_at_call 27; refine (HA.out _).mono ?_; rintro e w1 ⟨rfl, hb1⟩; obtain ⟨hc1, hf1⟩ := bcell hb1; have hz1 : w.heap.size < w1.heap.size := (by have := hb1.size; simp at this; omega)) | (go_at_call 28; refine (HC.out _).mono ?_; rintro e w2 ⟨rfl, hb2⟩; obtain ⟨hc2, hf2⟩ := bcell hb2; have hz2 : w.heap.size < w2.heap.size := (by have := hb2.size; omega)))
    go_ret
    exact ⟨rfl, ((((Below.refl _ _).alloc (Nat.le_refl _) _).trans (hb1.mono (by simp))).trans (hb2.mono (by omega))).alloc (by omega) _⟩
end Go.Proofs.YtnfkgnjeamnhfaaDoor
