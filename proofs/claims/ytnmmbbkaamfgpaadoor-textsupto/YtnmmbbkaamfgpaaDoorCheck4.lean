import Derived.Test.YtnmmbbkaamfgpaaDoorLeaf
import Derived.Deep.QuietTactic
import Derived.BigQuiet
import Derived.Deep.RegionWith
namespace Go.Proofs.YtnmmbbkaamfgpaaDoor
open Go.RowKit
theorem fits_4y (lo : Nat) (w : World) (h : lo < 4294967296) : Calls Tryd.prog 36 #[addr 4 0 lo] w fun e w' => e = .returned (.bool true) ∧ Below w.heap.size w w' := by
  have := fits_40 lo w
  rwa [decide_eq_true h] at this
theorem fits_4n (lo : Nat) (w : World) (h : ¬ lo < 4294967296) : Calls Tryd.prog 36 #[addr 4 0 lo] w fun e w' => e = .returned (.bool false) ∧ Below w.heap.size w w' := by
  have := fits_40 lo w
  rwa [decide_eq_false h] at this
set_option maxHeartbeats 400000 in
theorem check_4eq (lo : Nat) (n : Int) (w : World) (hl : lo < 4294967296) (h0 : 0 ≤ n) (h1 : n ≤ 32) 
    (hcut : ∀ w, Calls Tryd.prog 37 #[addr 4 0 lo, .int .i64 n] w fun e w' => e = .returned (addr 4 0 lo) ∧ Below w.heap.size w w') :
    Calls Tryd.prog 25 #[pref 4 0 lo n] w fun e w' => e = .returned (.int .i64 0) ∧ Below w.heap.size w w' := by
  have HC : Hid _ := hcut
  clear hcut
  go_enter Tryd.func25, Tryd.ntmps25
  go_wp2_with (first | (go_at_call 34; refine (width_4 _).mono ?_; rintro e w' ⟨rfl, rfl⟩) | (go_at_call 36; refine (fits_4y _ _ hl).mono ?_; rintro e w' ⟨rfl, hb⟩; obtain ⟨hc, hf⟩ := bcell hb; have hz : w.heap.size < w'.heap.size := (by have := hb.size; simp at this; omega)))
  have k0 : w'.cell? ⟨w.heap.size, 0, none⟩ = some (.int .i64 4) := by rw [hc _ _ (by simp)]; simp
  have k1 : w'.cell? ⟨w.heap.size, 1, none⟩ = some (.int .u64 0) := by rw [hc _ _ (by simp)]; simp
  have k2 : w'.cell? ⟨w.heap.size, 2, none⟩ = some (.int .u64 lo) := by rw [hc _ _ (by simp)]; simp
  have k3 : w'.cell? ⟨w.heap.size, 3, none⟩ = some (.int .i64 n) := by rw [hc _ _ (by simp)]; simp
  clear hc hf
  have HB : Hid _ := hb
  clear hb
  go_region_with (go_at_call 37; refine (HC.out _).mono ?_; rintro e w2 ⟨rfl, hb2⟩; have j0 := (bcell hb2).1 w.heap.size 0 hz; have j1 := (bcell hb2).1 w.heap.size 1 hz; have j2 := (bcell hb2).1 w.heap.size 2 hz; (simp only [World.cell?_drew, k0, k1, k2] at j0 j1 j2))
  all_goals go_wp2
  all_goals go_ret
  all_goals exact ⟨rfl, ((Below.refl _ _).alloc (Nat.le_refl _) _).trans ((HB.out.trans ((Below.refl _ _).drew.trans (hb2.mono (by have := HB.out.size; simpa using this)))).mono (by simp))⟩
set_option maxHeartbeats 400000 in
theorem check_4lo (lo b : Nat) (n : Int) (w : World) (hl : lo < 4294967296) (h0 : 0 ≤ n) (h1 : n ≤ 32) (hne : ((b : Int) == (lo : Int)) = false)
    (hcut : ∀ w, Calls Tryd.prog 37 #[addr 4 0 lo, .int .i64 n] w fun e w' => e = .returned (addr 4 0 b) ∧ Below w.heap.size w w') :
    Calls Tryd.prog 25 #[pref 4 0 lo n] w fun e w' => e = .returned (.int .i64 4) ∧ Below w.heap.size w w' := by
  have HC : Hid _ := hcut
  clear hcut
  go_enter Tryd.func25, Tryd.ntmps25
  go_wp2_with (first | (go_at_call 34; refine (width_4 _).mono ?_; rintro e w' ⟨rfl, rfl⟩) | (go_at_call 36; refine (fits_4y _ _ hl).mono ?_; rintro e w' ⟨rfl, hb⟩; obtain ⟨hc, hf⟩ := bcell hb; have hz : w.heap.size < w'.heap.size := (by have := hb.size; simp at this; omega)))
  have k0 : w'.cell? ⟨w.heap.size, 0, none⟩ = some (.int .i64 4) := by rw [hc _ _ (by simp)]; simp
  have k1 : w'.cell? ⟨w.heap.size, 1, none⟩ = some (.int .u64 0) := by rw [hc _ _ (by simp)]; simp
  have k2 : w'.cell? ⟨w.heap.size, 2, none⟩ = some (.int .u64 lo) := by rw [hc _ _ (by simp)]; simp
  have k3 : w'.cell? ⟨w.heap.size, 3, none⟩ = some (.int .i64 n) := by rw [hc _ _ (by simp)]; simp
  clear hc hf
  have HB : Hid _ := hb
  clear hb
  go_region_with (go_at_call 37; refine (HC.out _).mono ?_; rintro e w2 ⟨rfl, hb2⟩; have j0 := (bcell hb2).1 w.heap.size 0 hz; have j1 := (bcell hb2).1 w.heap.size 1 hz; have j2 := (bcell hb2).1 w.heap.size 2 hz; (simp only [World.cell?_drew, k0, k1, k2] at j0 j1 j2))
  all_goals go_wp2
  all_goals go_ret
  all_goals exact ⟨rfl, ((Below.refl _ _).alloc (Nat.le_refl _) _).trans ((HB.out.trans ((Below.refl _ _).drew.trans (hb2.mono (by have := HB.out.size; simpa using this)))).mono (by simp))⟩
set_option maxHeartbeats 400000 in
theorem check_4len (hi lo : Nat) (n : Int) (w : World) (h : n < 0 ∨ 32 < n) :
    Calls Tryd.prog 25 #[pref 4 hi lo n] w fun e w' => e = .returned (.int .i64 3) ∧ Below w.heap.size w w' := by
  rcases h with h | h
  · go_enter Tryd.func25, Tryd.ntmps25
    go_wp2_with (first | (go_at_call 34; refine (width_4 _).mono ?_; rintro e w' ⟨rfl, rfl⟩))
    go_ret
    exact ⟨rfl, (Below.refl _ _).alloc (Nat.le_refl _) _⟩
  · have h' : ¬ n < 0 := by omega
    go_enter Tryd.func25, Tryd.ntmps25
    go_wp2_with (first | (go_at_call 34; refine (width_4 _).mono ?_; rintro e w' ⟨rfl, rfl⟩))
    go_ret
    exact ⟨rfl, (Below.refl _ _).alloc (Nat.le_refl _) _⟩
set_option maxHeartbeats 400000 in
theorem check_4fit (hi lo : Nat) (n : Int) (w : World) (h0 : 0 ≤ n) (h1 : n ≤ 32) (hfit : ∀ w, Calls Tryd.prog 36 #[addr 4 hi lo] w fun e w' => e = .returned (.bool false) ∧ Below w.heap.size w w') :
    Calls Tryd.prog 25 #[pref 4 hi lo n] w fun e w' => e = .returned (.int .i64 4) ∧ Below w.heap.size w w' := by
  have HC : Hid _ := hfit
  clear hfit
  go_enter Tryd.func25, Tryd.ntmps25
  go_wp2_with (first | (go_at_call 34; refine (width_4 _).mono ?_; rintro e w' ⟨rfl, rfl⟩) | (go_at_call 36; refine (HC.out _).mono ?_; rintro e w' ⟨rfl, hb⟩))
  go_ret
  exact ⟨rfl, ((Below.refl _ _).alloc (Nat.le_refl _) _).trans (hb.mono (by simp))⟩
end Go.Proofs.YtnmmbbkaamfgpaaDoor
