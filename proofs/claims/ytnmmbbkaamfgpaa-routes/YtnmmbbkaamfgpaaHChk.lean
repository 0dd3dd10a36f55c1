import Derived.Test.YtnmmbbkaamfgpaaHLeaf
import Derived.Deep.QuietTactic
import Derived.BigQuiet
import Derived.Deep.RegionWith
namespace Go.Proofs.Ytnmmbbkaamfgpaa.H
open Go.RowKit
set_option maxHeartbeats 400000 in
theorem check_6eq (hi lo : Nat) (n : Int) (w : World)  (h0 : 0 ≤ n) (h1 : n ≤ 128) 
    (hcut : ∀ w, Calls Try.prog 55 #[addr 6 hi lo, .int .i64 n] w fun e w' => e = .returned (addr 6 hi lo) ∧ Below w.heap.size w w') :
    Calls Try.prog 37 #[pref 6 hi lo n] w fun e w' => e = .returned (.int .i64 0) ∧ Below w.heap.size w w' := by
  have HC : Hid _ := hcut
  clear hcut
  go_enter Try.func37, Try.ntmps37
  go_wp2_with (first | (go_at_call 35; refine (width_6 _).mono ?_; rintro e w' ⟨rfl, rfl⟩) | (go_at_call 54; refine (fits_6 _ _ _).mono ?_; rintro e w' ⟨rfl, hb⟩; obtain ⟨hc, hf⟩ := bcell hb; have hz : w.heap.size < w'.heap.size := (by have := hb.size; simp at this; omega)))
  have k0 : w'.cell? ⟨w.heap.size, 0, none⟩ = some (.int .i64 6) := by rw [hc _ _ (by simp)]; simp
  have k1 : w'.cell? ⟨w.heap.size, 1, none⟩ = some (.int .u64 hi) := by rw [hc _ _ (by simp)]; simp
  have k2 : w'.cell? ⟨w.heap.size, 2, none⟩ = some (.int .u64 lo) := by rw [hc _ _ (by simp)]; simp
  have k3 : w'.cell? ⟨w.heap.size, 3, none⟩ = some (.int .i64 n) := by rw [hc _ _ (by simp)]; simp
  clear hc hf
  have HB : Hid _ := hb
  clear hb
  go_region_with (go_at_call 55; refine (HC.out _).mono ?_; rintro e w2 ⟨rfl, hb2⟩; have j0 := (bcell hb2).1 w.heap.size 0 hz; have j1 := (bcell hb2).1 w.heap.size 1 hz; have j2 := (bcell hb2).1 w.heap.size 2 hz; (simp only [World.cell?_drew, k0, k1, k2] at j0 j1 j2))
  all_goals go_wp2
  all_goals go_ret
  all_goals exact ⟨rfl, ((Below.refl _ _).alloc (Nat.le_refl _) _).trans ((HB.out.trans ((Below.refl _ _).drew.trans (hb2.mono (by have := HB.out.size; simpa using this)))).mono (by simp))⟩
set_option maxHeartbeats 400000 in
theorem check_6hi (hi lo a b : Nat) (n : Int) (w : World)  (h0 : 0 ≤ n) (h1 : n ≤ 128) (hne : ((a : Int) == (hi : Int)) = false)
    (hcut : ∀ w, Calls Try.prog 55 #[addr 6 hi lo, .int .i64 n] w fun e w' => e = .returned (addr 6 a b) ∧ Below w.heap.size w w') :
    Calls Try.prog 37 #[pref 6 hi lo n] w fun e w' => e = .returned (.int .i64 4) ∧ Below w.heap.size w w' := by
  have HC : Hid _ := hcut
  clear hcut
  go_enter Try.func37, Try.ntmps37
  go_wp2_with (first | (go_at_call 35; refine (width_6 _).mono ?_; rintro e w' ⟨rfl, rfl⟩) | (go_at_call 54; refine (fits_6 _ _ _).mono ?_; rintro e w' ⟨rfl, hb⟩; obtain ⟨hc, hf⟩ := bcell hb; have hz : w.heap.size < w'.heap.size := (by have := hb.size; simp at this; omega)))
  have k0 : w'.cell? ⟨w.heap.size, 0, none⟩ = some (.int .i64 6) := by rw [hc _ _ (by simp)]; simp
  have k1 : w'.cell? ⟨w.heap.size, 1, none⟩ = some (.int .u64 hi) := by rw [hc _ _ (by simp)]; simp
  have k2 : w'.cell? ⟨w.heap.size, 2, none⟩ = some (.int .u64 lo) := by rw [hc _ _ (by simp)]; simp
  have k3 : w'.cell? ⟨w.heap.size, 3, none⟩ = some (.int .i64 n) := by rw [hc _ _ (by simp)]; simp
  clear hc hf
  have HB : Hid _ := hb
  clear hb
  go_region_with (go_at_call 55; refine (HC.out _).mono ?_; rintro e w2 ⟨rfl, hb2⟩; have j0 := (bcell hb2).1 w.heap.size 0 hz; have j1 := (bcell hb2).1 w.heap.size 1 hz; have j2 := (bcell hb2).1 w.heap.size 2 hz; (simp only [World.cell?_drew, k0, k1, k2] at j0 j1 j2))
  all_goals go_wp2
  all_goals go_ret
  all_goals exact ⟨rfl, ((Below.refl _ _).alloc (Nat.le_refl _) _).trans ((HB.out.trans ((Below.refl _ _).drew.trans (hb2.mono (by have := HB.out.size; simpa using this)))).mono (by simp))⟩
set_option maxHeartbeats 400000 in
theorem check_6lo (hi lo b : Nat) (n : Int) (w : World)  (h0 : 0 ≤ n) (h1 : n ≤ 128) (hne : ((b : Int) == (lo : Int)) = false)
    (hcut : ∀ w, Calls Try.prog 55 #[addr 6 hi lo, .int .i64 n] w fun e w' => e = .returned (addr 6 hi b) ∧ Below w.heap.size w w') :
    Calls Try.prog 37 #[pref 6 hi lo n] w fun e w' => e = .returned (.int .i64 4) ∧ Below w.heap.size w w' := by
  have HC : Hid _ := hcut
  clear hcut
  go_enter Try.func37, Try.ntmps37
  go_wp2_with (first | (go_at_call 35; refine (width_6 _).mono ?_; rintro e w' ⟨rfl, rfl⟩) | (go_at_call 54; refine (fits_6 _ _ _).mono ?_; rintro e w' ⟨rfl, hb⟩; obtain ⟨hc, hf⟩ := bcell hb; have hz : w.heap.size < w'.heap.size := (by have := hb.size; simp at this; omega)))
  have k0 : w'.cell? ⟨w.heap.size, 0, none⟩ = some (.int .i64 6) := by rw [hc _ _ (by simp)]; simp
  have k1 : w'.cell? ⟨w.heap.size, 1, none⟩ = some (.int .u64 hi) := by rw [hc _ _ (by simp)]; simp
  have k2 : w'.cell? ⟨w.heap.size, 2, none⟩ = some (.int .u64 lo) := by rw [hc _ _ (by simp)]; simp
  have k3 : w'.cell? ⟨w.heap.size, 3, none⟩ = some (.int .i64 n) := by rw [hc _ _ (by simp)]; simp
  clear hc hf
  have HB : Hid _ := hb
  clear hb
  go_region_with (go_at_call 55; refine (HC.out _).mono ?_; rintro e w2 ⟨rfl, hb2⟩; have j0 := (bcell hb2).1 w.heap.size 0 hz; have j1 := (bcell hb2).1 w.heap.size 1 hz; have j2 := (bcell hb2).1 w.heap.size 2 hz; (simp only [World.cell?_drew, k0, k1, k2] at j0 j1 j2))
  all_goals go_wp2
  all_goals go_ret
  all_goals exact ⟨rfl, ((Below.refl _ _).alloc (Nat.le_refl _) _).trans ((HB.out.trans ((Below.refl _ _).drew.trans (hb2.mono (by have := HB.out.size; simpa using this)))).mono (by simp))⟩
end Go.Proofs.Ytnmmbbkaamfgpaa.H
namespace Go.Proofs.Ytnmmbbkaamfgpaa.H
open Go.RowKit
theorem fits_4y (lo : Nat) (w : World) (h : lo < 4294967296) : Calls Try.prog 54 #[addr 4 0 lo] w fun e w' => e = .returned (.bool true) ∧ Below w.heap.size w w' := by
  have := fits_40 lo w
  rwa [decide_eq_true h] at this
theorem fits_4n (lo : Nat) (w : World) (h : ¬ lo < 4294967296) : Calls Try.prog 54 #[addr 4 0 lo] w fun e w' => e = .returned (.bool false) ∧ Below w.heap.size w w' := by
  have := fits_40 lo w
  rwa [decide_eq_false h] at this
set_option maxHeartbeats 400000 in
theorem check_4eq (lo : Nat) (n : Int) (w : World) (hl : lo < 4294967296) (h0 : 0 ≤ n) (h1 : n ≤ 32) 
    (hcut : ∀ w, Calls Try.prog 55 #[addr 4 0 lo, .int .i64 n] w fun e w' => e = .returned (addr 4 0 lo) ∧ Below w.heap.size w w') :
    Calls Try.prog 37 #[pref 4 0 lo n] w fun e w' => e = .returned (.int .i64 0) ∧ Below w.heap.size w w' := by
  have HC : Hid _ := hcut
  clear hcut
  go_enter Try.func37, Try.ntmps37
  go_wp2_with (first | (go_at_call 35; refine (width_4 _).mono ?_; rintro e w' ⟨rfl, rfl⟩) | (go_at_call 54; refine (fits_4y _ _ hl).mono ?_; rintro e w' ⟨rfl, hb⟩; obtain ⟨hc, hf⟩ := bcell hb; have hz : w.heap.size < w'.heap.size := (by have := hb.size; simp at this; omega)))
  have k0 : w'.cell? ⟨w.heap.size, 0, none⟩ = some (.int .i64 4) := by rw [hc _ _ (by simp)]; simp
  have k1 : w'.cell? ⟨w.heap.size, 1, none⟩ = some (.int .u64 0) := by rw [hc _ _ (by simp)]; simp
  have k2 : w'.cell? ⟨w.heap.size, 2, none⟩ = some (.int .u64 lo) := by rw [hc _ _ (by simp)]; simp
  have k3 : w'.cell? ⟨w.heap.size, 3, none⟩ = some (.int .i64 n) := by rw [hc _ _ (by simp)]; simp
  clear hc hf
  have HB : Hid _ := hb
  clear hb
  go_region_with (go_at_call 55; refine (HC.out _).mono ?_; rintro e w2 ⟨rfl, hb2⟩; have j0 := (bcell hb2).1 w.heap.size 0 hz; have j1 := (bcell hb2).1 w.heap.size 1 hz; have j2 := (bcell hb2).1 w.heap.size 2 hz; (simp only [World.cell?_drew, k0, k1, k2] at j0 j1 j2))
  all_goals go_wp2
  all_goals go_ret
  all_goals exact ⟨rfl, ((Below.refl _ _).alloc (Nat.le_refl _) _).trans ((HB.out.trans ((Below.refl _ _).drew.trans (hb2.mono (by have := HB.out.size; simpa using this)))).mono (by simp))⟩
set_option maxHeartbeats 400000 in
theorem check_4lo (lo b : Nat) (n : Int) (w : World) (hl : lo < 4294967296) (h0 : 0 ≤ n) (h1 : n ≤ 32) (hne : ((b : Int) == (lo : Int)) = false)
    (hcut : ∀ w, Calls Try.prog 55 #[addr 4 0 lo, .int .i64 n] w fun e w' => e = .returned (addr 4 0 b) ∧ Below w.heap.size w w') :
    Calls Try.prog 37 #[pref 4 0 lo n] w fun e w' => e = .returned (.int .i64 4) ∧ Below w.heap.size w w' := by
  have HC : Hid _ := hcut
  clear hcut
  go_enter Try.func37, Try.ntmps37
  go_wp2_with (first | (go_at_call 35; refine (width_4 _).mono ?_; rintro e w' ⟨rfl, rfl⟩) | (go_at_call 54; refine (fits_4y _ _ hl).mono ?_; rintro e w' ⟨rfl, hb⟩; obtain ⟨hc, hf⟩ := bcell hb; have hz : w.heap.size < w'.heap.size := (by have := hb.size; simp at this; omega)))
  have k0 : w'.cell? ⟨w.heap.size, 0, none⟩ = some (.int .i64 4) := by rw [hc _ _ (by simp)]; simp
  have k1 : w'.cell? ⟨w.heap.size, 1, none⟩ = some (.int .u64 0) := by rw [hc _ _ (by simp)]; simp
  have k2 : w'.cell? ⟨w.heap.size, 2, none⟩ = some (.int .u64 lo) := by rw [hc _ _ (by simp)]; simp
  have k3 : w'.cell? ⟨w.heap.size, 3, none⟩ = some (.int .i64 n) := by rw [hc _ _ (by simp)]; simp
  clear hc hf
  have HB : Hid _ := hb
  clear hb
  go_region_with (go_at_call 55; refine (HC.out _).mono ?_; rintro e w2 ⟨rfl, hb2⟩; have j0 := (bcell hb2).1 w.heap.size 0 hz; have j1 := (bcell hb2).1 w.heap.size 1 hz; have j2 := (bcell hb2).1 w.heap.size 2 hz; (simp only [World.cell?_drew, k0, k1, k2] at j0 j1 j2))
  all_goals go_wp2
  all_goals go_ret
  all_goals exact ⟨rfl, ((Below.refl _ _).alloc (Nat.le_refl _) _).trans ((HB.out.trans ((Below.refl _ _).drew.trans (hb2.mono (by have := HB.out.size; simpa using this)))).mono (by simp))⟩
set_option maxHeartbeats 400000 in
theorem check_4len (hi lo : Nat) (n : Int) (w : World) (h : n < 0 ∨ 32 < n) :
    Calls Try.prog 37 #[pref 4 hi lo n] w fun e w' => e = .returned (.int .i64 3) ∧ Below w.heap.size w w' := by
  rcases h with h | h
  · go_enter Try.func37, Try.ntmps37
    go_wp2_with (first | (go_at_call 35; refine (width_4 _).mono ?_; rintro e w' ⟨rfl, rfl⟩))
    go_ret
    exact ⟨rfl, (Below.refl _ _).alloc (Nat.le_refl _) _⟩
  · have h' : ¬ n < 0 := by omega
    go_enter Try.func37, Try.ntmps37
    go_wp2_with (first | (go_at_call 35; refine (width_4 _).mono ?_; rintro e w' ⟨rfl, rfl⟩))
    go_ret
    exact ⟨rfl, (Below.refl _ _).alloc (Nat.le_refl _) _⟩
set_option maxHeartbeats 400000 in
theorem check_4fit (hi lo : Nat) (n : Int) (w : World) (h0 : 0 ≤ n) (h1 : n ≤ 32) (hfit : ∀ w, Calls Try.prog 54 #[addr 4 hi lo] w fun e w' => e = .returned (.bool false) ∧ Below w.heap.size w w') :
    Calls Try.prog 37 #[pref 4 hi lo n] w fun e w' => e = .returned (.int .i64 4) ∧ Below w.heap.size w w' := by
  have HC : Hid _ := hfit
  clear hfit
  go_enter Try.func37, Try.ntmps37
  go_wp2_with (first | (go_at_call 35; refine (width_4 _).mono ?_; rintro e w' ⟨rfl, rfl⟩) | (go_at_call 54; refine (HC.out _).mono ?_; rintro e w' ⟨rfl, hb⟩))
  go_ret
  exact ⟨rfl, ((Below.refl _ _).alloc (Nat.le_refl _) _).trans (hb.mono (by simp))⟩
end Go.Proofs.Ytnmmbbkaamfgpaa.H
namespace Go.Proofs.Ytnmmbbkaamfgpaa.H
open Go.RowKit

theorem ne_beq {a b : Nat} (h : ¬ a = b) : ((a : Int) == (b : Int)) = false := by
  rw [Bool.eq_false_iff]; intro e; simp at e; exact h (by omega)
theorem toNat_small {k : Int} (h : k ≤ 0) : k.toNat = 0 := by omega
theorem clr_0 (x : Nat) : clr x 0 = x := by simp [clr]

/-- Check, whole. -/
theorem check_any (f : Int) (hi lo : Nat) (n : Int) (w : World) (hh : hi ≤ 18446744073709551615) (hl : lo ≤ 18446744073709551615) :
    Calls Try.prog 37 #[pref f hi lo n] w fun e w' => e = .returned (.int .i64 (chk f hi lo n)) ∧ Below w.heap.size w w' := by
  by_cases h4 : f = 4
  · subst h4
    by_cases hn : n < 0 ∨ 32 < n
    · have e : chk 4 hi lo n = 3 := by simp only [chk, if_pos, hn]
      rw [e]
      exact check_4len hi lo n w hn
    · have h0 : 0 ≤ n := by omega
      have h1 : n ≤ 32 := by omega
      by_cases hhi : hi = 0
      · subst hhi
        by_cases hlo : lo < 4294967296
        · have hc : ∀ w, Calls Try.prog 55 #[addr 4 0 lo, .int .i64 n] w fun e w' => e = .returned (addr 4 0 (clr lo (32 - n).toNat)) ∧ Below w.heap.size w w' := fun w => cut_4 0 lo n w hh hl h0 h1
          by_cases hcl : clr lo (32 - n).toNat = lo
          · have e : chk 4 0 lo n = 0 := by unfold chk; rw [if_pos rfl, if_neg hn, if_pos ⟨rfl, hlo, hcl⟩]
            rw [e]
            rw [hcl] at hc
            exact check_4eq lo n w hlo h0 h1 hc
          · have e : chk 4 0 lo n = 4 := by unfold chk; rw [if_pos rfl, if_neg hn, if_neg (fun h => hcl h.2.2)]
            rw [e]
            exact check_4lo lo _ n w hlo h0 h1 (ne_beq hcl) hc
        · have e : chk 4 0 lo n = 4 := by unfold chk; rw [if_pos rfl, if_neg hn, if_neg (fun h => hlo h.2.1)]
          rw [e]
          exact check_4fit 0 lo n w h0 h1 (fun w => fits_4n lo w hlo)
      · have e : chk 4 hi lo n = 4 := by unfold chk; rw [if_pos rfl, if_neg hn, if_neg (fun h => hhi h.1)]
        rw [e]
        exact check_4fit hi lo n w h0 h1 (fun w => fits_41 hi lo w (by omega))
  · by_cases h6 : f = 6
    · subst h6
      by_cases hn : n < 0 ∨ 128 < n
      · have e : chk 6 hi lo n = 3 := by unfold chk; rw [if_neg (by decide), if_pos rfl, if_pos hn]
        rw [e]
        exact check_6len hi lo n w hn
      · have h0 : 0 ≤ n := by omega
        have h1 : n ≤ 128 := by omega
        have hc : ∀ w, Calls Try.prog 55 #[addr 6 hi lo, .int .i64 n] w fun e w' => e = .returned (addr 6 (clr hi (128 - n - 64).toNat) (clr lo (128 - n).toNat)) ∧ Below w.heap.size w w' := fun w => cut_6 hi lo n w hh hl h0 h1
        by_cases hch : clr hi (128 - n - 64).toNat = hi
        · by_cases hcl : clr lo (128 - n).toNat = lo
          · have e : chk 6 hi lo n = 0 := by unfold chk; rw [if_neg (by decide), if_pos rfl, if_neg hn, if_pos ⟨hch, hcl⟩]
            rw [e]
            rw [hch, hcl] at hc
            exact check_6eq hi lo n w h0 h1 hc
          · have e : chk 6 hi lo n = 4 := by unfold chk; rw [if_neg (by decide), if_pos rfl, if_neg hn, if_neg (fun h => hcl h.2)]
            rw [e]
            rw [hch] at hc
            exact check_6lo hi lo _ n w h0 h1 (ne_beq hcl) hc
        · have e : chk 6 hi lo n = 4 := by unfold chk; rw [if_neg (by decide), if_pos rfl, if_neg hn, if_neg (fun h => hch h.1)]
          rw [e]
          exact check_6hi hi lo _ _ n w h0 h1 (ne_beq hch) hc
    · have e : chk f hi lo n = 2 := by unfold chk; rw [if_neg h4, if_neg h6]
      rw [e]
      exact check_no f hi lo n w h4 h6
theorem chk_le (f : Int) (hi lo : Nat) (n : Int) : 0 ≤ chk f hi lo n ∧ chk f hi lo n ≤ 4 := by
  unfold chk; repeat' split
  all_goals omega
end Go.Proofs.Ytnmmbbkaamfgpaa.H
