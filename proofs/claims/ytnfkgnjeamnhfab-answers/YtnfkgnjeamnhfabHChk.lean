import Derived.Test.YtnfkgnjeamnhfabHLeaf
import Derived.Deep.QuietTactic
import Derived.BigQuiet
import Derived.Deep.RegionWith
import Derived.Lib.QuietBelow
namespace Go.Proofs.Ytnfkgnjeamnhfab.H
open Go.RowKit Go.Sort
/-- A length's error. -/
def lenE (f n : Int) : Int := if f = 4 then (if n < 0 ∨ 32 < n then 3 else 0) else if f = 6 then (if n < 0 ∨ 128 < n then 3 else 0) else 2
/-- An address's error. -/
def adrE (f : Int) (hi lo : Nat) : Int := if f = 4 then (if hi = 0 ∧ lo < 4294967296 then 0 else 4) else if f = 6 then 0 else 2
set_option maxHeartbeats 400000 in
theorem checkLen_at (f n z : Int) (w : World) (hz : 0 < z) (hW : ∀ w, Calls Try.prog 38 #[.int .i64 f] w fun e w' => e = .returned (.int .i64 z) ∧ w' = w) :
    Calls Try.prog 73 #[.int .i64 f, .int .i64 n] w fun e w' => e = .returned (.int .i64 (if n < 0 ∨ z < n then 3 else 0)) ∧ w' = w := by
  have HW : Hid _ := hW
  clear hW
  have q0 : (z == 0) = false := by rw [Bool.eq_false_iff]; intro e; simp at e; omega
  by_cases h : n < 0
  · rw [if_pos (.inl h)]
    go_enter Try.func73, Try.ntmps73
    go_wp2_with (first | (go_at_call 38; refine (HW.out _).mono ?_; rintro e w' ⟨rfl, rfl⟩))
    go_ret
    exact ⟨rfl, rfl⟩
  · by_cases h2 : z < n
    · rw [if_pos (.inr h2)]
      go_enter Try.func73, Try.ntmps73
      go_wp2_with (first | (go_at_call 38; refine (HW.out _).mono ?_; rintro e w' ⟨rfl, rfl⟩))
      go_ret
      exact ⟨rfl, rfl⟩
    · rw [if_neg (by omega)]
      go_enter Try.func73, Try.ntmps73
      go_wp2_with (first | (go_at_call 38; refine (HW.out _).mono ?_; rintro e w' ⟨rfl, rfl⟩))
      go_ret
      exact ⟨rfl, rfl⟩
set_option maxHeartbeats 400000 in
theorem checkLen_no (f n : Int) (w : World) (h4 : ¬ f = 4) (h6 : ¬ f = 6) :
    Calls Try.prog 73 #[.int .i64 f, .int .i64 n] w fun e w' => e = .returned (.int .i64 2) ∧ w' = w := by
  go_enter Try.func73, Try.ntmps73
  go_wp2_with (first | (go_at_call 38; refine (width_no _ _ h4 h6).mono ?_; rintro e w' ⟨rfl, rfl⟩))
  go_ret
  exact ⟨rfl, rfl⟩
theorem checkLen_any (f n : Int) (w : World) :
    Calls Try.prog 73 #[.int .i64 f, .int .i64 n] w fun e w' => e = .returned (.int .i64 (lenE f n)) ∧ w' = w := by
  unfold lenE
  by_cases h4 : f = 4
  · subst h4
    rw [if_pos rfl]
    exact checkLen_at 4 n 32 w (by decide) width_4
  · rw [if_neg h4]
    by_cases h6 : f = 6
    · subst h6
      rw [if_pos rfl]
      exact checkLen_at 6 n 128 w (by decide) width_6
    · rw [if_neg h6]
      exact checkLen_no f n w h4 h6
set_option maxHeartbeats 400000 in
theorem checkAdr_at (f : Int) (hi lo : Nat) (z : Int) (t : Bool) (w : World) (hz : 0 < z) (hW : ∀ w, Calls Try.prog 38 #[.int .i64 f] w fun e w' => e = .returned (.int .i64 z) ∧ w' = w)
    (hf : ∀ w, Calls Try.prog 60 #[addr f hi lo] w fun e w' => e = .returned (.bool t) ∧ Below w.heap.size w w') :
    Calls Try.prog 35 #[addr f hi lo] w fun e w' => e = .returned (.int .i64 (if t then 0 else 4)) ∧ Below w.heap.size w w' := by
  have HW : Hid _ := hW
  have HF : Hid _ := hf
  clear hW hf
  have q0 : (z == 0) = false := by rw [Bool.eq_false_iff]; intro e; simp at e; omega
  cases t with
  | true =>
    go_enter Try.func35, Try.ntmps35
    go_wp2_with (first | (go_at_call 38; refine (HW.out _).mono ?_; rintro e w' ⟨rfl, rfl⟩) | (go_at_call 60; refine (HF.out _).mono ?_; rintro e w2 ⟨rfl, hb⟩))
    go_ret
    exact ⟨rfl, ((Below.refl _ _).alloc (Nat.le_refl _) _).trans (hb.mono (by simp))⟩
  | false =>
    go_enter Try.func35, Try.ntmps35
    go_wp2_with (first | (go_at_call 38; refine (HW.out _).mono ?_; rintro e w' ⟨rfl, rfl⟩) | (go_at_call 60; refine (HF.out _).mono ?_; rintro e w2 ⟨rfl, hb⟩))
    go_ret
    exact ⟨rfl, ((Below.refl _ _).alloc (Nat.le_refl _) _).trans (hb.mono (by simp))⟩
set_option maxHeartbeats 400000 in
theorem checkAdr_no (f : Int) (hi lo : Nat) (w : World) (h4 : ¬ f = 4) (h6 : ¬ f = 6) :
    Calls Try.prog 35 #[addr f hi lo] w fun e w' => e = .returned (.int .i64 2) ∧ Below w.heap.size w w' := by
  go_enter Try.func35, Try.ntmps35
  go_wp2_with (first | (go_at_call 38; refine (width_no _ _ h4 h6).mono ?_; rintro e w' ⟨rfl, rfl⟩))
  go_ret
  exact ⟨rfl, (Below.refl _ _).alloc (Nat.le_refl _) _⟩
theorem checkAdr_any (f : Int) (hi lo : Nat) (w : World) :
    Calls Try.prog 35 #[addr f hi lo] w fun e w' => e = .returned (.int .i64 (adrE f hi lo)) ∧ Below w.heap.size w w' := by
  unfold adrE
  by_cases h4 : f = 4
  · subst h4
    rw [if_pos rfl]
    by_cases h0 : hi = 0
    · subst h0
      by_cases hl : lo < 4294967296
      · rw [if_pos ⟨rfl, hl⟩]
        have := checkAdr_at 4 0 lo 32 _ w (by decide) width_4 (fits_40 lo)
        rw [decide_eq_true hl] at this; exact this
      · rw [if_neg (fun h => hl h.2)]
        have := checkAdr_at 4 0 lo 32 _ w (by decide) width_4 (fits_40 lo)
        rw [decide_eq_false hl] at this; exact this
    · rw [if_neg (fun h => h0 h.1)]
      exact checkAdr_at 4 hi lo 32 false w (by decide) width_4 (fun w => fits_41 hi lo w (by omega))
  · rw [if_neg h4]
    by_cases h6 : f = 6
    · subst h6
      rw [if_pos rfl]
      exact checkAdr_at 6 hi lo 128 true w (by decide) width_6 (fits_6 hi lo)
    · rw [if_neg h6]
      exact checkAdr_no f hi lo w h4 h6
/-- What is compared. -/
theorem neq_adr (f : Int) (a b hi lo : Nat) (w : World) : Sem.run Try.prog (binOp BinOp.neq 25 (.agg #[.int .i64 f, .int .u64 a, .int .u64 b]) (.agg #[.int .i64 f, .int .u64 hi, .int .u64 lo])) w = .ok (.bool (!(a == hi && b == lo))) w := by
  simp [go_sem]
  by_cases h1 : a = hi <;> by_cases h2 : b = lo <;> simp [h1, h2, show ((a : Int) = (hi : Int)) = (a = hi) from propext ⟨by omega, by omega⟩, show ((b : Int) = (lo : Int)) = (b = lo) from propext ⟨by omega, by omega⟩]
set_option maxHeartbeats 400000 in
theorem check_len (f : Int) (hi lo : Nat) (n x : Int) (w : World) (hx : (x == 0) = false) (hlen : ∀ w, Calls Try.prog 73 #[.int .i64 f, .int .i64 n] w fun e w' => e = .returned (.int .i64 x) ∧ w' = w) :
    Calls Try.prog 46 #[pref f hi lo n] w fun e w' => e = .returned (.int .i64 x) ∧ Below w.heap.size w w' := by
  have HC : Hid _ := hlen
  clear hlen
  go_enter Try.func46, Try.ntmps46
  go_wp2_with (first | (go_at_call 73; refine (HC.out _).mono ?_; rintro e w' ⟨rfl, rfl⟩))
  go_ret
  exact ⟨rfl, (Below.refl _ _).alloc (Nat.le_refl _) _⟩
set_option maxHeartbeats 1000000 in
theorem check_go (f : Int) (hi lo a b : Nat) (n y : Int) (w : World) (hlen : ∀ w, Calls Try.prog 73 #[.int .i64 f, .int .i64 n] w fun e w' => e = .returned (.int .i64 0) ∧ w' = w)
    (hcut : ∀ w, Calls Try.prog 64 #[addr f hi lo, .int .i64 n] w fun e w' => e = .returned (addr f a b) ∧ Below w.heap.size w w')
    (hadr : ∀ w, Calls Try.prog 35 #[addr f hi lo] w fun e w' => e = .returned (.int .i64 y) ∧ Below w.heap.size w w') :
    Calls Try.prog 46 #[pref f hi lo n] w fun e w' => e = .returned (.int .i64 (if a = hi ∧ b = lo then y else 4)) ∧ Below w.heap.size w w' := by
  obtain ⟨w0, hw0⟩ : ∃ w0, w0 = w.alloc (.cells #[.int .i64 f, .int .u64 hi, .int .u64 lo, .int .i64 n] 43) := ⟨_, rfl⟩
  have HB0 : Hid (Below w.heap.size w w0) := by rw [hw0]; exact (Below.refl _ _).alloc (Nat.le_refl _) _
  obtain ⟨bx, hbx⟩ : ∃ bx, bx = w.heap.size := ⟨_, rfl⟩
  have hz0 : bx < w0.heap.size := by rw [hw0, hbx]; simp
  have k0 : w0.cell? ⟨bx, 0, none⟩ = some (.int .i64 f) := by rw [hw0, hbx]; simp
  have k1 : w0.cell? ⟨bx, 1, none⟩ = some (.int .u64 hi) := by rw [hw0, hbx]; simp
  have k2 : w0.cell? ⟨bx, 2, none⟩ = some (.int .u64 lo) := by rw [hw0, hbx]; simp
  have k3 : w0.cell? ⟨bx, 3, none⟩ = some (.int .i64 n) := by rw [hw0, hbx]; simp
  have Hw0 : Hid _ := hw0
  have Hbx : Hid _ := hbx
  have HL : Hid _ := hlen
  have HC : Hid _ := hcut
  have HA : Hid _ := hadr
  clear hlen hcut hadr hw0 hbx
  have hE := neq_adr f a b hi lo
  obtain ⟨t, ht⟩ : ∃ t, t = !(a == hi && b == lo) := ⟨_, rfl⟩
  simp only [← ht] at hE
  have Ht : Hid _ := ht
  obtain ⟨z, hz⟩ : ∃ z : Int, z = (if a = hi ∧ b = lo then y else 4) := ⟨_, rfl⟩
  rw [← hz]
  have Hz : Hid _ := hz
  clear ht hz
  go_enter Try.func46, Try.ntmps46
  go_wp2_with (first | (go_at_call 73; refine (HL.out _).mono ?_; rintro e w' ⟨rfl, rfl⟩))
  rw [← Hw0.out, ← Hbx.out]
  have e0 := cell_regrown k0
  have e1 := cell_regrown k1
  have e2 := cell_regrown k2
  have e3 := cell_regrown k3
  have cA : ∀ d os, Calls Try.prog 64 #[addr f hi lo, .int .i64 n] (grow (redrawn w0 d) os) fun e w'' => e = .returned (addr f a b) ∧ ∃ q : Regrown, w'' = grow (redrawn w0 q.d) q.os := fun d os => Calls.regrown_of (HC.out _)
  refine wp_region_quiet_below (by kernel_rfl) (by kernel_rfl) ?_
  repeat (go_big_quiet_step (first | exact cA _ _))
  refine wpQuiet_nil ?_
  intro _ hw'
  obtain ⟨⟨dq, osq⟩, hw''⟩ := hw'
  subst hw''
  have HB3 : Hid (Below w0.heap.size w0 (grow (redrawn w0 dq) osq)) := below_regrown w0 dq osq
  have m0 := e0 dq osq
  have m1 := e1 dq osq
  have m2 := e2 dq osq
  generalize grow (redrawn w0 dq) osq = w3 at HB3 m0 m1 m2 ⊢
  clear e0 e1 e2 e3 cA hE
  cases htt : t with
  | false =>
    go_wp2_with (first | (go_at_call 35; refine (HA.out _).mono ?_; rintro e w4 ⟨rfl, hb4⟩))
    go_ret
    have h := Ht.out
    rw [htt] at h
    have h2 := Hz.out
    rw [if_pos (by simpa using h)] at h2
    rw [h2]
    exact ⟨rfl, HB0.out.trans ((HB3.out.trans (hb4.mono HB3.out.size)).mono HB0.out.size)⟩
  | true =>
    go_wp2
    go_ret
    have h := Ht.out
    rw [htt] at h
    have h2 := Hz.out
    rw [if_neg (fun ⟨h1, h2⟩ => by rw [h1, h2] at h; simp at h)] at h2
    rw [h2]
    exact ⟨rfl, HB0.out.trans (HB3.out.mono HB0.out.size)⟩
theorem ne_beq {a b : Nat} (h : ¬ a = b) : ((a : Int) == (b : Int)) = false := by
  rw [Bool.eq_false_iff]; intro e; simp at e; exact h (by omega)
theorem toNat_small {k : Int} (h : k ≤ 0) : k.toNat = 0 := by omega
theorem clr_0 (x : Nat) : clr x 0 = x := by simp [clr]

/-- Check, whole. -/
theorem check_any (f : Int) (hi lo : Nat) (n : Int) (w : World) (hh : hi ≤ 18446744073709551615) (hl : lo ≤ 18446744073709551615) :
    Calls Try.prog 46 #[pref f hi lo n] w fun e w' => e = .returned (.int .i64 (chk f hi lo n)) ∧ Below w.heap.size w w' := by
  have hL := fun w => checkLen_any f n w
  have hA := fun w => checkAdr_any f hi lo w
  unfold lenE at hL
  unfold adrE at hA
  unfold chk
  by_cases h4 : f = 4
  · subst h4
    rw [if_pos rfl]
    simp only [if_pos] at hL hA
    by_cases hn : n < 0 ∨ 32 < n
    · rw [if_pos hn]
      simp only [if_pos hn] at hL
      exact check_len 4 hi lo n 3 w rfl hL
    · rw [if_neg hn]
      simp only [if_neg hn] at hL
      have := check_go 4 hi lo hi (clr lo (32 - n).toNat) n _ w hL (fun w => cut_4 hi lo n w hh hl (by omega) (by omega)) hA
      have e : (if hi = hi ∧ clr lo (32 - n).toNat = lo then (if hi = 0 ∧ lo < 4294967296 then (0 : Int) else 4) else 4) = if hi = 0 ∧ lo < 4294967296 ∧ clr lo (32 - n).toNat = lo then 0 else 4 := by
        by_cases h1 : clr lo (32 - n).toNat = lo <;> by_cases h2 : hi = 0 <;> by_cases h3 : lo < 4294967296 <;> simp [h1, h2, h3]
      rw [e] at this; exact this
  · rw [if_neg h4]
    simp only [if_neg h4] at hL hA
    by_cases h6 : f = 6
    · subst h6
      rw [if_pos rfl]
      simp only [if_pos] at hL hA
      by_cases hn : n < 0 ∨ 128 < n
      · rw [if_pos hn]
        simp only [if_pos hn] at hL
        exact check_len 6 hi lo n 3 w rfl hL
      · rw [if_neg hn]
        simp only [if_neg hn] at hL
        have := check_go 6 hi lo _ (clr lo (128 - n).toNat) n _ w hL (fun w => cut_6 hi lo n w hh hl (by omega) (by omega)) hA
        exact this
    · rw [if_neg h6]
      simp only [if_neg h6] at hL
      exact check_len f hi lo n 2 w rfl hL
theorem chk_le (f : Int) (hi lo : Nat) (n : Int) : 0 ≤ chk f hi lo n ∧ chk f hi lo n ≤ 4 := by
  unfold chk; repeat' split
  all_goals omega
end Go.Proofs.Ytnfkgnjeamnhfab.H
