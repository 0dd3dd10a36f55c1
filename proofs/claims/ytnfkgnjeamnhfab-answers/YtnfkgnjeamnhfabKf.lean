import Derived.Test.YtnfkgnjeamnhfabKe
namespace Go.Proofs.Ytnfkgnjeamnhfab.H
open Go.RowKit

set_option maxHeartbeats 400000 in
theorem good_6 (hi lo : Nat) (w : World) : Calls Try.prog 11 #[addr 6 hi lo] w fun e w' => e = .returned (.bool true) ∧ Below w.heap.size w w' := by
  go_enter Try.func11, Try.ntmps11
  go_wp2
  go_ret
  exact ⟨rfl, (Below.refl _ _).alloc (Nat.le_refl _) _⟩
set_option maxHeartbeats 400000 in
theorem good_no (f : Int) (hi lo : Nat) (w : World) (h4 : (f == 4) = false) (h6 : (f == 6) = false) : Calls Try.prog 11 #[addr f hi lo] w fun e w' => e = .returned (.bool false) ∧ Below w.heap.size w w' := by
  go_enter Try.func11, Try.ntmps11
  go_wp2
  go_ret
  exact ⟨rfl, (Below.refl _ _).alloc (Nat.le_refl _) _⟩
set_option maxHeartbeats 400000 in
theorem good_4y (lo : Nat) (w : World) (h : lo < 4294967296) : Calls Try.prog 11 #[addr 4 0 lo] w fun e w' => e = .returned (.bool true) ∧ Below w.heap.size w w' := by
  have h' : (lo : Int) < 4294967296 := by omega
  go_enter Try.func11, Try.ntmps11
  go_wp2
  go_ret
  exact ⟨ret_bool (by simp), (Below.refl _ _).alloc (Nat.le_refl _) _⟩
set_option maxHeartbeats 400000 in
theorem good_4n (lo : Nat) (w : World) (h : ¬ lo < 4294967296) : Calls Try.prog 11 #[addr 4 0 lo] w fun e w' => e = .returned (.bool false) ∧ Below w.heap.size w w' := by
  have h' : ¬ (lo : Int) < 4294967296 := by omega
  go_enter Try.func11, Try.ntmps11
  go_wp2
  go_ret
  exact ⟨ret_bool (by simp), (Below.refl _ _).alloc (Nat.le_refl _) _⟩
set_option maxHeartbeats 400000 in
theorem good_4h (hi lo : Nat) (w : World) (h : ((hi : Int) == 0) = false) : Calls Try.prog 11 #[addr 4 hi lo] w fun e w' => e = .returned (.bool false) ∧ Below w.heap.size w w' := by
  go_enter Try.func11, Try.ntmps11
  go_wp2
  go_ret
  exact ⟨rfl, (Below.refl _ _).alloc (Nat.le_refl _) _⟩

set_option maxHeartbeats 400000 in
theorem mask_zero (v : Nat) (fr n : Int) (w : World) (hf : -1000 ≤ fr) (hf' : fr ≤ 1000) (hn : -1000 ≤ n) (hn' : n ≤ 1000) (h : n - fr ≤ 0) :
    Calls Try.prog 70 #[.int .u64 v, .int .i64 fr, .int .i64 n] w fun e w' => e = .returned (.int .u64 0) ∧ w' = w := by
  go_enter Try.func70, Try.ntmps70
  go_wp2
  go_ret
  exact ⟨rfl, rfl⟩
set_option maxHeartbeats 400000 in
theorem mask_whole (v : Nat) (fr n : Int) (w : World) (hf : -1000 ≤ fr) (hf' : fr ≤ 1000) (hn : -1000 ≤ n) (hn' : n ≤ 1000) (h : 64 ≤ n - fr) :
    Calls Try.prog 70 #[.int .u64 v, .int .i64 fr, .int .i64 n] w fun e w' => e = .returned (.int .u64 v) ∧ w' = w := by
  go_enter Try.func70, Try.ntmps70
  go_wp2
  go_ret
  exact ⟨rfl, rfl⟩
set_option maxHeartbeats 400000 in
theorem mask_part (v : Nat) (fr n : Int) (m : Nat) (w : World) (hv : v ≤ 18446744073709551615) (_hf : -1000 ≤ fr) (_hf' : fr ≤ 1000) (_hn : -1000 ≤ n) (_hn' : n ≤ 1000) (h : 64 - (n - fr) = (m : Int)) (h1 : 1 ≤ m) (h2 : m ≤ 63) :
    Calls Try.prog 70 #[.int .u64 v, .int .i64 fr, .int .i64 n] w fun e w' => e = .returned (.int .u64 (clr v m : Int)) ∧ w' = w := by
  have e0 := clr_min v m hv
  rw [Nat.min_eq_left (by omega : m ≤ 64)] at e0
  have E : Hid (IntKind.u64.wrap ((v : Int) / 2 ^ m * 2 ^ m) = (clr v m : Int)) := e0
  clear e0
  have h3 : 0 < n - fr := by omega
  have h4 : n - fr < 64 := by omega
  go_enter Try.func70, Try.ntmps70
  go_wp2
  go_ret
  exact ⟨ret_int E.out, rfl⟩
/-- mask, whole. -/
theorem mask_any (v : Nat) (fr n : Int) (w : World) (hv : v ≤ 18446744073709551615) (hf : -1000 ≤ fr) (hf' : fr ≤ 1000) (hn : -1000 ≤ n) (hn' : n ≤ 1000) :
    Calls Try.prog 70 #[.int .u64 v, .int .i64 fr, .int .i64 n] w fun e w' => e = .returned (.int .u64 (clr v (64 - (n - fr)).toNat : Int)) ∧ w' = w := by
  by_cases h1 : n - fr ≤ 0
  · rw [clr_64 hv (by omega)]
    exact mask_zero v fr n w hf hf' hn hn' h1
  · by_cases h2 : 64 ≤ n - fr
    · have e : (64 - (n - fr)).toNat = 0 := by omega
      rw [e]
      simpa [clr] using mask_whole v fr n w hf hf' hn hn' h2
    · exact mask_part v fr n (64 - (n - fr)).toNat w hv hf hf' hn hn' (by omega) (by omega) (by omega)
set_option maxHeartbeats 400000 in
theorem kcut_4 (hi lo : Nat) (n : Int) (w : World) (hl : lo ≤ 18446744073709551615) (h0 : 0 ≤ n) (h1 : n ≤ 32) :
    Calls Try.prog 39 #[addr 4 hi lo, .int .i64 n] w fun e w' => e = .returned (addr 4 hi (clr lo (32 - n).toNat)) ∧ Below w.heap.size w w' := by
  have HM : Hid (∀ w, Calls Try.prog 70 #[.int .u64 lo, .int .i64 (-32), .int .i64 n] w fun e w' => e = .returned (.int .u64 (clr lo (32 - n).toNat : Int)) ∧ w' = w) := by
    intro w
    have := mask_any lo (-32) n w hl (by omega) (by omega) (by omega) (by omega)
    rwa [show (64 - (n - -32)) = 32 - n by omega] at this
  go_enter Try.func39, Try.ntmps39
  go_wp2_with (first | (go_at_call 70; refine (HM.out _).mono ?_; rintro e w' ⟨rfl, rfl⟩))
  exact bodyPost_ret (v := .agg #[.int .i64 4, .int .u64 hi, .int .u64 (clr lo (32 - n).toNat : Int)]) (by simp [results, Try.results39, go_sem]) rfl ⟨rfl, ((Below.refl _ _).alloc (Nat.le_refl _) _).alloc (by simp) _⟩
set_option maxHeartbeats 400000 in
theorem kcut_6 (hi lo : Nat) (n : Int) (w : World) (hh : hi ≤ 18446744073709551615) (hl : lo ≤ 18446744073709551615) (h0 : 0 ≤ n) (h1 : n ≤ 128) :
    Calls Try.prog 39 #[addr 6 hi lo, .int .i64 n] w fun e w' => e = .returned (addr 6 (clr hi (128 - n - 64).toNat) (clr lo (128 - n).toNat)) ∧ Below w.heap.size w w' := by
  have HM : Hid (∀ w, Calls Try.prog 70 #[.int .u64 hi, .int .i64 0, .int .i64 n] w fun e w' => e = .returned (.int .u64 (clr hi (128 - n - 64).toNat : Int)) ∧ w' = w) := by
    intro w
    have := mask_any hi 0 n w hh (by omega) (by omega) (by omega) (by omega)
    rwa [show (64 - (n - 0)) = 128 - n - 64 by omega] at this
  have HN : Hid (∀ w, Calls Try.prog 70 #[.int .u64 lo, .int .i64 64, .int .i64 n] w fun e w' => e = .returned (.int .u64 (clr lo (128 - n).toNat : Int)) ∧ w' = w) := by
    intro w
    have := mask_any lo 64 n w hl (by omega) (by omega) (by omega) (by omega)
    rwa [show (64 - (n - 64)) = 128 - n by omega] at this
  go_enter Try.func39, Try.ntmps39
  go_wp2_with fail
  refine (HM.out _).mono ?_
  rintro e w' ⟨rfl, rfl⟩
  go_wp2_with fail
  refine (HN.out _).mono ?_
  rintro e w' ⟨rfl, rfl⟩
  go_wp2
  exact bodyPost_ret (v := .agg #[.int .i64 6, .int .u64 (clr hi (128 - n - 64).toNat : Int), .int .u64 (clr lo (128 - n).toNat : Int)]) (by simp [results, Try.results39, go_sem]) rfl ⟨rfl, ((Below.refl _ _).alloc (Nat.le_refl _) _).alloc (by simp) _⟩
end Go.Proofs.Ytnfkgnjeamnhfab.H
