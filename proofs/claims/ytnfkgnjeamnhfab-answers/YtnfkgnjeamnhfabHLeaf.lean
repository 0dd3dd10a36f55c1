import Derived.Test.YtnfkgnjeamnhfabProg
import Derived.WalkKit
import Derived.WalkSpells
import Derived.WalkLawsBesides
namespace Go.Proofs.Ytnfkgnjeamnhfab.H
open Go.RowKit

theorem ret_int {k : IntKind} {a b : Int} (h : a = b) : Ending.returned (.int k a) = .returned (.int k b) := by rw [h]

theorem wrap_u64_of {x : Int} (h0 : 0 ≤ x) (h1 : x ≤ 18446744073709551615) : IntKind.u64.wrap x = x := by
  simp [IntKind.wrap, IntKind.bits, IntKind.signed]; omega

theorem clr_le (x n : Nat) : x / 2 ^ n * 2 ^ n ≤ x := Nat.div_mul_le_self _ _
theorem clr_min (x n : Nat) (hx : x ≤ 18446744073709551615) : IntKind.u64.wrap ((x : Int) / 2 ^ min n 64 * 2 ^ min n 64) = ((x / 2 ^ n * 2 ^ n : Nat) : Int) := by
  have e : ((x : Int) / 2 ^ min n 64 * 2 ^ min n 64) = ((x / 2 ^ min n 64 * 2 ^ min n 64 : Nat) : Int) := by
    simp
  rw [e]
  have := clr_le x (min n 64)
  rw [wrap_u64_of (by omega) (by omega)]
  by_cases h : n ≤ 64
  · rw [Nat.min_eq_left h]
  · rw [Nat.min_eq_right (by omega), Nat.div_eq_of_lt (by omega), Nat.div_eq_of_lt]
    · simp
    · have : 2 ^ 64 ≤ 2 ^ n := Nat.pow_le_pow_right (by decide) (by omega)
      omega

set_option maxHeartbeats 400000 in
theorem clear_any (x : Nat) (n : Nat) (w : World) (hx : x ≤ 18446744073709551615) (h0 : 1 ≤ n) (h1 : n ≤ 1000) :
    Calls Try.prog 87 #[.int .u64 x, .int .i64 n] w fun e w' => e = .returned (.int .u64 ((x / 2 ^ n * 2 ^ n : Nat) : Int)) ∧ w' = w := by
  have e := clr_min x n hx
  generalize (x / 2 ^ n * 2 ^ n) = y at *
  have E : Hid _ := e
  clear e
  go_enter Try.func87, Try.ntmps87
  go_wp2
  go_ret
  exact ⟨ret_int E.out, rfl⟩
set_option maxHeartbeats 400000 in
theorem clear_zero (x : Nat) (n : Int) (w : World) (h0 : n < 1) :
    Calls Try.prog 87 #[.int .u64 x, .int .i64 n] w fun e w' => e = .returned (.int .u64 x) ∧ w' = w := by
  go_enter Try.func87, Try.ntmps87
  go_wp2
  go_ret
  exact ⟨rfl, rfl⟩


theorem or_low (a b c : Nat) (k : Nat) (hk : c = 2 ^ k) (hb : b < c) : a * c ||| b = a * c + b := by
  subst hk
  rw [Nat.mul_comm]
  exact (Nat.two_pow_add_eq_or_of_lt hb a).symm
theorem or_u64 {x y : Int} {a b r : Nat} (hx : x = (a : Int)) (hy : y = (b : Int)) (ha : a < 18446744073709551616) (hb : b < 18446744073709551616) (h : a ||| b = r) : bits .or .u64 x y = (r : Int) := by
  subst hx hy
  rw [bits_or_u64_nat a b ha hb, h]
theorem wrap_mul16 (x : Nat) : IntKind.u64.wrap ((x : Int) * 65536) = ((x % 281474976710656 * 65536 : Nat) : Int) := by
  simp [IntKind.wrap, IntKind.bits, IntKind.signed]; omega
theorem wrap_mul48 (x : Nat) : IntKind.u64.wrap ((x : Int) * 281474976710656) = ((x % 65536 * 281474976710656 : Nat) : Int) := by
  simp [IntKind.wrap, IntKind.bits, IntKind.signed]; omega
theorem wrap_mul8 (x : Nat) : IntKind.u64.wrap ((x : Int) * 256) = ((x % 72057594037927936 * 256 : Nat) : Int) := by
  simp [IntKind.wrap, IntKind.bits, IntKind.signed]; omega
theorem wrap_mul56 (x : Nat) : IntKind.u64.wrap ((x : Int) * 72057594037927936) = ((x % 256 * 72057594037927936 : Nat) : Int) := by
  simp [IntKind.wrap, IntKind.bits, IntKind.signed]; omega

abbrev addr (f : Int) (hi lo : Nat) : Value := .agg #[.int .i64 f, .int .u64 hi, .int .u64 lo]
abbrev pref (f : Int) (hi lo : Nat) (n : Int) : Value := .agg #[.int .i64 f, .int .u64 hi, .int .u64 lo, .int .i64 n]

theorem ret_addr {f x y x' y' : Int} (hx : x = x') (hy : y = y') : Ending.returned (.agg #[.int .i64 f, .int .u64 x, .int .u64 y]) = .returned (.agg #[.int .i64 f, .int .u64 x', .int .u64 y']) := by rw [hx, hy]

theorem width_4 (w : World) : Calls Try.prog 38 #[.int .i64 4] w fun e w' => e = .returned (.int .i64 32) ∧ w' = w := by
  go_enter Try.func38, Try.ntmps38
  go_wp2
  go_ret
  exact ⟨rfl, rfl⟩
theorem width_6 (w : World) : Calls Try.prog 38 #[.int .i64 6] w fun e w' => e = .returned (.int .i64 128) ∧ w' = w := by
  go_enter Try.func38, Try.ntmps38
  go_wp2
  go_ret
  exact ⟨rfl, rfl⟩
theorem width_no (f : Int) (w : World) (h4 : ¬ f = 4) (h6 : ¬ f = 6) : Calls Try.prog 38 #[.int .i64 f] w fun e w' => e = .returned (.int .i64 0) ∧ w' = w := by
  go_enter Try.func38, Try.ntmps38
  go_wp2
  go_ret
  exact ⟨rfl, rfl⟩
/-- A number without its n lowest bits. -/
def clr (x n : Nat) : Nat := x / 2 ^ n * 2 ^ n
/-- clearLowest at whatever count within reach. -/
theorem clear_all (x : Nat) (n : Int) (w : World) (hx : x ≤ 18446744073709551615) (h0 : -1000 ≤ n) (h1 : n ≤ 1000) :
    Calls Try.prog 87 #[.int .u64 x, .int .i64 n] w fun e w' => e = .returned (.int .u64 (clr x n.toNat : Int)) ∧ w' = w := by
  by_cases h : n < 1
  · have e : n.toNat = 0 := by omega
    rw [e]
    simpa [clr] using clear_zero x n w h
  · obtain ⟨m, rfl⟩ : ∃ m : Nat, n = (m : Int) := ⟨n.toNat, by omega⟩
    exact clear_any x m w hx (by omega) (by omega)
set_option maxHeartbeats 400000 in
theorem cut_4 (hi lo : Nat) (n : Int) (w : World) (hh : hi ≤ 18446744073709551615) (hl : lo ≤ 18446744073709551615) (h0 : 0 ≤ n) (h1 : n ≤ 32)  :
    Calls Try.prog 64 #[addr 4 hi lo, .int .i64 n] w fun e w' => e = .returned (addr 4 hi (clr lo (32 - n).toNat)) ∧ Below w.heap.size w w' := by
  have e0 : (32 - n - 64).toNat = 0 := by omega
  have E : Hid ((clr hi (32 - n - 64).toNat : Int) = hi) := by rw [e0]; simp [clr, Hid]
  clear e0
  go_enter Try.func64, Try.ntmps64
  go_wp2_with (first | (go_at_call 38; refine (width_4 _).mono ?_; rintro e w' ⟨rfl, rfl⟩) | (go_at_call 87; refine (clear_all _ _ _ (by assumption) (by omega) (by omega)).mono ?_; rintro e w' ⟨rfl, rfl⟩))
  exact bodyPost_ret (by simp [results, Try.results64, go_sem]) rfl ⟨ret_addr E.out rfl, ((Below.refl _ _).alloc (Nat.le_refl _) _).alloc (by simp) _⟩
set_option maxHeartbeats 400000 in
theorem cut_6 (hi lo : Nat) (n : Int) (w : World) (hh : hi ≤ 18446744073709551615) (hl : lo ≤ 18446744073709551615) (h0 : 0 ≤ n) (h1 : n ≤ 128)  :
    Calls Try.prog 64 #[addr 6 hi lo, .int .i64 n] w fun e w' => e = .returned (addr 6 (clr hi (128 - n - 64).toNat) (clr lo (128 - n).toNat)) ∧ Below w.heap.size w w' := by
  go_enter Try.func64, Try.ntmps64
  go_wp2_with (first | (go_at_call 38; refine (width_6 _).mono ?_; rintro e w' ⟨rfl, rfl⟩) | (go_at_call 87; refine (clear_all _ _ _ (by assumption) (by omega) (by omega)).mono ?_; rintro e w' ⟨rfl, rfl⟩))
  exact bodyPost_ret (by simp [results, Try.results64, go_sem]) rfl ⟨rfl, ((Below.refl _ _).alloc (Nat.le_refl _) _).alloc (by simp) _⟩
set_option maxHeartbeats 400000 in
theorem fits_6 (hi lo : Nat) (w : World) :
    Calls Try.prog 60 #[addr 6 hi lo] w fun e w' => e = .returned (.bool true) ∧ Below w.heap.size w w' := by
  go_enter Try.func60, Try.ntmps60
  go_wp2
  go_ret
  exact ⟨rfl, (Below.refl _ _).alloc (Nat.le_refl _) _⟩
theorem ret_bool {a b : Bool} (h : a = b) : Ending.returned (.bool a) = .returned (.bool b) := by rw [h]
theorem hi32 (lo : Nat) : ((lo : Int) / 4294967296 == 0) = decide (lo < 4294967296) := by
  rw [Bool.eq_iff_iff]; simp; omega
set_option maxHeartbeats 400000 in
theorem fits_40 (lo : Nat) (w : World) :
    Calls Try.prog 60 #[addr 4 0 lo] w fun e w' => e = .returned (.bool (decide (lo < 4294967296))) ∧ Below w.heap.size w w' := by
  have E : Hid _ := hi32 lo
  generalize decide (lo < 4294967296) = b at *
  go_enter Try.func60, Try.ntmps60
  go_wp2
  go_ret
  exact ⟨ret_bool E.out, (Below.refl _ _).alloc (Nat.le_refl _) _⟩
set_option maxHeartbeats 400000 in
theorem fits_41 (hi lo : Nat) (w : World) (h : 1 ≤ hi) :
    Calls Try.prog 60 #[addr 4 hi lo] w fun e w' => e = .returned (.bool false) ∧ Below w.heap.size w w' := by
  have h' : ((hi : Int) == 0) = false := by simp; omega
  go_enter Try.func60, Try.ntmps60
  go_wp2
  go_ret
  exact ⟨rfl, (Below.refl _ _).alloc (Nat.le_refl _) _⟩

/-- Is the prefix good: the error's number. -/
def chk (f : Int) (hi lo : Nat) (n : Int) : Int :=
  if f = 4 then (if n < 0 ∨ 32 < n then 3 else if hi = 0 ∧ lo < 4294967296 ∧ clr lo (32 - n).toNat = lo then 0 else 4)
  else if f = 6 then (if n < 0 ∨ 128 < n then 3 else if clr hi (128 - n - 64).toNat = hi ∧ clr lo (128 - n).toNat = lo then 0 else 4)
  else 2
theorem bcell {W w1 : World} (hb : Below W.heap.size W w1) : (∀ b o, b < W.heap.size → w1.cell? ⟨b, o, none⟩ = W.cell? ⟨b, o, none⟩) ∧ (∀ b o, b < W.heap.size → w1.frozen? ⟨b, o, none⟩ = W.frozen? ⟨b, o, none⟩) :=
  ⟨fun b o h => hb.cell (p := ⟨b, o, none⟩) h, fun b o h => hb.frozen (p := ⟨b, o, none⟩) h⟩
end Go.Proofs.Ytnfkgnjeamnhfab.H
