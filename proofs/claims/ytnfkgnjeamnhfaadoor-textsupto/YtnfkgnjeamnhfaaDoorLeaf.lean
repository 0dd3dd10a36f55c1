import Derived.Test.YtnfkgnjeamnhfaaDoorProg
import Derived.Test.YtnfkgnjeamnhfaaDoorPure
import Derived.WalkKit
import Derived.WalkSpells
import Derived.WalkLawsBesides
namespace Go.Proofs.YtnfkgnjeamnhfaaDoor
open Go.RowKit

theorem ret_int {k : IntKind} {a b : Int} (h : a = b) : Ending.returned (.int k a) = .returned (.int k b) := by rw [h]

theorem dgt_dec {n : Nat} (h1 : 48 ≤ n) (h2 : n ≤ 57) : (dgt n : Int) = (n : Int) - 48 := by unfold dgt; rw [if_pos ⟨h1, h2⟩]; omega
theorem dgt_hex {n : Nat} (h1 : 97 ≤ n) (h2 : n ≤ 102) : (dgt n : Int) = (n : Int) - 87 := by
  unfold dgt; rw [if_neg (by omega), if_pos ⟨h1, h2⟩]; omega
theorem dgt_no {n : Nat} (h1 : ¬ (48 ≤ n ∧ n ≤ 57)) (h2 : ¬ (97 ≤ n ∧ n ≤ 102)) : (dgt n : Int) = 16 := by
  unfold dgt; rw [if_neg h1, if_neg h2]; rfl

set_option maxHeartbeats 400000 in
theorem digit_any (n : Nat) (w : World) (hn : n ≤ 255) :
    Calls Tryd.prog 43 #[.int .u8 (n : Int)] w fun e w' => e = .returned (.int .i64 (dgt n : Int)) ∧ w' = w := by
  by_cases h1 : 48 ≤ n ∧ n ≤ 57
  · have e1 := dgt_dec h1.1 h1.2
    rw [e1]
    clear e1
    obtain ⟨h1a, h1b⟩ := h1
    go_enter Tryd.func43, Tryd.ntmps43
    go_wp2
    go_ret
    exact ⟨ret_int (by omega), rfl⟩
  · by_cases h2 : 97 ≤ n ∧ n ≤ 102
    · have e1 := dgt_hex h2.1 h2.2
      obtain ⟨h2a, h2b⟩ := h2
      rw [e1]
      clear e1
      go_enter Tryd.func43, Tryd.ntmps43
      go_wp2
      all_goals go_ret
      all_goals exact ⟨ret_int (by omega), rfl⟩
    · have e1 := dgt_no h1 h2
      rw [e1]
      clear e1
      go_enter Tryd.func43, Tryd.ntmps43
      go_wp2
      all_goals go_ret
      all_goals exact ⟨ret_int (by omega), rfl⟩


theorem wrap_u64_of {x : Int} (h0 : 0 ≤ x) (h1 : x ≤ 18446744073709551615) : IntKind.u64.wrap x = x := by
  simp [IntKind.wrap, IntKind.bits, IntKind.signed]; omega

theorem clr_le (x n : Nat) : x / 2 ^ n * 2 ^ n ≤ x := Nat.div_mul_le_self _ _
theorem clr_min (x n : Nat) (hx : x ≤ 18446744073709551615) : IntKind.u64.wrap ((x : Int) / 2 ^ min n 64 * 2 ^ min n 64) = ((x / 2 ^ n * 2 ^ n : Nat) : Int) := by
  have e : ((x : Int) / 2 ^ min n 64 * 2 ^ min n 64) = ((x / 2 ^ min n 64 * 2 ^ min n 64 : Nat) : Int) := by
    simp
  rw [e]
  have := clr_le x (min n 64)
  rw [wrap_u64_of (by omega) (by omega)]
  by_cases h : n ≤ 64
  · rw [Nat.min_eq_left h]
  · rw [Nat.min_eq_right (by omega), Nat.div_eq_of_lt (by omega), Nat.div_eq_of_lt]
    · simp
    · have : 2 ^ 64 ≤ 2 ^ n := Nat.pow_le_pow_right (by decide) (by omega)
      omega

set_option maxHeartbeats 400000 in
theorem clear_any (x : Nat) (n : Nat) (w : World) (hx : x ≤ 18446744073709551615) (h0 : 1 ≤ n) (h1 : n ≤ 1000) :
    Calls Tryd.prog 44 #[.int .u64 x, .int .i64 n] w fun e w' => e = .returned (.int .u64 ((x / 2 ^ n * 2 ^ n : Nat) : Int)) ∧ w' = w := by
  have e := clr_min x n hx
  generalize (x / 2 ^ n * 2 ^ n) = y at *
  have E : Hid _ := e
  clear e
  go_enter Tryd.func44, Tryd.ntmps44
  go_wp2
  go_ret
  exact ⟨ret_int E.out, rfl⟩
set_option maxHeartbeats 400000 in
theorem clear_zero (x : Nat) (n : Int) (w : World) (h0 : n < 1) :
    Calls Tryd.prog 44 #[.int .u64 x, .int .i64 n] w fun e w' => e = .returned (.int .u64 x) ∧ w' = w := by
  go_enter Tryd.func44, Tryd.ntmps44
  go_wp2
  go_ret
  exact ⟨rfl, rfl⟩


theorem or_low (a b c : Nat) (k : Nat) (hk : c = 2 ^ k) (hb : b < c) : a * c ||| b = a * c + b := by
  subst hk
  rw [Nat.mul_comm]
  exact (Nat.two_pow_add_eq_or_of_lt hb a).symm
theorem or_u64 {x y : Int} {a b r : Nat} (hx : x = (a : Int)) (hy : y = (b : Int)) (ha : a < 18446744073709551616) (hb : b < 18446744073709551616) (h : a ||| b = r) : bits .or .u64 x y = (r : Int) := by
  subst hx hy
  rw [bits_or_u64_nat a b ha hb, h]
theorem wrap_mul16 (x : Nat) : IntKind.u64.wrap ((x : Int) * 65536) = ((x % 281474976710656 * 65536 : Nat) : Int) := by
  simp [IntKind.wrap, IntKind.bits, IntKind.signed]; omega
theorem wrap_mul48 (x : Nat) : IntKind.u64.wrap ((x : Int) * 281474976710656) = ((x % 65536 * 281474976710656 : Nat) : Int) := by
  simp [IntKind.wrap, IntKind.bits, IntKind.signed]; omega
theorem wrap_mul8 (x : Nat) : IntKind.u64.wrap ((x : Int) * 256) = ((x % 72057594037927936 * 256 : Nat) : Int) := by
  simp [IntKind.wrap, IntKind.bits, IntKind.signed]; omega
theorem wrap_mul56 (x : Nat) : IntKind.u64.wrap ((x : Int) * 72057594037927936) = ((x % 256 * 72057594037927936 : Nat) : Int) := by
  simp [IntKind.wrap, IntKind.bits, IntKind.signed]; omega

/-- The upper and the lower half behind a push of 16 bits. -/
def p16h (hi lo : Nat) : Nat := hi % 281474976710656 * 65536 + lo / 281474976710656
def p16l (lo part : Nat) : Nat := lo % 281474976710656 * 65536 + part
theorem p16h_eq (hi lo : Nat) (hl : lo ≤ 18446744073709551615) : bits .or .u64 (IntKind.u64.wrap ((hi : Int) * 65536)) ((lo : Int) / 281474976710656) = (p16h hi lo : Int) :=
  or_u64 (wrap_mul16 hi) (b := lo / 281474976710656) (by simp) (by omega) (by omega) (or_low _ _ 65536 16 (by decide) (by omega))
theorem p16l_eq (lo part : Nat) (hp : part ≤ 65535) : bits .or .u64 (IntKind.u64.wrap ((lo : Int) * 65536)) (part : Int) = (p16l lo part : Int) :=
  or_u64 (wrap_mul16 lo) rfl (by omega) (by omega) (or_low _ _ 65536 16 (by decide) (by omega))
def q16l (hi lo : Nat) : Nat := hi % 65536 * 281474976710656 + lo / 65536
theorem q16l_eq (hi lo : Nat) (hl : lo ≤ 18446744073709551615) : bits .or .u64 ((lo : Int) / 65536) (IntKind.u64.wrap ((hi : Int) * 281474976710656)) = (q16l hi lo : Int) :=
  or_u64 (a := lo / 65536) (by simp) (wrap_mul48 hi) (by omega) (by omega) (by rw [Nat.or_comm]; exact or_low _ _ 281474976710656 48 (by decide) (by omega))
theorem p8h_eq (lo : Nat) (hl : lo ≤ 16777215) : bits .or .u64 0 ((lo : Int) / 72057594037927936) = ((0 : Nat) : Int) :=
  or_u64 (a := 0) rfl (b := lo / 72057594037927936) (r := 0) (by simp) (by omega) (by omega) (by rw [Nat.div_eq_of_lt (by omega)]; rfl)
theorem p8l_eq (lo part : Nat) (hl : lo ≤ 16777215) (hp : part ≤ 255) : bits .or .u64 ((lo : Int) * 256) (part : Int) = ((lo * 256 + part : Nat) : Int) :=
  or_u64 (a := lo * 256) (by simp) rfl (by omega) (by omega) (or_low _ _ 256 8 (by decide) (by omega))
theorem q8l_eq (lo : Nat) (hl : lo ≤ 4294967295) : bits .or .u64 ((lo : Int) / 256) 0 = ((lo / 256 : Nat) : Int) :=
  or_u64 (a := lo / 256) (b := 0) (by simp) rfl (by omega) (by omega) (by simp)

abbrev addr (f : Int) (hi lo : Nat) : Value := .agg #[.int .i64 f, .int .u64 hi, .int .u64 lo]
abbrev pref (f : Int) (hi lo : Nat) (n : Int) : Value := .agg #[.int .i64 f, .int .u64 hi, .int .u64 lo, .int .i64 n]

theorem ret_addr {f x y x' y' : Int} (hx : x = x') (hy : y = y') : Ending.returned (.agg #[.int .i64 f, .int .u64 x, .int .u64 y]) = .returned (.agg #[.int .i64 f, .int .u64 x', .int .u64 y']) := by rw [hx, hy]

set_option maxHeartbeats 400000 in
theorem push16 (f : Int) (hi lo part : Nat) (w : World) (hl : lo ≤ 18446744073709551615) (hp : part ≤ 65535) :
    Calls Tryd.prog 42 #[addr f hi lo, .int .i64 part, .int .u64 16] w fun e w' => e = .returned (addr f (p16h hi lo) (p16l lo part)) ∧ Below w.heap.size w w' := by
  have E1 : Hid _ := p16h_eq hi lo hl
  have E2 : Hid _ := p16l_eq lo part hp
  go_enter Tryd.func42, Tryd.ntmps42
  go_wp2
  exact bodyPost_ret (by simp [results, Tryd.results42, go_sem]) rfl ⟨ret_addr E1.out E2.out, ((Below.refl _ _).alloc (Nat.le_refl _) _).alloc (by simp) _⟩
set_option maxHeartbeats 400000 in
theorem push8 (f : Int) (lo part : Nat) (w : World) (hl : lo ≤ 16777215) (hp : part ≤ 255) :
    Calls Tryd.prog 42 #[addr f 0 lo, .int .i64 part, .int .u64 8] w fun e w' => e = .returned (addr f 0 (lo * 256 + part)) ∧ Below w.heap.size w w' := by
  have E1 : Hid _ := p8h_eq lo hl
  have E2 : Hid _ := p8l_eq lo part hl hp
  go_enter Tryd.func42, Tryd.ntmps42
  go_wp2
  exact bodyPost_ret (v := .agg #[.int .i64 f, .int .u64 (bits .or .u64 0 ((lo : Int) / 72057594037927936)), .int .u64 (bits .or .u64 ((lo : Int) * 256) (part : Int))]) (by simp [results, Tryd.results42, go_sem]) rfl ⟨ret_addr E1.out E2.out, ((Below.refl _ _).alloc (Nat.le_refl _) _).alloc (by simp) _⟩
set_option maxHeartbeats 400000 in
theorem pop16 (f : Int) (hi lo : Nat) (w : World) (hl : lo ≤ 18446744073709551615) :
    Calls Tryd.prog 40 #[addr f hi lo, .int .u64 16] w fun e w' => e = .returned (addr f (hi / 65536) (q16l hi lo)) ∧ Below w.heap.size w w' := by
  have E2 : Hid _ := q16l_eq hi lo hl
  go_enter Tryd.func40, Tryd.ntmps40
  go_wp2
  exact bodyPost_ret (v := .agg #[.int .i64 f, .int .u64 ((hi : Int) / 65536), .int .u64 (bits .or .u64 ((lo : Int) / 65536) (IntKind.u64.wrap ((hi : Int) * 281474976710656)))]) (by simp [results, Tryd.results40, go_sem]) rfl ⟨ret_addr (by simp) E2.out, ((Below.refl _ _).alloc (Nat.le_refl _) _).alloc (by simp) _⟩
set_option maxHeartbeats 400000 in
theorem pop8 (f : Int) (lo : Nat) (w : World) (hl : lo ≤ 4294967295) :
    Calls Tryd.prog 40 #[addr f 0 lo, .int .u64 8] w fun e w' => e = .returned (addr f 0 (lo / 256)) ∧ Below w.heap.size w w' := by
  have E2 : Hid _ := q8l_eq lo hl
  go_enter Tryd.func40, Tryd.ntmps40
  go_wp2
  exact bodyPost_ret (v := .agg #[.int .i64 f, .int .u64 0, .int .u64 (bits .or .u64 ((lo : Int) / 256) 0)]) (by simp [results, Tryd.results40, go_sem]) rfl ⟨ret_addr rfl E2.out, ((Below.refl _ _).alloc (Nat.le_refl _) _).alloc (by simp) _⟩
theorem width_4 (w : World) : Calls Tryd.prog 34 #[.int .i64 4] w fun e w' => e = .returned (.int .i64 32) ∧ w' = w := by
  go_enter Tryd.func34, Tryd.ntmps34
  go_wp2
  go_ret
  exact ⟨rfl, rfl⟩
theorem width_6 (w : World) : Calls Tryd.prog 34 #[.int .i64 6] w fun e w' => e = .returned (.int .i64 128) ∧ w' = w := by
  go_enter Tryd.func34, Tryd.ntmps34
  go_wp2
  go_ret
  exact ⟨rfl, rfl⟩
theorem width_no (f : Int) (w : World) (h4 : ¬ f = 4) (h6 : ¬ f = 6) : Calls Tryd.prog 34 #[.int .i64 f] w fun e w' => e = .returned (.int .i64 0) ∧ w' = w := by
  go_enter Tryd.func34, Tryd.ntmps34
  go_wp2
  go_ret
  exact ⟨rfl, rfl⟩
theorem style4_any (w : World) : Calls Tryd.prog 23 #[] w fun e w' => e = .returned (.agg #[.int .i64 4, .int .i64 4, .int .u64 8, .int .i64 255, .int .i64 10, .string { data := #[46] }]) ∧ Below w.heap.size w w' := by
  go_enter Tryd.func23, Tryd.ntmps23
  go_wp2
  exact bodyPost_ret (by simp [results, Tryd.results23, go_sem]) rfl ⟨rfl, (Below.refl _ _).alloc (Nat.le_refl _) _⟩
theorem style6_any (w : World) : Calls Tryd.prog 24 #[] w fun e w' => e = .returned (.agg #[.int .i64 6, .int .i64 8, .int .u64 16, .int .i64 65535, .int .i64 16, .string { data := #[58] }]) ∧ Below w.heap.size w w' := by
  go_enter Tryd.func24, Tryd.ntmps24
  go_wp2
  exact bodyPost_ret (by simp [results, Tryd.results24, go_sem]) rfl ⟨rfl, (Below.refl _ _).alloc (Nat.le_refl _) _⟩

/-- A number without its n lowest bits. -/
def clr (x n : Nat) : Nat := x / 2 ^ n * 2 ^ n
/-- clearLowest at whatever count within reach. -/
theorem clear_all (x : Nat) (n : Int) (w : World) (hx : x ≤ 18446744073709551615) (h0 : -1000 ≤ n) (h1 : n ≤ 1000) :
    Calls Tryd.prog 44 #[.int .u64 x, .int .i64 n] w fun e w' => e = .returned (.int .u64 (clr x n.toNat : Int)) ∧ w' = w := by
  by_cases h : n < 1
  · have e : n.toNat = 0 := by omega
    rw [e]
    simpa [clr] using clear_zero x n w h
  · obtain ⟨m, rfl⟩ : ∃ m : Nat, n = (m : Int) := ⟨n.toNat, by omega⟩
    exact clear_any x m w hx (by omega) (by omega)
set_option maxHeartbeats 400000 in
theorem cut_4 (hi lo : Nat) (n : Int) (w : World) (hh : hi ≤ 18446744073709551615) (hl : lo ≤ 18446744073709551615) (h0 : 0 ≤ n) (h1 : n ≤ 32)  :
    Calls Tryd.prog 37 #[addr 4 hi lo, .int .i64 n] w fun e w' => e = .returned (addr 4 hi (clr lo (32 - n).toNat)) ∧ Below w.heap.size w w' := by
  have e0 : (32 - n - 64).toNat = 0 := by omega
  have E : Hid ((clr hi (32 - n - 64).toNat : Int) = hi) := by rw [e0]; simp [clr, Hid]
  clear e0
  go_enter Tryd.func37, Tryd.ntmps37
  go_wp2_with (first | (go_at_call 34; refine (width_4 _).mono ?_; rintro e w' ⟨rfl, rfl⟩) | (go_at_call 44; refine (clear_all _ _ _ (by assumption) (by omega) (by omega)).mono ?_; rintro e w' ⟨rfl, rfl⟩))
  exact bodyPost_ret (by simp [results, Tryd.results37, go_sem]) rfl ⟨ret_addr E.out rfl, ((Below.refl _ _).alloc (Nat.le_refl _) _).alloc (by simp) _⟩
set_option maxHeartbeats 400000 in
theorem cut_6 (hi lo : Nat) (n : Int) (w : World) (hh : hi ≤ 18446744073709551615) (hl : lo ≤ 18446744073709551615) (h0 : 0 ≤ n) (h1 : n ≤ 128)  :
    Calls Tryd.prog 37 #[addr 6 hi lo, .int .i64 n] w fun e w' => e = .returned (addr 6 (clr hi (128 - n - 64).toNat) (clr lo (128 - n).toNat)) ∧ Below w.heap.size w w' := by
  go_enter Tryd.func37, Tryd.ntmps37
  go_wp2_with (first | (go_at_call 34; refine (width_6 _).mono ?_; rintro e w' ⟨rfl, rfl⟩) | (go_at_call 44; refine (clear_all _ _ _ (by assumption) (by omega) (by omega)).mono ?_; rintro e w' ⟨rfl, rfl⟩))
  exact bodyPost_ret (by simp [results, Tryd.results37, go_sem]) rfl ⟨rfl, ((Below.refl _ _).alloc (Nat.le_refl _) _).alloc (by simp) _⟩
set_option maxHeartbeats 400000 in
theorem fits_6 (hi lo : Nat) (w : World) :
    Calls Tryd.prog 45 #[addr 6 hi lo] w fun e w' => e = .returned (.bool true) ∧ Below w.heap.size w w' := by
  go_enter Tryd.func45, Tryd.ntmps45
  go_wp2
  go_ret
  exact ⟨rfl, (Below.refl _ _).alloc (Nat.le_refl _) _⟩
theorem ret_bool {a b : Bool} (h : a = b) : Ending.returned (.bool a) = .returned (.bool b) := by rw [h]
theorem hi32 (lo : Nat) : ((lo : Int) / 4294967296 == 0) = decide (lo < 4294967296) := by
  rw [Bool.eq_iff_iff]; simp; omega
set_option maxHeartbeats 400000 in
theorem fits_40 (lo : Nat) (w : World) :
    Calls Tryd.prog 45 #[addr 4 0 lo] w fun e w' => e = .returned (.bool (decide (lo < 4294967296))) ∧ Below w.heap.size w w' := by
  have E : Hid _ := hi32 lo
  generalize decide (lo < 4294967296) = b at *
  go_enter Tryd.func45, Tryd.ntmps45
  go_wp2
  go_ret
  exact ⟨ret_bool E.out, (Below.refl _ _).alloc (Nat.le_refl _) _⟩
set_option maxHeartbeats 400000 in
theorem fits_41 (hi lo : Nat) (w : World) (h : 1 ≤ hi) :
    Calls Tryd.prog 45 #[addr 4 hi lo] w fun e w' => e = .returned (.bool false) ∧ Below w.heap.size w w' := by
  have h' : ((hi : Int) == 0) = false := by simp; omega
  go_enter Tryd.func45, Tryd.ntmps45
  go_wp2
  go_ret
  exact ⟨rfl, (Below.refl _ _).alloc (Nat.le_refl _) _⟩

/-- Is the prefix good: the error's number. -/
def chk (f : Int) (hi lo : Nat) (n : Int) : Int :=
  if f = 4 then (if n < 0 ∨ 32 < n then 3 else if hi = 0 ∧ lo < 4294967296 ∧ clr lo (32 - n).toNat = lo then 0 else 4)
  else if f = 6 then (if n < 0 ∨ 128 < n then 3 else if clr hi (128 - n - 64).toNat = hi ∧ clr lo (128 - n).toNat = lo then 0 else 4)
  else 2
theorem bcell {W w1 : World} (hb : Below W.heap.size W w1) : (∀ b o, b < W.heap.size → w1.cell? ⟨b, o, none⟩ = W.cell? ⟨b, o, none⟩) ∧ (∀ b o, b < W.heap.size → w1.frozen? ⟨b, o, none⟩ = W.frozen? ⟨b, o, none⟩) :=
  ⟨fun b o h => hb.cell (p := ⟨b, o, none⟩) h, fun b o h => hb.frozen (p := ⟨b, o, none⟩) h⟩
end Go.Proofs.YtnfkgnjeamnhfaaDoor
