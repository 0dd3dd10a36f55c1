import Derived.Test.YtnfkgnjeamnhfabGc
import Derived.Laws.Bits64
namespace Go.Proofs.Ytnfkgnjeamnhfab
open Go.RowKit

/-- The sum of bytes, two by two: the high byte first; p: where the first stands. -/
def cs : Nat → List UInt8 → Nat
  | _, [] => 0
  | p, a :: r => (if p % 2 = 0 then a.toNat * 256 else a.toNat) + cs (p + 1) r
/-- A sum, folded. -/
def fold (s : Nat) : Nat := if s = 0 then 0 else (s - 1) % 65535 + 1
theorem fold_le (s : Nat) : fold s ≤ 65535 := by
  unfold fold; split
  · omega
  · have := Nat.mod_lt (s - 1) (show 0 < 65535 by decide); omega
theorem fold_small {s : Nat} (h : s ≤ 65535) : fold s = s := by
  unfold fold; split
  · omega
  · rw [Nat.mod_eq_of_lt (by omega)]; omega
theorem fold_back {s t k : Nat} (h : s = t + 65535 * k) (ht : 0 < t) : fold s = fold t := by
  unfold fold
  rw [if_neg (by omega), if_neg (by omega), show s - 1 = (t - 1) + 65535 * k by omega, Nat.add_mul_mod_self_left]
theorem fold_step {s : Nat} (h : 65535 < s) : fold (s / 65536 + s % 65536) = fold s :=
  (fold_back (k := s / 65536) (by omega) (by omega)).symm
theorem fold_less {s : Nat} (h : 65535 < s) : s / 65536 + s % 65536 < s := by omega
theorem fold_pos {s : Nat} (h : 0 < s) : 0 < fold s := by unfold fold; rw [if_neg (by omega)]; omega
/-- A sum with its checksum: all ones. -/
theorem fold_whole (s : Nat) : fold (s + (65535 - fold s)) = 65535 := by
  have h1 := fold_le s
  rcases Nat.eq_zero_or_pos s with rfl | h
  · decide
  · have e : fold s = (s - 1) % 65535 + 1 := by unfold fold; rw [if_neg (by omega)]
    have d := Nat.div_add_mod (s - 1) 65535
    rw [fold_back (t := 65535) (k := (s - 1) / 65535) (by omega) (by omega)]
    decide
/-- The checksum of bytes. -/
def ck (l : List UInt8) : Nat := 65535 - fold (cs 0 l)
theorem ck_lt (l : List UInt8) : ck l < 65536 := by unfold ck; omega
theorem cs_le (p : Nat) (l : List UInt8) : cs p l ≤ 65280 * l.length := by
  induction l generalizing p with
  | nil => simp [cs]
  | cons a r ih =>
    have := ih (p + 1)
    have := a.toNat_lt
    unfold cs
    rw [List.length_cons]
    split <;> omega
theorem cs_append (p : Nat) (a b : List UInt8) : cs p (a ++ b) = cs p a + cs (p + a.length) b := by
  induction a generalizing p with
  | nil => simp [cs]
  | cons x r ih =>
    rw [List.cons_append, cs, ih, cs, List.length_cons, show p + 1 + r.length = p + (r.length + 1) by omega]
    omega
theorem cs_even {p q : Nat} (h : p % 2 = q % 2) (l : List UInt8) : cs p l = cs q l := by
  induction l generalizing p q with
  | nil => rfl
  | cons a r ih => rw [cs, cs, h, ih (p := p + 1) (q := q + 1) (by omega)]
/-- The sum of the first ones, and of one more. -/
theorem cs_take {l : List UInt8} {i : Nat} {a : UInt8} (h : l[i]? = some a) : cs 0 (l.take (i + 1)) = cs 0 (l.take i) + (if i % 2 = 0 then a.toNat * 256 else a.toNat) := by
  have h2 := (List.getElem?_eq_some_iff.1 h).1
  rw [List.take_add_one, h, cs_append, List.length_take, Nat.min_eq_left (by omega), Nat.zero_add]
  simp [cs]
theorem bget {s : ByteArray} {i : Nat} (h : i < s.size) : s.data.toList[i]? = some s[i] := by
  have : i < s.data.toList.length := by simpa using h
  rw [List.getElem?_eq_getElem this]; rfl
theorem blen (s : ByteArray) : s.data.toList.length = s.size := by simp
theorem wrap_i64_nat {n : Nat} (h : n < 9223372036854775808) : IntKind.i64.wrap (n : Int) = (n : Int) := by
  simp [IntKind.wrap, IntKind.bits, IntKind.signed]; omega
theorem bv_nat {n a : Nat} (h : a < 2 ^ n) : (BitVec.ofInt n (a : Int)).toNat = a := by
  rw [BitVec.ofInt_natCast, BitVec.toNat_ofNat]; exact Nat.mod_eq_of_lt h
theorem and_i64 (a b : Nat) (ha : a < 9223372036854775808) (hb : b < 9223372036854775808) : bits .and .i64 (a : Int) (b : Int) = ((a &&& b : Nat) : Int) := by
  show IntKind.i64.wrap ((BitVec.ofInt 64 (a : Int) &&& BitVec.ofInt 64 (b : Int)).toNat : Int) = _
  rw [BitVec.toNat_and, bv_nat (by omega), bv_nat (by omega)]
  exact wrap_i64_nat (Nat.lt_of_le_of_lt Nat.and_le_left ha)
theorem or_i64 (a b : Nat) (ha : a < 9223372036854775808) (hb : b < 9223372036854775808) : bits .or .i64 (a : Int) (b : Int) = ((a ||| b : Nat) : Int) := by
  show IntKind.i64.wrap ((BitVec.ofInt 64 (a : Int) ||| BitVec.ofInt 64 (b : Int)).toNat : Int) = _
  rw [BitVec.toNat_or, bv_nat (by omega), bv_nat (by omega)]
  exact wrap_i64_nat (Nat.or_lt_two_pow (n := 63) (by omega) (by omega))
theorem for_u64 (a b : Nat) (ha : a < 18446744073709551616) (hb : b < 18446744073709551616) : bits .or .u64 (a : Int) (b : Int) = ((a ||| b : Nat) : Int) := by
  have hx : a ||| b < 2 ^ 64 := Nat.or_lt_two_pow (by omega) (by omega)
  show IntKind.u64.wrap ((BitVec.ofInt 64 (a : Int) ||| BitVec.ofInt 64 (b : Int)).toNat : Int) = _
  rw [BitVec.toNat_or, bv_nat (by omega), bv_nat (by omega), IntKind.wrap_u64]
  omega
theorem and_u8 (a b : Nat) (ha : a < 256) (hb : b < 256) : bits .and .u8 (a : Int) (b : Int) = ((a &&& b : Nat) : Int) := by
  have hx : a &&& b < 256 := Nat.lt_of_le_of_lt Nat.and_le_left ha
  show IntKind.u8.wrap ((BitVec.ofInt 8 (a : Int) &&& BitVec.ofInt 8 (b : Int)).toNat : Int) = _
  rw [BitVec.toNat_and, bv_nat (by omega), bv_nat (by omega)]
  simp [IntKind.wrap, IntKind.bits, IntKind.signed]; omega
theorem and65535 (x : Nat) (hx : x < 9223372036854775808) : bits .and .i64 (x : Int) 65535 = ((x % 65536 : Nat) : Int) := by
  have := and_i64 x 65535 hx (by decide)
  rw [show (x &&& 65535) = x % 65536 from Nat.and_two_pow_sub_one_eq_mod x 16] at this
  exact this
theorem and8191 (x : Nat) (hx : x < 9223372036854775808) : bits .and .i64 (x : Int) 8191 = ((x % 8192 : Nat) : Int) := by
  have := and_i64 x 8191 hx (by decide)
  rw [show (x &&& 8191) = x % 8192 from Nat.and_two_pow_sub_one_eq_mod x 13] at this
  exact this
theorem and15 (x : Nat) (hx : x < 256) : bits .and .u8 (x : Int) 15 = ((x % 16 : Nat) : Int) := by
  have := and_u8 x 15 hx (by decide)
  rw [show (x &&& 15) = x % 16 from Nat.and_two_pow_sub_one_eq_mod x 4] at this
  exact this
theorem for_low {a b : Nat} (i : Nat) (h : b < 2 ^ i) : (a * 2 ^ i) ||| b = a * 2 ^ i + b := by
  rw [Nat.mul_comm]; exact (Nat.two_pow_add_eq_or_of_lt h a).symm
/-- Two bytes as a number. -/
theorem or8 {a b : Nat} (ha : a < 256) (hb : b < 256) : bits .or .i64 ((a : Int) * 256) (b : Int) = ((a * 256 + b : Nat) : Int) := by
  have := or_i64 (a * 256) b (by omega) (by omega)
  rw [show a * 256 ||| b = a * 256 + b from for_low 8 hb] at this
  exact this
/-- Four bytes as a number. -/
theorem or24 {a b c d : Nat} (ha : a < 256) (hb : b < 256) (hc : c < 256) (hd : d < 256) : bits .or .u64 (bits .or .u64 (bits .or .u64 ((a : Int) * 16777216) ((b : Int) * 65536)) ((c : Int) * 256)) (d : Int) = ((((a * 256 + b) * 256 + c) * 256 + d : Nat) : Int) := by
  have h1 := for_u64 (a * 16777216) (b * 65536) (by omega) (by omega)
  rw [show a * 16777216 ||| b * 65536 = a * 16777216 + b * 65536 from for_low 24 (by omega)] at h1
  have h2 := for_u64 (a * 16777216 + b * 65536) (c * 256) (by omega) (by omega)
  rw [show (a * 16777216 + b * 65536) ||| c * 256 = a * 16777216 + b * 65536 + c * 256 by
    have := for_low (a := a * 256 + b) (b := c * 256) 16 (by omega)
    rw [show (a * 256 + b) * 2 ^ 16 = a * 16777216 + b * 65536 by omega] at this
    exact this] at h2
  have h3 := for_u64 (a * 16777216 + b * 65536 + c * 256) d (by omega) (by omega)
  rw [show (a * 16777216 + b * 65536 + c * 256) ||| d = a * 16777216 + b * 65536 + c * 256 + d by
    have := for_low (a := (a * 256 + b) * 256 + c) (b := d) 8 (by omega)
    rw [show ((a * 256 + b) * 256 + c) * 2 ^ 8 = a * 16777216 + b * 65536 + c * 256 by omega] at this
    exact this] at h3
  have e1 : bits .or .u64 ((a : Int) * 16777216) ((b : Int) * 65536) = ((a * 16777216 + b * 65536 : Nat) : Int) := h1
  rw [e1]
  have e2 : bits .or .u64 ((a * 16777216 + b * 65536 : Nat) : Int) ((c : Int) * 256) = _ := h2
  rw [e2, h3]
  omega
end Go.Proofs.Ytnfkgnjeamnhfab
