import Derived.Test.YtnfkgnjeamnhfaaGreatGc
import Derived.Laws.Bits64
import Derived.WalkKit
import Derived.Deep.WholeRow
import Derived.Laws.IdiomStrings
import Derived.Lib.SmallJoins
import Derived.WalkSpells
import Derived.WalkLawsBesides
import Derived.Laws.ResultCell
import Derived.Deep.MidRow
import Derived.Deep.RegionWith
namespace Go.Proofs.YtnfkgnjeamnhfaaGreat
open Go.RowKit

/-- The sum of bytes, two by two: the high byte first; p: where the first stands. -/
def cs : Nat → List UInt8 → Nat
  | _, [] => 0
  | p, a :: r => (if p % 2 = 0 then a.toNat * 256 else a.toNat) + cs (p + 1) r
/-- A sum, folded. -/
def fold (s : Nat) : Nat := if s = 0 then 0 else (s - 1) % 65535 + 1
theorem fold_le (s : Nat) : fold s ≤ 65535 := by
  unfold fold; split
  · omega
  · have := Nat.mod_lt (s - 1) (show 0 < 65535 by decide); omega
theorem fold_small {s : Nat} (h : s ≤ 65535) : fold s = s := by
  unfold fold; split
  · omega
  · rw [Nat.mod_eq_of_lt (by omega)]; omega
theorem fold_back {s t k : Nat} (h : s = t + 65535 * k) (ht : 0 < t) : fold s = fold t := by
  unfold fold
  rw [if_neg (by omega), if_neg (by omega), show s - 1 = (t - 1) + 65535 * k by omega, Nat.add_mul_mod_self_left]
theorem fold_step {s : Nat} (h : 65535 < s) : fold (s / 65536 + s % 65536) = fold s :=
  (fold_back (k := s / 65536) (by omega) (by omega)).symm
theorem fold_less {s : Nat} (h : 65535 < s) : s / 65536 + s % 65536 < s := by omega
theorem fold_pos {s : Nat} (h : 0 < s) : 0 < fold s := by unfold fold; rw [if_neg (by omega)]; omega
/-- A sum with its checksum: all ones. -/
theorem fold_whole (s : Nat) : fold (s + (65535 - fold s)) = 65535 := by
  have h1 := fold_le s
  rcases Nat.eq_zero_or_pos s with rfl | h
  · decide
  · have e : fold s = (s - 1) % 65535 + 1 := by unfold fold; rw [if_neg (by omega)]
    have d := Nat.div_add_mod (s - 1) 65535
    rw [fold_back (t := 65535) (k := (s - 1) / 65535) (by omega) (by omega)]
    decide
/-- The checksum of bytes. -/
def ck (l : List UInt8) : Nat := 65535 - fold (cs 0 l)
theorem ck_lt (l : List UInt8) : ck l < 65536 := by unfold ck; omega
theorem cs_le (p : Nat) (l : List UInt8) : cs p l ≤ 65280 * l.length := by
  induction l generalizing p with
  | nil => simp [cs]
  | cons a r ih =>
    have := ih (p + 1)
    have := a.toNat_lt
    unfold cs
    rw [List.length_cons]
    split <;> omega
theorem cs_append (p : Nat) (a b : List UInt8) : cs p (a ++ b) = cs p a + cs (p + a.length) b := by
  induction a generalizing p with
  | nil => simp [cs]
  | cons x r ih =>
    rw [List.cons_append, cs, ih, cs, List.length_cons, show p + 1 + r.length = p + (r.length + 1) by omega]
    omega
theorem cs_even {p q : Nat} (h : p % 2 = q % 2) (l : List UInt8) : cs p l = cs q l := by
  induction l generalizing p q with
  | nil => rfl
  | cons a r ih => rw [cs, cs, h, ih (p := p + 1) (q := q + 1) (by omega)]
/-- The sum of the first ones, and of one more. -/
theorem cs_take {l : List UInt8} {i : Nat} {a : UInt8} (h : l[i]? = some a) : cs 0 (l.take (i + 1)) = cs 0 (l.take i) + (if i % 2 = 0 then a.toNat * 256 else a.toNat) := by
  have h2 := (List.getElem?_eq_some_iff.1 h).1
  rw [List.take_add_one, h, cs_append, List.length_take, Nat.min_eq_left (by omega), Nat.zero_add]
  simp [cs]
theorem bget {s : ByteArray} {i : Nat} (h : i < s.size) : s.data.toList[i]? = some s[i] := by
  have : i < s.data.toList.length := by simpa using h
  rw [List.getElem?_eq_getElem this]; rfl
theorem blen (s : ByteArray) : s.data.toList.length = s.size := by simp
theorem wrap_i64_nat {n : Nat} (h : n < 9223372036854775808) : IntKind.i64.wrap (n : Int) = (n : Int) := by
  simp [IntKind.wrap, IntKind.bits, IntKind.signed]; omega
theorem bv_nat {n a : Nat} (h : a < 2 ^ n) : (BitVec.ofInt n (a : Int)).toNat = a := by
  rw [BitVec.ofInt_natCast, BitVec.toNat_ofNat]; exact Nat.mod_eq_of_lt h
theorem and_i64 (a b : Nat) (ha : a < 9223372036854775808) (hb : b < 9223372036854775808) : bits .and .i64 (a : Int) (b : Int) = ((a &&& b : Nat) : Int) := by
  show IntKind.i64.wrap ((BitVec.ofInt 64 (a : Int) &&& BitVec.ofInt 64 (b : Int)).toNat : Int) = _
  rw [BitVec.toNat_and, bv_nat (by omega), bv_nat (by omega)]
  exact wrap_i64_nat (Nat.lt_of_le_of_lt Nat.and_le_left ha)
theorem or_i64 (a b : Nat) (ha : a < 9223372036854775808) (hb : b < 9223372036854775808) : bits .or .i64 (a : Int) (b : Int) = ((a ||| b : Nat) : Int) := by
  show IntKind.i64.wrap ((BitVec.ofInt 64 (a : Int) ||| BitVec.ofInt 64 (b : Int)).toNat : Int) = _
  rw [BitVec.toNat_or, bv_nat (by omega), bv_nat (by omega)]
  exact wrap_i64_nat (Nat.or_lt_two_pow (n := 63) (by omega) (by omega))
theorem for_u64 (a b : Nat) (ha : a < 18446744073709551616) (hb : b < 18446744073709551616) : bits .or .u64 (a : Int) (b : Int) = ((a ||| b : Nat) : Int) := by
  have hx : a ||| b < 2 ^ 64 := Nat.or_lt_two_pow (by omega) (by omega)
  show IntKind.u64.wrap ((BitVec.ofInt 64 (a : Int) ||| BitVec.ofInt 64 (b : Int)).toNat : Int) = _
  rw [BitVec.toNat_or, bv_nat (by omega), bv_nat (by omega), IntKind.wrap_u64]
  omega
theorem and_u8 (a b : Nat) (ha : a < 256) (hb : b < 256) : bits .and .u8 (a : Int) (b : Int) = ((a &&& b : Nat) : Int) := by
  have hx : a &&& b < 256 := Nat.lt_of_le_of_lt Nat.and_le_left ha
  show IntKind.u8.wrap ((BitVec.ofInt 8 (a : Int) &&& BitVec.ofInt 8 (b : Int)).toNat : Int) = _
  rw [BitVec.toNat_and, bv_nat (by omega), bv_nat (by omega)]
  simp [IntKind.wrap, IntKind.bits, IntKind.signed]; omega
theorem and65535 (x : Nat) (hx : x < 9223372036854775808) : bits .and .i64 (x : Int) 65535 = ((x % 65536 : Nat) : Int) := by
  have := and_i64 x 65535 hx (by decide)
  rw [show (x &&& 65535) = x % 65536 from Nat.and_two_pow_sub_one_eq_mod x 16] at this
  exact this
theorem and8191 (x : Nat) (hx : x < 9223372036854775808) : bits .and .i64 (x : Int) 8191 = ((x % 8192 : Nat) : Int) := by
  have := and_i64 x 8191 hx (by decide)
  rw [show (x &&& 8191) = x % 8192 from Nat.and_two_pow_sub_one_eq_mod x 13] at this
  exact this
theorem and15 (x : Nat) (hx : x < 256) : bits .and .u8 (x : Int) 15 = ((x % 16 : Nat) : Int) := by
  have := and_u8 x 15 hx (by decide)
  rw [show (x &&& 15) = x % 16 from Nat.and_two_pow_sub_one_eq_mod x 4] at this
  exact this
theorem for_low {a b : Nat} (i : Nat) (h : b < 2 ^ i) : (a * 2 ^ i) ||| b = a * 2 ^ i + b := by
  rw [Nat.mul_comm]; exact (Nat.two_pow_add_eq_or_of_lt h a).symm
/-- Two bytes as a number. -/
theorem or8 {a b : Nat} (ha : a < 256) (hb : b < 256) : bits .or .i64 ((a : Int) * 256) (b : Int) = ((a * 256 + b : Nat) : Int) := by
  have := or_i64 (a * 256) b (by omega) (by omega)
  rw [show a * 256 ||| b = a * 256 + b from for_low 8 hb] at this
  exact this
/-- Four bytes as a number. -/
theorem or24 {a b c d : Nat} (ha : a < 256) (hb : b < 256) (hc : c < 256) (hd : d < 256) : bits .or .u64 (bits .or .u64 (bits .or .u64 ((a : Int) * 16777216) ((b : Int) * 65536)) ((c : Int) * 256)) (d : Int) = ((((a * 256 + b) * 256 + c) * 256 + d : Nat) : Int) := by
  have h1 := for_u64 (a * 16777216) (b * 65536) (by omega) (by omega)
  rw [show a * 16777216 ||| b * 65536 = a * 16777216 + b * 65536 from for_low 24 (by omega)] at h1
  have h2 := for_u64 (a * 16777216 + b * 65536) (c * 256) (by omega) (by omega)
  rw [show (a * 16777216 + b * 65536) ||| c * 256 = a * 16777216 + b * 65536 + c * 256 by
    have := for_low (a := a * 256 + b) (b := c * 256) 16 (by omega)
    rw [show (a * 256 + b) * 2 ^ 16 = a * 16777216 + b * 65536 by omega] at this
    exact this] at h2
  have h3 := for_u64 (a * 16777216 + b * 65536 + c * 256) d (by omega) (by omega)
  rw [show (a * 16777216 + b * 65536 + c * 256) ||| d = a * 16777216 + b * 65536 + c * 256 + d by
    have := for_low (a := (a * 256 + b) * 256 + c) (b := d) 8 (by omega)
    rw [show ((a * 256 + b) * 256 + c) * 2 ^ 8 = a * 16777216 + b * 65536 + c * 256 by omega] at this
    exact this] at h3
  have e1 : bits .or .u64 ((a : Int) * 16777216) ((b : Int) * 65536) = ((a * 16777216 + b * 65536 : Nat) : Int) := h1
  rw [e1]
  have e2 : bits .or .u64 ((a * 16777216 + b * 65536 : Nat) : Int) ((c : Int) * 256) = _ := h2
  rw [e2, h3]
  omega
end Go.Proofs.YtnfkgnjeamnhfaaGreat
namespace Go.Proofs.YtnfkgnjeamnhfaaGreat
open Go.RowKit

theorem ret_nat {k : IntKind} {a : Int} {b : Nat} (h : a = (b : Int)) : Ending.returned (.int k a) = .returned (.int k (b : Int)) := by rw [h]
set_option maxHeartbeats 1000000 in
theorem checksum_any (s : ByteArray) (w : World) (hs : s.size ≤ 100000) :
    Calls Tryz.prog 135 #[.string s] w fun e w' => e = .returned (.int .i64 (ck s.data.toList : Nat)) ∧ w' = w := by
  go_enter Tryz.func135, Tryz.ntmps135
  go_wp2
  go_loop [3, 4] (fun v i => ∃ (c k : Nat), k ≤ s.size ∧ i = .int .i64 k ∧ v = .int .i64 c ∧ c ≤ 65280 * k ∧ Hid (c = cs 0 (s.data.toList.take k))) (fun _ i => s.size - (intOf i).toNat)
  case atStart => exact ⟨0, 0, Nat.zero_le _, rfl, rfl, Nat.zero_le _, rfl⟩
  case round =>
    obtain ⟨c, k, hk, rfl, rfl, hc, HC⟩ := hrel
    by_cases hks : k < s.size
    · have hg := bget hks
      have h1 := cs_take hg
      have ha := s[k].toNat_lt
      by_cases hp : k % 2 = 0
      · rw [if_pos hp] at h1
        go_wp2
        exact ⟨⟨c + s[k].toNat * 256, k + 1, by omega, by go_num, by go_num, by omega, by show _ = _; rw [HC.out, h1]⟩, by simp [intOf]; omega⟩
      · rw [if_neg hp] at h1
        go_wp2
        exact ⟨⟨c + s[k].toNat, k + 1, by omega, by go_num, by go_num, by omega, by show _ = _; rw [HC.out, h1]⟩, by simp [intOf]; omega⟩
    · have hkk : k = s.size := by omega
      have HC1 := Lib.hid (show c = cs 0 s.data.toList by rw [HC.out, List.take_of_length_le (by rw [blen]; omega)])
      clear HC
      subst hkk
      go_wp2
      go_loop [3] (fun v => ∃ x : Nat, v = .int .i64 x ∧ x ≤ 6528000000 ∧ Hid (fold x = fold (cs 0 s.data.toList))) (fun v => (intOf v).toNat)
      case atStart => exact ⟨c, rfl, by omega, by show _ = _; rw [HC1.out]⟩
      case round =>
        obtain ⟨x, rfl, hx, HX⟩ := hrel
        by_cases hg : 65535 < x
        · have h1 : (65535 : Int) < (x : Int) := by omega
          have h2 := fold_step hg
          have h3 := fold_less hg
          have h4 := and65535 x (by omega)
          go_wp2
          exact ⟨⟨x / 65536 + x % 65536, by go_num, by omega, by show _ = _; rw [h2, HX.out]⟩, by simp [intOf]; omega⟩
        · have h1 : ¬ (65535 : Int) < (x : Int) := by omega
          have h2 := fold_small (s := x) (by omega)
          go_wp2
          go_ret
          exact ⟨ret_nat (by unfold ck; rw [← HX.out, h2]; omega), rfl⟩
theorem fret_bool {a b : Bool} (h : a = b) : Ending.returned (.bool a) = .returned (.bool b) := by rw [h]
/-- Is a first byte one that no packet bears? -/
def mart (a : Nat) : Bool := decide (a = 0 ∨ a = 127 ∨ 223 < a)
theorem isMartian_any (a : Nat) (w : World) : Calls Tryz.prog 136 #[.int .u8 a] w fun e w' => e = .returned (.bool (mart a)) ∧ w' = w := by
  unfold mart
  go_enter Tryz.func136, Tryz.ntmps136
  go_wp2
  all_goals go_ret
  · exact ⟨fret_bool (by simp; omega), rfl⟩
  · exact ⟨fret_bool (by simp; omega), rfl⟩
  · exact ⟨fret_bool (by rw [Bool.eq_iff_iff]; simp; omega), rfl⟩
theorem join_any (a b c d : Nat) (ha : a < 256) (hb : b < 256) (hc : c < 256) (hd : d < 256) (w : World) : Calls Tryz.prog 137 #[.int .u8 a, .int .u8 b, .int .u8 c, .int .u8 d] w fun e w' => e = .returned (.int .u64 ((((a * 256 + b) * 256 + c) * 256 + d : Nat) : Int)) ∧ w' = w := by
  have h := or24 ha hb hc hd
  go_enter Tryz.func137, Tryz.ntmps137
  go_wp2
  go_ret
  exact ⟨ret_nat (by omega), rfl⟩
/-- The value of bytes in an array. -/
def hc (l : List UInt8) : Array Value := (l.map (fun b => Value.int .u8 (b.toNat : Int))).toArray
def hv (l : List UInt8) : Value := .agg (hc l)
theorem list20 {l : List UInt8} (h : l.length = 20) : ∃ b0 b1 b2 b3 b4 b5 b6 b7 b8 b9 b10 b11 b12 b13 b14 b15 b16 b17 b18 b19, l = [b0, b1, b2, b3, b4, b5, b6, b7, b8, b9, b10, b11, b12, b13, b14, b15, b16, b17, b18, b19] := by
  match l, h with
  | [b0, b1, b2, b3, b4, b5, b6, b7, b8, b9, b10, b11, b12, b13, b14, b15, b16, b17, b18, b19], _ => exact ⟨_, _, _, _, _, _, _, _, _, _, _, _, _, _, _, _, _, _, _, _, rfl⟩
/-- A byte, and numbers of two and four. -/
def g1 (l : List UInt8) (i : Nat) : Nat := (l.getD i 0).toNat
def g2 (l : List UInt8) (i : Nat) : Nat := g1 l i * 256 + g1 l (i + 1)
def g4 (l : List UInt8) (i : Nat) : Nat := ((g1 l i * 256 + g1 l (i + 1)) * 256 + g1 l (i + 2)) * 256 + g1 l (i + 3)
theorem g1_lt (l : List UInt8) (i : Nat) : g1 l i < 256 := (l.getD i 0).toNat_lt
theorem below1 (w : World) (o : Obj) : Below w.heap.size w (w.alloc o) := (Below.refl _ _).alloc (Nat.le_refl _) _
theorem length_any (l : List UInt8) (hl : l.length = 20) (w : World) : Calls Tryz.prog 118 #[hv l] w fun e w' => e = .returned (.int .i64 (g2 l 2 : Nat)) ∧ w' = w.alloc (.cells (hc l) 137) := by
  have h := or8 (g1_lt l 2) (g1_lt l 3)
  obtain ⟨b0, b1, b2, b3, b4, b5, b6, b7, b8, b9, b10, b11, b12, b13, b14, b15, b16, b17, b18, b19, rfl⟩ := list20 hl
  have h2 := b2.toNat_lt
  have h3 := b3.toNat_lt
  unfold hv hc
  simp only [List.map_cons, List.map_nil]
  unfold g2
  simp only [g1, List.getD_cons_succ, List.getD_cons_zero] at *
  go_enter Tryz.func118, Tryz.ntmps118
  go_wp2
  go_ret
  exact ⟨ret_nat (by omega), rfl⟩
theorem target_any (l : List UInt8) (hl : l.length = 20) (w : World) : Calls Tryz.prog 119 #[hv l] w fun e w' => e = .returned (.int .u64 (g4 l 16 : Nat)) ∧ Below w.heap.size w w' := by
  have H := Lib.hid (fun w => join_any (g1 l 16) (g1 l 17) (g1 l 18) (g1 l 19) (g1_lt _ _) (g1_lt _ _) (g1_lt _ _) (g1_lt _ _) w)
  obtain ⟨b0, b1, b2, b3, b4, b5, b6, b7, b8, b9, b10, b11, b12, b13, b14, b15, b16, b17, b18, b19, rfl⟩ := list20 hl
  unfold hv hc
  simp only [List.map_cons, List.map_nil]
  unfold g4
  simp only [g1, List.getD_cons_succ, List.getD_cons_zero] at *
  go_enter Tryz.func119, Tryz.ntmps119
  go_wp2_with fail
  refine (H.out _).mono ?_
  rintro e w1 ⟨rfl, rfl⟩
  go_wp2
  go_ret
  exact ⟨rfl, below1 _ _⟩
theorem source_any (l : List UInt8) (hl : l.length = 20) (w : World) : Calls Tryz.prog 120 #[hv l] w fun e w' => e = .returned (.int .u64 (g4 l 12 : Nat)) ∧ Below w.heap.size w w' := by
  have H := Lib.hid (fun w => join_any (g1 l 12) (g1 l 13) (g1 l 14) (g1 l 15) (g1_lt _ _) (g1_lt _ _) (g1_lt _ _) (g1_lt _ _) w)
  obtain ⟨b0, b1, b2, b3, b4, b5, b6, b7, b8, b9, b10, b11, b12, b13, b14, b15, b16, b17, b18, b19, rfl⟩ := list20 hl
  unfold hv hc
  simp only [List.map_cons, List.map_nil]
  unfold g4
  simp only [g1, List.getD_cons_succ, List.getD_cons_zero] at *
  go_enter Tryz.func120, Tryz.ntmps120
  go_wp2_with fail
  refine (H.out _).mono ?_
  rintro e w1 ⟨rfl, rfl⟩
  go_wp2
  go_ret
  exact ⟨rfl, below1 _ _⟩
theorem part_any (l : List UInt8) (hl : l.length = 20) (w : World) : Calls Tryz.prog 138 #[hv l] w fun e w' => e = .returned (.int .i64 (g2 l 6 % 8192 : Nat)) ∧ Below w.heap.size w w' := by
  have h := or8 (g1_lt l 6) (g1_lt l 7)
  have h2 := g1_lt l 6
  have h3 := g1_lt l 7
  have h4 := and8191 (g1 l 6 * 256 + g1 l 7) (by omega)
  obtain ⟨b0, b1, b2, b3, b4, b5, b6, b7, b8, b9, b10, b11, b12, b13, b14, b15, b16, b17, b18, b19, rfl⟩ := list20 hl
  unfold hv hc
  simp only [List.map_cons, List.map_nil]
  unfold g2
  simp only [g1, List.getD_cons_succ, List.getD_cons_zero] at *
  have h5 : bits .and .i64 ((b6.toNat : Int) * 256 + (b7.toNat : Int)) 8191 = _ := h4
  clear h4
  go_enter Tryz.func138, Tryz.ntmps138
  go_wp2
  go_ret
  exact ⟨ret_nat (by omega), below1 _ _⟩
theorem hcell {l : List UInt8} {w : World} {t : TypeId} {j : Nat} (hj : j < l.length) : (w.alloc (.cells (l.map (fun b => Value.int .u8 (b.toNat : Int))).toArray t)).cell? ⟨w.heap.size, j, none⟩ = some (.int .u8 (l[j].toNat : Int)) := by
  rw [cell_of_row _ _ j _ t (0, 0) (heap_alloc_last w _)]
  simp [hj]
theorem conv_new {l : List UInt8} {n c : Nat} (hl : l.length = n) (w : World) (t : TypeId) : (convert 178 9 (.slice (some ⟨w.heap.size, 0, none⟩) n c)).run Tryz.prog (w.alloc (.cells (l.map (fun b => Value.int .u8 (b.toNat : Int))).toArray t)) = .ok (.string ⟨l.toArray⟩) (w.alloc (.cells (l.map (fun b => Value.int .u8 (b.toNat : Int))).toArray t)) := by
  subst hl
  exact run_convert_bytes_back (P := Tryz.prog) _ 178 9 5 ⟨w.heap.size, 0, none⟩ c l Tryz.underlying178 Tryz.underlying5 Tryz.underlying9 (fun j hj => by
    rw [Lib.add_plain, Nat.zero_add]; exact hcell hj)
set_option maxRecDepth 20000 in
theorem text_any (l : List UInt8) (hl : l.length = 20) (w : World) : Calls Tryz.prog 123 #[hv l] w fun e w' => e = .returned (.string ⟨l.toArray⟩) ∧ w' = w.alloc (.cells (hc l) 137) := by
  have hcv := conv_new (c := 20) hl w 137
  obtain ⟨b0, b1, b2, b3, b4, b5, b6, b7, b8, b9, b10, b11, b12, b13, b14, b15, b16, b17, b18, b19, rfl⟩ := list20 hl
  unfold hv hc
  simp only [List.map_cons, List.map_nil] at hcv ⊢
  go_enter Tryz.func123, Tryz.ntmps123
  go_wp2
  go_ret
  exact ⟨rfl, rfl⟩
end Go.Proofs.YtnfkgnjeamnhfaaGreat
namespace Go.Proofs.YtnfkgnjeamnhfaaGreat
open Go.RowKit

theorem ld20 {w : World} {b : Nat} {C : Array Value} {t : TypeId} (h : w.heap[b]? = some (.cells C t)) (hC : C.size = 20) : (loadCellsFrom ⟨b, 0, none⟩ 0 20 #[]).run Tryz.prog w = .ok C w := by
  have := run_loadCells_list (P := Tryz.prog) w ⟨b, 0, none⟩ C.toList (fun j v hv => by
    rw [Lib.add_plain, Nat.zero_add, cell_of_row _ _ j C t (0, 0) h]
    simpa using hv)
  simpa [loadCells, hC] using this
theorem cl20 {w : World} {b : Nat} {C : Array Value} {t : TypeId} (h : w.heap[b]? = some (.cells C t)) {j : Nat} {v : Value} (hv : C[j]? = some v) : w.cell? ⟨b, j, none⟩ = some v := by
  rw [cell_of_row _ _ j C t (0, 0) h]; exact hv
theorem hc_size {l : List UInt8} : (hc l).size = l.length := by simp [hc]
theorem hc_at {l : List UInt8} (hl : l.length = 20) {j : Nat} (hj : j < 20) : (hc l)[j]? = some (.int .u8 (g1 l j : Nat)) := by
  simp [hc, g1, List.getD_eq_getElem?_getD, show j < l.length by omega]
theorem at_of {C : Array Value} {j : Nat} {v : Value} (h : C[j]? = some v) (hj : j < C.size) : C[j] = v := by
  rw [Array.getElem?_eq_getElem hj] at h; exact Option.some.inj h
theorem fold20 {C : Array Value} (h : C.size = 20) : #[C[0], C[1], C[2], C[3], C[4], C[5], C[6], C[7], C[8], C[9], C[10], C[11], C[12], C[13], C[14], C[15], C[16], C[17], C[18], C[19]] = C := by
  apply Array.ext
  · simp [h]
  · intro i h1 h2
    have : i < 20 := by simpa using h1
    rcases i with _ | _ | _ | _ | _ | _ | _ | _ | _ | _ | _ | _ | _ | _ | _ | _ | _ | _ | _ | _ | i <;> first | rfl | omega
theorem cells20 {w : World} {b : Nat} {C : Array Value} {t : TypeId} (h : w.heap[b]? = some (.cells C t)) (hC : C.size = 20) : w.cell? ⟨b, 0, none⟩ = some C[0] ∧ w.cell? ⟨b, 1, none⟩ = some C[1] ∧ w.cell? ⟨b, 2, none⟩ = some C[2] ∧ w.cell? ⟨b, 3, none⟩ = some C[3] ∧ w.cell? ⟨b, 4, none⟩ = some C[4] ∧ w.cell? ⟨b, 5, none⟩ = some C[5] ∧ w.cell? ⟨b, 6, none⟩ = some C[6] ∧ w.cell? ⟨b, 7, none⟩ = some C[7] ∧ w.cell? ⟨b, 8, none⟩ = some C[8] ∧ w.cell? ⟨b, 9, none⟩ = some C[9] ∧ w.cell? ⟨b, 10, none⟩ = some C[10] ∧ w.cell? ⟨b, 11, none⟩ = some C[11] ∧ w.cell? ⟨b, 12, none⟩ = some C[12] ∧ w.cell? ⟨b, 13, none⟩ = some C[13] ∧ w.cell? ⟨b, 14, none⟩ = some C[14] ∧ w.cell? ⟨b, 15, none⟩ = some C[15] ∧ w.cell? ⟨b, 16, none⟩ = some C[16] ∧ w.cell? ⟨b, 17, none⟩ = some C[17] ∧ w.cell? ⟨b, 18, none⟩ = some C[18] ∧ w.cell? ⟨b, 19, none⟩ = some C[19] := by
  have k : ∀ j (hj : j < C.size), w.cell? ⟨b, j, none⟩ = some C[j] := fun j hj => cl20 h (Array.getElem?_eq_getElem hj)
  exact ⟨k 0 _, k 1 _, k 2 _, k 3 _, k 4 _, k 5 _, k 6 _, k 7 _, k 8 _, k 9 _, k 10 _, k 11 _, k 12 _, k 13 _, k 14 _, k 15 _, k 16 _, k 17 _, k 18 _, k 19 _⟩
/-- A whole array is loaded, in one step. -/
theorem wpL_load {P : Program} {ops : Array Oper} {Q : Exit → Act → World → Prop} {a : Act} {w : World} {rest : List Oper} {d s : Tmp} {t ty : TypeId} {pos : String} {after : Array Edge} {p : Addr} {v : Value} (hs : a.eval (.tmp s) = .pointer (some p)) (hr : (loadVar t p).run P w = .ok v w) (h : wpList P ops Q rest (a.put (some d) v) w) :
    wpList P ops Q (⟨some d, .load t (.tmp s), ty, pos, after, none⟩ :: rest) a w :=
  wpList_plain rfl (fun K hK => by
    have e : (execOp a.eval ⟨some d, .load t (.tmp s), ty, pos, after, none⟩).run P w = .ok (.value v) w := by
      simp [execOp, hs, Instr.loadAt, Instr.sureAddr, hr, Result.andThen]
    unfold Oper.wp
    rw [e]
    exact hK _ _ h)
theorem infoH : (Tryz.prog.info? 137).map (·.size) = some 20 := by kernel_rfl
theorem ldV {w : World} {b : Nat} {C : Array Value} (h : w.heap[b]? = some (.cells C 137)) (hC : C.size = 20) : (loadVar 137 ⟨b, 0, none⟩).run Tryz.prog w = .ok (.agg C) w :=
  run_loadVar_row _ _ 137 137 C (0, 0) _ h Tryz.underlying137 rfl (by rw [hC]; exact infoH)
/-- What is wrong with a head. -/
def fltN (l : List UInt8) (size : Nat) : Nat :=
  if g1 l 0 / 16 ≠ 4 then 2 else if g1 l 0 % 16 ≠ 5 then 3 else if g2 l 2 < 20 ∨ size < g2 l 2 then 4 else if ck l ≠ 0 then 5 else if mart (g1 l 12) = true then 6 else if mart (g1 l 16) = true then 6 else 0
set_option maxRecDepth 20000 in
set_option maxHeartbeats 2000000 in
theorem fault_any (l : List UInt8) (hl : l.length = 20) (n : Nat) (w : World) : Calls Tryz.prog 117 #[hv l, .int .i64 n] w fun e w' => e = .returned (.int .i64 (fltN l n : Nat)) ∧ Below w.heap.size w w' := by
  obtain ⟨z, hz⟩ : ∃ z, fltN l n = z := ⟨_, rfl⟩
  rw [hz]
  have HL := Lib.hid (fun w => length_any l hl w)
  have HT := Lib.hid (fun w => text_any l hl w)
  have HC := Lib.hid (fun w => checksum_any ⟨l.toArray⟩ w (by simp [ByteArray.size, hl]))
  have HM := Lib.hid isMartian_any
  unfold fltN at hz
  have h15 := and15 (g1 l 0) (g1_lt l 0)
  have hck := ck_lt l
  have e0 := hc_at hl (show 0 < 20 by decide)
  have e12 := hc_at hl (show 12 < 20 by decide)
  have e16 := hc_at hl (show 16 < 20 by decide)
  have HCs := Lib.hid (show (hc l).size = 20 by rw [hc_size, hl])
  have hy : g2 l 2 < 65536 := by have := g1_lt l 2; have := g1_lt l (2 + 1); unfold g2; omega
  have hb0 := g1_lt l 0
  simp only [hv] at *
  generalize ck l = c at *
  generalize g2 l 2 = y at *
  generalize g1 l 0 = b0 at *
  generalize g1 l 12 = b12 at *
  generalize g1 l 16 = b16 at *
  generalize hc l = C at *
  have HV := Lib.hid (ldV (heap_alloc_last w (.cells C 137)) HCs.out)
  go_enter Tryz.func117, Tryz.ntmps117
  by_cases h1 : b0 / 16 = 4
  case neg =>
    rw [if_pos h1] at hz
    have q1 : ((b0 : Int) / 16 != 4) = true := by simp; omega
    subst hz
    go_wp2_with fail
    go_ret
    exact ⟨rfl, below1 _ _⟩
  rw [if_neg (by omega)] at hz
  have q1 : ((b0 : Int) / 16 != 4) = false := by simp; omega
  by_cases h2 : b0 % 16 = 5
  case neg =>
    rw [if_pos h2] at hz
    have q2 : ((b0 : Int) % 16 != 5) = true := by simp; omega
    subst hz
    go_wp2_with fail
    go_ret
    exact ⟨rfl, below1 _ _⟩
  rw [if_neg (by omega)] at hz
  have q2 : ((b0 : Int) % 16 != 5) = false := by simp; omega
  go_wp2_with ((with_reducible refine wpL_load ?_ HV.out ?_); exact rfl)
  refine (HL.out _).mono ?_
  rintro e w2 ⟨rfl, hw2⟩
  have HB2 := Lib.hid (show Below w.heap.size w w2 by rw [hw2]; exact (below1 _ _).trans ((below1 _ _).mono (by simp)))
  have HK2 := Lib.hid (show w2.heap[w.heap.size]? = some (.cells C 137) by rw [hw2, Below.heap_alloc _ _ _ (by simp)]; exact heap_alloc_last w _)
  clear hw2 HL HV e0
  by_cases h3 : y < 20 ∨ n < y
  case pos =>
    rw [if_pos h3] at hz
    subst hz
    by_cases h4 : y < 20
    case' pos => have q3 : (y : Int) < 20 := by omega
    case' neg =>
      have q3 : ¬ (y : Int) < 20 := by omega
      have q4 : (n : Int) < (y : Int) := by omega
    all_goals
      go_wp2_with fail
      go_ret
      exact ⟨rfl, HB2.out⟩
  rw [if_neg h3] at hz
  have q3 : ¬ (y : Int) < 20 := by omega
  have q4 : ¬ (n : Int) < (y : Int) := by omega
  have HV := Lib.hid (ldV HK2.out HCs.out)
  go_wp2_with ((with_reducible refine wpL_load ?_ HV.out ?_); exact rfl)
  refine (HT.out _).mono ?_
  rintro e w3 ⟨rfl, hw3⟩
  have HB3 := Lib.hid (show Below w.heap.size w w3 by rw [hw3]; exact HB2.out.trans ((below1 _ _).mono HB2.out.size))
  have hlt := (Array.getElem?_eq_some_iff.1 HK2.out).1
  have hk3 : w3.heap[w.heap.size]? = some (.cells C 137) := by rw [hw3, Below.heap_alloc _ _ _ hlt]; exact HK2.out
  have d12 := cl20 hk3 e12
  have d16 := cl20 hk3 e16
  clear hw3 HT HK2 HB2 hk3 e12 e16 hlt HV
  go_wp2_with fail
  refine (HC.out _).mono ?_
  rintro e w4 ⟨rfl, rfl⟩
  by_cases h5 : c = 0
  case neg =>
    rw [if_pos h5] at hz
    subst hz
    have q5 : ((c : Int) != 0) = true := by simp; omega
    go_wp2_with fail
    go_ret
    exact ⟨rfl, HB3.out⟩
  rw [if_neg (by omega)] at hz
  subst h5
  go_wp2_with fail
  refine (HM.out _ _).mono ?_
  rintro e w5 ⟨rfl, rfl⟩
  by_cases h6 : mart b12 = true
  case pos =>
    rw [if_pos h6] at hz
    subst hz
    rw [h6]
    go_wp2_with fail
    go_ret
    exact ⟨rfl, HB3.out⟩
  rw [if_neg h6] at hz
  rw [Bool.eq_false_iff.2 h6]
  go_wp2_with fail
  refine (HM.out _ _).mono ?_
  rintro e w6 ⟨rfl, rfl⟩
  by_cases h7 : mart b16 = true
  case pos =>
    rw [if_pos h7] at hz
    subst hz
    rw [h7]
    go_wp2_with fail
    go_ret
    exact ⟨rfl, HB3.out⟩
  rw [if_neg h7] at hz
  subst hz
  rw [Bool.eq_false_iff.2 h7]
  go_wp2_with fail
  go_ret
  exact ⟨rfl, HB3.out⟩
end Go.Proofs.YtnfkgnjeamnhfaaGreat
namespace Go.Proofs.YtnfkgnjeamnhfaaGreat
open Go.RowKit

/-- A whole array is stored, in one step. -/
theorem wpL_store {P : Program} {ops : Array Oper} {Q : Exit → Act → World → Prop} {a : Act} {w w' : World} {rest : List Oper} {s u : Tmp} {t ty : TypeId} {pos : String} {after : Array Edge} {p : Addr} {v : Value} (hs : a.eval (.tmp s) = .pointer (some p)) (hu : a.eval (.tmp u) = v) (hr : (storeVar t p v).run P w = .ok () w') (h : wpList P ops Q rest (a.put none undef) w') :
    wpList P ops Q (⟨none, .store t (.tmp s) (.tmp u), ty, pos, after, none⟩ :: rest) a w :=
  wpList_plain rfl (fun K hK => by
    have e : (execOp a.eval ⟨none, .store t (.tmp s) (.tmp u), ty, pos, after, none⟩).run P w = .ok .skip w' := by
      simp [execOp, hs, hu, Instr.storeAt, Instr.sureAddr, hr, Result.andThen]
    unfold Oper.wp
    rw [e]
    exact hK _ _ h)
theorem hc_set (l : List UInt8) (k : Nat) (b : UInt8) : (hc l).setIfInBounds k (.int .u8 (b.toNat : Int)) = hc (l.set k b) := by
  simp [hc, List.map_set]
theorem hc_one (l : List UInt8) : (hc l).all (·.oneCell') = true := by
  simp [hc, Value.oneCell']
theorem stV {w : World} {b : Nat} {C : Array Value} {l : List UInt8} (h : w.heap[b]? = some (.cells C 137)) (hC : C.size = 20) (hl : l.length = 20) : (storeVar 137 ⟨b, 0, none⟩ (hv l)).run Tryz.prog w = .ok () (w.setRow b (hc l)) :=
  run_storeVar_row w b 137 137 C (hc l) h (by rw [hc_size, hl]; exact infoH) (by rw [hC, hc_size, hl]) (hc_one l)
theorem frow_set {w : World} {b k : Nat} {c : Array Value} {t : TypeId} (v : Value) (h : w.heap[b]? = some (.cells c t)) : (w.setCell ⟨b, k, none⟩ v).heap[b]? = some (.cells (c.setIfInBounds k v) t) := by
  have hlt := (Array.getElem?_eq_some_iff.1 h).1
  simp [World.setCell, Array.getElem?_modify, h]
theorem row_other {w : World} {b : Nat} {a : Addr} {o : Obj} (v : Value) (h : w.heap[b]? = some o) (hb : b ≠ a.block) : (w.setCell a v).heap[b]? = some o := by
  rw [Below.heap_setCell w a v b hb]; exact h
theorem row_below {w w' : World} {B b : Nat} {o : Obj} (hb : Below B w w') (h : w.heap[b]? = some o) (hlt : b < B) : w'.heap[b]? = some o := by
  rw [hb.block b hlt]; exact h
theorem row_row {w : World} {b g : Nat} {o : Obj} (c : Array Value) (h : w.heap[b]? = some o) (hb : b ≠ g) : (w.setRow g c).heap[b]? = some o := by
  simp [World.setRow, Array.getElem?_modify, h, Ne.symm hb]
theorem fbelow_row {B : Nat} {w w' : World} {g : Nat} (c : Array Value) (h : Below B w w') (hg : B ≤ g) : Below B w (w'.setRow g c) :=
  ⟨h.os, h.tape, h.output, by simpa [World.setRow] using h.size, fun k hk => by
    rw [← h.block k hk]
    simp [World.setRow, Array.getElem?_modify, show g ≠ k by omega]⟩
theorem froz_row {w : World} {b j : Nat} {c : Array Value} {t : TypeId} (h : w.heap[b]? = some (.cells c t)) : w.frozen? ⟨b, j, none⟩ = false := by
  simp [World.frozen?, h]
theorem sz1 (w : World) (a : Obj) : (w.alloc a).heap.size = w.heap.size + 1 := by simp
theorem al1 (w : World) (a b : Obj) : ((w.alloc a).alloc b).heap[w.heap.size]? = some a := by
  rw [Below.heap_alloc _ _ _ (by rw [sz1]; omega)]; exact heap_alloc_last w _
theorem al2 (w : World) (a b : Obj) : ((w.alloc a).alloc b).heap[w.heap.size + 1]? = some b := by
  have := heap_alloc_last (w.alloc a) b
  rw [sz1] at this; exact this
theorem al31 (w : World) (a b c : Obj) : (((w.alloc a).alloc b).alloc c).heap[w.heap.size]? = some a := by
  rw [Below.heap_alloc _ _ _ (by rw [sz1, sz1]; omega)]; exact al1 w a b
theorem al32 (w : World) (a b c : Obj) : (((w.alloc a).alloc b).alloc c).heap[w.heap.size + 1]? = some b := by
  rw [Below.heap_alloc _ _ _ (by rw [sz1, sz1]; omega)]; exact al2 w a b
theorem three_al (w : World) (a b c : Obj) : Below w.heap.size w (((w.alloc a).alloc b).alloc c) := ((below1 _ _).trans ((below1 _ _).mono (by simp))).trans ((below1 _ _).mono (by rw [sz1, sz1]; omega))
theorem results_cell1 {fn : Func} {p : Tmp} {ty : TypeId} {tmps : Array Value} {P : Program} {w : World} {a : Addr} {v : Value} (h : fn.results = #[.cell p ty]) (ha : tmps.getD p undef = .pointer (some a)) (hl : (loadVar ty a).run P w = .ok v w) : (results fn tmps).run P w = .ok v w := by
  simp only [results, h]
  simp [asAddr, hl, show tmps[p]?.getD undef = .pointer (some a) by simpa using ha]
theorem two_al (w : World) (a b : Obj) : Below w.heap.size w ((w.alloc a).alloc b) := (below1 _ _).trans ((below1 _ _).mono (by simp))
/-- A head whose checksum is left out; with its checksum. -/
def zs (l : List UInt8) : List UInt8 := (l.set 10 0).set 11 0
def sealL (l : List UInt8) : List UInt8 := ((zs l).set 10 (UInt8.ofNat (ck (zs l) / 256))).set 11 (UInt8.ofNat (ck (zs l) % 256))
theorem zs_len {l : List UInt8} : (zs l).length = l.length := by simp [zs]
theorem sealL_len {l : List UInt8} : (sealL l).length = l.length := by simp [sealL, zs]
theorem hc_zs (l : List UInt8) : ((hc l).setIfInBounds 10 (.int .u8 0)).setIfInBounds 11 (.int .u8 0) = hc (zs l) := by
  have h1 := hc_set l 10 0
  have h2 := hc_set (l.set 10 0) 11 0
  simp only [UInt8.toNat_zero, Int.ofNat_zero] at h1 h2
  rw [h1, h2]; rfl
theorem hc_seal (l : List UInt8) : ((hc (zs l)).setIfInBounds 10 (.int .u8 ((ck (zs l) : Nat) / 256 : Int))).setIfInBounds 11 (.int .u8 ((ck (zs l) : Nat) % 256 : Int)) = hc (sealL l) := by
  have hk := ck_lt (zs l)
  have h1 := hc_set (zs l) 10 (UInt8.ofNat (ck (zs l) / 256))
  have h2 := hc_set ((zs l).set 10 (UInt8.ofNat (ck (zs l) / 256))) 11 (UInt8.ofNat (ck (zs l) % 256))
  rw [show ((UInt8.ofNat (ck (zs l) / 256)).toNat : Int) = ((ck (zs l) : Nat) / 256 : Int) by simp; omega] at h1
  rw [show ((UInt8.ofNat (ck (zs l) % 256)).toNat : Int) = ((ck (zs l) : Nat) % 256 : Int) by simp] at h2
  rw [h1, h2]; rfl
set_option maxRecDepth 20000 in
set_option maxHeartbeats 2000000 in
theorem sealed_any (l : List UInt8) (hl : l.length = 20) (w : World) : Calls Tryz.prog 124 #[hv l] w fun e w' => e = .returned (hv (sealL l)) ∧ Below w.heap.size w w' := by
  have HCs := Lib.hid (show (hc l).size = 20 by rw [hc_size, hl])
  have HT := Lib.hid (fun w => text_any (zs l) (zs_len.trans hl) w)
  have HC := Lib.hid (fun w => checksum_any ⟨(zs l).toArray⟩ w (by simp [ByteArray.size, zs_len, hl]))
  have hc2 := hc_zs l
  have HZ := Lib.hid (show (hc (zs l)).size = 20 by rw [hc_size, zs_len, hl])
  have HV := Lib.hid (show (loadVar 137 ⟨w.heap.size, 0, none⟩).run Tryz.prog ((w.alloc (.cells (hc (zs l)) 137)).alloc (.cells #[.int .u8 0, .int .u8 0, .int .u8 0, .int .u8 0, .int .u8 0, .int .u8 0, .int .u8 0, .int .u8 0, .int .u8 0, .int .u8 0, .int .u8 0, .int .u8 0, .int .u8 0, .int .u8 0, .int .u8 0, .int .u8 0, .int .u8 0, .int .u8 0, .int .u8 0, .int .u8 0] 137)) = .ok (.agg (hc (zs l))) _ from
    ldV (by rw [Below.heap_alloc _ _ _ (by simp)]; exact heap_alloc_last w _) HZ.out)
  have hC : (hc l).size = 20 := HCs.out
  have hck := ck_lt (zs l)
  have hsl := hc_seal l
  have HSl := Lib.hid (show (hc (sealL l)).size = 20 by rw [hc_size, sealL_len, hl])
  simp only [hv] at *
  go_enter Tryz.func124, Tryz.ntmps124
  go_wp2_with ((with_reducible refine wpL_load ?_ HV.out ?_); exact rfl)
  refine (HT.out _).mono ?_
  rintro e w3 ⟨rfl, hw3⟩
  have HB3 := Lib.hid (show Below w.heap.size w w3 by rw [hw3]; exact three_al _ _ _ _)
  have HK3 := Lib.hid (show w3.heap[w.heap.size]? = some (.cells (hc (zs l)) 137) by rw [hw3]; exact al31 _ _ _ _)
  obtain ⟨z, HZ3, hz⟩ : ∃ z : Array Value, Hid (w3.heap[w.heap.size + 1]? = some (.cells z 137)) ∧ z.size = 20 := ⟨#[.int .u8 0, .int .u8 0, .int .u8 0, .int .u8 0, .int .u8 0, .int .u8 0, .int .u8 0, .int .u8 0, .int .u8 0, .int .u8 0, .int .u8 0, .int .u8 0, .int .u8 0, .int .u8 0, .int .u8 0, .int .u8 0, .int .u8 0, .int .u8 0, .int .u8 0, .int .u8 0], (by
    rw [hw3]; exact al32 _ _ _ _), rfl⟩
  clear hw3 HV HT hc2 hC
  go_wp2_with fail
  refine (HC.out _).mono ?_
  rintro e w4 ⟨rfl, rfl⟩
  have k10 := cl20 HK3.out (Array.getElem?_eq_getElem (show 10 < (hc (zs l)).size by rw [HZ.out]; decide))
  have k11 := cl20 HK3.out (Array.getElem?_eq_getElem (show 11 < (hc (zs l)).size by rw [HZ.out]; decide))
  have f10 := froz_row (j := 10) HK3.out
  have f11 := froz_row (j := 11) HK3.out
  generalize ck (zs l) = c at *
  have hb1 : IntKind.u8.wrap ((c : Int) / 256) = (c : Int) / 256 := by simp [IntKind.wrap, IntKind.bits, IntKind.signed]; omega
  have hb2 : IntKind.u8.wrap (c : Int) = (c : Int) % 256 := by simp [IntKind.wrap, IntKind.bits, IntKind.signed]
  clear HC
  obtain ⟨W5, hW5⟩ : ∃ W5, W5 = (w4.setCell ⟨w.heap.size, 10, none⟩ (.int .u8 ((c : Int) / 256))).setCell ⟨w.heap.size, 11, none⟩ (.int .u8 ((c : Int) % 256)) := ⟨_, rfl⟩
  have HV := Lib.hid (ldV (C := hc (sealL l)) (by rw [← hsl]; exact frow_set (Value.int .u8 ((c : Int) % 256)) (frow_set (Value.int .u8 ((c : Int) / 256)) HK3.out)) HSl.out)
  have HS := Lib.hid (stV (l := sealL l) (row_other (a := ⟨w.heap.size, 11, none⟩) (Value.int .u8 ((c : Int) % 256)) (row_other (a := ⟨w.heap.size, 10, none⟩) (Value.int .u8 ((c : Int) / 256)) HZ3.out (by show _ ≠ w.heap.size; omega)) (by show _ ≠ w.heap.size; omega)) hz (sealL_len.trans hl))
  have HB5 := Lib.hid (show Below w.heap.size w W5 by rw [hW5]; exact (HB3.out.setCell (Nat.le_refl _) _).setCell (Nat.le_refl _) _)
  have HZ5 := Lib.hid (show W5.heap[w.heap.size + 1]? = some (.cells z 137) by
    rw [hW5]; exact row_other _ (row_other _ HZ3.out (by show _ ≠ w.heap.size; omega)) (by show _ ≠ w.heap.size; omega))
  simp only [hv] at HS
  go_wp2_with (first | ((with_reducible refine wpL_load ?_ HV.out ?_); exact rfl) | ((with_reducible refine wpL_store ?_ ?_ HS.out ?_); exact rfl; exact rfl))
  rw [← hW5]
  refine bodyPost_ret (v := .agg (hc (sealL l))) ?_ rfl ⟨rfl, fbelow_row _ HB5.out (Nat.le_succ _)⟩
  exact results_cell1 rfl rfl (ldV (setRow_heap _ _ _ _ _ _ HZ5.out) HSl.out)
end Go.Proofs.YtnfkgnjeamnhfaaGreat
namespace Go.Proofs.YtnfkgnjeamnhfaaGreat
open Go.RowKit

/-- A packet in memory: its head, its body. -/
def pc (l : List UInt8) (s : ByteArray) : Array Value := (hc l).push (.string s)
def pv (l : List UInt8) (s : ByteArray) : Value := .agg (pc l s)
theorem pc_size {l : List UInt8} {s : ByteArray} (hl : l.length = 20) : (pc l s).size = 21 := by simp [pc, hc_size, hl]
theorem pc_at {l : List UInt8} {s : ByteArray} (hl : l.length = 20) {j : Nat} (hj : j < 20) : (pc l s)[j]? = some (.int .u8 (g1 l j : Nat)) := by
  unfold pc
  rw [Array.getElem?_push_lt (by rw [hc_size, hl]; exact hj), ← Array.getElem?_eq_getElem]
  exact hc_at hl hj
theorem pc_body {l : List UInt8} {s : ByteArray} (hl : l.length = 20) : (pc l s)[20]? = some (.string s) := by
  unfold pc
  have : (hc l).size = 20 := by rw [hc_size, hl]
  rw [← this]; simp
theorem ldP {w : World} {b : Nat} {l : List UInt8} {s : ByteArray} (hl : l.length = 20) (h : w.heap[b]? = some (.cells (pc l s) 139)) : (loadVar 137 ⟨b, 0, none⟩).run Tryz.prog w = .ok (hv l) w := by
  have := run_loadVar_mid (P := Tryz.prog) w b 0 137 (hc l).toList _ (fun j v hv => by
    rw [Nat.zero_add]
    have hj : j < 20 := by have := (List.getElem?_eq_some_iff.1 hv).1; simpa [hc_size, hl] using this
    have e := hc_at hl hj
    rw [cl20 h (pc_at hl hj)]
    rw [Array.getElem?_toList] at hv
    rw [← hv, e]) Tryz.underlying137 rfl (by rw [Array.length_toList, hc_size, hl]; exact infoH)
  simpa [hv] using this
theorem infoP : (Tryz.prog.info? 139).map (·.size) = some 21 := by kernel_rfl
theorem ldW {w : World} {b : Nat} {l : List UInt8} {s : ByteArray} (hl : l.length = 20) (h : w.heap[b]? = some (.cells (pc l s) 139)) : (loadVar 139 ⟨b, 0, none⟩).run Tryz.prog w = .ok (pv l s) w :=
  run_loadVar_row _ _ 139 139 _ (0, 0) _ h Tryz.underlying139 rfl (by rw [pc_size hl]; exact infoP)
/-- May a packet be answered? b: its body. -/
def mayB (l : List UInt8) (b : List UInt8) : Bool := if g2 l 6 % 8192 = 0 then (if g1 l 9 ≠ 1 ∨ b.length = 0 then true else decide (g1 b 0 = 0 ∨ g1 b 0 = 8)) else false
theorem canGoOn_any (l : List UInt8) (hl : l.length = 20) (s : ByteArray) (w : World) : Calls Tryz.prog 81 #[pv l s] w fun e w' => e = .returned (.bool (decide (1 < g1 l 8))) ∧ Below w.heap.size w w' := by
  have e8 := pc_at (s := s) hl (show 8 < 20 by decide)
  unfold pv
  generalize pc l s = C at *
  generalize g1 l 8 = x at *
  go_enter Tryz.func81, Tryz.ntmps81
  go_wp2
  go_ret
  exact ⟨fret_bool (by simp; omega), below1 _ _⟩
theorem messageOf_any (r : Int) (w : World) : Calls Tryz.prog 141 #[.int .i64 r] w fun e w' => e = .returned (.int .u8 (if r = 8 then 11 else 3)) ∧ w' = w := by
  go_enter Tryz.func141, Tryz.ntmps141
  by_cases h : r = 8
  · subst h
    go_wp2
    go_ret
    exact ⟨rfl, rfl⟩
  · rw [if_neg h]
    have q : (r == 8) = false := ine_beq h
    go_wp2
    go_ret
    exact ⟨rfl, rfl⟩
theorem flow_any (l : List UInt8) (hl : l.length = 20) (s : ByteArray) (w : World) : Calls Tryz.prog 78 #[pv l s] w fun e w' => e = .returned (.int .u64 (bits .xor .u64 (bits .xor .u64 ((g4 l 12 : Nat) * 4294967296 : Int) (g4 l 16 : Nat)) ((g1 l 9 : Nat) * 72057594037927936 : Int))) ∧ Below w.heap.size w w' := by
  have e9 := pc_at (s := s) hl (show 9 < 20 by decide)
  have HV := Lib.hid (ldP hl (heap_alloc_last w (.cells (pc l s) 139)))
  have HS := Lib.hid (fun w => source_any l hl w)
  have HT := Lib.hid (fun w => target_any l hl w)
  have HL := Lib.hid (fun (w : World) (b : Nat) (h : w.heap[b]? = some (Obj.cells (pc l s) 139)) => ldP hl h)
  have h9 := g1_lt l 9
  have h12 : g4 l 12 < 4294967296 := by have := g1_lt l 12; have := g1_lt l (12 + 1); have := g1_lt l (12 + 2); have := g1_lt l (12 + 3); unfold g4; omega
  unfold pv
  generalize pc l s = C at *
  generalize g1 l 9 = x at *
  generalize g4 l 12 = y at *
  generalize g4 l 16 = z at *
  generalize hv l = H at *
  go_enter Tryz.func78, Tryz.ntmps78
  go_wp2_with ((with_reducible refine wpL_load ?_ HV.out ?_); exact rfl)
  refine (HS.out _).mono ?_
  rintro e w2 ⟨rfl, hb2⟩
  have HK2 := Lib.hid (row_below hb2 (heap_alloc_last w _) (by rw [sz1]; omega))
  have HB2 := Lib.hid ((below1 w _).trans (hb2.mono (by rw [sz1]; omega)))
  have HV2 := Lib.hid (HL.out _ _ HK2.out)
  clear hb2 HV HS
  go_wp2_with ((with_reducible refine wpL_load ?_ HV2.out ?_); exact rfl)
  refine (HT.out _).mono ?_
  rintro e w3 ⟨rfl, hb3⟩
  have d9 := cl20 (row_below hb3 HK2.out ((Array.getElem?_eq_some_iff.1 HK2.out).1)) e9
  have HB3 := Lib.hid (HB2.out.trans (hb3.mono HB2.out.size))
  clear hb3 HV2 HT HL HK2 e9
  go_wp2
  go_ret
  exact ⟨rfl, HB3.out⟩
theorem infoA : (Tryz.prog.info? 31).map (·.size) = some 3 := by kernel_rfl
theorem ptarget_any (l : List UInt8) (hl : l.length = 20) (s : ByteArray) (w : World) : Calls Tryz.prog 77 #[pv l s] w fun e w' => e = .returned (.agg #[.int .i64 4, .int .u64 0, .int .u64 (g4 l 16 : Nat)]) ∧ Below w.heap.size w w' := by
  have HV := Lib.hid (fun o => ldP hl (al1 w (.cells (pc l s) 139) o))
  have HT := Lib.hid (fun w => target_any l hl w)
  unfold pv
  generalize pc l s = C at *
  generalize g4 l 16 = z at *
  generalize hv l = H at *
  go_enter Tryz.func77, Tryz.ntmps77
  go_wp2_with ((with_reducible refine wpL_load ?_ (HV.out _) ?_); exact rfl)
  refine (HT.out _).mono ?_
  rintro e w2 ⟨rfl, hb2⟩
  have hk2 := row_below hb2 (al2 w _ _) (by rw [sz1, sz1]; omega)
  have k0 := cl20 hk2 (j := 0) rfl
  have k1 := cl20 hk2 (j := 1) rfl
  have k2 := cl20 hk2 (j := 2) rfl
  have f0 := froz_row (j := 0) hk2
  have f1 := froz_row (j := 1) hk2
  have f2 := froz_row (j := 2) hk2
  have HB2 := Lib.hid ((two_al w _ _).trans (hb2.mono (by rw [sz1, sz1]; omega)))
  have HK2 := Lib.hid hk2
  clear hb2 HV HT hk2
  go_wp2_with fail
  refine bodyPost_ret (v := .agg #[.int .i64 4, .int .u64 0, .int .u64 (z : Nat)]) (results_cell1 rfl rfl ?_) rfl ⟨rfl, ((HB2.out.setCell (Nat.le_succ _) _).setCell (Nat.le_succ _) _).setCell (Nat.le_succ _) _⟩
  exact run_loadVar_row _ _ 31 31 _ (0, 0) _ (frow_set _ (frow_set _ (frow_set _ HK2.out))) Tryz.underlying31 rfl infoA
/-- The trick for a region that draws: the type's number and the array's length are letters. -/
theorem let_ty : ∃ (t : TypeId) (n : Nat), t = 137 ∧ n = 20 ∧ (∀ w, (isAgg t).run Tryz.prog w = .ok true w) ∧ (∀ w, (sizeOf t).run Tryz.prog w = .ok n w) :=
  ⟨137, 20, rfl, rfl, fun w => by simp, fun w => by simp⟩
theorem ldc {w : World} {b : Nat} {l : List UInt8} {s : ByteArray} (hl : l.length = 20) (h : w.heap[b]? = some (.cells (pc l s) 139)) : (loadCellsFrom ⟨b, 0, none⟩ 0 20 #[]).run Tryz.prog w = .ok (hc l) w := by
  have := run_loadCells_list (P := Tryz.prog) w ⟨b, 0, none⟩ (hc l).toList (fun j v hv => by
    rw [Lib.add_plain, Nat.zero_add]
    have hj : j < 20 := by have := (List.getElem?_eq_some_iff.1 hv).1; simpa [hc_size, hl] using this
    have e := hc_at hl hj
    rw [cl20 h (pc_at hl hj)]
    rw [Array.getElem?_toList] at hv
    rw [← hv, e])
  simpa [loadCells, hc_size, hl] using this
theorem ptext_any (l : List UInt8) (hl : l.length = 20) (s : ByteArray) (hs : s.size ≤ 1000000) (w : World) : Calls Tryz.prog 80 #[pv l s] w fun e w' => e = .returned (.string (⟨l.toArray⟩ ++ s)) ∧ Below w.heap.size w w' := by
  obtain ⟨t, n, ht, hn, hA, hS⟩ := let_ty
  have hq : ¬ 9223372036854775807 < 20 + s.size := by omega
  have HT := Lib.hid (fun w => text_any l hl w)
  have e20 := pc_body (s := s) hl
  have hld : (loadCellsFrom ⟨w.heap.size, 0, none⟩ 0 n #[]).run Tryz.prog (w.alloc (.cells (pc l s) 139)).drew = .ok (hc l) (w.alloc (.cells (pc l s) 139)).drew := by
    rw [hn]; exact ldc hl (heap_alloc_last w _)
  unfold pv
  unfold hv at *
  generalize pc l s = C at *
  generalize hc l = H at *
  go_enter Tryz.func80, Tryz.ntmps80
  go_wp2_with fail
  rw [show (Op.load 137 (.tmp 3)) = Op.load t (.tmp 3) by rw [ht]]
  clear ht hn
  go_region_with (go_at_call 123; refine (HT.out _).mono ?_; rintro e w2 ⟨rfl, rfl⟩)
  all_goals
    go_wp2_with fail
    go_ret
    exact ⟨rfl, (two_al w _ _).drew⟩
theorem g1_b {s : ByteArray} {i : Nat} (h : i < s.size) : g1 s.data.toList i = s[i].toNat := by
  unfold g1
  rw [List.getD_eq_getElem?_getD, bget h]; rfl
theorem may_any (l : List UInt8) (hl : l.length = 20) (s : ByteArray) (hs : s.size ≤ 1000000) (w : World) : Calls Tryz.prog 121 #[pv l s] w fun e w' => e = .returned (.bool (mayB l s.data.toList)) ∧ Below w.heap.size w w' := by
  have HV := Lib.hid (ldP hl (heap_alloc_last w (.cells (pc l s) 139)))
  have HP := Lib.hid (fun w => part_any l hl w)
  have e9 := pc_at (s := s) hl (show 9 < 20 by decide)
  have e20 := pc_body (s := s) hl
  have h9 := g1_lt l 9
  obtain ⟨r, hr⟩ : ∃ r, mayB l s.data.toList = r := ⟨_, rfl⟩
  rw [hr]
  unfold mayB at hr
  unfold pv
  generalize pc l s = C at *
  generalize g1 l 9 = x at *
  generalize g2 l 6 % 8192 = y at *
  generalize hv l = H at *
  go_enter Tryz.func121, Tryz.ntmps121
  go_wp2_with ((with_reducible refine wpL_load ?_ HV.out ?_); exact rfl)
  refine (HP.out _).mono ?_
  rintro e w2 ⟨rfl, hb2⟩
  have hk2 := row_below hb2 (heap_alloc_last w _) (by rw [sz1]; omega)
  have d9 := cl20 hk2 e9
  have d20 := cl20 hk2 e20
  have HB2 := Lib.hid ((below1 w _).trans (hb2.mono (by rw [sz1]; omega)))
  clear hb2 hk2 HV HP e9 e20
  by_cases h1 : y = 0
  case neg =>
    rw [if_neg h1] at hr
    subst hr
    have q1 : ((y : Int) != 0) = true := by simp; omega
    go_wp2_with fail
    go_ret
    exact ⟨rfl, HB2.out⟩
  subst h1
  rw [if_pos rfl] at hr
  by_cases h2 : x = 1
  case neg =>
    rw [if_pos (.inl h2)] at hr
    subst hr
    have q1 : ((x : Int) != 1) = true := by simp; omega
    go_wp2_with fail
    go_ret
    exact ⟨rfl, HB2.out⟩
  subst h2
  by_cases h3 : s.size = 0
  case pos =>
    rw [if_pos (.inr (by simpa using h3))] at hr
    subst hr
    go_wp2_with fail
    go_ret
    exact ⟨rfl, HB2.out⟩
  rw [if_neg (by rw [blen]; omega), g1_b (show 0 < s.size by omega)] at hr
  subst hr
  have q3 : 0 < s.size := by omega
  have q4 : ((s.size : Int) == 0) = false := ine_beq (by omega)
  go_wp2_with fail
  all_goals
    go_ret
    exact ⟨fret_bool (by rw [Bool.eq_iff_iff]; simp; omega), HB2.out⟩
end Go.Proofs.YtnfkgnjeamnhfaaGreat
namespace Go.Proofs.YtnfkgnjeamnhfaaGreat
open Go.RowKit

theorem bapp (a b : ByteArray) : (a ++ b).data.toList = a.data.toList ++ b.data.toList := by simp
theorem quote_any (l : List UInt8) (hl : l.length = 20) (s : ByteArray) (hs : s.size ≤ 1000000) (w : World) : Calls Tryz.prog 142 #[pv l s] w fun e w' => ∃ q : ByteArray, e = .returned (.string q) ∧ q.data.toList = l ++ s.data.toList.take 8 ∧ Below w.heap.size w w' := by
  have HV := Lib.hid (ldP hl (heap_alloc_last w (.cells (pc l s) 139)))
  have HT := Lib.hid (fun w => text_any l hl w)
  have e20 := pc_body (s := s) hl
  have hq : ¬ 9223372036854775807 < 20 + s.size := by omega
  unfold pv
  generalize pc l s = C at *
  generalize hv l = H at *
  go_enter Tryz.func142, Tryz.ntmps142
  by_cases h : 8 < s.size
  · have q1 : (8 : Int) < (s.size : Int) := by omega
    go_wp2_with ((with_reducible refine wpL_load ?_ HV.out ?_); exact rfl)
    refine (HT.out _).mono ?_
    rintro e w2 ⟨rfl, rfl⟩
    go_wp2_with fail
    go_ret
    exact ⟨_, rfl, by rw [bapp]; simp, two_al _ _ _⟩
  · have q1 : ¬ (8 : Int) < (s.size : Int) := by omega
    go_wp2_with ((with_reducible refine wpL_load ?_ HV.out ?_); exact rfl)
    refine (HT.out _).mono ?_
    rintro e w2 ⟨rfl, rfl⟩
    go_wp2_with fail
    go_ret
    exact ⟨_, rfl, by rw [bapp, List.take_of_length_le (by rw [blen]; omega)], two_al _ _ _⟩
/-- Two bytes as a text. -/
theorem conv2 {w : World} {g : Nat} {a b : UInt8} {x y : Int} (hx : x = (a.toNat : Int)) (hy : y = (b.toNat : Int)) (h : w.heap[g]? = some (.cells #[.int .u8 x, .int .u8 y] 5)) : (convert 178 9 (.slice (some ⟨g, 0, none⟩) 2 2)).run Tryz.prog w = .ok (.string ⟨#[a, b]⟩) w := by
  subst hx hy
  refine run_convert_bytes_back (P := Tryz.prog) _ 178 9 5 ⟨g, 0, none⟩ 2 [a, b] Tryz.underlying178 Tryz.underlying5 Tryz.underlying9 (fun j hj => ?_)
  rw [Lib.add_plain, Nat.zero_add]
  match j, hj with
  | 0, _ => exact cl20 h rfl
  | 1, _ => exact cl20 h rfl
/-- The kind of an answer. -/
def kindB (r : Int) : UInt8 := if r = 8 then 11 else 3
theorem kindB_eq (r : Int) : (if r = 8 then (11 : Int) else 3) = ((kindB r).toNat : Int) := by unfold kindB; split <;> rfl
/-- What stands behind the head of an answer. -/
def noteZ (k : UInt8) (q : List UInt8) : List UInt8 := [k, 0, 0, 0, 0, 0, 0, 0] ++ q
def noteL (k : UInt8) (q : List UInt8) : List UInt8 := [k, 0, UInt8.ofNat (ck (noteZ k q) / 256), UInt8.ofNat (ck (noteZ k q) % 256), 0, 0, 0, 0] ++ q
theorem byte_hi {c : Nat} (h : c < 65536) : (c : Int) / 256 = ((UInt8.ofNat (c / 256)).toNat : Int) := by simp; omega
theorem byte_lo (c : Nat) : (c : Int) % 256 = ((UInt8.ofNat (c % 256)).toNat : Int) := by simp
theorem wrap_hi {c : Nat} (h : c < 65536) : IntKind.u8.wrap ((c : Int) / 256) = (c : Int) / 256 := by simp [IntKind.wrap, IntKind.bits, IntKind.signed]; omega
theorem wrap_lo (c : Nat) : IntKind.u8.wrap (c : Int) = (c : Int) % 256 := by simp [IntKind.wrap, IntKind.bits, IntKind.signed]
set_option maxRecDepth 20000 in
theorem message_any (l : List UInt8) (hl : l.length = 20) (s : ByteArray) (hs : s.size ≤ 1000000) (r : Int) (w : World) : Calls Tryz.prog 139 #[pv l s, .int .i64 r] w fun e w' => ∃ q : ByteArray, e = .returned (.string q) ∧ q.data.toList = noteL (kindB r) (l ++ s.data.toList.take 8) ∧ Below w.heap.size w w' := by
  have HV := Lib.hid (fun o => ldW hl (al1 w (.cells (pc l s) 139) o))
  have HM := Lib.hid (fun w => messageOf_any r w)
  have HQ := Lib.hid (fun w => quote_any l hl s hs w)
  have hC := pc_size (s := s) hl
  have hcv0 : ∀ C : Array Value, (convert 178 9 (.slice (some ⟨w.heap.size + 1, 0, none⟩) 2 2)).run Tryz.prog ((w.alloc (.cells C 139)).alloc (.cells #[.int .u8 ((kindB r).toNat : Int), .int .u8 0] 5)) = .ok (.string ⟨#[kindB r, 0]⟩) ((w.alloc (.cells C 139)).alloc (.cells #[.int .u8 ((kindB r).toNat : Int), .int .u8 0] 5)) := fun C => conv2 (b := 0) rfl rfl (al2 w _ _)
  rw [kindB_eq] at HM
  generalize hk : kindB r = k at *
  clear hk
  have HZ := Lib.hid (fun (a : ByteArray) (w : World) (h : a.size ≤ 100000) => checksum_any a w h)
  have HL := Lib.hid (show (l ++ s.data.toList.take 8).length ≤ 28 by rw [List.length_append, List.length_take, hl]; omega)
  have hcv := hcv0 (pc l s)
  clear hcv0
  unfold pv at *
  generalize pc l s = C at *
  generalize l ++ s.data.toList.take 8 = ql at *
  go_enter Tryz.func139, Tryz.ntmps139
  go_wp2_with fail
  refine (HM.out _).mono ?_
  rintro e w2 ⟨rfl, rfl⟩
  go_wp2_with ((with_reducible refine wpL_load ?_ (HV.out _) ?_); exact rfl)
  refine (HQ.out _).mono ?_
  rintro e w3 ⟨q, rfl, hq, hb3⟩
  have hqs : q.size ≤ 28 := by rw [← blen, hq]; exact HL.out
  have HB3 := Lib.hid ((two_al w _ _).trans (hb3.mono (by rw [sz1, sz1]; omega)))
  have Hq := Lib.hid hq
  clear hb3 hq HV HM HQ hcv HL
  have hq1 : ¬ 9223372036854775807 < 4 + q.size := by omega
  go_wp2_with fail
  have hzl : (((⟨#[k, 0]⟩ : ByteArray) ++ ⟨#[0, 0]⟩) ++ ((⟨#[0, 0, 0, 0]⟩ : ByteArray) ++ q)).data.toList = noteZ k ql := by
    rw [bapp, bapp, bapp, Hq.out]; rfl
  have hzs : (((⟨#[k, 0]⟩ : ByteArray) ++ ⟨#[0, 0]⟩) ++ ((⟨#[0, 0, 0, 0]⟩ : ByteArray) ++ q)).size ≤ 100000 := by
    rw [← blen, hzl, noteZ, List.length_append, ← Hq.out, blen]
    simp; omega
  refine (HZ.out _ _ hzs).mono ?_
  rintro e w4 ⟨rfl, rfl⟩
  rw [hzl]
  obtain ⟨c, hc⟩ : ∃ c, ck (noteZ k ql) = c := ⟨_, rfl⟩
  have hck : c < 65536 := by rw [← hc]; exact ck_lt _
  rw [hc]
  have Hc := Lib.hid hc
  have hb1 := wrap_hi hck
  have hb2 := wrap_lo c
  have hcv := conv2 (byte_hi hck) (byte_lo c) (heap_alloc_last w4 (.cells #[.int .u8 ((c : Int) / 256), .int .u8 ((c : Int) % 256)] 5))
  generalize hx : UInt8.ofNat (c / 256) = x at *
  generalize hy : UInt8.ofNat (c % 256) = y at *
  have Hx := Lib.hid hx
  have Hy := Lib.hid hy
  clear hc hzl hzs HZ hx hy
  go_wp2_with fail
  go_ret
  refine ⟨_, rfl, ?_, HB3.out.trans ((below1 _ _).mono HB3.out.size)⟩
  rw [bapp, bapp, bapp, Hq.out]
  unfold noteL
  rw [Hc.out, Hx.out, Hy.out]
  rfl
end Go.Proofs.YtnfkgnjeamnhfaaGreat
namespace Go.Proofs.YtnfkgnjeamnhfaaGreat
open Go.RowKit

/-- A head whose life is less by one. -/
def lessL (l : List UInt8) : List UInt8 := l.set 8 (UInt8.ofNat (g1 l 8 - 1))
theorem lessL_len {l : List UInt8} : (lessL l).length = l.length := by simp [lessL]
theorem hc_less {l : List UInt8} (h : 1 < g1 l 8) : (hc l).setIfInBounds 8 (.int .u8 ((g1 l 8 : Nat) - 1 : Int)) = hc (lessL l) := by
  have h1 := hc_set l 8 (UInt8.ofNat (g1 l 8 - 1))
  have h2 := g1_lt l 8
  rw [show ((UInt8.ofNat (g1 l 8 - 1)).toNat : Int) = ((g1 l 8 : Nat) - 1 : Int) by simp; omega] at h1
  exact h1
set_option maxRecDepth 20000 in
set_option maxHeartbeats 1000000 in
theorem older_any (l : List UInt8) (hl : l.length = 20) (h1 : 1 < g1 l 8) (s : ByteArray) (hs : s.size ≤ 1000000) (w : World) : Calls Tryz.prog 82 #[pv l s] w fun e w' => e = .returned (.string (⟨(sealL (lessL l)).toArray⟩ ++ s)) ∧ Below w.heap.size w w' := by
  obtain ⟨t, n, ht, hn, hA, hS⟩ := let_ty
  have hq : ¬ 9223372036854775807 < 20 + s.size := by omega
  have hl1 : (lessL l).length = 20 := lessL_len.trans hl
  have hl2 : (sealL (lessL l)).length = 20 := sealL_len.trans hl1
  have HV := Lib.hid (ldP hl (heap_alloc_last w (.cells (pc l s) 139)))
  have HS := Lib.hid (run_storeVar_new (P := Tryz.prog) (w.alloc (.cells (pc l s) 139)) 137 #[.int .u8 0, .int .u8 0, .int .u8 0, .int .u8 0, .int .u8 0, .int .u8 0, .int .u8 0, .int .u8 0, .int .u8 0, .int .u8 0, .int .u8 0, .int .u8 0, .int .u8 0, .int .u8 0, .int .u8 0, .int .u8 0, .int .u8 0, .int .u8 0, .int .u8 0, .int .u8 0] (hc l) (by rw [hc_size, hl]; exact infoH) (by rw [hc_size, hl]; rfl) (hc_one l))
  have HV2 := Lib.hid (ldV (al2 w (.cells (pc l s) 139) (.cells (hc (lessL l)) 137)) (by rw [hc_size, hl1]))
  have HX := Lib.hid (fun w => sealed_any (lessL l) hl1 w)
  have HT := Lib.hid (fun w => text_any (sealL (lessL l)) hl2 w)
  have hC2 := hc_less h1
  have e8 := hc_at hl (show 8 < 20 by decide)
  have hsz : (hc l).size = 20 := by rw [hc_size, hl]
  have e20 := pc_body (s := s) hl
  have HStV := Lib.hid (fun (w : World) (b : Nat) (C : Array Value) (h : w.heap[b]? = some (Obj.cells C 137)) (hC : C.size = 20) => stV (l := sealL (lessL l)) h hC hl2)
  have HLd := Lib.hid (show ∀ (w : World) (b : Nat), w.heap[b]? = some (Obj.cells (hc (sealL (lessL l))) 137) → (loadCellsFrom ⟨b, 0, none⟩ 0 n #[]).run Tryz.prog w = .ok (hc (sealL (lessL l))) w from fun w b h => by rw [hn]; exact ld20 h (by rw [hc_size, hl2]))
  have hsz1 : (hc (lessL l)).size = 20 := by rw [hc_size, hl1]
  have hw8 : IntKind.u8.wrap ((g1 l 8 : Nat) - 1 : Int) = ((g1 l 8 : Nat) - 1 : Int) := by have := g1_lt l 8; simp [IntKind.wrap, IntKind.bits, IntKind.signed]; omega
  have HH1 := Lib.hid hsz1
  rw [sz1] at HS
  unfold hv at *
  unfold pv
  generalize pc l s = C at *
  generalize g1 l 8 = x at *
  generalize hc (lessL l) = C1 at *
  generalize sealL (lessL l) = l2 at *
  generalize hc l = C0 at *
  generalize hc l2 = C2 at *
  have a8 := at_of e8 (by omega)
  clear hl1 hsz1 e8
  go_enter Tryz.func82, Tryz.ntmps82
  go_wp2_with (first | ((with_reducible refine wpL_load ?_ HV.out ?_); exact rfl) | ((with_reducible refine wpL_store ?_ ?_ HS.out ?_); exact rfl; exact rfl) | ((with_reducible refine wpL_load ?_ HV2.out ?_); exact rfl))
  refine (HX.out _).mono ?_
  rintro e w3 ⟨rfl, hb3⟩
  have HB3 := Lib.hid ((two_al w _ _).trans (hb3.mono (by rw [sz1, sz1]; omega)))
  have hk0 := row_below hb3 (al1 w _ _) (by rw [sz1, sz1]; omega)
  have hk1 := row_below hb3 (al2 w _ _) (by rw [sz1, sz1]; omega)
  have HS3 := Lib.hid (HStV.out w3 _ _ hk1 HH1.out)
  obtain ⟨w4, hw4⟩ : ∃ w4, w4 = w3.setRow (w.heap.size + 1) C2 := ⟨_, rfl⟩
  have HB4 := Lib.hid (show Below w.heap.size w w4 by rw [hw4]; exact fbelow_row _ HB3.out (Nat.le_succ _))
  have hk4 : w4.heap[w.heap.size + 1]? = some (.cells C2 137) := by rw [hw4]; exact setRow_heap _ _ _ _ _ _ hk1
  have hk5 : w4.heap[w.heap.size]? = some (.cells C 139) := by rw [hw4]; exact row_row _ hk0 (by omega)
  have HK5 := Lib.hid hk5
  have d20 := cl20 hk5 e20
  have hld := HLd.out w4.drew _ hk4
  rw [← hw4] at HS3
  clear hb3 hk0 hk1 hw4 hk4 hk5 HStV HLd HX HV HS HV2 hC2 a8 hsz
  go_wp2_with ((with_reducible refine wpL_store ?_ ?_ HS3.out ?_); exact rfl; exact rfl)
  rw [show (Op.load 137 (.tmp 3)) = Op.load t (.tmp 3) by rw [ht]]
  clear ht hn
  go_region_with (go_at_call 123; refine (HT.out _).mono ?_; rintro e w5 ⟨rfl, hw5⟩; have HB5 := Lib.hid (show Below w.heap.size w w5 by rw [hw5]; exact (HB4.out.drew).trans ((below1 _ _).mono HB4.out.size)); have d5 : w5.cell? ⟨w.heap.size, 20, none⟩ = some (.string s) := (by rw [hw5]; exact cl20 (row_below (below1 w4.drew _) HK5.out ((Array.getElem?_eq_some_iff.1 HK5.out).1)) e20); clear hw5)
  all_goals
    go_wp2_with fail
    go_ret
    exact ⟨rfl, HB5.out⟩
end Go.Proofs.YtnfkgnjeamnhfaaGreat
namespace Go.Proofs.YtnfkgnjeamnhfaaGreat
open Go.RowKit

/-- The head of an answer to l from own, n bytes behind it, without its checksum. -/
def ansZ (l : List UInt8) (own n : Nat) : List UInt8 := [69, 0, UInt8.ofNat ((20 + n) / 256), UInt8.ofNat ((20 + n) % 256), 0, 0, 0, 0, 64, 1, 0, 0, UInt8.ofNat (own / 16777216), UInt8.ofNat (own / 65536 % 256), UInt8.ofNat (own / 256 % 256), UInt8.ofNat (own % 256), l.getD 12 0, l.getD 13 0, l.getD 14 0, l.getD 15 0]
theorem ansZ_eq (l : List UInt8) {own n : Nat} (ho : own < 4294967296) (hn : n ≤ 36) : (#[.int .u8 69, .int .u8 0, .int .u8 ((20 + (n : Int)) / 256), .int .u8 (20 + (n : Int)), .int .u8 0, .int .u8 0, .int .u8 0, .int .u8 0, .int .u8 64, .int .u8 1, .int .u8 0, .int .u8 0, .int .u8 ((own : Int) / 16777216), .int .u8 ((own : Int) / 65536 % 256), .int .u8 ((own : Int) / 256 % 256), .int .u8 ((own : Int) % 256), .int .u8 (g1 l 12 : Nat), .int .u8 (g1 l 13 : Nat), .int .u8 (g1 l 14 : Nat), .int .u8 (g1 l 15 : Nat)] : Array Value) = hc (ansZ l own n) := by
  simp only [hc, ansZ, List.map_cons, List.map_nil, g1]
  have e1 : (((UInt8.ofNat ((20 + n) / 256)).toNat : Nat) : Int) = (20 + (n : Int)) / 256 := by simp; omega
  have e2 : (((UInt8.ofNat ((20 + n) % 256)).toNat : Nat) : Int) = 20 + (n : Int) := by simp; omega
  have e3 : (((UInt8.ofNat (own / 16777216)).toNat : Nat) : Int) = (own : Int) / 16777216 := by simp; omega
  have e4 : (((UInt8.ofNat (own / 65536 % 256)).toNat : Nat) : Int) = (own : Int) / 65536 % 256 := by simp
  have e5 : (((UInt8.ofNat (own / 256 % 256)).toNat : Nat) : Int) = (own : Int) / 256 % 256 := by simp
  have e6 : (((UInt8.ofNat (own % 256)).toNat : Nat) : Int) = (own : Int) % 256 := by simp
  rw [e1, e2, e3, e4, e5, e6]
  rfl
set_option maxRecDepth 20000 in
set_option maxHeartbeats 1000000 in
theorem answer_any (l : List UInt8) (hl : l.length = 20) (s : ByteArray) (hs : s.size ≤ 1000000) (own : Nat) (ho : own < 4294967296) (r : Int) (w : World) : Calls Tryz.prog 122 #[pv l s, .int .u32 own, .int .i64 r] w fun e w' => ∃ q : ByteArray, e = .returned (.string q) ∧ q.data.toList = sealL (ansZ l own (noteL (kindB r) (l ++ s.data.toList.take 8)).length) ++ noteL (kindB r) (l ++ s.data.toList.take 8) ∧ Below w.heap.size w w' := by
  have HV := Lib.hid (ldW hl (heap_alloc_last w (.cells (pc l s) 139)))
  have HM := Lib.hid (fun w => message_any l hl s hs r w)
  have e12 := pc_at (s := s) hl (show 12 < 20 by decide)
  have e13 := pc_at (s := s) hl (show 13 < 20 by decide)
  have e14 := pc_at (s := s) hl (show 14 < 20 by decide)
  have e15 := pc_at (s := s) hl (show 15 < 20 by decide)
  have hnl : (noteL (kindB r) (l ++ s.data.toList.take 8)).length ≤ 36 := by simp [noteL, hl]; omega
  have HlA : ∀ n, (ansZ l own n).length = 20 := fun n => rfl
  have hE := fun (n : Nat) (hn : n ≤ 36) => ansZ_eq l ho hn
  have HX := Lib.hid (fun n w => sealed_any (ansZ l own n) rfl w)
  have HTx := Lib.hid (fun n w => text_any (sealL (ansZ l own n)) (sealL_len.trans (HlA n)) w)
  have HStV := Lib.hid (fun (n : Nat) (w : World) (b : Nat) (h : w.heap[b]? = some (Obj.cells (hc (ansZ l own n)) 137)) => stV (l := sealL (ansZ l own n)) h (by rw [hc_size]; rfl) (sealL_len.trans (HlA n)))
  have HLd := Lib.hid (fun (n : Nat) (w : World) (b : Nat) (h : w.heap[b]? = some (Obj.cells (hc (sealL (ansZ l own n))) 137)) => ldV h (by rw [hc_size, sealL_len]; rfl))
  have HLd0 := Lib.hid (fun (n : Nat) (w : World) (b : Nat) (h : w.heap[b]? = some (Obj.cells (hc (ansZ l own n)) 137)) => ldV h (by rw [hc_size]; rfl))
  have HLs := Lib.hid (fun n => show (hc (sealL (ansZ l own n))).size = 20 by rw [hc_size, sealL_len]; rfl)
  clear HlA
  unfold hv at *
  unfold pv at *
  generalize noteL (kindB r) (l ++ s.data.toList.take 8) = nl at *
  generalize pc l s = C at *
  generalize g1 l 12 = x12 at *
  generalize g1 l 13 = x13 at *
  generalize g1 l 14 = x14 at *
  generalize g1 l 15 = x15 at *
  go_enter Tryz.func122, Tryz.ntmps122
  go_wp2_with ((with_reducible refine wpL_load ?_ HV.out ?_); exact rfl)
  refine (HM.out _).mono ?_
  rintro e w2 ⟨q, rfl, hq, hb2⟩
  have hk2 := row_below hb2 (heap_alloc_last w _) (by rw [sz1]; omega)
  have hlt := (Array.getElem?_eq_some_iff.1 hk2).1
  have d12 := cl20 hk2 e12
  have d13 := cl20 hk2 e13
  have d14 := cl20 hk2 e14
  have d15 := cl20 hk2 e15
  have HB2 := Lib.hid ((below1 w _).trans (hb2.mono (by rw [sz1]; omega)))
  have hqs : q.size ≤ 36 := by rw [← blen, hq]; exact hnl
  have Hq := Lib.hid hq
  clear hb2 hk2 hq HV HM e12 e13 e14 e15 hnl
  have hE1 := hE q.size hqs
  clear hE
  have hnq : nl.length = q.size := by rw [← Hq.out, blen]
  have Hn := Lib.hid hnq
  clear hnq
  have HV3 := Lib.hid (HLd0.out q.size _ _ (heap_alloc_last w2 (.cells (hc (ansZ l own q.size)) 137)))
  have HX1 := Lib.hid (fun w => HX.out q.size w)
  have HT1 := Lib.hid (fun w => HTx.out q.size w)
  have HSt1 := Lib.hid (HStV.out q.size)
  have HL1 := Lib.hid (HLd.out q.size)
  obtain ⟨A, hA⟩ : ∃ A, A = ansZ l own q.size := ⟨_, rfl⟩
  have HA := Lib.hid hA
  rw [← hA] at hE1 HV3 HX1 HT1 HSt1 HL1
  clear hA HX HTx HStV HLd HLd0 HLs
  go_wp2_with ((with_reducible refine wpL_load ?_ HV3.out ?_); exact rfl)
  refine (HX1.out _).mono ?_
  rintro e w3 ⟨rfl, hb3⟩
  have hk3 := row_below hb3 (heap_alloc_last w2 _) (by rw [sz1]; omega)
  have HB3 := Lib.hid ((HB2.out.trans ((below1 w2 _).mono HB2.out.size)).trans (hb3.mono (by rw [sz1]; have := HB2.out.size; omega)))
  have HS3 := Lib.hid (HSt1.out w3 _ hk3)
  obtain ⟨w4, hw4⟩ : ∃ w4, w4 = w3.setRow w2.heap.size (hc (sealL A)) := ⟨_, rfl⟩
  have HB4 := Lib.hid (show Below w.heap.size w w4 by rw [hw4]; exact fbelow_row _ HB3.out HB2.out.size)
  have HV4 := Lib.hid (HL1.out w4 w2.heap.size (by rw [hw4]; exact setRow_heap _ _ _ _ _ _ hk3))
  rw [← hw4] at HS3
  have hq2 : ¬ 9223372036854775807 < 20 + q.size := by omega
  have hA20 : (sealL A).length = 20 := by rw [sealL_len, HA.out]; rfl
  clear hb3 hk3 hw4 hE1 HV3 HX1 HSt1 HL1 d12 d13 d14 d15
  go_wp2_with (first | ((with_reducible refine wpL_store ?_ ?_ HS3.out ?_); exact rfl; exact rfl) | ((with_reducible refine wpL_load ?_ HV4.out ?_); exact rfl))
  refine (HT1.out _).mono ?_
  rintro e w5 ⟨rfl, hw5⟩
  have HB5 := Lib.hid (show Below w.heap.size w w5 by rw [hw5]; exact HB4.out.trans ((below1 _ _).mono HB4.out.size))
  clear hw5
  go_wp2_with fail
  go_ret
  refine ⟨_, rfl, ?_, HB5.out⟩
  rw [bapp, Hq.out, Hn.out, ← HA.out]
end Go.Proofs.YtnfkgnjeamnhfaaGreat
namespace Go.Proofs.YtnfkgnjeamnhfaaGreat
open Go.RowKit

theorem results_cell2 {fn : Func} {p u : Tmp} {ty : TypeId} {tmps : Array Value} {P : Program} {w : World} {a : Addr} {v : Value} (h : fn.results = #[.cell p ty, .tmp u]) (ha : tmps.getD p undef = .pointer (some a)) (hl : (loadVar ty a).run P w = .ok v w) : (results fn tmps).run P w = .ok (.tuple #[v, tmps.getD u undef]) w := by
  rw [results_cell_tmp h]
  rw [ha]
  simp [asAddr, hl, Result.andThen]
/-- The first bytes of a text, with noughts behind them. -/
def fillL (b : List UInt8) (k : Nat) : List UInt8 := b.take k ++ List.replicate (20 - k) 0
theorem fill_len {b : List UInt8} {k : Nat} (hk : k ≤ 20) (hb : 20 ≤ b.length) : (fillL b k).length = 20 := by
  simp [fillL]; omega
theorem fill_set {b : List UInt8} {k : Nat} {x : UInt8} (hk : k < 20) (hx : b[k]? = some x) : (fillL b k).set k x = fillL b (k + 1) := by
  have hlt := (List.getElem?_eq_some_iff.1 hx).1
  unfold fillL
  rw [List.set_append_right _ _ (by simp; omega), List.take_add_one, hx, show 20 - k = (20 - (k + 1)) + 1 by omega, List.replicate_succ]
  simp [Nat.min_eq_left (Nat.le_of_lt hlt)]
theorem pc_one (l : List UInt8) (s : ByteArray) : (pc l s).all (·.oneCell') = true := by
  unfold pc
  rw [Array.all_push, hc_one]; rfl
theorem stP {w : World} {b : Nat} {C : Array Value} {l : List UInt8} {s : ByteArray} (h : w.heap[b]? = some (.cells C 139)) (hC : C.size = 21) (hl : l.length = 20) : (storeVar 139 ⟨b, 0, none⟩ (pv l s)).run Tryz.prog w = .ok () (w.setRow b (pc l s)) :=
  run_storeVar_row w b 139 139 C (pc l s) h (by rw [pc_size hl]; exact infoP) (by rw [hC, pc_size hl]) (pc_one l s)
theorem flt_len {l : List UInt8} {n : Nat} (h : fltN l n = 0) : 20 ≤ g2 l 2 ∧ g2 l 2 ≤ n := by
  unfold fltN at h
  by_cases h1 : g1 l 0 / 16 ≠ 4
  · rw [if_pos h1] at h; omega
  · rw [if_neg h1] at h
    by_cases h2 : g1 l 0 % 16 ≠ 5
    · rw [if_pos h2] at h; omega
    · rw [if_neg h2] at h
      by_cases h3 : g2 l 2 < 20 ∨ n < g2 l 2
      · rw [if_pos h3] at h; omega
      · omega
def zL : List UInt8 := List.replicate 20 0
theorem build_fold {l : List UInt8} (hl : l.length = 20) : (Array.foldl (fun (cs : Array Value) (x : Value × Nat) => cs.setIfInBounds x.snd x.fst) (pc zL ⟨#[]⟩) (hc l).zipIdx 0 20) = pc l ⟨#[]⟩ := by
  obtain ⟨b0, b1, b2, b3, b4, b5, b6, b7, b8, b9, b10, b11, b12, b13, b14, b15, b16, b17, b18, b19, rfl⟩ := list20 hl
  kernel_rfl
theorem build_set {l : List UInt8} (hl : l.length = 20) (s b : ByteArray) : (pc l s).setIfInBounds 20 (.string b) = pc l b := by
  obtain ⟨b0, b1, b2, b3, b4, b5, b6, b7, b8, b9, b10, b11, b12, b13, b14, b15, b16, b17, b18, b19, rfl⟩ := list20 hl
  kernel_rfl
theorem let_tp : ∃ (t : TypeId) (n : Nat), t = 139 ∧ n = 21 ∧ (∀ w, (sizeOf t).run Tryz.prog w = .ok n w) :=
  ⟨139, 21, rfl, rfl, fun w => by simp⟩
theorem stC {w : World} {b : Nat} {C : Array Value} {l : List UInt8} {s : ByteArray} (h : w.heap[b]? = some (.cells C 139)) (hC : C.size = 21) (hl : l.length = 20) : (storeCells ⟨b, 0, none⟩ (pc l s).toList 0).run Tryz.prog w = .ok () (w.setRow b (pc l s)) := by
  have := run_storeCells_from (P := Tryz.prog) b 139 (pc l s).toList 0 C w h (by rw [Array.length_toList, pc_size hl, hC]) (fun v hv => (Array.all_eq_true_iff_forall_mem.1 (pc_one l s)) v (by simpa using hv))
  simpa using this
theorem pc_zero : (#[.int .u8 0, .int .u8 0, .int .u8 0, .int .u8 0, .int .u8 0, .int .u8 0, .int .u8 0, .int .u8 0, .int .u8 0, .int .u8 0, .int .u8 0, .int .u8 0, .int .u8 0, .int .u8 0, .int .u8 0, .int .u8 0, .int .u8 0, .int .u8 0, .int .u8 0, .int .u8 0, .string ⟨#[]⟩] : Array Value) = pc zL ⟨#[]⟩ := rfl
theorem hc_zero : (#[.int .u8 0, .int .u8 0, .int .u8 0, .int .u8 0, .int .u8 0, .int .u8 0, .int .u8 0, .int .u8 0, .int .u8 0, .int .u8 0, .int .u8 0, .int .u8 0, .int .u8 0, .int .u8 0, .int .u8 0, .int .u8 0, .int .u8 0, .int .u8 0, .int .u8 0, .int .u8 0] : Array Value) = hc zL := rfl
set_option maxRecDepth 20000 in
set_option maxHeartbeats 1000000 in
theorem read_short (s : ByteArray) (h : s.size < 20) (w : World) : Calls Tryz.prog 76 #[.string s] w fun e w' => e = .returned (.tuple #[pv zL ⟨#[]⟩, .int .i64 1]) ∧ Below w.heap.size w w' := by
  have hZ := pc_zero
  have HK := Lib.hid (heap_alloc_last w (.cells (pc zL ⟨#[]⟩) 139))
  have HS := Lib.hid (stP (l := zL) (s := ⟨#[]⟩) HK.out (pc_size rfl) rfl)
  have HV := Lib.hid (ldW (l := zL) (s := ⟨#[]⟩) rfl HK.out)
  rw [World.setRow_alloc_new] at HS
  unfold pv at *
  generalize pc zL ⟨#[]⟩ = Cz at *
  have q : (s.size : Int) < 20 := by omega
  go_enter Tryz.func76, Tryz.ntmps76
  go_wp2_with ((with_reducible refine wpL_store ?_ ?_ HS.out ?_); exact rfl; exact rfl)
  refine bodyPost_ret (results_cell2 rfl rfl HV.out) rfl ⟨rfl, below1 _ _⟩
set_option maxRecDepth 20000 in
set_option maxHeartbeats 2000000 in
theorem read_long (s : ByteArray) (h : 20 ≤ s.size) (w : World) {l : List UInt8} {r y : Nat} (hl : s.data.toList.take 20 = l) (hfl : fltN l s.size = r) (hyl : g2 l 2 = y) : Calls Tryz.prog 76 #[.string s] w fun e w' => (r ≠ 0 → e = .returned (.tuple #[pv zL ⟨#[]⟩, .int .i64 (r : Nat)])) ∧ (r = 0 → e = .returned (.tuple #[pv l (s.extract 20 y), .int .i64 0])) ∧ Below w.heap.size w w' := by
  have hZ := pc_zero
  have hZ0 := hc_zero
  have hl0 : l.length = 20 := by rw [← hl, List.length_take, blen]; omega
  have HFi := Lib.hid (fun k => show fillL s.data.toList 0 = zL ∧ fillL s.data.toList 20 = l ∧ (k ≤ 20 → (hc (fillL s.data.toList k)).size = 20) from ⟨rfl, by rw [← hl]; simp [fillL], fun hk => by rw [hc_size, fill_len hk (by rw [blen]; exact h)]⟩)
  have HSt := Lib.hid (show ∀ k (x : UInt8), k < 20 → s.data.toList[k]? = some x → (hc (fillL s.data.toList k)).setIfInBounds k (.int .u8 (x.toNat : Int)) = hc (fillL s.data.toList (k + 1)) from fun k x hk hx => by rw [hc_set, fill_set hk hx])
  have HGl := Lib.hid (show r = 0 → 20 ≤ y ∧ y ≤ s.size from fun h => by rw [← hyl]; exact flt_len (hfl.trans h))
  have hgl : y < 65536 := by rw [← hyl]; have := g1_lt l 2; have := g1_lt l (2 + 1); unfold g2; omega
  have HF := Lib.hid (fun w => fault_any (l) hl0 s.size w)
  have HLn := Lib.hid (fun w => length_any (l) hl0 w)
  rw [hfl] at HF
  rw [hyl] at HLn
  clear hl hfl hyl
  have q : ¬ (s.size : Int) < 20 := by omega
  have e0 : hc zL = hc (fillL s.data.toList 0) := rfl
  rw [e0] at hZ0
  unfold pv at *
  have Hz21 := Lib.hid (show (pc zL ⟨#[]⟩).size = 21 from pc_size rfl)
  have HP0 := Lib.hid (fun (w : World) (b : Nat) (h : w.heap[b]? = some (Obj.cells (pc zL ⟨#[]⟩) 139)) => stP (l := zL) (s := ⟨#[]⟩) h (pc_size rfl) rfl)
  have HP1 := Lib.hid (fun (w : World) (b : Nat) (h : w.heap[b]? = some (Obj.cells (pc zL ⟨#[]⟩) 139)) => ldW (l := zL) (s := ⟨#[]⟩) rfl h)
  unfold pv at HP0 HP1
  generalize hcz : pc zL ⟨#[]⟩ = Cz at *
  have HCz := Lib.hid hcz
  clear e0 hcz
  go_enter Tryz.func76, Tryz.ntmps76
  go_wp2_with fail
  clear hZ0
  go_loopw [5] (fun iv wr => ∃ k : Nat, k ≤ 20 ∧ iv = .int .i64 k ∧ wr = (w.alloc (.cells Cz 139)).alloc (.cells (hc (fillL s.data.toList k)) 137)) (fun iv _ => 20 - (intOf iv).toNat)
  case atStart => exact ⟨0, Nat.zero_le _, rfl, rfl⟩
  case round =>
    obtain ⟨k, hk, rfl, rfl⟩ := hrel
    by_cases hk2 : k < 20
    · have hks : k < s.size := by omega
      have hx := bget hks
      have hsz := (HFi.out k).2.2 hk
      have hst := HSt.out k s[k] hk2 hx
      have q1 : (k : Int) < 20 := by omega
      have q2 : (0 : Int) ≤ (k : Int) := by omega
      clear hx
      go_wp2_with fail
      exact ⟨⟨k + 1, by omega, by go_num, rfl⟩, by simp [intOf]; omega⟩
    · obtain rfl : k = 20 := by omega
      rw [(HFi.out 0).2.1]
      have HV := Lib.hid (ldV (al2 w (.cells Cz 139) (.cells (hc (l)) 137)) (by rw [hc_size, hl0]))
      have HL1 := Lib.hid (fun (w : World) (b : Nat) (h : w.heap[b]? = some (Obj.cells (hc (l)) 137)) => ldV h (by rw [hc_size, hl0]))
      have Hl0 := Lib.hid hl0
      obtain ⟨t, n, ht, hn, hA, hS⟩ := let_ty
      have HLc := Lib.hid (fun (w : World) (b : Nat) (h : w.heap[b]? = some (Obj.cells (hc (l)) 137)) => show (loadCellsFrom ⟨b, 0, none⟩ 0 n #[]).run Tryz.prog w = .ok (hc (l)) w by rw [hn]; exact ld20 h (by rw [hc_size, hl0]))
      have hgl : g2 (l) 2 < 65536 := by have := g1_lt (l) 2; have := g1_lt (l) (2 + 1); unfold g2; omega
      have HGl := Lib.hid (show fltN (l) s.size = 0 → 20 ≤ g2 (l) 2 ∧ g2 (l) 2 ≤ s.size from fun h => flt_len h)
      unfold hv at *
      clear HFi HSt hl0 hk hk2
      go_wp2_with ((with_reducible refine wpL_load ?_ HV.out ?_); exact rfl)
      refine (HF.out _).mono ?_
      rintro e w3 ⟨rfl, hb3⟩
      have hk0 := row_below hb3 (al1 w _ _) (by rw [sz1, sz1]; omega)
      have hk1 := row_below hb3 (al2 w _ _) (by rw [sz1, sz1]; omega)
      have HB3 := Lib.hid ((two_al w _ _).trans (hb3.mono (by rw [sz1, sz1]; omega)))
      clear hb3 HV HF
      by_cases hr : r = 0
      case neg =>
        have q1 : ((r : Int) != 0) = true := by simp; omega
        have HS := Lib.hid (HP0.out w3 _ hk0)
        have HV3 := Lib.hid (HP1.out (w3.setRow w.heap.size Cz) _ (setRow_heap _ _ _ _ _ _ hk0))
        clear hk0 hk1 ht hn
        go_wp2_with ((with_reducible refine wpL_store ?_ ?_ HS.out ?_); exact rfl; exact rfl)
        refine bodyPost_ret (results_cell2 rfl rfl HV3.out) rfl ⟨fun _ => rfl, fun h => absurd h hr, fbelow_row _ HB3.out (Nat.le_refl _)⟩
      subst hr
      have hy := HGl.out rfl
      have HV := Lib.hid (HL1.out w3 _ hk1)
      have HK0 := Lib.hid hk0
      have HK1 := Lib.hid hk1
      clear hk0 hk1
      go_wp2_with ((with_reducible refine wpL_load ?_ HV.out ?_); exact rfl)
      refine (HLn.out _).mono ?_
      rintro e w4 ⟨rfl, hw4⟩
      have hk0 : w4.heap[w.heap.size]? = some (.cells Cz 139) := by rw [hw4]; exact row_below (below1 w3 _) HK0.out ((Array.getElem?_eq_some_iff.1 HK0.out).1)
      have hk1 : w4.heap[w.heap.size + 1]? = some (.cells (hc l) 137) := by rw [hw4]; exact row_below (below1 w3 _) HK1.out ((Array.getElem?_eq_some_iff.1 HK1.out).1)
      have HB4 := Lib.hid (show Below w.heap.size w w4 by rw [hw4]; exact HB3.out.trans ((below1 _ _).mono HB3.out.size))
      have hld := HLc.out w4.drew _ hk1
      have HK4 := Lib.hid hk0
      have q3 : ¬ (y : Int) < 20 := by omega
      have q4 : (y : Int) ≤ (s.size : Int) := by omega
      obtain ⟨t2, n2, ht2, hn2, hS2⟩ := let_tp
      have hf := build_fold Hl0.out
      rw [HCz.out] at hf
      have hf2 := build_set Hl0.out ⟨#[]⟩ (s.extract 20 y)
      have hsD : (pc l ⟨#[]⟩).size = 21 := pc_size Hl0.out
      have hsP : (pc l (s.extract 20 y)).size = n2 := by rw [hn2]; exact pc_size Hl0.out
      have hstc := stC (w := w4.drew) (b := w.heap.size) (l := l) (s := s.extract 20 y) hk0 Hz21.out Hl0.out
      have HV5 := Lib.hid (ldW (w := w4.drew.setRow w.heap.size (pc l (s.extract 20 y))) Hl0.out (setRow_heap _ _ _ _ _ _ hk0))
      obtain ⟨w5, hw5⟩ : ∃ w5, w5 = w4.drew.setRow w.heap.size (pc l (s.extract 20 y)) := ⟨_, rfl⟩
      have HB5 := Lib.hid (show Below w.heap.size w w5 by rw [hw5]; exact fbelow_row _ HB4.out.drew (Nat.le_refl _))
      rw [← hw5] at hstc HV5
      have hH20 : (hc l).size = 20 := by rw [hc_size, Hl0.out]
      unfold pv at HV5
      clear hw4 hk0 hk1 HLc HV HL1 HK0 HK1 HLn HP0 HP1 hw5 HK4 HCz
      generalize hc l = H at *
      generalize pc l ⟨#[]⟩ = D at *
      generalize hpc : pc l (s.extract 20 y) = PC at *
      have HPC := Lib.hid hpc
      clear hpc
      go_wp2_with fail
      rw [show (Op.load 137 (.tmp 4)) = Op.load t (.tmp 4) by rw [ht], show (Op.store 139 (.tmp 2) (.tmp 35)) = Op.store t2 (.tmp 2) (.tmp 35) by rw [ht2]]
      clear ht hn ht2 hn2
      have hz21 := Hz21.out
      go_region_with fail
      all_goals
        go_wp2_with fail
        refine bodyPost_ret (results_cell2 rfl rfl HV5.out) rfl ⟨by rw [HPC.out]; rfl, HB5.out⟩
end Go.Proofs.YtnfkgnjeamnhfaaGreat
namespace Go.Proofs.YtnfkgnjeamnhfaaGreat
open Go.RowKit

/-- A verdict. -/
structure Vd where
  kind : Int
  reason : Int
  hop : Int
  out : List UInt8
def vV (v : Vd) : Value := .agg #[.int .i64 v.kind, .int .i64 v.reason, .int .i64 v.hop, .string ⟨v.out.toArray⟩]
/-- What becomes of a packet (head l, body b) that can't go on. -/
def ansV (l b : List UInt8) (own : Nat) (r : Int) : Vd :=
  if mayB l b = true then ⟨3, r, 0, sealL (ansZ l own (noteL (kindB r) (l ++ b.take 8)).length) ++ noteL (kindB r) (l ++ b.take 8)⟩ else ⟨0, r, 0, []⟩
theorem let_tq : ∃ (t : TypeId) (n : Nat), t = 139 ∧ n = 21 ∧ (∀ w, (isAgg t).run Tryz.prog w = .ok true w) ∧ (∀ w, (sizeOf t).run Tryz.prog w = .ok n w) :=
  ⟨139, 21, rfl, rfl, fun w => by simp, fun w => by simp⟩
theorem infoV : (Tryz.prog.info? 83).map (·.size) = some 4 := by kernel_rfl
theorem ldcW {w : World} {b : Nat} {l : List UInt8} {s : ByteArray} (hl : l.length = 20) (h : w.heap[b]? = some (.cells (pc l s) 139)) : (loadCellsFrom ⟨b, 0, none⟩ 0 21 #[]).run Tryz.prog w = .ok (pc l s) w := by
  have := run_loadCells_list (P := Tryz.prog) w ⟨b, 0, none⟩ (pc l s).toList (fun j v hv => by
    rw [Lib.add_plain, Nat.zero_add, cell_of_row _ _ j (pc l s) _ (0, 0) h]
    simpa using hv)
  simpa [loadCells, pc_size hl] using this
theorem ba_of {q : ByteArray} {l : List UInt8} (h : q.data.toList = l) : (⟨l.toArray⟩ : ByteArray) = q := by
  subst h; simp
theorem bodyV {fn : Func} {R : Ending → World → Prop} {tmps : Array Value} {w : World} {g : Nat} {a b c : Int} {q : ByteArray} {x0 x1 x2 x3 : Value} {p : Tmp} (hr : fn.results = #[.cell p 83]) (hp : tmps.getD p undef = .pointer (some ⟨g, 0, none⟩)) (hk : w.heap[g]? = some (.cells #[x0, x1, x2, x3] 83))
    (hR : R (.returned (.agg #[.int .i64 a, .int .i64 b, .int .i64 c, .string q])) ((((w.setCell ⟨g, 0, none⟩ (.int .i64 a)).setCell ⟨g, 1, none⟩ (.int .i64 b)).setCell ⟨g, 2, none⟩ (.int .i64 c)).setCell ⟨g, 3, none⟩ (.string q))) :
    bodyPost Tryz.prog fn R .ret { tmps := tmps, defers := [] } ((((w.setCell ⟨g, 0, none⟩ (.int .i64 a)).setCell ⟨g, 1, none⟩ (.int .i64 b)).setCell ⟨g, 2, none⟩ (.int .i64 c)).setCell ⟨g, 3, none⟩ (.string q)) := by
  refine bodyPost_ret (results_cell1 hr hp ?_) rfl hR
  exact run_loadVar_row _ _ 83 83 _ (0, 0) _ (frow_set _ (frow_set _ (frow_set _ (frow_set _ hk)))) Tryz.underlying83 rfl infoV
theorem below4 {B : Nat} {w w' : World} {g : Nat} (h : Below B w w') (hg : B ≤ g) (a b c d : Value) : Below B w ((((w'.setCell ⟨g, 0, none⟩ a).setCell ⟨g, 1, none⟩ b).setCell ⟨g, 2, none⟩ c).setCell ⟨g, 3, none⟩ d) :=
  (((h.setCell hg _).setCell hg _).setCell hg _).setCell hg _
set_option maxRecDepth 20000 in
set_option maxHeartbeats 2000000 in
theorem sendBack_any (T own : Nat) (ho : own < 4294967296) (l : List UInt8) (hl : l.length = 20) (s : ByteArray) (hs : s.size ≤ 1000000) (r : Int) (w : World) (hT : w.cell? ⟨T, 2, none⟩ = some (.int .u32 own)) :
    Calls Tryz.prog 79 #[.pointer (some ⟨T, 0, none⟩), pv l s, .int .i64 r] w fun e w' => e = .returned (vV (ansV l s.data.toList own r)) ∧ Below w.heap.size w w' := by
  have HV := Lib.hid (fun o => ldW hl (al1 w (.cells (pc l s) 139) o))
  have HM := Lib.hid (fun w => may_any l hl s hs w)
  have HA := Lib.hid (fun w => answer_any l hl s hs own ho r w)
  have hTl := World.block_lt_of_cell? w _ hT
  obtain ⟨t, n, ht, hn, hA, hS⟩ := let_tq
  have HLc := Lib.hid (fun (w : World) (b : Nat) (h : w.heap[b]? = some (Obj.cells (pc l s) 139)) => show (loadCellsFrom ⟨b, 0, none⟩ 0 n #[]).run Tryz.prog w = .ok (pc l s) w by rw [hn]; exact ldcW hl h)
  obtain ⟨V, hV⟩ : ∃ V, ansV l s.data.toList own r = V := ⟨_, rfl⟩
  rw [hV]
  unfold ansV at hV
  generalize sealL (ansZ l own (noteL (kindB r) (l ++ s.data.toList.take 8)).length) ++ noteL (kindB r) (l ++ s.data.toList.take 8) = out at *
  generalize mayB l s.data.toList = m at *
  unfold pv at *
  generalize pc l s = C at *
  go_enter Tryz.func79, Tryz.ntmps79
  go_wp2_with ((with_reducible refine wpL_load ?_ (HV.out _) ?_); exact rfl)
  refine (HM.out _).mono ?_
  rintro e w2 ⟨rfl, hb2⟩
  have hk0 := row_below hb2 (al1 w _ _) (by rw [sz1, sz1]; omega)
  have hk1 := row_below hb2 (al2 w _ _) (by rw [sz1, sz1]; omega)
  have hB2 := (two_al w _ _).trans (hb2.mono (by rw [sz1, sz1]; omega))
  have HB2 := Lib.hid hB2
  have HK1 := Lib.hid hk1
  have cT : w2.cell? ⟨T, 2, none⟩ = some (.int .u32 own) := (hB2.cell (p := ⟨T, 2, none⟩) hTl).trans hT
  clear hb2 hB2 HV HM
  by_cases hm : m = true
  case neg =>
    rw [if_neg hm] at hV
    obtain rfl : m = false := by simpa using hm
    have k0 := cl20 hk1 (j := 0) rfl
    have k1 := cl20 hk1 (j := 1) rfl
    have k2 := cl20 hk1 (j := 2) rfl
    have k3 := cl20 hk1 (j := 3) rfl
    have f0 := froz_row (j := 0) hk1
    have f1 := froz_row (j := 1) hk1
    have f2 := froz_row (j := 2) hk1
    have f3 := froz_row (j := 3) hk1
    clear hk0 hk1 ht hn
    subst hV
    go_wp2_with fail
    exact bodyV rfl rfl HK1.out ⟨rfl, below4 HB2.out (Nat.le_succ _) _ _ _ _⟩
  subst hm
  rw [if_pos rfl] at hV
  have hld := HLc.out w2.drew _ hk0
  clear hk0 hk1 HLc
  go_wp2_with fail
  rw [show (Op.load 139 (.tmp 4)) = Op.load t (.tmp 4) by rw [ht]]
  clear ht hn
  go_region_with (go_at_call 122; refine (HA.out _).mono ?_; rintro e w3 ⟨q, rfl, hq, hb3⟩; have HK3 := Lib.hid (row_below hb3 HK1.out ((Array.getElem?_eq_some_iff.1 HK1.out).1)); have HB3 := Lib.hid (HB2.out.drew.trans (hb3.mono HB2.out.size)); have k0 := cl20 HK3.out (j := 0) rfl; have k1 := cl20 HK3.out (j := 1) rfl; have k2 := cl20 HK3.out (j := 2) rfl; have k3 := cl20 HK3.out (j := 3) rfl; have f0 := froz_row (j := 0) HK3.out; have f1 := froz_row (j := 1) HK3.out; have f2 := froz_row (j := 2) HK3.out; have f3 := froz_row (j := 3) HK3.out; have Hq := Lib.hid hq; clear hb3 hq)
  all_goals
    go_wp2_with fail
    subst hV
    exact bodyV rfl rfl HK3.out ⟨by rw [← ba_of Hq.out]; rfl, below4 HB3.out (Nat.le_succ _) _ _ _ _⟩
end Go.Proofs.YtnfkgnjeamnhfaaGreat
namespace Go.Proofs.YtnfkgnjeamnhfaaGreat
open Go.RowKit

/-- The flow of a packet. -/
def flN (l : List UInt8) : Nat := ((g4 l 12 * 4294967296) ^^^ g4 l 16) ^^^ (g1 l 9 * 72057594037927936)
theorem g4_lt (l : List UInt8) (i : Nat) : g4 l i < 4294967296 := by
  have := g1_lt l i; have := g1_lt l (i + 1); have := g1_lt l (i + 2); have := g1_lt l (i + 3); unfold g4; omega
theorem flN_lt (l : List UInt8) : flN l ≤ 18446744073709551615 := by
  have h1 := g4_lt l 12
  have h2 := g4_lt l 16
  have h3 := g1_lt l 9
  have : flN l < 2 ^ 64 := Nat.xor_lt_two_pow (Nat.xor_lt_two_pow (by omega) (by omega)) (by omega)
  omega
theorem flN_eq (l : List UInt8) : bits .xor .u64 (bits .xor .u64 ((g4 l 12 : Nat) * 4294967296 : Int) (g4 l 16 : Nat)) ((g1 l 9 : Nat) * 72057594037927936 : Int) = (flN l : Int) := by
  have h1 := g4_lt l 12
  have h2 := g4_lt l 16
  have h3 := g1_lt l 9
  have hx : (g4 l 12 * 4294967296) ^^^ g4 l 16 < 2 ^ 64 := Nat.xor_lt_two_pow (by omega) (by omega)
  have e1 := bits_xor_u64_nat (g4 l 12 * 4294967296) (g4 l 16) (by omega) (by omega)
  have e2 := bits_xor_u64_nat ((g4 l 12 * 4294967296) ^^^ g4 l 16) (g1 l 9 * 72057594037927936) (by omega) (by omega)
  have e3 : bits .xor .u64 ((g4 l 12 : Nat) * 4294967296 : Int) (g4 l 16 : Nat) = _ := e1
  rw [e3]
  exact e2
/-- What becomes of a packet without a fault: l its head, b its body. -/
def goV (own : Nat) (l b : List UInt8) (pe ph : Int) : Vd :=
  if pe ≠ 0 then ansV l b own 7 else if ph = 0 then ⟨1, 0, 0, l ++ b⟩ else if 1 < g1 l 8 then ⟨2, 0, ph, sealL (lessL l) ++ b⟩ else ansV l b own 8
/-- What becomes of a packet. -/
def fwdV (own : Nat) (t : List UInt8) (pe : Nat → Int) (ph : Nat → Nat → Int) : Vd :=
  if t.length < 20 then ⟨0, 1, 0, []⟩
  else if fltN (t.take 20) t.length ≠ 0 then ⟨0, (fltN (t.take 20) t.length : Nat), 0, []⟩
  else goV own (t.take 20) ((t.take (g2 (t.take 20) 2)).drop 20) (pe (g4 (t.take 20) 16)) (ph (g4 (t.take 20) 16) (flN (t.take 20)))
theorem ext_list (s : ByteArray) (a b : Nat) : (s.extract a b).data.toList = (s.data.toList.take b).drop a := by
  simp [List.drop_take]
theorem vV_nil (a b c : Int) : vV ⟨a, b, c, []⟩ = .agg #[.int .i64 a, .int .i64 b, .int .i64 c, .string ⟨#[]⟩] := rfl
set_option maxRecDepth 20000 in
set_option maxHeartbeats 2000000 in
theorem forward_no (T : Nat) (s : ByteArray) (w : World) (r : Nat) (hr : r ≠ 0) (HR : ∀ w, Calls Tryz.prog 76 #[.string s] w fun e w' => e = .returned (.tuple #[pv zL ⟨#[]⟩, .int .i64 (r : Nat)]) ∧ Below w.heap.size w w') :
    Calls Tryz.prog 32 #[.pointer (some ⟨T, 0, none⟩), .string s] w fun e w' => e = .returned (vV ⟨0, (r : Nat), 0, []⟩) ∧ Below w.heap.size w w' := by
  have HR1 := Lib.hid HR
  have hZ := pc_zero
  have HS := Lib.hid (fun (w : World) => run_storeVar_new (P := Tryz.prog) w 139 (pc zL ⟨#[]⟩) (pc zL ⟨#[]⟩) (by rw [pc_size rfl]; exact infoP) rfl (pc_one _ _))
  clear HR
  unfold pv at *
  rw [vV_nil]
  generalize pc zL ⟨#[]⟩ = Cz at *
  have q1 : ((r : Int) != 0) = true := by simp; omega
  go_enter Tryz.func32, Tryz.ntmps32
  go_wp2_with fail
  refine (HR1.out _).mono ?_
  rintro e w2 ⟨rfl, hb2⟩
  have hk2 := row_below hb2 (heap_alloc_last w _) (by rw [sz1]; omega)
  have hB2 := (below1 w _).trans (hb2.mono (by rw [sz1]; omega))
  have HS2 := Lib.hid (HS.out w2)
  obtain ⟨w3, hw3⟩ : ∃ w3, w3 = w2.alloc (.cells Cz 139) := ⟨_, rfl⟩
  have HB3 := Lib.hid (show Below w.heap.size w w3 by rw [hw3]; exact hB2.trans ((below1 _ _).mono hB2.size))
  have HK3 := Lib.hid (show w3.heap[w.heap.size]? = some (.cells #[.int .i64 0, .int .i64 0, .int .i64 0, .string ⟨#[]⟩] 83) by rw [hw3]; exact row_below (below1 w2 _) hk2 ((Array.getElem?_eq_some_iff.1 hk2).1))
  have k0 := cl20 HK3.out (j := 0) rfl
  have k1 := cl20 HK3.out (j := 1) rfl
  have k2 := cl20 HK3.out (j := 2) rfl
  have k3 := cl20 HK3.out (j := 3) rfl
  have f0 := froz_row (j := 0) HK3.out
  have f1 := froz_row (j := 1) HK3.out
  have f2 := froz_row (j := 2) HK3.out
  have f3 := froz_row (j := 3) HK3.out
  have HS3 := Lib.hid (show (storeVar 139 ⟨w2.heap.size, 0, none⟩ (.agg Cz)).run Tryz.prog (w2.alloc (.cells Cz 139)) = .ok () w3 by rw [hw3]; exact HS2.out)
  clear hb2 hB2 hk2 hw3 HS HS2
  go_wp2_with ((with_reducible refine wpL_store ?_ ?_ HS3.out ?_); exact rfl; exact rfl)
  exact bodyV rfl rfl HK3.out ⟨rfl, below4 HB3.out (Nat.le_refl _) _ _ _ _⟩
theorem sendV {fn : Func} {R : Ending → World → Prop} {tmps : Array Value} {w : World} {g : Nat} {v : Vd} {x0 x1 x2 x3 : Value} {p : Tmp} (hr : fn.results = #[.cell p 83]) (hp : tmps.getD p undef = .pointer (some ⟨g, 0, none⟩)) (hk : w.heap[g]? = some (.cells #[x0, x1, x2, x3] 83))
    (hR : R (.returned (vV v)) ((((w.setCell ⟨g, 0, none⟩ (.int .i64 v.kind)).setCell ⟨g, 1, none⟩ (.int .i64 v.reason)).setCell ⟨g, 2, none⟩ (.int .i64 v.hop)).setCell ⟨g, 3, none⟩ (.string ⟨v.out.toArray⟩))) :
    bodyPost Tryz.prog fn R .ret { tmps := tmps, defers := [] } ((((w.setCell ⟨g, 0, none⟩ (.int .i64 v.kind)).setCell ⟨g, 1, none⟩ (.int .i64 v.reason)).setCell ⟨g, 2, none⟩ (.int .i64 v.hop)).setCell ⟨g, 3, none⟩ (.string ⟨v.out.toArray⟩)) :=
  bodyV hr hp hk hR
set_option maxRecDepth 20000 in
set_option maxHeartbeats 4000000 in
theorem forward_yes (T own : Nat) (ho : own < 4294967296) (s b : ByteArray) (l : List UInt8) (hl : l.length = 20) (hb : b.size ≤ 1000000) (w : World) (hT : w.cell? ⟨T, 2, none⟩ = some (.int .u32 own)) (ph pe : Int)
    (HR : ∀ w, Calls Tryz.prog 76 #[.string s] w fun e w' => e = .returned (.tuple #[pv l b, .int .i64 0]) ∧ Below w.heap.size w w')
    (HP : ∀ w1, Below w.heap.size w w1 → Calls Tryz.prog 30 #[.pointer (some ⟨T, 0, none⟩), .agg #[.int .i64 4, .int .u64 0, .int .u64 (g4 l 16 : Nat)], .int .u64 (flN l : Nat)] w1 fun e w' => e = .returned (.tuple #[.int .i64 ph, .int .i64 pe]) ∧ Below w1.heap.size w1 w') :
    Calls Tryz.prog 32 #[.pointer (some ⟨T, 0, none⟩), .string s] w fun e w' => e = .returned (vV (goV own l b.data.toList pe ph)) ∧ Below w.heap.size w w' := by
  have hTl := World.block_lt_of_cell? w _ hT
  have HR1 := Lib.hid HR
  have HP1 := Lib.hid HP
  have hZ := pc_zero
  have HS := Lib.hid (fun (w : World) => run_storeVar_new (P := Tryz.prog) w 139 (pc zL ⟨#[]⟩) (pc l b) (by rw [pc_size hl]; exact infoP) (by rw [pc_size hl]; rfl) (pc_one _ _))
  have HV := Lib.hid (fun (w : World) (g : Nat) (h : w.heap[g]? = some (Obj.cells (pc l b) 139)) => ldW hl h)
  have HTg := Lib.hid (fun w => ptarget_any l hl b w)
  have HFl := Lib.hid (fun w => flow_any l hl b w)
  rw [flN_eq] at HFl
  have HTx := Lib.hid (fun w => ptext_any l hl b hb w)
  have HCg := Lib.hid (fun w => canGoOn_any l hl b w)
  have HOl := Lib.hid (fun (h : 1 < g1 l 8) w => older_any l hl h b hb w)
  have HSb := Lib.hid (fun (r : Int) (w : World) (h : w.cell? ⟨T, 2, none⟩ = some (.int .u32 own)) => sendBack_any T own ho l hl b hb r w h)
  obtain ⟨V, hV⟩ : ∃ V, goV own l b.data.toList pe ph = V := ⟨_, rfl⟩
  rw [hV]
  unfold goV at hV
  clear HR HP
  unfold pv at *
  obtain ⟨V7, hV7⟩ : ∃ V7, ansV l b.data.toList own 7 = V7 := ⟨_, rfl⟩
  rw [hV7] at hV
  have HV7 := Lib.hid hV7
  clear hV7
  generalize pc zL ⟨#[]⟩ = Cz at *
  generalize pc l b = C at *
  generalize g4 l 16 = tg at *
  generalize flN l = fl at *
  go_enter Tryz.func32, Tryz.ntmps32
  go_wp2_with fail
  refine (HR1.out _).mono ?_
  rintro e w2 ⟨rfl, hb2⟩
  have hk2 := row_below hb2 (heap_alloc_last w _) (by rw [sz1]; omega)
  have hB2 := (below1 w _).trans (hb2.mono (by rw [sz1]; omega))
  have HS2 := Lib.hid (HS.out w2)
  obtain ⟨w3, hw3⟩ : ∃ w3, w3 = w2.alloc (.cells C 139) := ⟨_, rfl⟩
  have HB3 := Lib.hid (show Below w.heap.size w w3 by rw [hw3]; exact hB2.trans ((below1 _ _).mono hB2.size))
  have HK3 := Lib.hid (show w3.heap[w.heap.size]? = some (.cells #[.int .i64 0, .int .i64 0, .int .i64 0, .string ⟨#[]⟩] 83) by rw [hw3]; exact row_below (below1 w2 _) hk2 ((Array.getElem?_eq_some_iff.1 hk2).1))
  have HP3 := Lib.hid (show w3.heap[w2.heap.size]? = some (.cells C 139) by rw [hw3]; exact heap_alloc_last w2 _)
  have HS3 := Lib.hid (show (storeVar 139 ⟨w2.heap.size, 0, none⟩ (.agg C)).run Tryz.prog (w2.alloc (.cells Cz 139)) = .ok () w3 by rw [hw3]; exact HS2.out)
  have HV3 := Lib.hid (HV.out w3 _ HP3.out)
  clear hb2 hB2 hk2 hw3 HS HS2
  go_wp2_with (first | ((with_reducible refine wpL_store ?_ ?_ HS3.out ?_); exact rfl; exact rfl) | ((with_reducible refine wpL_load ?_ HV3.out ?_); exact rfl))
  generalize w2.heap.size = g at *
  clear HS3 HV3 hZ
  refine (HTg.out _).mono ?_
  rintro e w4 ⟨rfl, hb4⟩
  have HB4 := Lib.hid (HB3.out.trans (hb4.mono HB3.out.size))
  have HK4 := Lib.hid (row_below hb4 HK3.out ((Array.getElem?_eq_some_iff.1 HK3.out).1))
  have HP4 := Lib.hid (row_below hb4 HP3.out ((Array.getElem?_eq_some_iff.1 HP3.out).1))
  have HV4 := Lib.hid (HV.out (w4.alloc (.cells #[.int .i64 4, .int .u64 0, .int .u64 (tg : Nat)] 31)) g (row_below (below1 w4 _) HP4.out ((Array.getElem?_eq_some_iff.1 HP4.out).1)))
  clear hb4 HB3 HK3 HP3
  go_wp2_with ((with_reducible refine wpL_load ?_ HV4.out ?_); exact rfl)
  refine (HFl.out _).mono ?_
  rintro e w5 ⟨rfl, hb5⟩
  have HB5 := Lib.hid ((HB4.out.trans ((below1 w4 _).mono HB4.out.size)).trans (hb5.mono (by rw [sz1]; have := HB4.out.size; omega)))
  have HK5 := Lib.hid (row_below hb5 (row_below (below1 w4 _) HK4.out ((Array.getElem?_eq_some_iff.1 HK4.out).1)) (by rw [sz1]; have := (Array.getElem?_eq_some_iff.1 HK4.out).1; omega))
  have HP5 := Lib.hid (row_below hb5 (row_below (below1 w4 _) HP4.out ((Array.getElem?_eq_some_iff.1 HP4.out).1)) (by rw [sz1]; have := (Array.getElem?_eq_some_iff.1 HP4.out).1; omega))
  have hk5 := row_below hb5 (heap_alloc_last w4 _) (by rw [sz1]; omega)
  have a0 := cl20 hk5 (j := 0) rfl
  have a1 := cl20 hk5 (j := 1) rfl
  have a2 := cl20 hk5 (j := 2) rfl
  clear hb5 HV4 HB4 HK4 HP4 hk5
  go_wp2_with fail
  refine (HP1.out _ HB5.out).mono ?_
  rintro e w6 ⟨rfl, hb6⟩
  have HB6 := Lib.hid (HB5.out.trans (hb6.mono HB5.out.size))
  have HK6 := Lib.hid (row_below hb6 HK5.out ((Array.getElem?_eq_some_iff.1 HK5.out).1))
  have HP6 := Lib.hid (row_below hb6 HP5.out ((Array.getElem?_eq_some_iff.1 HP5.out).1))
  have HT6 := Lib.hid ((HB6.out.cell (p := ⟨T, 2, none⟩) hTl).trans hT)
  have HV6 := Lib.hid (HV.out w6 g HP6.out)
  clear hb6 HB5 HK5 HP5 a0 a1 a2 HP1 HTg HFl HR1 hT
  by_cases h1 : pe = 0
  case neg =>
    rw [if_pos h1] at hV
    have q1 : (pe != 0) = true := by simp [h1]
    go_wp2_with ((with_reducible refine wpL_load ?_ HV6.out ?_); exact rfl)
    refine (HSb.out 7 _ HT6.out).mono ?_
    rintro e w7 ⟨rfl, hb7⟩
    have HK7 := Lib.hid (row_below hb7 HK6.out ((Array.getElem?_eq_some_iff.1 HK6.out).1))
    have HB7 := Lib.hid (HB6.out.trans (hb7.mono HB6.out.size))
    have k0 := cl20 HK7.out (j := 0) rfl
    have k1 := cl20 HK7.out (j := 1) rfl
    have k2 := cl20 HK7.out (j := 2) rfl
    have k3 := cl20 HK7.out (j := 3) rfl
    have f0 := froz_row (j := 0) HK7.out
    have f1 := froz_row (j := 1) HK7.out
    have f2 := froz_row (j := 2) HK7.out
    have f3 := froz_row (j := 3) HK7.out
    rw [HV7.out, hV]
    clear hb7 HSb hV
    unfold vV
    go_wp2_with fail
    exact sendV rfl rfl HK7.out ⟨rfl, below4 HB7.out (Nat.le_refl _) _ _ _ _⟩
  subst h1
  rw [if_neg (by simp)] at hV
  by_cases h2 : ph = 0
  case pos =>
    subst h2
    rw [if_pos rfl] at hV
    go_wp2_with ((with_reducible refine wpL_load ?_ HV6.out ?_); exact rfl)
    refine (HTx.out _).mono ?_
    rintro e w7 ⟨rfl, hb7⟩
    have HK7 := Lib.hid (row_below hb7 HK6.out ((Array.getElem?_eq_some_iff.1 HK6.out).1))
    have HB7 := Lib.hid (HB6.out.trans (hb7.mono HB6.out.size))
    have k0 := cl20 HK7.out (j := 0) rfl
    have k1 := cl20 HK7.out (j := 1) rfl
    have k2 := cl20 HK7.out (j := 2) rfl
    have k3 := cl20 HK7.out (j := 3) rfl
    have f0 := froz_row (j := 0) HK7.out
    have f1 := froz_row (j := 1) HK7.out
    have f2 := froz_row (j := 2) HK7.out
    have f3 := froz_row (j := 3) HK7.out
    clear hb7 HSb
    subst hV
    go_wp2_with fail
    exact bodyV rfl rfl HK7.out ⟨by rw [← ba_of (bapp ⟨l.toArray⟩ b)]; rfl, below4 HB7.out (Nat.le_refl _) _ _ _ _⟩
  rw [if_neg h2] at hV
  have q2 : (ph == 0) = false := ine_beq h2
  go_wp2_with ((with_reducible refine wpL_load ?_ HV6.out ?_); exact rfl)
  refine (HCg.out _).mono ?_
  rintro e w7 ⟨rfl, hb7⟩
  have HK7 := Lib.hid (row_below hb7 HK6.out ((Array.getElem?_eq_some_iff.1 HK6.out).1))
  have HB7 := Lib.hid (HB6.out.trans (hb7.mono HB6.out.size))
  have HP7 := Lib.hid (row_below hb7 HP6.out ((Array.getElem?_eq_some_iff.1 HP6.out).1))
  have HT7 := Lib.hid ((hb7.cell (p := ⟨T, 2, none⟩) (World.block_lt_of_cell? w6 _ HT6.out)).trans HT6.out)
  have HV8 := Lib.hid (HV.out w7 g HP7.out)
  clear hb7 HB6 HK6 HP6 HV6 HT6
  by_cases h3 : 1 < g1 l 8
  case neg =>
    rw [if_neg h3] at hV
    rw [decide_eq_false h3]
    go_wp2_with ((with_reducible refine wpL_load ?_ HV8.out ?_); exact rfl)
    refine (HSb.out 8 _ HT7.out).mono ?_
    rintro e w8 ⟨rfl, hb8⟩
    have HK8 := Lib.hid (row_below hb8 HK7.out ((Array.getElem?_eq_some_iff.1 HK7.out).1))
    have HB8 := Lib.hid (HB7.out.trans (hb8.mono HB7.out.size))
    have k0 := cl20 HK8.out (j := 0) rfl
    have k1 := cl20 HK8.out (j := 1) rfl
    have k2 := cl20 HK8.out (j := 2) rfl
    have k3 := cl20 HK8.out (j := 3) rfl
    have f0 := froz_row (j := 0) HK8.out
    have f1 := froz_row (j := 1) HK8.out
    have f2 := froz_row (j := 2) HK8.out
    have f3 := froz_row (j := 3) HK8.out
    rw [hV]
    clear hb8 HSb hV
    unfold vV
    go_wp2_with fail
    exact sendV rfl rfl HK8.out ⟨rfl, below4 HB8.out (Nat.le_refl _) _ _ _ _⟩
  rw [if_pos h3] at hV
  rw [decide_eq_true h3]
  go_wp2_with ((with_reducible refine wpL_load ?_ HV8.out ?_); exact rfl)
  refine (HOl.out h3 _).mono ?_
  rintro e w8 ⟨rfl, hb8⟩
  have HK8 := Lib.hid (row_below hb8 HK7.out ((Array.getElem?_eq_some_iff.1 HK7.out).1))
  have HB8 := Lib.hid (HB7.out.trans (hb8.mono HB7.out.size))
  have k0 := cl20 HK8.out (j := 0) rfl
  have k1 := cl20 HK8.out (j := 1) rfl
  have k2 := cl20 HK8.out (j := 2) rfl
  have k3 := cl20 HK8.out (j := 3) rfl
  have f0 := froz_row (j := 0) HK8.out
  have f1 := froz_row (j := 1) HK8.out
  have f2 := froz_row (j := 2) HK8.out
  have f3 := froz_row (j := 3) HK8.out
  clear hb8 HSb
  subst hV
  go_wp2_with fail
  exact bodyV rfl rfl HK8.out ⟨by rw [← ba_of (bapp ⟨(sealL (lessL l)).toArray⟩ b)]; rfl, below4 HB8.out (Nat.le_refl _) _ _ _ _⟩
theorem forward_any (T own : Nat) (ho : own < 4294967296) (s : ByteArray) (w : World) (hT : w.cell? ⟨T, 2, none⟩ = some (.int .u32 own)) (pe : Nat → Int) (ph : Nat → Nat → Int)
    (HP : ∀ (tg fl : Nat) (w1 : World), tg < 4294967296 → fl ≤ 18446744073709551615 → Below w.heap.size w w1 → Calls Tryz.prog 30 #[.pointer (some ⟨T, 0, none⟩), .agg #[.int .i64 4, .int .u64 0, .int .u64 tg], .int .u64 fl] w1 fun e w' => e = .returned (.tuple #[.int .i64 (ph tg fl), .int .i64 (pe tg)]) ∧ Below w1.heap.size w1 w') :
    Calls Tryz.prog 32 #[.pointer (some ⟨T, 0, none⟩), .string s] w fun e w' => e = .returned (vV (fwdV own s.data.toList pe ph)) ∧ Below w.heap.size w w' := by
  unfold fwdV
  rw [blen]
  by_cases h1 : s.size < 20
  · rw [if_pos h1]
    exact forward_no T s w 1 (by decide) (fun w => read_short s h1 w)
  · rw [if_neg h1]
    by_cases h2 : fltN (s.data.toList.take 20) s.size ≠ 0
    · rw [if_pos h2]
      exact forward_no T s w _ h2 (fun w => (read_long s (by omega) w rfl rfl rfl).mono (fun e w' h => ⟨h.1 h2, h.2.2⟩))
    · rw [if_neg h2]
      have h3 : fltN (s.data.toList.take 20) s.size = 0 := by omega
      have hg : g2 (s.data.toList.take 20) 2 < 65536 := by have := g1_lt (s.data.toList.take 20) 2; have := g1_lt (s.data.toList.take 20) (2 + 1); unfold g2; omega
      rw [← ext_list]
      exact forward_yes T own ho s (s.extract 20 (g2 (s.data.toList.take 20) 2)) (s.data.toList.take 20) (by rw [List.length_take, blen]; omega) (by rw [ByteArray.size_extract]; omega) w hT _ _
        (fun w => (read_long s (by omega) w rfl rfl rfl).mono (fun e w' h => ⟨h.2.1 h3, h.2.2⟩))
        (fun w1 hb => HP _ _ w1 (g4_lt _ _) (flN_lt _) hb)
end Go.Proofs.YtnfkgnjeamnhfaaGreat
