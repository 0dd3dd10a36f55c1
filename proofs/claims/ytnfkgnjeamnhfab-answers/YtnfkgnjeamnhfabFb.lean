import Derived.Test.YtnfkgnjeamnhfabFa
import Derived.WalkKit
import Derived.Deep.WholeRow
import Derived.Laws.IdiomStrings
import Derived.Lib.SmallJoins
import Derived.WalkSpells
import Derived.WalkLawsBesides
namespace Go.Proofs.Ytnfkgnjeamnhfab
open Go.RowKit

theorem ret_nat {k : IntKind} {a : Int} {b : Nat} (h : a = (b : Int)) : Ending.returned (.int k a) = .returned (.int k (b : Int)) := by rw [h]
set_option maxHeartbeats 1000000 in
theorem checksum_any (s : ByteArray) (w : World) (hs : s.size ≤ 100000) :
    Calls Try.prog 92 #[.string s] w fun e w' => e = .returned (.int .i64 (ck s.data.toList : Nat)) ∧ w' = w := by
  go_enter Try.func92, Try.ntmps92
  go_wp2
  go_loop [3, 4] (fun v i => ∃ (c k : Nat), k ≤ s.size ∧ i = .int .i64 k ∧ v = .int .i64 c ∧ c ≤ 65280 * k ∧ Hid (c = cs 0 (s.data.toList.take k))) (fun _ i => s.size - (intOf i).toNat)
  case atStart => exact ⟨0, 0, Nat.zero_le _, rfl, rfl, Nat.zero_le _, rfl⟩
  case round =>
    obtain ⟨c, k, hk, rfl, rfl, hc, HC⟩ := hrel
    by_cases hks : k < s.size
    · have hg := bget hks
      have h1 := cs_take hg
      have ha := s[k].toNat_lt
      by_cases hp : k % 2 = 0
      · rw [if_pos hp] at h1
        go_wp2
        exact ⟨⟨c + s[k].toNat * 256, k + 1, by omega, by go_num, by go_num, by omega, by show _ = _; rw [HC.out, h1]⟩, by simp [intOf]; omega⟩
      · rw [if_neg hp] at h1
        go_wp2
        exact ⟨⟨c + s[k].toNat, k + 1, by omega, by go_num, by go_num, by omega, by show _ = _; rw [HC.out, h1]⟩, by simp [intOf]; omega⟩
    · have hkk : k = s.size := by omega
      have HC1 := Lib.hid (show c = cs 0 s.data.toList by rw [HC.out, List.take_of_length_le (by rw [blen]; omega)])
      clear HC
      subst hkk
      go_wp2
      go_loop [3] (fun v => ∃ x : Nat, v = .int .i64 x ∧ x ≤ 6528000000 ∧ Hid (fold x = fold (cs 0 s.data.toList))) (fun v => (intOf v).toNat)
      case atStart => exact ⟨c, rfl, by omega, by show _ = _; rw [HC1.out]⟩
      case round =>
        obtain ⟨x, rfl, hx, HX⟩ := hrel
        by_cases hg : 65535 < x
        · have h1 : (65535 : Int) < (x : Int) := by omega
          have h2 := fold_step hg
          have h3 := fold_less hg
          have h4 := and65535 x (by omega)
          go_wp2
          exact ⟨⟨x / 65536 + x % 65536, by go_num, by omega, by show _ = _; rw [h2, HX.out]⟩, by simp [intOf]; omega⟩
        · have h1 : ¬ (65535 : Int) < (x : Int) := by omega
          have h2 := fold_small (s := x) (by omega)
          go_wp2
          go_ret
          exact ⟨ret_nat (by unfold ck; rw [← HX.out, h2]; omega), rfl⟩
theorem fret_bool {a b : Bool} (h : a = b) : Ending.returned (.bool a) = .returned (.bool b) := by rw [h]
/-- Is a first byte one that no packet bears? -/
def mart (a : Nat) : Bool := decide (a = 0 ∨ a = 127 ∨ 223 < a)
theorem isMartian_any (a : Nat) (w : World) : Calls Try.prog 93 #[.int .u8 a] w fun e w' => e = .returned (.bool (mart a)) ∧ w' = w := by
  unfold mart
  go_enter Try.func93, Try.ntmps93
  go_wp2
  all_goals go_ret
  · exact ⟨fret_bool (by simp; omega), rfl⟩
  · exact ⟨fret_bool (by simp; omega), rfl⟩
  · exact ⟨fret_bool (by rw [Bool.eq_iff_iff]; simp; omega), rfl⟩
theorem join_any (a b c d : Nat) (ha : a < 256) (hb : b < 256) (hc : c < 256) (hd : d < 256) (w : World) : Calls Try.prog 94 #[.int .u8 a, .int .u8 b, .int .u8 c, .int .u8 d] w fun e w' => e = .returned (.int .u64 ((((a * 256 + b) * 256 + c) * 256 + d : Nat) : Int)) ∧ w' = w := by
  have h := or24 ha hb hc hd
  go_enter Try.func94, Try.ntmps94
  go_wp2
  go_ret
  exact ⟨ret_nat (by omega), rfl⟩
/-- The value of bytes in an array. -/
def hc (l : List UInt8) : Array Value := (l.map (fun b => Value.int .u8 (b.toNat : Int))).toArray
def hv (l : List UInt8) : Value := .agg (hc l)
theorem list20 {l : List UInt8} (h : l.length = 20) : ∃ b0 b1 b2 b3 b4 b5 b6 b7 b8 b9 b10 b11 b12 b13 b14 b15 b16 b17 b18 b19, l = [b0, b1, b2, b3, b4, b5, b6, b7, b8, b9, b10, b11, b12, b13, b14, b15, b16, b17, b18, b19] := by
  match l, h with
  | [b0, b1, b2, b3, b4, b5, b6, b7, b8, b9, b10, b11, b12, b13, b14, b15, b16, b17, b18, b19], _ => exact ⟨_, _, _, _, _, _, _, _, _, _, _, _, _, _, _, _, _, _, _, _, rfl⟩
/-- A byte, and numbers of two and four. -/
def g1 (l : List UInt8) (i : Nat) : Nat := (l.getD i 0).toNat
def g2 (l : List UInt8) (i : Nat) : Nat := g1 l i * 256 + g1 l (i + 1)
def g4 (l : List UInt8) (i : Nat) : Nat := ((g1 l i * 256 + g1 l (i + 1)) * 256 + g1 l (i + 2)) * 256 + g1 l (i + 3)
theorem g1_lt (l : List UInt8) (i : Nat) : g1 l i < 256 := (l.getD i 0).toNat_lt
theorem below1 (w : World) (o : Obj) : Below w.heap.size w (w.alloc o) := (Below.refl _ _).alloc (Nat.le_refl _) _
theorem length_any (l : List UInt8) (hl : l.length = 20) (w : World) : Calls Try.prog 78 #[hv l] w fun e w' => e = .returned (.int .i64 (g2 l 2 : Nat)) ∧ w' = w.alloc (.cells (hc l) 98) := by
  have h := or8 (g1_lt l 2) (g1_lt l 3)
  obtain ⟨b0, b1, b2, b3, b4, b5, b6, b7, b8, b9, b10, b11, b12, b13, b14, b15, b16, b17, b18, b19, rfl⟩ := list20 hl
  have h2 := b2.toNat_lt
  have h3 := b3.toNat_lt
  unfold hv hc
  simp only [List.map_cons, List.map_nil]
  unfold g2
  simp only [g1, List.getD_cons_succ, List.getD_cons_zero] at *
  go_enter Try.func78, Try.ntmps78
  go_wp2
  go_ret
  exact ⟨ret_nat (by omega), rfl⟩
theorem target_any (l : List UInt8) (hl : l.length = 20) (w : World) : Calls Try.prog 79 #[hv l] w fun e w' => e = .returned (.int .u64 (g4 l 16 : Nat)) ∧ Below w.heap.size w w' := by
  have H := Lib.hid (fun w => join_any (g1 l 16) (g1 l 17) (g1 l 18) (g1 l 19) (g1_lt _ _) (g1_lt _ _) (g1_lt _ _) (g1_lt _ _) w)
  obtain ⟨b0, b1, b2, b3, b4, b5, b6, b7, b8, b9, b10, b11, b12, b13, b14, b15, b16, b17, b18, b19, rfl⟩ := list20 hl
  unfold hv hc
  simp only [List.map_cons, List.map_nil]
  unfold g4
  simp only [g1, List.getD_cons_succ, List.getD_cons_zero] at *
  go_enter Try.func79, Try.ntmps79
  go_wp2_with fail
  refine (H.out _).mono ?_
  rintro e w1 ⟨rfl, rfl⟩
  go_wp2
  go_ret
  exact ⟨rfl, below1 _ _⟩
theorem source_any (l : List UInt8) (hl : l.length = 20) (w : World) : Calls Try.prog 80 #[hv l] w fun e w' => e = .returned (.int .u64 (g4 l 12 : Nat)) ∧ Below w.heap.size w w' := by
  have H := Lib.hid (fun w => join_any (g1 l 12) (g1 l 13) (g1 l 14) (g1 l 15) (g1_lt _ _) (g1_lt _ _) (g1_lt _ _) (g1_lt _ _) w)
  obtain ⟨b0, b1, b2, b3, b4, b5, b6, b7, b8, b9, b10, b11, b12, b13, b14, b15, b16, b17, b18, b19, rfl⟩ := list20 hl
  unfold hv hc
  simp only [List.map_cons, List.map_nil]
  unfold g4
  simp only [g1, List.getD_cons_succ, List.getD_cons_zero] at *
  go_enter Try.func80, Try.ntmps80
  go_wp2_with fail
  refine (H.out _).mono ?_
  rintro e w1 ⟨rfl, rfl⟩
  go_wp2
  go_ret
  exact ⟨rfl, below1 _ _⟩
theorem part_any (l : List UInt8) (hl : l.length = 20) (w : World) : Calls Try.prog 95 #[hv l] w fun e w' => e = .returned (.int .i64 (g2 l 6 % 8192 : Nat)) ∧ Below w.heap.size w w' := by
  have h := or8 (g1_lt l 6) (g1_lt l 7)
  have h2 := g1_lt l 6
  have h3 := g1_lt l 7
  have h4 := and8191 (g1 l 6 * 256 + g1 l 7) (by omega)
  obtain ⟨b0, b1, b2, b3, b4, b5, b6, b7, b8, b9, b10, b11, b12, b13, b14, b15, b16, b17, b18, b19, rfl⟩ := list20 hl
  unfold hv hc
  simp only [List.map_cons, List.map_nil]
  unfold g2
  simp only [g1, List.getD_cons_succ, List.getD_cons_zero] at *
  have h5 : bits .and .i64 ((b6.toNat : Int) * 256 + (b7.toNat : Int)) 8191 = _ := h4
  clear h4
  go_enter Try.func95, Try.ntmps95
  go_wp2
  go_ret
  exact ⟨ret_nat (by omega), below1 _ _⟩
theorem hcell {l : List UInt8} {w : World} {t : TypeId} {j : Nat} (hj : j < l.length) : (w.alloc (.cells (l.map (fun b => Value.int .u8 (b.toNat : Int))).toArray t)).cell? ⟨w.heap.size, j, none⟩ = some (.int .u8 (l[j].toNat : Int)) := by
  rw [cell_of_row _ _ j _ t (0, 0) (heap_alloc_last w _)]
  simp [hj]
theorem conv_new {l : List UInt8} {n c : Nat} (hl : l.length = n) (w : World) (t : TypeId) : (convert 96 9 (.slice (some ⟨w.heap.size, 0, none⟩) n c)).run Try.prog (w.alloc (.cells (l.map (fun b => Value.int .u8 (b.toNat : Int))).toArray t)) = .ok (.string ⟨l.toArray⟩) (w.alloc (.cells (l.map (fun b => Value.int .u8 (b.toNat : Int))).toArray t)) := by
  subst hl
  exact run_convert_bytes_back (P := Try.prog) _ 96 9 5 ⟨w.heap.size, 0, none⟩ c l Try.underlying96 Try.underlying5 Try.underlying9 (fun j hj => by
    rw [Lib.add_plain, Nat.zero_add]; exact hcell hj)
set_option maxRecDepth 20000 in
theorem text_any (l : List UInt8) (hl : l.length = 20) (w : World) : Calls Try.prog 85 #[hv l] w fun e w' => e = .returned (.string ⟨l.toArray⟩) ∧ w' = w.alloc (.cells (hc l) 98) := by
  have hcv := conv_new (c := 20) hl w 98
  obtain ⟨b0, b1, b2, b3, b4, b5, b6, b7, b8, b9, b10, b11, b12, b13, b14, b15, b16, b17, b18, b19, rfl⟩ := list20 hl
  unfold hv hc
  simp only [List.map_cons, List.map_nil] at hcv ⊢
  go_enter Try.func85, Try.ntmps85
  go_wp2
  go_ret
  exact ⟨rfl, rfl⟩
end Go.Proofs.Ytnfkgnjeamnhfab
