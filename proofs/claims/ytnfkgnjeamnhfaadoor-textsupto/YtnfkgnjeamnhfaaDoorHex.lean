import Derived.WalkKit
import Derived.WalkSpells
import Derived.WalkLawsBesides
import Derived.Lib.Walk
import Derived.Lib.Hide
import Derived.Lib.ItoaMem
import Derived.LoopN
import Derived.Handy
import Derived.Test.YtnfkgnjeamnhfaaDoorProg
namespace Go.Proofs.YtnfkgnjeamnhfaaDoor
open Go.RowKit

/-- The letter of a hexadecimal digit. -/
def hexc (n : Nat) : UInt8 := if n < 10 then UInt8.ofNat (48 + n) else UInt8.ofNat (87 + n)
abbrev DIG : ByteArray := { data := #[48, 49, 50, 51, 52, 53, 54, 55, 56, 57, 97, 98, 99, 100, 101, 102, 103, 104, 105, 106, 107, 108, 109, 110, 111, 112, 113, 114, 115, 116, 117, 118, 119, 120, 121, 122] }
theorem dig_fin : ∀ i : Fin 16, DIG[i.val]'(by have := i.isLt; show _ < 36; omega) = hexc i.val := by decide +kernel
theorem dig_at (k : Nat) (h : k < 16) (W : World) : (Instr.index 9 (.string DIG) (.int .u64 (k : Int))).run Tryd.prog W = .ok (.int .u8 ((hexc k).toNat : Int)) W := by
  rw [run_index_string W 9 DIG .u64 (k : Int) Tryd.underlying9, dif_pos ⟨by omega, by show (k : Int) < ((36 : Nat) : Int); omega⟩]
  have := dig_fin ⟨k, h⟩
  simp only [Int.toNat_natCast]
  rw [this]
theorem and15 (u : Nat) (h : u ≤ 65535) : bits .and .u64 (u : Int) 15 = ((u % 16 : Nat) : Int) := by
  have := bits_and_u64_nat u 15 (by omega) (by omega)
  rw [show ((15 : Nat) : Int) = 15 from rfl] at this
  rw [this, Nat.and_two_pow_sub_one_eq_mod u 4]

set_option maxHeartbeats 400000 in
theorem tz16 (w : World) (ht : w.cell? ⟨2, 15, none⟩ = some (.int .u8 4)) : Calls Tryd.prog 56 #[.int .u64 16] w fun e w' => e = .returned (.int .i64 4) ∧ w' = w := by
  have e1 : bits .and .u64 16 (IntKind.u64.wrap (-16)) = 16 := by kernel_rfl
  have e2 : IntKind.u64.wrap 4573923408821661840 = 4573923408821661840 := by kernel_rfl
  go_enter Tryd.func56, Tryd.ntmps56
  go_wp2
  go_ret
  exact ⟨rfl, rfl⟩
abbrev zeros65 : Array Value := #[.int .u8 0, .int .u8 0, .int .u8 0, .int .u8 0, .int .u8 0, .int .u8 0, .int .u8 0, .int .u8 0, .int .u8 0, .int .u8 0, .int .u8 0, .int .u8 0, .int .u8 0, .int .u8 0, .int .u8 0, .int .u8 0, .int .u8 0, .int .u8 0, .int .u8 0, .int .u8 0, .int .u8 0, .int .u8 0, .int .u8 0, .int .u8 0, .int .u8 0, .int .u8 0, .int .u8 0, .int .u8 0, .int .u8 0, .int .u8 0, .int .u8 0, .int .u8 0, .int .u8 0, .int .u8 0, .int .u8 0, .int .u8 0, .int .u8 0, .int .u8 0, .int .u8 0, .int .u8 0, .int .u8 0, .int .u8 0, .int .u8 0, .int .u8 0, .int .u8 0, .int .u8 0, .int .u8 0, .int .u8 0, .int .u8 0, .int .u8 0, .int .u8 0, .int .u8 0, .int .u8 0, .int .u8 0, .int .u8 0, .int .u8 0, .int .u8 0, .int .u8 0, .int .u8 0, .int .u8 0, .int .u8 0, .int .u8 0, .int .u8 0, .int .u8 0, .int .u8 0]
theorem zv83 (w : World) : (zeroValue 85).run Tryd.prog w = .ok (.agg zeros65) w := by kernel_rfl
set_option maxHeartbeats 400000 in
theorem pow16 (w : World) : Calls Tryd.prog 55 #[.int .i64 16] w fun e w' => e = .returned (.bool true) ∧ w' = w := by
  go_enter Tryd.func55, Tryd.ntmps55
  go_wp2
  go_ret
  exact ⟨rfl, rfl⟩

set_option maxHeartbeats 4000000 in
set_option maxRecDepth 100000 in
theorem hex_1 (u d0 : Nat) (w : World) (hlo : 0 ≤ u) (hhi : u ≤ 15) (h0 : d0 < 16) (al : (u : Int) = (d0 : Int)) (ht : w.cell? ⟨2, 15, none⟩ = some (.int .u8 4)) (hw : 2 < w.heap.size) :
    Calls Tryd.prog 51 #[.slice none 0 0, .int .u64 u, .int .i64 16, .bool false, .bool false] w fun e w' => e = .returned (.tuple #[.slice none 0 0, .string ⟨[hexc d0].toArray⟩]) ∧ Below w.heap.size w w' := by
  have x0 := dig_at d0 h0
  have hcv : (convert 79 9 (.slice (some ⟨w.heap.size, 64, none⟩) 1 1)).run Tryd.prog (w.alloc (.cells #[.int .u8 0, .int .u8 0, .int .u8 0, .int .u8 0, .int .u8 0, .int .u8 0, .int .u8 0, .int .u8 0, .int .u8 0, .int .u8 0, .int .u8 0, .int .u8 0, .int .u8 0, .int .u8 0, .int .u8 0, .int .u8 0, .int .u8 0, .int .u8 0, .int .u8 0, .int .u8 0, .int .u8 0, .int .u8 0, .int .u8 0, .int .u8 0, .int .u8 0, .int .u8 0, .int .u8 0, .int .u8 0, .int .u8 0, .int .u8 0, .int .u8 0, .int .u8 0, .int .u8 0, .int .u8 0, .int .u8 0, .int .u8 0, .int .u8 0, .int .u8 0, .int .u8 0, .int .u8 0, .int .u8 0, .int .u8 0, .int .u8 0, .int .u8 0, .int .u8 0, .int .u8 0, .int .u8 0, .int .u8 0, .int .u8 0, .int .u8 0, .int .u8 0, .int .u8 0, .int .u8 0, .int .u8 0, .int .u8 0, .int .u8 0, .int .u8 0, .int .u8 0, .int .u8 0, .int .u8 0, .int .u8 0, .int .u8 0, .int .u8 0, .int .u8 0, .int .u8 ((hexc d0).toNat : Int)] 85)) = .ok (.string ⟨[hexc d0].toArray⟩) (w.alloc (.cells #[.int .u8 0, .int .u8 0, .int .u8 0, .int .u8 0, .int .u8 0, .int .u8 0, .int .u8 0, .int .u8 0, .int .u8 0, .int .u8 0, .int .u8 0, .int .u8 0, .int .u8 0, .int .u8 0, .int .u8 0, .int .u8 0, .int .u8 0, .int .u8 0, .int .u8 0, .int .u8 0, .int .u8 0, .int .u8 0, .int .u8 0, .int .u8 0, .int .u8 0, .int .u8 0, .int .u8 0, .int .u8 0, .int .u8 0, .int .u8 0, .int .u8 0, .int .u8 0, .int .u8 0, .int .u8 0, .int .u8 0, .int .u8 0, .int .u8 0, .int .u8 0, .int .u8 0, .int .u8 0, .int .u8 0, .int .u8 0, .int .u8 0, .int .u8 0, .int .u8 0, .int .u8 0, .int .u8 0, .int .u8 0, .int .u8 0, .int .u8 0, .int .u8 0, .int .u8 0, .int .u8 0, .int .u8 0, .int .u8 0, .int .u8 0, .int .u8 0, .int .u8 0, .int .u8 0, .int .u8 0, .int .u8 0, .int .u8 0, .int .u8 0, .int .u8 0, .int .u8 ((hexc d0).toNat : Int)] 85)) := by
    refine run_convert_bytes_back (P := Tryd.prog) (w.alloc (.cells #[.int .u8 0, .int .u8 0, .int .u8 0, .int .u8 0, .int .u8 0, .int .u8 0, .int .u8 0, .int .u8 0, .int .u8 0, .int .u8 0, .int .u8 0, .int .u8 0, .int .u8 0, .int .u8 0, .int .u8 0, .int .u8 0, .int .u8 0, .int .u8 0, .int .u8 0, .int .u8 0, .int .u8 0, .int .u8 0, .int .u8 0, .int .u8 0, .int .u8 0, .int .u8 0, .int .u8 0, .int .u8 0, .int .u8 0, .int .u8 0, .int .u8 0, .int .u8 0, .int .u8 0, .int .u8 0, .int .u8 0, .int .u8 0, .int .u8 0, .int .u8 0, .int .u8 0, .int .u8 0, .int .u8 0, .int .u8 0, .int .u8 0, .int .u8 0, .int .u8 0, .int .u8 0, .int .u8 0, .int .u8 0, .int .u8 0, .int .u8 0, .int .u8 0, .int .u8 0, .int .u8 0, .int .u8 0, .int .u8 0, .int .u8 0, .int .u8 0, .int .u8 0, .int .u8 0, .int .u8 0, .int .u8 0, .int .u8 0, .int .u8 0, .int .u8 0, .int .u8 ((hexc d0).toNat : Int)] 85)) 79 9 5 ⟨w.heap.size, 64, none⟩ 1 [hexc d0] Tryd.underlying79 Tryd.underlying5 Tryd.underlying9 (fun j hj => ?_)
    rw [Lib.add_plain, World.cell?_alloc_new]
    have hj' : j < 1 := hj
    obtain rfl : j = 0 := by omega
    rfl
  have HT : Hid (∀ o, Calls Tryd.prog 56 #[.int .u64 16] (w.alloc o) fun e w' => e = .returned (.int .i64 4) ∧ w' = w.alloc o) := fun o => tz16 _ (by rw [World.cell?_alloc_past o 2 15 hw]; exact ht)
  have hzv := zv83
  have il : (0 : Int) ≤ (u : Int) := by omega
  have ih : (u : Int) ≤ 15 := by omega
  clear hlo hhi
  go_enter Tryd.func51, Tryd.ntmps51
  go_wp2_with (first | (go_at_call 55; refine (pow16 _).mono ?_; rintro e w' ⟨rfl, rfl⟩) | (go_at_call 56; refine (HT.out _).mono ?_; rintro e w' ⟨rfl, rfl⟩))
  refine wp_loop_rounds 1 ?_
  rw [rounds_succ]
  go_wp2
  go_ret2
  exact ⟨rfl, (Below.refl _ _).alloc (Nat.le_refl _) _⟩

set_option maxHeartbeats 4000000 in
set_option maxRecDepth 100000 in
theorem hex_2 (u d0 d1 : Nat) (w : World) (hlo : 16 ≤ u) (hhi : u ≤ 255) (h0 : d0 < 16) (h1 : d1 < 16) (a0 : bits .and .u64 (u : Int) 15 = (d0 : Int)) (al : ((u : Int) / 16) = (d1 : Int)) (ht : w.cell? ⟨2, 15, none⟩ = some (.int .u8 4)) (hw : 2 < w.heap.size) :
    Calls Tryd.prog 51 #[.slice none 0 0, .int .u64 u, .int .i64 16, .bool false, .bool false] w fun e w' => e = .returned (.tuple #[.slice none 0 0, .string ⟨[hexc d1, hexc d0].toArray⟩]) ∧ Below w.heap.size w w' := by
  have x0 := dig_at d0 h0
  have x1 := dig_at d1 h1
  have hcv : (convert 79 9 (.slice (some ⟨w.heap.size, 63, none⟩) 2 2)).run Tryd.prog (w.alloc (.cells #[.int .u8 0, .int .u8 0, .int .u8 0, .int .u8 0, .int .u8 0, .int .u8 0, .int .u8 0, .int .u8 0, .int .u8 0, .int .u8 0, .int .u8 0, .int .u8 0, .int .u8 0, .int .u8 0, .int .u8 0, .int .u8 0, .int .u8 0, .int .u8 0, .int .u8 0, .int .u8 0, .int .u8 0, .int .u8 0, .int .u8 0, .int .u8 0, .int .u8 0, .int .u8 0, .int .u8 0, .int .u8 0, .int .u8 0, .int .u8 0, .int .u8 0, .int .u8 0, .int .u8 0, .int .u8 0, .int .u8 0, .int .u8 0, .int .u8 0, .int .u8 0, .int .u8 0, .int .u8 0, .int .u8 0, .int .u8 0, .int .u8 0, .int .u8 0, .int .u8 0, .int .u8 0, .int .u8 0, .int .u8 0, .int .u8 0, .int .u8 0, .int .u8 0, .int .u8 0, .int .u8 0, .int .u8 0, .int .u8 0, .int .u8 0, .int .u8 0, .int .u8 0, .int .u8 0, .int .u8 0, .int .u8 0, .int .u8 0, .int .u8 0, .int .u8 ((hexc d1).toNat : Int), .int .u8 ((hexc d0).toNat : Int)] 85)) = .ok (.string ⟨[hexc d1, hexc d0].toArray⟩) (w.alloc (.cells #[.int .u8 0, .int .u8 0, .int .u8 0, .int .u8 0, .int .u8 0, .int .u8 0, .int .u8 0, .int .u8 0, .int .u8 0, .int .u8 0, .int .u8 0, .int .u8 0, .int .u8 0, .int .u8 0, .int .u8 0, .int .u8 0, .int .u8 0, .int .u8 0, .int .u8 0, .int .u8 0, .int .u8 0, .int .u8 0, .int .u8 0, .int .u8 0, .int .u8 0, .int .u8 0, .int .u8 0, .int .u8 0, .int .u8 0, .int .u8 0, .int .u8 0, .int .u8 0, .int .u8 0, .int .u8 0, .int .u8 0, .int .u8 0, .int .u8 0, .int .u8 0, .int .u8 0, .int .u8 0, .int .u8 0, .int .u8 0, .int .u8 0, .int .u8 0, .int .u8 0, .int .u8 0, .int .u8 0, .int .u8 0, .int .u8 0, .int .u8 0, .int .u8 0, .int .u8 0, .int .u8 0, .int .u8 0, .int .u8 0, .int .u8 0, .int .u8 0, .int .u8 0, .int .u8 0, .int .u8 0, .int .u8 0, .int .u8 0, .int .u8 0, .int .u8 ((hexc d1).toNat : Int), .int .u8 ((hexc d0).toNat : Int)] 85)) := by
    refine run_convert_bytes_back (P := Tryd.prog) (w.alloc (.cells #[.int .u8 0, .int .u8 0, .int .u8 0, .int .u8 0, .int .u8 0, .int .u8 0, .int .u8 0, .int .u8 0, .int .u8 0, .int .u8 0, .int .u8 0, .int .u8 0, .int .u8 0, .int .u8 0, .int .u8 0, .int .u8 0, .int .u8 0, .int .u8 0, .int .u8 0, .int .u8 0, .int .u8 0, .int .u8 0, .int .u8 0, .int .u8 0, .int .u8 0, .int .u8 0, .int .u8 0, .int .u8 0, .int .u8 0, .int .u8 0, .int .u8 0, .int .u8 0, .int .u8 0, .int .u8 0, .int .u8 0, .int .u8 0, .int .u8 0, .int .u8 0, .int .u8 0, .int .u8 0, .int .u8 0, .int .u8 0, .int .u8 0, .int .u8 0, .int .u8 0, .int .u8 0, .int .u8 0, .int .u8 0, .int .u8 0, .int .u8 0, .int .u8 0, .int .u8 0, .int .u8 0, .int .u8 0, .int .u8 0, .int .u8 0, .int .u8 0, .int .u8 0, .int .u8 0, .int .u8 0, .int .u8 0, .int .u8 0, .int .u8 0, .int .u8 ((hexc d1).toNat : Int), .int .u8 ((hexc d0).toNat : Int)] 85)) 79 9 5 ⟨w.heap.size, 63, none⟩ 2 [hexc d1, hexc d0] Tryd.underlying79 Tryd.underlying5 Tryd.underlying9 (fun j hj => ?_)
    rw [Lib.add_plain, World.cell?_alloc_new]
    have hj' : j < 2 := hj
    rcases (show j = 0 ∨ j = 1 by omega) with rfl | rfl
    all_goals rfl
  have HT : Hid (∀ o, Calls Tryd.prog 56 #[.int .u64 16] (w.alloc o) fun e w' => e = .returned (.int .i64 4) ∧ w' = w.alloc o) := fun o => tz16 _ (by rw [World.cell?_alloc_past o 2 15 hw]; exact ht)
  have hzv := zv83
  have il : (16 : Int) ≤ (u : Int) := by omega
  have ih : (u : Int) ≤ 255 := by omega
  clear hlo hhi
  go_enter Tryd.func51, Tryd.ntmps51
  go_wp2_with (first | (go_at_call 55; refine (pow16 _).mono ?_; rintro e w' ⟨rfl, rfl⟩) | (go_at_call 56; refine (HT.out _).mono ?_; rintro e w' ⟨rfl, rfl⟩))
  refine wp_loop_rounds 2 ?_
  rw [rounds_succ]
  go_wp2
  rw [rounds_succ]
  go_wp2
  go_ret2
  exact ⟨rfl, (Below.refl _ _).alloc (Nat.le_refl _) _⟩

set_option maxHeartbeats 4000000 in
set_option maxRecDepth 100000 in
theorem hex_3 (u d0 d1 d2 : Nat) (w : World) (hlo : 256 ≤ u) (hhi : u ≤ 4095) (h0 : d0 < 16) (h1 : d1 < 16) (h2 : d2 < 16) (a0 : bits .and .u64 (u : Int) 15 = (d0 : Int)) (a1 : bits .and .u64 ((u : Int) / 16) 15 = (d1 : Int)) (al : (((u : Int) / 16) / 16) = (d2 : Int)) (ht : w.cell? ⟨2, 15, none⟩ = some (.int .u8 4)) (hw : 2 < w.heap.size) :
    Calls Tryd.prog 51 #[.slice none 0 0, .int .u64 u, .int .i64 16, .bool false, .bool false] w fun e w' => e = .returned (.tuple #[.slice none 0 0, .string ⟨[hexc d2, hexc d1, hexc d0].toArray⟩]) ∧ Below w.heap.size w w' := by
  have x0 := dig_at d0 h0
  have x1 := dig_at d1 h1
  have x2 := dig_at d2 h2
  have hcv : (convert 79 9 (.slice (some ⟨w.heap.size, 62, none⟩) 3 3)).run Tryd.prog (w.alloc (.cells #[.int .u8 0, .int .u8 0, .int .u8 0, .int .u8 0, .int .u8 0, .int .u8 0, .int .u8 0, .int .u8 0, .int .u8 0, .int .u8 0, .int .u8 0, .int .u8 0, .int .u8 0, .int .u8 0, .int .u8 0, .int .u8 0, .int .u8 0, .int .u8 0, .int .u8 0, .int .u8 0, .int .u8 0, .int .u8 0, .int .u8 0, .int .u8 0, .int .u8 0, .int .u8 0, .int .u8 0, .int .u8 0, .int .u8 0, .int .u8 0, .int .u8 0, .int .u8 0, .int .u8 0, .int .u8 0, .int .u8 0, .int .u8 0, .int .u8 0, .int .u8 0, .int .u8 0, .int .u8 0, .int .u8 0, .int .u8 0, .int .u8 0, .int .u8 0, .int .u8 0, .int .u8 0, .int .u8 0, .int .u8 0, .int .u8 0, .int .u8 0, .int .u8 0, .int .u8 0, .int .u8 0, .int .u8 0, .int .u8 0, .int .u8 0, .int .u8 0, .int .u8 0, .int .u8 0, .int .u8 0, .int .u8 0, .int .u8 0, .int .u8 ((hexc d2).toNat : Int), .int .u8 ((hexc d1).toNat : Int), .int .u8 ((hexc d0).toNat : Int)] 85)) = .ok (.string ⟨[hexc d2, hexc d1, hexc d0].toArray⟩) (w.alloc (.cells #[.int .u8 0, .int .u8 0, .int .u8 0, .int .u8 0, .int .u8 0, .int .u8 0, .int .u8 0, .int .u8 0, .int .u8 0, .int .u8 0, .int .u8 0, .int .u8 0, .int .u8 0, .int .u8 0, .int .u8 0, .int .u8 0, .int .u8 0, .int .u8 0, .int .u8 0, .int .u8 0, .int .u8 0, .int .u8 0, .int .u8 0, .int .u8 0, .int .u8 0, .int .u8 0, .int .u8 0, .int .u8 0, .int .u8 0, .int .u8 0, .int .u8 0, .int .u8 0, .int .u8 0, .int .u8 0, .int .u8 0, .int .u8 0, .int .u8 0, .int .u8 0, .int .u8 0, .int .u8 0, .int .u8 0, .int .u8 0, .int .u8 0, .int .u8 0, .int .u8 0, .int .u8 0, .int .u8 0, .int .u8 0, .int .u8 0, .int .u8 0, .int .u8 0, .int .u8 0, .int .u8 0, .int .u8 0, .int .u8 0, .int .u8 0, .int .u8 0, .int .u8 0, .int .u8 0, .int .u8 0, .int .u8 0, .int .u8 0, .int .u8 ((hexc d2).toNat : Int), .int .u8 ((hexc d1).toNat : Int), .int .u8 ((hexc d0).toNat : Int)] 85)) := by
    refine run_convert_bytes_back (P := Tryd.prog) (w.alloc (.cells #[.int .u8 0, .int .u8 0, .int .u8 0, .int .u8 0, .int .u8 0, .int .u8 0, .int .u8 0, .int .u8 0, .int .u8 0, .int .u8 0, .int .u8 0, .int .u8 0, .int .u8 0, .int .u8 0, .int .u8 0, .int .u8 0, .int .u8 0, .int .u8 0, .int .u8 0, .int .u8 0, .int .u8 0, .int .u8 0, .int .u8 0, .int .u8 0, .int .u8 0, .int .u8 0, .int .u8 0, .int .u8 0, .int .u8 0, .int .u8 0, .int .u8 0, .int .u8 0, .int .u8 0, .int .u8 0, .int .u8 0, .int .u8 0, .int .u8 0, .int .u8 0, .int .u8 0, .int .u8 0, .int .u8 0, .int .u8 0, .int .u8 0, .int .u8 0, .int .u8 0, .int .u8 0, .int .u8 0, .int .u8 0, .int .u8 0, .int .u8 0, .int .u8 0, .int .u8 0, .int .u8 0, .int .u8 0, .int .u8 0, .int .u8 0, .int .u8 0, .int .u8 0, .int .u8 0, .int .u8 0, .int .u8 0, .int .u8 0, .int .u8 ((hexc d2).toNat : Int), .int .u8 ((hexc d1).toNat : Int), .int .u8 ((hexc d0).toNat : Int)] 85)) 79 9 5 ⟨w.heap.size, 62, none⟩ 3 [hexc d2, hexc d1, hexc d0] Tryd.underlying79 Tryd.underlying5 Tryd.underlying9 (fun j hj => ?_)
    rw [Lib.add_plain, World.cell?_alloc_new]
    have hj' : j < 3 := hj
    rcases (show j = 0 ∨ j = 1 ∨ j = 2 by omega) with rfl | rfl | rfl
    all_goals rfl
  have HT : Hid (∀ o, Calls Tryd.prog 56 #[.int .u64 16] (w.alloc o) fun e w' => e = .returned (.int .i64 4) ∧ w' = w.alloc o) := fun o => tz16 _ (by rw [World.cell?_alloc_past o 2 15 hw]; exact ht)
  have hzv := zv83
  have il : (256 : Int) ≤ (u : Int) := by omega
  have ih : (u : Int) ≤ 4095 := by omega
  clear hlo hhi
  go_enter Tryd.func51, Tryd.ntmps51
  go_wp2_with (first | (go_at_call 55; refine (pow16 _).mono ?_; rintro e w' ⟨rfl, rfl⟩) | (go_at_call 56; refine (HT.out _).mono ?_; rintro e w' ⟨rfl, rfl⟩))
  refine wp_loop_rounds 3 ?_
  rw [rounds_succ]
  go_wp2
  rw [rounds_succ]
  go_wp2
  rw [rounds_succ]
  go_wp2
  go_ret2
  exact ⟨rfl, (Below.refl _ _).alloc (Nat.le_refl _) _⟩

set_option maxHeartbeats 4000000 in
set_option maxRecDepth 100000 in
theorem hex_4 (u d0 d1 d2 d3 : Nat) (w : World) (hlo : 4096 ≤ u) (hhi : u ≤ 65535) (h0 : d0 < 16) (h1 : d1 < 16) (h2 : d2 < 16) (h3 : d3 < 16) (a0 : bits .and .u64 (u : Int) 15 = (d0 : Int)) (a1 : bits .and .u64 ((u : Int) / 16) 15 = (d1 : Int)) (a2 : bits .and .u64 (((u : Int) / 16) / 16) 15 = (d2 : Int)) (al : ((((u : Int) / 16) / 16) / 16) = (d3 : Int)) (ht : w.cell? ⟨2, 15, none⟩ = some (.int .u8 4)) (hw : 2 < w.heap.size) :
    Calls Tryd.prog 51 #[.slice none 0 0, .int .u64 u, .int .i64 16, .bool false, .bool false] w fun e w' => e = .returned (.tuple #[.slice none 0 0, .string ⟨[hexc d3, hexc d2, hexc d1, hexc d0].toArray⟩]) ∧ Below w.heap.size w w' := by
  have x0 := dig_at d0 h0
  have x1 := dig_at d1 h1
  have x2 := dig_at d2 h2
  have x3 := dig_at d3 h3
  have hcv : (convert 79 9 (.slice (some ⟨w.heap.size, 61, none⟩) 4 4)).run Tryd.prog (w.alloc (.cells #[.int .u8 0, .int .u8 0, .int .u8 0, .int .u8 0, .int .u8 0, .int .u8 0, .int .u8 0, .int .u8 0, .int .u8 0, .int .u8 0, .int .u8 0, .int .u8 0, .int .u8 0, .int .u8 0, .int .u8 0, .int .u8 0, .int .u8 0, .int .u8 0, .int .u8 0, .int .u8 0, .int .u8 0, .int .u8 0, .int .u8 0, .int .u8 0, .int .u8 0, .int .u8 0, .int .u8 0, .int .u8 0, .int .u8 0, .int .u8 0, .int .u8 0, .int .u8 0, .int .u8 0, .int .u8 0, .int .u8 0, .int .u8 0, .int .u8 0, .int .u8 0, .int .u8 0, .int .u8 0, .int .u8 0, .int .u8 0, .int .u8 0, .int .u8 0, .int .u8 0, .int .u8 0, .int .u8 0, .int .u8 0, .int .u8 0, .int .u8 0, .int .u8 0, .int .u8 0, .int .u8 0, .int .u8 0, .int .u8 0, .int .u8 0, .int .u8 0, .int .u8 0, .int .u8 0, .int .u8 0, .int .u8 0, .int .u8 ((hexc d3).toNat : Int), .int .u8 ((hexc d2).toNat : Int), .int .u8 ((hexc d1).toNat : Int), .int .u8 ((hexc d0).toNat : Int)] 85)) = .ok (.string ⟨[hexc d3, hexc d2, hexc d1, hexc d0].toArray⟩) (w.alloc (.cells #[.int .u8 0, .int .u8 0, .int .u8 0, .int .u8 0, .int .u8 0, .int .u8 0, .int .u8 0, .int .u8 0, .int .u8 0, .int .u8 0, .int .u8 0, .int .u8 0, .int .u8 0, .int .u8 0, .int .u8 0, .int .u8 0, .int .u8 0, .int .u8 0, .int .u8 0, .int .u8 0, .int .u8 0, .int .u8 0, .int .u8 0, .int .u8 0, .int .u8 0, .int .u8 0, .int .u8 0, .int .u8 0, .int .u8 0, .int .u8 0, .int .u8 0, .int .u8 0, .int .u8 0, .int .u8 0, .int .u8 0, .int .u8 0, .int .u8 0, .int .u8 0, .int .u8 0, .int .u8 0, .int .u8 0, .int .u8 0, .int .u8 0, .int .u8 0, .int .u8 0, .int .u8 0, .int .u8 0, .int .u8 0, .int .u8 0, .int .u8 0, .int .u8 0, .int .u8 0, .int .u8 0, .int .u8 0, .int .u8 0, .int .u8 0, .int .u8 0, .int .u8 0, .int .u8 0, .int .u8 0, .int .u8 0, .int .u8 ((hexc d3).toNat : Int), .int .u8 ((hexc d2).toNat : Int), .int .u8 ((hexc d1).toNat : Int), .int .u8 ((hexc d0).toNat : Int)] 85)) := by
    refine run_convert_bytes_back (P := Tryd.prog) (w.alloc (.cells #[.int .u8 0, .int .u8 0, .int .u8 0, .int .u8 0, .int .u8 0, .int .u8 0, .int .u8 0, .int .u8 0, .int .u8 0, .int .u8 0, .int .u8 0, .int .u8 0, .int .u8 0, .int .u8 0, .int .u8 0, .int .u8 0, .int .u8 0, .int .u8 0, .int .u8 0, .int .u8 0, .int .u8 0, .int .u8 0, .int .u8 0, .int .u8 0, .int .u8 0, .int .u8 0, .int .u8 0, .int .u8 0, .int .u8 0, .int .u8 0, .int .u8 0, .int .u8 0, .int .u8 0, .int .u8 0, .int .u8 0, .int .u8 0, .int .u8 0, .int .u8 0, .int .u8 0, .int .u8 0, .int .u8 0, .int .u8 0, .int .u8 0, .int .u8 0, .int .u8 0, .int .u8 0, .int .u8 0, .int .u8 0, .int .u8 0, .int .u8 0, .int .u8 0, .int .u8 0, .int .u8 0, .int .u8 0, .int .u8 0, .int .u8 0, .int .u8 0, .int .u8 0, .int .u8 0, .int .u8 0, .int .u8 0, .int .u8 ((hexc d3).toNat : Int), .int .u8 ((hexc d2).toNat : Int), .int .u8 ((hexc d1).toNat : Int), .int .u8 ((hexc d0).toNat : Int)] 85)) 79 9 5 ⟨w.heap.size, 61, none⟩ 4 [hexc d3, hexc d2, hexc d1, hexc d0] Tryd.underlying79 Tryd.underlying5 Tryd.underlying9 (fun j hj => ?_)
    rw [Lib.add_plain, World.cell?_alloc_new]
    have hj' : j < 4 := hj
    rcases (show j = 0 ∨ j = 1 ∨ j = 2 ∨ j = 3 by omega) with rfl | rfl | rfl | rfl
    all_goals rfl
  have HT : Hid (∀ o, Calls Tryd.prog 56 #[.int .u64 16] (w.alloc o) fun e w' => e = .returned (.int .i64 4) ∧ w' = w.alloc o) := fun o => tz16 _ (by rw [World.cell?_alloc_past o 2 15 hw]; exact ht)
  have hzv := zv83
  have il : (4096 : Int) ≤ (u : Int) := by omega
  have ih : (u : Int) ≤ 65535 := by omega
  clear hlo hhi
  go_enter Tryd.func51, Tryd.ntmps51
  go_wp2_with (first | (go_at_call 55; refine (pow16 _).mono ?_; rintro e w' ⟨rfl, rfl⟩) | (go_at_call 56; refine (HT.out _).mono ?_; rintro e w' ⟨rfl, rfl⟩))
  refine wp_loop_rounds 4 ?_
  rw [rounds_succ]
  go_wp2
  rw [rounds_succ]
  go_wp2
  rw [rounds_succ]
  go_wp2
  rw [rounds_succ]
  go_wp2
  go_ret2
  exact ⟨rfl, (Below.refl _ _).alloc (Nat.le_refl _) _⟩

/-- A number's hexadecimal digits, n + 1 at most. -/
def hexN : Nat → Nat → List UInt8
  | 0, u => [hexc u]
  | n + 1, u => if u < 16 then [hexc u] else hexN n (u / 16) ++ [hexc (u % 16)]
theorem hexN_enough : ∀ (n m u : Nat), u ≤ n → u ≤ m → hexN n u = hexN m u
  | 0, 0, _, _, _ => rfl
  | 0, m + 1, u, h, _ => by simp only [hexN]; rw [if_pos (by omega)]
  | n + 1, 0, u, _, h => by simp only [hexN]; rw [if_pos (by omega)]
  | n + 1, m + 1, u, h, h' => by
    simp only [hexN]
    by_cases hu : u < 16
    · rw [if_pos hu, if_pos hu]
    · rw [if_neg hu, if_neg hu, hexN_enough n m (u / 16) (by omega) (by omega)]
/-- A number's hexadecimal digits. -/
def hexD (u : Nat) : List UInt8 := hexN u u
theorem hexD_lt {u : Nat} (h : u < 16) : hexD u = [hexc u] := by
  unfold hexD
  cases u with
  | zero => rfl
  | succ v => simp only [hexN]; rw [if_pos h]
theorem hexD_ge {u : Nat} (h : ¬ u < 16) : hexD u = hexD (u / 16) ++ [hexc (u % 16)] := by
  unfold hexD
  cases u with
  | zero => omega
  | succ v => simp only [hexN]; rw [if_neg h, hexN_enough v ((v + 1) / 16) ((v + 1) / 16) (by omega) (Nat.le_refl _)]
theorem hexbits (u : Nat) (hu : u ≤ 65535) (w : World) (ht : w.cell? ⟨2, 15, none⟩ = some (.int .u8 4)) (hw : 2 < w.heap.size) :
    Calls Tryd.prog 51 #[.slice none 0 0, .int .u64 u, .int .i64 16, .bool false, .bool false] w fun e w' => e = .returned (.tuple #[.slice none 0 0, .string ⟨(hexD u).toArray⟩]) ∧ Below w.heap.size w w' := by
  have a0 := and15 u hu
  have a1 : bits .and .u64 ((u : Int) / 16) 15 = ((u / 16 % 16 : Nat) : Int) := by have := and15 (u / 16) (by omega); rw [← this]; simp
  have a2 : bits .and .u64 ((u : Int) / 16 / 16) 15 = ((u / 16 / 16 % 16 : Nat) : Int) := by have := and15 (u / 16 / 16) (by omega); rw [← this]; simp
  by_cases c1 : u < 16
  · rw [hexD_lt c1]
    exact hex_1 u u w (by omega) (by omega) c1 rfl ht hw
  · rw [hexD_ge c1]
    by_cases c2 : u / 16 < 16
    · rw [hexD_lt c2]
      exact hex_2 u (u % 16) (u / 16) w (by omega) (by omega) (by omega) c2 a0 (by simp) ht hw
    · rw [hexD_ge c2]
      by_cases c3 : u / 16 / 16 < 16
      · rw [hexD_lt c3]
        exact hex_3 u (u % 16) (u / 16 % 16) (u / 16 / 16) w (by omega) (by omega) (by omega) (by omega) c3 a0 a1 (by simp) ht hw
      · rw [hexD_ge c3, hexD_lt (show u / 16 / 16 / 16 < 16 by omega)]
        exact hex_4 u (u % 16) (u / 16 % 16) (u / 16 / 16 % 16) (u / 16 / 16 / 16) w (by omega) (by omega) (by omega) (by omega) (by omega) (by omega) a0 a1 a2 (by simp) ht hw
set_option maxHeartbeats 400000 in
theorem ifmt16_any (u : Nat) (hu : u ≤ 65535) (w : World) (ht : w.cell? ⟨2, 15, none⟩ = some (.int .u8 4)) (hw : 2 < w.heap.size) :
    Calls Tryd.prog 46 #[.int .u64 u, .int .i64 16] w fun e w' => e = .returned (.string ⟨(hexD u).toArray⟩) ∧ Below w.heap.size w w' := by
  have HC : Hid _ := hexbits u hu
  go_enter Tryd.func46, Tryd.ntmps46
  go_wp2_with (first | (go_at_call 51; refine (HC.out _ ht hw).mono ?_; rintro e w' ⟨rfl, hb⟩))
  go_ret
  exact ⟨rfl, hb⟩
set_option maxHeartbeats 400000 in
/-- strconv.FormatUint at base 16. -/
theorem fmt16_any (u : Nat) (hu : u ≤ 65535) (w : World) (ht : w.cell? ⟨2, 15, none⟩ = some (.int .u8 4)) (hw : 2 < w.heap.size) :
    Calls Tryd.prog 39 #[.int .u64 u, .int .i64 16] w fun e w' => e = .returned (.string ⟨(hexD u).toArray⟩) ∧ Below w.heap.size w w' := by
  have HC : Hid _ := ifmt16_any u hu
  go_enter Tryd.func39, Tryd.ntmps39
  go_wp2_with (first | (go_at_call 46; refine (HC.out _ ht hw).mono ?_; rintro e w' ⟨rfl, hb⟩))
  go_ret
  exact ⟨rfl, hb⟩
end Go.Proofs.YtnfkgnjeamnhfaaDoor
