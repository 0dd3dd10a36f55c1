import Derived.Test.YtnfkgnjeamnhfaaDoorMath
import Derived.Deep.QuietTactic
import Derived.BigQuiet
namespace Go.Proofs.YtnfkgnjeamnhfaaDoor
open Go.RowKit

abbrev DG : ByteArray := { data := #[48, 49, 50, 51, 52, 53, 54, 55, 56, 57, 97, 98, 99, 100, 101, 102] }
theorem dg_piece : ∀ i : Fin 16, DG.extract i.val (i.val + 1) = ⟨[hexc i.val].toArray⟩ := by decide +kernel
theorem ch10_hexc : ∀ i : Fin 10, ch10 i.val = hexc i.val := by decide +kernel
theorem num10_one (v : Nat) (h : v < 10) : Lib.decDigits v = [hexc v] := by rw [numer10.one v h, ch10_hexc ⟨v, h⟩]
theorem num10_more (v : Nat) (h : ¬ v < 10) : Lib.decDigits v = Lib.decDigits (v / 10) ++ [hexc (v % 10)] := by rw [numer10.more v h, ch10_hexc ⟨v % 10, by omega⟩]

theorem dg_cut (d : Nat) (h : d < 16) (W : World) : (Instr.slice 9 (.string DG) (some (.int .i64 (d : Int))) (some (.int .i64 ((d : Int) + 1))) none).run Tryd.prog W = .ok (.string ⟨[hexc d].toArray⟩) W := by
  rw [run_slice_string W 9 DG .i64 .i64 (d : Int) ((d : Int) + 1) Tryd.underlying9 (by omega) (by omega) (by show (d : Int) + 1 ≤ ((16 : Nat) : Int); omega)]
  have := dg_piece ⟨d, h⟩
  simp only [] at this
  rw [← this]
  congr 3 <;> omega
theorem cons_ba (c : UInt8) (u : ByteArray) : ((⟨[c].toArray⟩ : ByteArray) ++ u).data.toList = c :: u.data.toList := by simp [ByteArray.data_append]

set_option maxHeartbeats 1000000 in
theorem written10 (v : Nat) (w : World) (hv : v ≤ 65535) :
    Calls Tryd.prog 19 #[.int .i64 v, .int .i64 10] w fun e w' => e = .returned (.string ⟨(Lib.decDigits v).toArray⟩) ∧ Below w.heap.size w w' := by
  go_enter Tryd.func19, Tryd.ntmps19
  go_wp2
  go_loopw [0, 5] (fun x s wr => ∃ (q : Nat) (u : ByteArray), x = .int .i64 q ∧ s = .string u ∧ q ≤ 65535 ∧ u.size + q ≤ v ∧ Hid (Lib.decDigits v = Lib.decDigits q ++ u.data.toList) ∧ Below w.heap.size w wr) (fun x _ _ => (intOf x).toNat)
  case atStart => exact ⟨v, ⟨#[]⟩, rfl, rfl, hv, by simp [ByteArray.size], by show _ = _; simp, Below.refl _ _⟩
  case round =>
    obtain ⟨q, u, rfl, rfl, hq, hu, HD, hb⟩ := hrel
    have HB := Lib.hid hb
    clear hb
    by_cases h : q < 10
    · have hsl := dg_cut q (by omega)
      go_wp2
      go_ret
      refine ⟨?_, HB.out⟩
      have hd := HD.out
      rw [num10_one q h] at hd
      rw [hd]
      show Ending.returned (.string _) = .returned (.string _)
      rw [ba_ext (a := (⟨[hexc q].toArray⟩ : ByteArray) ++ u) (b := ⟨([hexc q] ++ u.data.toList).toArray⟩) (cons_ba _ _)]
    · obtain ⟨d, hd⟩ : ∃ d, d = q % 10 := ⟨_, rfl⟩
      have hm : (q : Int) % 10 = (d : Int) := by omega
      have HDD : Hid (d = q % 10) := hd
      have hsl := dg_cut d (by omega)
      have hd16 : d < 10 := by omega
      clear hd
      go_wp2
      go_quiet (fail)
      go_wp2
      go_roundw
      case rel =>
        refine ⟨q / 10, _, by go_num, rfl, by omega, ?_, ?_, below_drewN HB.out _⟩
        · rw [ByteArray.size_append]; show 1 + _ + _ ≤ _; omega
        · show _ = _
          rw [HD.out, num10_more q h, cons_ba, ← HDD.out]
          simp
      case measure => simp [intOf] <;> omega

set_option maxHeartbeats 1000000 in
theorem written16 (v : Nat) (w : World) (hv : v ≤ 65535) :
    Calls Tryd.prog 19 #[.int .i64 v, .int .i64 16] w fun e w' => e = .returned (.string ⟨(hexD v).toArray⟩) ∧ Below w.heap.size w w' := by
  go_enter Tryd.func19, Tryd.ntmps19
  go_wp2
  go_loopw [0, 5] (fun x s wr => ∃ (q : Nat) (u : ByteArray), x = .int .i64 q ∧ s = .string u ∧ q ≤ 65535 ∧ u.size + q ≤ v ∧ Hid (hexD v = hexD q ++ u.data.toList) ∧ Below w.heap.size w wr) (fun x _ _ => (intOf x).toNat)
  case atStart => exact ⟨v, ⟨#[]⟩, rfl, rfl, hv, by simp [ByteArray.size], by show _ = _; simp, Below.refl _ _⟩
  case round =>
    obtain ⟨q, u, rfl, rfl, hq, hu, HD, hb⟩ := hrel
    have HB := Lib.hid hb
    clear hb
    by_cases h : q < 16
    · have hsl := dg_cut q (by omega)
      go_wp2
      go_ret
      refine ⟨?_, HB.out⟩
      have hd := HD.out
      rw [hexD_lt h] at hd
      rw [hd]
      show Ending.returned (.string _) = .returned (.string _)
      rw [ba_ext (a := (⟨[hexc q].toArray⟩ : ByteArray) ++ u) (b := ⟨([hexc q] ++ u.data.toList).toArray⟩) (cons_ba _ _)]
    · obtain ⟨d, hd⟩ : ∃ d, d = q % 16 := ⟨_, rfl⟩
      have hm : (q : Int) % 16 = (d : Int) := by omega
      have HDD : Hid (d = q % 16) := hd
      have hsl := dg_cut d (by omega)
      have hd16 : d < 16 := by omega
      clear hd
      go_wp2
      go_quiet (fail)
      go_wp2
      go_roundw
      case rel =>
        refine ⟨q / 16, _, by go_num, rfl, by omega, ?_, ?_, below_drewN HB.out _⟩
        · rw [ByteArray.size_append]; show 1 + _ + _ ≤ _; omega
        · show _ = _
          rw [HD.out, hexD_ge h, cons_ba, ← HDD.out]
          simp
      case measure => simp [intOf] <;> omega
end Go.Proofs.YtnfkgnjeamnhfaaDoor
