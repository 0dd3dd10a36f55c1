import Derived.Test.YtnfkgnjeamnhfaaDoorRfO
namespace Go.Proofs.YtnfkgnjeamnhfaaDoor
open Go.RowKit

theorem num_val (z : Int) (w : World) : Calls Tryd.prog 7 #[.int .i64 z] w fun e w' => e = .returned (.int .i64 z) ∧ w' = w := by
  go_enter Tryd.func7, Tryd.ntmps7
  go_wp2
  go_ret
  exact ⟨rfl, rfl⟩
abbrev C0 : ByteArray := { data := #[49, 48, 46, 49, 46, 48, 46, 48, 47, 49, 54] }
theorem dec10 : Lib.decDigits 10 = [49, 48] := by rw [Lib.decDigits_two (by decide) (by decide)]; decide +kernel
theorem dec1 : Lib.decDigits 1 = [49] := by rw [Lib.decDigits_one (by decide)]; decide +kernel
theorem dec0 : Lib.decDigits 0 = [48] := by rw [Lib.decDigits_one (by decide)]; decide +kernel
theorem dec16 : Lib.decDigits 16 = [49, 54] := by rw [Lib.decDigits_two (by decide) (by decide)]; decide +kernel
theorem parts_ten : parts4 167837696 = [10, 1, 0, 0] := by decide +kernel
theorem format_ten : formatF 4 0 167837696 16 = [49, 48, 46, 49, 46, 48, 46, 48, 47, 49, 54] := by
  rw [formatF_4, txt4_eq, parts_ten, dec16]
  simp only [ptxt, dec10, dec1, dec0]
  rfl
theorem chk_ten : chk 4 0 167837696 ((16 : Nat) : Int) = 0 := by decide +kernel
theorem ten_call (w : World) : Calls Tryd.prog 5 #[.string C0] w fun e w' => e = .returned (.tuple #[pref 4 0 167837696 16, .int .i64 0]) ∧ Below w.heap.size w w' := by
  have h := parse_format (f := 4) (hi := 0) (lo := 167837696) (n := 16) (by decide) (by decide) chk_ten
  rw [format_ten] at h
  exact parse_some (t := C0) (by show 11 ≤ maxLen; unfold maxLen; decide) h w

set_option maxHeartbeats 4000000 in
set_option maxRecDepth 100000 in
theorem texts_walk (t s : ByteArray) (f f2 : Int) (hi lo hi2 lo2 : Nat) (n n2 z z2 : Int) (w : World) (ht : Tabs w)
    (HP : Hid (∀ w, Calls Tryd.prog 5 #[.string t] w fun e w' => e = .returned (.tuple #[pref f2 hi2 lo2 n2, .int .i64 z2]) ∧ Below w.heap.size w w'))
    (HQ : Hid (∀ w, Calls Tryd.prog 6 #[.string t] w fun e w' => e = .returned (.tuple #[pref f2 hi2 lo2 n2, .int .i64 z2]) ∧ Below w.heap.size w w'))
    (HF : Hid (∀ w, Tabs w → Calls Tryd.prog 8 #[pref f hi lo n] w fun e w' => e = .returned (.tuple #[.string s, .int .i64 z]) ∧ Below w.heap.size w w'))
    (HR : Hid (∀ w, Calls Tryd.prog 9 #[pref f hi lo n] w fun e w' => e = .returned (.tuple #[.string s, .int .i64 z]) ∧ Below w.heap.size w w')) :
    Calls Tryd.prog 3 #[.string t, pref f hi lo n] w fun e w' => e = .returned (.bool true) ∧ Below w.heap.size w w' := by
  have HT : Hid _ := ht
  clear ht
  go_enter Tryd.func3, Tryd.ntmps3
  go_wp2_with fail
  have HB0 : Hid (Below w.heap.size w (w.alloc (.cells #[.int .i64 f, .int .u64 hi, .int .u64 lo, .int .i64 n] 26))) := (Below.refl _ _).alloc (Nat.le_refl _) _
  refine (ten_call _).mono ?_
  rintro e w1 ⟨rfl, hb1⟩
  have hz1 : w.heap.size < w1.heap.size := by have := hb1.size; simp at this; omega
  obtain ⟨hc1, hf1⟩ := bcell hb1
  have c0 : w1.cell? ⟨w.heap.size, 0, none⟩ = some (.int .i64 f) := by rw [hc1 _ _ (by simp)]; simp
  have c1 : w1.cell? ⟨w.heap.size, 1, none⟩ = some (.int .u64 hi) := by rw [hc1 _ _ (by simp)]; simp
  have c2 : w1.cell? ⟨w.heap.size, 2, none⟩ = some (.int .u64 lo) := by rw [hc1 _ _ (by simp)]; simp
  have c3 : w1.cell? ⟨w.heap.size, 3, none⟩ = some (.int .i64 n) := by rw [hc1 _ _ (by simp)]; simp
  have HB1 : Hid (Below w.heap.size w w1) := HB0.out.trans (hb1.mono (by simp))
  clear hc1 hf1 hb1
  go_wp2_with fail
  refine (HP.out _).mono ?_
  rintro e w2 ⟨rfl, hb2⟩
  have s1 : (w1.alloc (.cells #[.int .i64 4, .int .u64 0, .int .u64 167837696, .int .i64 16] 26)).heap.size = w1.heap.size + 1 := by simp
  have HB2 : Hid (Below w.heap.size w w2) := (HB1.out.alloc (by omega) _).trans (hb2.mono (by rw [s1]; omega))
  have hz2 : w.heap.size < w2.heap.size := by have := hb2.size; rw [s1] at this; omega
  have hc2 : ∀ o, w2.cell? ⟨w.heap.size, o, none⟩ = w1.cell? ⟨w.heap.size, o, none⟩ := by
    intro o
    rw [(bcell hb2).1 _ _ (by rw [s1]; omega), World.cell?_alloc_past _ _ _ hz1]
  have d0 := (hc2 0).trans c0
  have d1 := (hc2 1).trans c1
  have d2 := (hc2 2).trans c2
  have d3 := (hc2 3).trans c3
  clear hc2 hb2 s1 c0 c1 c2 c3
  go_wp2_with fail
  refine (HQ.out _).mono ?_
  rintro e w3 ⟨rfl, hb3⟩
  have s2 : (w2.alloc (.cells #[.int .i64 f2, .int .u64 hi2, .int .u64 lo2, .int .i64 n2] 26)).heap.size = w2.heap.size + 1 := by simp
  have HB3 : Hid (Below w.heap.size w w3) := (HB2.out.alloc (by omega) _).trans (hb3.mono (by rw [s2]; omega))
  have hz3 : w.heap.size < w3.heap.size := by have := hb3.size; rw [s2] at this; omega
  have hz3' : w2.heap.size < w3.heap.size := by have := hb3.size; rw [s2] at this; omega
  have hc3 : ∀ o, w3.cell? ⟨w.heap.size, o, none⟩ = w2.cell? ⟨w.heap.size, o, none⟩ := by
    intro o
    rw [(bcell hb3).1 _ _ (by rw [s2]; omega), World.cell?_alloc_past _ _ _ hz2]
  have e0 := (hc3 0).trans d0
  have e1 := (hc3 1).trans d1
  have e2 := (hc3 2).trans d2
  have e3 := (hc3 3).trans d3
  have a0 : w3.cell? ⟨w2.heap.size, 0, none⟩ = some (.int .i64 f2) := by rw [(bcell hb3).1 _ _ (by rw [s2]; omega)]; simp
  have a1 : w3.cell? ⟨w2.heap.size, 1, none⟩ = some (.int .u64 hi2) := by rw [(bcell hb3).1 _ _ (by rw [s2]; omega)]; simp
  have a2 : w3.cell? ⟨w2.heap.size, 2, none⟩ = some (.int .u64 lo2) := by rw [(bcell hb3).1 _ _ (by rw [s2]; omega)]; simp
  have a3 : w3.cell? ⟨w2.heap.size, 3, none⟩ = some (.int .i64 n2) := by rw [(bcell hb3).1 _ _ (by rw [s2]; omega)]; simp
  clear hc3 hb3 s2 d0 d1 d2 d3
  go_wp2_with (go_at_call 7; refine (num_val _ _).mono ?_; rintro e wx ⟨rfl, rfl⟩)
  have HB3' := Lib.hid (HB3.out.alloc (by omega) (.cells #[.int .i64 f2, .int .u64 hi2, .int .u64 lo2, .int .i64 n2] 26))
  refine (HF.out _ (HT.out.below HB3'.out)).mono ?_
  rintro e w4 ⟨rfl, hb4⟩
  have s3 : (w3.alloc (.cells #[.int .i64 f2, .int .u64 hi2, .int .u64 lo2, .int .i64 n2] 26)).heap.size = w3.heap.size + 1 := by simp
  have HB4 : Hid (Below w.heap.size w w4) := HB3'.out.trans (hb4.mono (by rw [s3]; omega))
  have hz4 : w.heap.size < w4.heap.size := by have := hb4.size; rw [s3] at this; omega
  have hc4 : ∀ o, w4.cell? ⟨w.heap.size, o, none⟩ = w3.cell? ⟨w.heap.size, o, none⟩ := by
    intro o
    rw [(bcell hb4).1 _ _ (by rw [s3]; omega), World.cell?_alloc_past _ _ _ hz3]
  have g0 := (hc4 0).trans e0
  have g1 := (hc4 1).trans e1
  have g2 := (hc4 2).trans e2
  have g3 := (hc4 3).trans e3
  clear hc4 hb4 s3 e0 e1 e2 e3 a0 a1 a2 a3
  go_wp2_with fail
  refine (HR.out _).mono ?_
  rintro e w5 ⟨rfl, hb5⟩
  have HB5 : Hid (Below w.heap.size w w5) := HB4.out.trans (hb5.mono (by omega))
  clear hb5
  go_wp2_with (go_at_call 7; refine (num_val _ _).mono ?_; rintro e wx ⟨rfl, rfl⟩)
  go_ret
  exact ⟨ret_bool (by simp), HB5.out⟩
/-- THE LAW, for every text of at most 1048576 letters and every prefix. -/
theorem texts_all (l : List UInt8) (f : Int) (hi lo : Nat) (n : Int) (w : World) (hh : hi ≤ 18446744073709551615) (hl : lo ≤ 18446744073709551615) (hs : l.length ≤ 1048576) (hT : Tabs w) :
    Calls Tryd.prog 3 #[.string ⟨l.toArray⟩, pref f hi lo n] w fun e w' => e = .returned (.bool true) ∧ Below w.heap.size w w' := by
  have hsm : (⟨l.toArray⟩ : ByteArray).size ≤ maxLen := by rw [mk_size]; unfold maxLen; omega
  have HQ := fun w => rparse_any l w hs
  obtain ⟨s, z, HF, HR⟩ : ∃ (s : ByteArray) (z : Int), (∀ w, Tabs w → Calls Tryd.prog 8 #[pref f hi lo n] w fun e w' => e = .returned (.tuple #[.string s, .int .i64 z]) ∧ Below w.heap.size w w') ∧ (∀ w, Calls Tryd.prog 9 #[pref f hi lo n] w fun e w' => e = .returned (.tuple #[.string s, .int .i64 z]) ∧ Below w.heap.size w w') := by
    by_cases hc : chk f hi lo n = 0
    · obtain ⟨m, rfl⟩ : ∃ m : Nat, n = (m : Int) := by
        rcases chk_family hc with rfl | rfl
        · obtain ⟨_, _, h3, _⟩ := chk_bounds4 hc; exact ⟨n.toNat, by omega⟩
        · obtain ⟨h3, _⟩ := chk_bounds6 hc; exact ⟨n.toNat, by omega⟩
      exact ⟨_, _, fun w ht => format_good f hi lo m w hh hl ht hc, fun w => rformat_good f hi lo m w hh hl hc⟩
    · exact ⟨_, _, fun w ht => format_no f hi lo n w hh hl ht hc, fun w => rformat_no f hi lo n w hh hl hc⟩
  rcases hp : parseF l with _ | ⟨f2, hi2, lo2, n2⟩
  · rw [hp] at HQ
    exact texts_walk ⟨l.toArray⟩ s f 0 hi lo 0 0 n 0 z 5 w hT (parse_none hsm hp) HQ HF HR
  · rw [hp] at HQ
    exact texts_walk ⟨l.toArray⟩ s f f2 hi lo hi2 lo2 n n2 z 0 w hT (parse_some hsm hp) HQ HF HR
end Go.Proofs.YtnfkgnjeamnhfaaDoor
