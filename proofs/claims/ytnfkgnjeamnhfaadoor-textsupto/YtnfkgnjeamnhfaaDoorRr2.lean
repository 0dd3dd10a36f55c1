import Derived.Test.YtnfkgnjeamnhfaaDoorFormat
import Derived.Test.YtnfkgnjeamnhfaaDoorParse
import Derived.Test.YtnfkgnjeamnhfaaDoorKeep
import Derived.Deep.QuietTactic
import Derived.BigQuiet
import Derived.Lib.QuietBelow
namespace Go.Proofs.YtnfkgnjeamnhfaaDoor
open Go.RowKit Go.Sort

set_option maxHeartbeats 4000000 in
set_option maxRecDepth 100000 in
theorem reread_a1 (f : Int) (hi lo : Nat) (n : Int) (f2 : Int) (hi2 lo2 : Nat) (n2 : Int) (s t : ByteArray) (z : Int) (hzz : (z == 0) = false) (w : World) (ht : Tabs w)
    (H0 : Hid (∀ w, Tabs w → Calls Tryd.prog 8 #[pref 6 2306139568115548160 0 32] w fun e w' => e = .returned (.tuple #[.string { data := #[50, 48, 48, 49, 58, 100, 98, 56, 58, 48, 58, 48, 58, 48, 58, 48, 58, 48, 58, 48, 47, 51, 50] }, .int .i64 0]) ∧ Below w.heap.size w w'))
    (H1 : Hid (∀ w, Tabs w → Calls Tryd.prog 8 #[pref f hi lo n] w fun e w' => e = .returned (.tuple #[.string s, .int .i64 z]) ∧ Below w.heap.size w w'))
    (h0 : decide (0 ≤ n) = false)
    (HPt : Hid (∀ w, Calls Tryd.prog 5 #[.string t] w fun e w' => e = .returned (.tuple #[pref f2 hi2 lo2 n2, .int .i64 0]) ∧ Below w.heap.size w w'))
    (HFq : Hid (∀ w, Tabs w → Calls Tryd.prog 8 #[pref f2 hi2 lo2 n2] w fun e w' => e = .returned (.tuple #[.string t, .int .i64 0]) ∧ Below w.heap.size w w')) :
    Calls Tryd.prog 4 #[pref f hi lo n, .string t] w fun e w' => e = .returned (.bool true) ∧ Below w.heap.size w w' := by
  have HT : Hid _ := ht
  clear ht
  go_enter Tryd.func4, Tryd.ntmps4
  go_wp2_with fail
  have HB0 : Hid (Below w.heap.size w (w.alloc (.cells #[.int .i64 f, .int .u64 hi, .int .u64 lo, .int .i64 n] 26))) := (Below.refl _ _).alloc (Nat.le_refl _) _
  refine (H0.out _ (HT.out.below HB0.out)).mono ?_
  rintro e w1 ⟨rfl, hb1⟩
  have hz1 : w.heap.size < w1.heap.size := by have := hb1.size; simp at this; omega
  obtain ⟨hc1, hf1⟩ := bcell hb1
  have c0 : w1.cell? ⟨w.heap.size, 0, none⟩ = some (.int .i64 f) := by rw [hc1 _ _ (by simp)]; simp
  have c1 : w1.cell? ⟨w.heap.size, 1, none⟩ = some (.int .u64 hi) := by rw [hc1 _ _ (by simp)]; simp
  have c2 : w1.cell? ⟨w.heap.size, 2, none⟩ = some (.int .u64 lo) := by rw [hc1 _ _ (by simp)]; simp
  have c3 : w1.cell? ⟨w.heap.size, 3, none⟩ = some (.int .i64 n) := by rw [hc1 _ _ (by simp)]; simp
  have HB1 : Hid (Below w.heap.size w w1) := HB0.out.trans (hb1.mono (by simp))
  clear hc1 hf1 hb1
  go_wp2_with fail
  refine (H1.out _ (HT.out.below HB1.out)).mono ?_
  rintro e w2 ⟨rfl, hb2⟩
  have hz2 : w.heap.size < w2.heap.size := by have := hb2.size; omega
  obtain ⟨hc2, hf2⟩ := bcell hb2
  have d0 := (hc2 w.heap.size 0 hz1).trans c0
  have d1 := (hc2 w.heap.size 1 hz1).trans c1
  have d2 := (hc2 w.heap.size 2 hz1).trans c2
  have d3 := (hc2 w.heap.size 3 hz1).trans c3
  have HB2 : Hid (Below w.heap.size w w2) := HB1.out.trans (hb2.mono (by omega))
  clear hc2 hf2 hb2 c0 c1 c2 c3 hz1
  go_wp2_with fail
  have k0 := cell_regrown d0
  have k1 := cell_regrown d1
  have k2 := cell_regrown d2
  have k3 := cell_regrown d3
  refine wp_region_quiet_below (by kernel_rfl) (by kernel_rfl) ?_
  repeat (go_big_quiet_step (fail))
  refine wpQuiet_nil ?_
  intro _ hw'
  obtain ⟨⟨dq, osq⟩, hw''⟩ := hw'
  subst hw''
  have hb3 := below_regrown w2 dq osq
  have e0 := k0 dq osq
  have e1 := k1 dq osq
  have e2 := k2 dq osq
  have e3 := k3 dq osq
  have HB3 : Hid (Below w.heap.size w (grow (redrawn w2 dq) osq)) := HB2.out.trans (hb3.mono (by omega))
  have hz3 : w.heap.size < (grow (redrawn w2 dq) osq).heap.size := by have := hb3.size; omega
  generalize grow (redrawn w2 dq) osq = w3 at e0 e1 e2 e3 HB3 hz3 hb3 ⊢
  clear k0 k1 k2 k3 d0 d1 d2 d3  hb3 hz2
  go_wp2_with fail
  refine (HPt.out _).mono ?_
  rintro e w5 ⟨rfl, hb5⟩
  have HB5 : Hid (Below w.heap.size w w5) := HB3.out.trans (hb5.mono (by omega))
  have hz5 : w.heap.size < w5.heap.size := by have := hb5.size; omega
  clear hb5
  go_wp2_with fail
  refine (HFq.out _ (HT.out.below (HB5.out.alloc (by omega) _))).mono ?_
  rintro e w6 ⟨rfl, hb6⟩
  go_wp2
  go_ret
  exact ⟨ret_bool (by simp), (HB5.out.alloc (by omega) _).trans (hb6.mono (by simp; omega))⟩
set_option maxHeartbeats 4000000 in
set_option maxRecDepth 100000 in
theorem reread_b0 (f : Int) (hi lo : Nat) (n : Int) (s t : ByteArray) (z : Int) (hzz : (z == 0) = false) (w : World) (ht : Tabs w)
    (H0 : Hid (∀ w, Tabs w → Calls Tryd.prog 8 #[pref 6 2306139568115548160 0 32] w fun e w' => e = .returned (.tuple #[.string { data := #[50, 48, 48, 49, 58, 100, 98, 56, 58, 48, 58, 48, 58, 48, 58, 48, 58, 48, 58, 48, 47, 51, 50] }, .int .i64 0]) ∧ Below w.heap.size w w'))
    (H1 : Hid (∀ w, Tabs w → Calls Tryd.prog 8 #[pref f hi lo n] w fun e w' => e = .returned (.tuple #[.string s, .int .i64 z]) ∧ Below w.heap.size w w'))
    (h0 : 0 ≤ n) (HG : Hid (∀ w, Calls Tryd.prog 10 #[addr f hi lo] w fun e w' => e = .returned (.bool false) ∧ Below w.heap.size w w'))
    (HPt : Hid (∀ w, Calls Tryd.prog 5 #[.string t] w fun e w' => e = .returned (.tuple #[pref 0 0 0 0, .int .i64 5]) ∧ Below w.heap.size w w')) :
    Calls Tryd.prog 4 #[pref f hi lo n, .string t] w fun e w' => e = .returned (.bool true) ∧ Below w.heap.size w w' := by
  have HT : Hid _ := ht
  clear ht
  go_enter Tryd.func4, Tryd.ntmps4
  go_wp2_with fail
  have HB0 : Hid (Below w.heap.size w (w.alloc (.cells #[.int .i64 f, .int .u64 hi, .int .u64 lo, .int .i64 n] 26))) := (Below.refl _ _).alloc (Nat.le_refl _) _
  refine (H0.out _ (HT.out.below HB0.out)).mono ?_
  rintro e w1 ⟨rfl, hb1⟩
  have hz1 : w.heap.size < w1.heap.size := by have := hb1.size; simp at this; omega
  obtain ⟨hc1, hf1⟩ := bcell hb1
  have c0 : w1.cell? ⟨w.heap.size, 0, none⟩ = some (.int .i64 f) := by rw [hc1 _ _ (by simp)]; simp
  have c1 : w1.cell? ⟨w.heap.size, 1, none⟩ = some (.int .u64 hi) := by rw [hc1 _ _ (by simp)]; simp
  have c2 : w1.cell? ⟨w.heap.size, 2, none⟩ = some (.int .u64 lo) := by rw [hc1 _ _ (by simp)]; simp
  have c3 : w1.cell? ⟨w.heap.size, 3, none⟩ = some (.int .i64 n) := by rw [hc1 _ _ (by simp)]; simp
  have HB1 : Hid (Below w.heap.size w w1) := HB0.out.trans (hb1.mono (by simp))
  clear hc1 hf1 hb1
  go_wp2_with fail
  refine (H1.out _ (HT.out.below HB1.out)).mono ?_
  rintro e w2 ⟨rfl, hb2⟩
  have hz2 : w.heap.size < w2.heap.size := by have := hb2.size; omega
  obtain ⟨hc2, hf2⟩ := bcell hb2
  have d0 := (hc2 w.heap.size 0 hz1).trans c0
  have d1 := (hc2 w.heap.size 1 hz1).trans c1
  have d2 := (hc2 w.heap.size 2 hz1).trans c2
  have d3 := (hc2 w.heap.size 3 hz1).trans c3
  have HB2 : Hid (Below w.heap.size w w2) := HB1.out.trans (hb2.mono (by omega))
  clear hc2 hf2 hb2 c0 c1 c2 c3 hz1
  go_wp2_with fail
  have k0 := cell_regrown d0
  have k1 := cell_regrown d1
  have k2 := cell_regrown d2
  have k3 := cell_regrown d3
  have cG : ∀ d os, Calls Tryd.prog 10 #[addr f hi lo] (grow (redrawn w2 d) os) fun e w'' => e = .returned (.bool false) ∧ ∃ p : Regrown, w'' = grow (redrawn w2 p.d) p.os := fun d os => Calls.regrown_of (HG.out _)
  refine wp_region_quiet_below (by kernel_rfl) (by kernel_rfl) ?_
  repeat (go_big_quiet_step (first | exact cG _ _))
  refine wpQuiet_nil ?_
  intro _ hw'
  obtain ⟨⟨dq, osq⟩, hw''⟩ := hw'
  subst hw''
  have hb3 := below_regrown w2 dq osq
  have e0 := k0 dq osq
  have e1 := k1 dq osq
  have e2 := k2 dq osq
  have e3 := k3 dq osq
  have HB3 : Hid (Below w.heap.size w (grow (redrawn w2 dq) osq)) := HB2.out.trans (hb3.mono (by omega))
  have hz3 : w.heap.size < (grow (redrawn w2 dq) osq).heap.size := by have := hb3.size; omega
  generalize grow (redrawn w2 dq) osq = w3 at e0 e1 e2 e3 HB3 hz3 hb3 ⊢
  clear k0 k1 k2 k3 d0 d1 d2 d3 cG hb3 hz2
  go_wp2_with fail
  refine (HPt.out _).mono ?_
  rintro e w5 ⟨rfl, hb5⟩
  have HB5 : Hid (Below w.heap.size w w5) := HB3.out.trans (hb5.mono (by omega))
  have hz5 : w.heap.size < w5.heap.size := by have := hb5.size; omega
  clear hb5
  go_wp2
  go_ret
  exact ⟨rfl, HB5.out.alloc (by omega) _⟩
set_option maxHeartbeats 4000000 in
set_option maxRecDepth 100000 in
theorem reread_b1 (f : Int) (hi lo : Nat) (n : Int) (f2 : Int) (hi2 lo2 : Nat) (n2 : Int) (s t : ByteArray) (z : Int) (hzz : (z == 0) = false) (w : World) (ht : Tabs w)
    (H0 : Hid (∀ w, Tabs w → Calls Tryd.prog 8 #[pref 6 2306139568115548160 0 32] w fun e w' => e = .returned (.tuple #[.string { data := #[50, 48, 48, 49, 58, 100, 98, 56, 58, 48, 58, 48, 58, 48, 58, 48, 58, 48, 58, 48, 47, 51, 50] }, .int .i64 0]) ∧ Below w.heap.size w w'))
    (H1 : Hid (∀ w, Tabs w → Calls Tryd.prog 8 #[pref f hi lo n] w fun e w' => e = .returned (.tuple #[.string s, .int .i64 z]) ∧ Below w.heap.size w w'))
    (h0 : 0 ≤ n) (HG : Hid (∀ w, Calls Tryd.prog 10 #[addr f hi lo] w fun e w' => e = .returned (.bool false) ∧ Below w.heap.size w w'))
    (HPt : Hid (∀ w, Calls Tryd.prog 5 #[.string t] w fun e w' => e = .returned (.tuple #[pref f2 hi2 lo2 n2, .int .i64 0]) ∧ Below w.heap.size w w'))
    (HFq : Hid (∀ w, Tabs w → Calls Tryd.prog 8 #[pref f2 hi2 lo2 n2] w fun e w' => e = .returned (.tuple #[.string t, .int .i64 0]) ∧ Below w.heap.size w w')) :
    Calls Tryd.prog 4 #[pref f hi lo n, .string t] w fun e w' => e = .returned (.bool true) ∧ Below w.heap.size w w' := by
  have HT : Hid _ := ht
  clear ht
  go_enter Tryd.func4, Tryd.ntmps4
  go_wp2_with fail
  have HB0 : Hid (Below w.heap.size w (w.alloc (.cells #[.int .i64 f, .int .u64 hi, .int .u64 lo, .int .i64 n] 26))) := (Below.refl _ _).alloc (Nat.le_refl _) _
  refine (H0.out _ (HT.out.below HB0.out)).mono ?_
  rintro e w1 ⟨rfl, hb1⟩
  have hz1 : w.heap.size < w1.heap.size := by have := hb1.size; simp at this; omega
  obtain ⟨hc1, hf1⟩ := bcell hb1
  have c0 : w1.cell? ⟨w.heap.size, 0, none⟩ = some (.int .i64 f) := by rw [hc1 _ _ (by simp)]; simp
  have c1 : w1.cell? ⟨w.heap.size, 1, none⟩ = some (.int .u64 hi) := by rw [hc1 _ _ (by simp)]; simp
  have c2 : w1.cell? ⟨w.heap.size, 2, none⟩ = some (.int .u64 lo) := by rw [hc1 _ _ (by simp)]; simp
  have c3 : w1.cell? ⟨w.heap.size, 3, none⟩ = some (.int .i64 n) := by rw [hc1 _ _ (by simp)]; simp
  have HB1 : Hid (Below w.heap.size w w1) := HB0.out.trans (hb1.mono (by simp))
  clear hc1 hf1 hb1
  go_wp2_with fail
  refine (H1.out _ (HT.out.below HB1.out)).mono ?_
  rintro e w2 ⟨rfl, hb2⟩
  have hz2 : w.heap.size < w2.heap.size := by have := hb2.size; omega
  obtain ⟨hc2, hf2⟩ := bcell hb2
  have d0 := (hc2 w.heap.size 0 hz1).trans c0
  have d1 := (hc2 w.heap.size 1 hz1).trans c1
  have d2 := (hc2 w.heap.size 2 hz1).trans c2
  have d3 := (hc2 w.heap.size 3 hz1).trans c3
  have HB2 : Hid (Below w.heap.size w w2) := HB1.out.trans (hb2.mono (by omega))
  clear hc2 hf2 hb2 c0 c1 c2 c3 hz1
  go_wp2_with fail
  have k0 := cell_regrown d0
  have k1 := cell_regrown d1
  have k2 := cell_regrown d2
  have k3 := cell_regrown d3
  have cG : ∀ d os, Calls Tryd.prog 10 #[addr f hi lo] (grow (redrawn w2 d) os) fun e w'' => e = .returned (.bool false) ∧ ∃ p : Regrown, w'' = grow (redrawn w2 p.d) p.os := fun d os => Calls.regrown_of (HG.out _)
  refine wp_region_quiet_below (by kernel_rfl) (by kernel_rfl) ?_
  repeat (go_big_quiet_step (first | exact cG _ _))
  refine wpQuiet_nil ?_
  intro _ hw'
  obtain ⟨⟨dq, osq⟩, hw''⟩ := hw'
  subst hw''
  have hb3 := below_regrown w2 dq osq
  have e0 := k0 dq osq
  have e1 := k1 dq osq
  have e2 := k2 dq osq
  have e3 := k3 dq osq
  have HB3 : Hid (Below w.heap.size w (grow (redrawn w2 dq) osq)) := HB2.out.trans (hb3.mono (by omega))
  have hz3 : w.heap.size < (grow (redrawn w2 dq) osq).heap.size := by have := hb3.size; omega
  generalize grow (redrawn w2 dq) osq = w3 at e0 e1 e2 e3 HB3 hz3 hb3 ⊢
  clear k0 k1 k2 k3 d0 d1 d2 d3 cG hb3 hz2
  go_wp2_with fail
  refine (HPt.out _).mono ?_
  rintro e w5 ⟨rfl, hb5⟩
  have HB5 : Hid (Below w.heap.size w w5) := HB3.out.trans (hb5.mono (by omega))
  have hz5 : w.heap.size < w5.heap.size := by have := hb5.size; omega
  clear hb5
  go_wp2_with fail
  refine (HFq.out _ (HT.out.below (HB5.out.alloc (by omega) _))).mono ?_
  rintro e w6 ⟨rfl, hb6⟩
  go_wp2
  go_ret
  exact ⟨ret_bool (by simp), (HB5.out.alloc (by omega) _).trans (hb6.mono (by simp; omega))⟩
end Go.Proofs.YtnfkgnjeamnhfaaDoor
