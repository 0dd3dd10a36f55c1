import Derived.Test.YtnfkgnjeamnhfaaDoorChk
import Derived.Test.YtnfkgnjeamnhfaaDoorPref4
import Derived.Test.YtnfkgnjeamnhfaaDoorPref6
import Derived.Lib.Hide
namespace Go.Proofs.YtnfkgnjeamnhfaaDoor
open Go.RowKit

theorem rdA_inv {sep : UInt8} {base g : Nat} {step : Nat × Nat → Nat → Nat × Nat} (I : Nat → Nat × Nat → Prop) (hI : ∀ n a v, I (n + 1) a → v ≤ g → I n (step a v)) :
    ∀ {n : Nat} {b : Bool} {a a' : Nat × Nat} {l r : List UInt8}, rdA sep base g step n b a l = some (a', r) → I n a → I 0 a'
  | 0, b, a, a', l, r, h, hi => by cases h; exact hi
  | n + 1, b, a, a', l, r, h, hi => by
    simp only [rdA] at h
    split at h
    · cases h
    · rename_i v l2 h1
      have hv : v ≤ g := by
        unfold nextPart at h1
        split at h1
        · cases h1
        · exact (readN_bound h1 (Nat.zero_le _)).1
      exact rdA_inv I hI h (hI n a v hi hv)
def rd4 : List UInt8 → Option (Nat × Nat × Nat) := rdP 46 10 255 step4 4 32
def rd6 : List UInt8 → Option (Nat × Nat × Nat) := rdP 58 16 65535 step6 8 128
theorem rdP_some {sep : UInt8} {base g : Nat} {step : Nat × Nat → Nat → Nat × Nat} {n width : Nat} {l : List UInt8} {hi lo v : Nat} (h : rdP sep base g step n width l = some (hi, lo, v)) :
    ∃ r r1, rdA sep base g step n true (0, 0) l = some ((hi, lo), r) ∧ skipB 47 r = some r1 ∧ readN 10 width 0 false r1 = some (v, []) := by
  unfold rdP at h
  split at h
  · cases h
  · rename_i a r ha
    split at h
    · cases h
    · rename_i r1 h1
      split at h
      · rename_i v' h2
        cases h
        exact ⟨r, r1, ha, h1, h2⟩
      · cases h
theorem rd4_bound {l : List UInt8} {hi lo v : Nat} (h : rd4 l = some (hi, lo, v)) : hi = 0 ∧ lo < 4294967296 ∧ v ≤ 32 := by
  obtain ⟨r, r1, ha, _, hn⟩ := rdP_some h
  have hv := (readN_bound hn (Nat.zero_le _)).1
  have := rdA_inv (fun n a => a.1 = 0 ∧ a.2 < 256 ^ (4 - n) ∧ n ≤ 4) (fun n a v ⟨h1, h2, h3⟩ hv => by
    refine ⟨rfl, ?_, by omega⟩
    have e : 4 - n = (4 - (n + 1)) + 1 := by omega
    rw [e, Nat.pow_succ]
    show a.2 * 256 + v < _
    omega) ha ⟨rfl, by decide, by decide⟩
  exact ⟨this.1, this.2.1, hv⟩
theorem rd6_bound {l : List UInt8} {hi lo v : Nat} (h : rd6 l = some (hi, lo, v)) : hi ≤ 18446744073709551615 ∧ lo ≤ 18446744073709551615 ∧ v ≤ 128 := by
  obtain ⟨r, r1, ha, _, hn⟩ := rdP_some h
  have hv := (readN_bound hn (Nat.zero_le _)).1
  have := rdA_inv (fun _ a => a.1 ≤ 18446744073709551615 ∧ a.2 ≤ 18446744073709551615) (fun n a v ⟨h1, h2⟩ hv => by
    show p16h a.1 a.2 ≤ _ ∧ p16l a.2 v ≤ _
    unfold p16h p16l
    omega) ha ⟨by decide, by decide⟩
  exact ⟨this.1, this.2, hv⟩
/-- Parse, as a function: the family, the address's halves, the length. -/
def parseF (l : List UInt8) : Option (Int × Nat × Nat × Nat) :=
  match rd4 l with
  | some (hi, lo, n) => if chk 4 hi lo n = 0 then some (4, hi, lo, n) else none
  | none =>
    match rd6 l with
    | some (hi, lo, n) => if chk 6 hi lo n = 0 then some (6, hi, lo, n) else none
    | none => none
def ParsePost (o : Option (Int × Nat × Nat × Nat)) (e : Ending) : Prop :=
  match o with
  | some (f, hi, lo, n) => e = .returned (.tuple #[pref f hi lo n, .int .i64 0])
  | none => e = .returned (.tuple #[pref 0 0 0 0, .int .i64 5])
theorem pre4_some {t : ByteArray} (hs : t.size ≤ maxLen) {hi lo v : Nat} (h : rd4 t.data.toList = some (hi, lo, v)) (w : World) :
    Calls Tryd.prog 22 #[.string t, sty4] w fun e w' => e = .returned (.tuple #[pref 4 hi lo v, .bool true]) ∧ Below w.heap.size w w' := by
  refine (pre4_any t w hs).mono ?_
  rintro e w' ⟨hp, hb⟩
  rw [show rdP 46 10 255 step4 4 32 t.data.toList = _ from h] at hp
  exact ⟨hp, hb⟩
theorem pre4_none {t : ByteArray} (hs : t.size ≤ maxLen) (h : rd4 t.data.toList = none) (w : World) :
    Calls Tryd.prog 22 #[.string t, sty4] w fun e w' => e = .returned (.tuple #[pref 0 0 0 0, .bool false]) ∧ Below w.heap.size w w' := by
  refine (pre4_any t w hs).mono ?_
  rintro e w' ⟨hp, hb⟩
  rw [show rdP 46 10 255 step4 4 32 t.data.toList = _ from h] at hp
  exact ⟨hp, hb⟩
theorem pre6_some {t : ByteArray} (hs : t.size ≤ maxLen) {hi lo v : Nat} (h : rd6 t.data.toList = some (hi, lo, v)) (w : World) :
    Calls Tryd.prog 22 #[.string t, sty6] w fun e w' => e = .returned (.tuple #[pref 6 hi lo v, .bool true]) ∧ Below w.heap.size w w' := by
  refine (pre6_any t w hs).mono ?_
  rintro e w' ⟨hp, hb⟩
  rw [show rdP 58 16 65535 step6 8 128 t.data.toList = _ from h] at hp
  exact ⟨hp, hb⟩
theorem pre6_none {t : ByteArray} (hs : t.size ≤ maxLen) (h : rd6 t.data.toList = none) (w : World) :
    Calls Tryd.prog 22 #[.string t, sty6] w fun e w' => e = .returned (.tuple #[pref 0 0 0 0, .bool false]) ∧ Below w.heap.size w w' := by
  refine (pre6_any t w hs).mono ?_
  rintro e w' ⟨hp, hb⟩
  rw [show rdP 58 16 65535 step6 8 128 t.data.toList = _ from h] at hp
  exact ⟨hp, hb⟩
set_option maxHeartbeats 4000000 in
theorem parse_4y (t : ByteArray) (w : World) (hi lo n : Nat) (o : Option (Int × Nat × Nat × Nat))
    (HP : Hid (∀ w, Calls Tryd.prog 22 #[.string t, sty4] w fun e w' => e = .returned (.tuple #[pref 4 hi lo n, .bool true]) ∧ Below w.heap.size w w'))
    (HC : Hid (∀ w, Calls Tryd.prog 25 #[pref 4 hi lo n] w fun e w' => e = .returned (.int .i64 0) ∧ Below w.heap.size w w'))
    (HO : Hid (o = some (4, hi, lo, n))) :
    Calls Tryd.prog 13 #[.string t] w fun e w' => ParsePost o e ∧ Below w.heap.size w w' := by
  go_enter Tryd.func13, Tryd.ntmps13
  go_wp2_with (first | (go_at_call 23; refine (style4_any _).mono ?_; rintro e w1 ⟨rfl, hb1⟩; have hz1 : w.heap.size < w1.heap.size := (by have := hb1.size; simp at this; omega); obtain ⟨hc1, hf1⟩ := bcell hb1) | (go_at_call 22; refine (HP.out _).mono ?_; rintro e w2 ⟨rfl, hb2⟩; have hz2 : w.heap.size < w2.heap.size := (by have := hb2.size; omega); obtain ⟨hc2, hf2⟩ := bcell hb2) | (go_at_call 25; refine (HC.out _).mono ?_; rintro e w5 ⟨rfl, hb5⟩; have hz5 : w.heap.size < w5.heap.size := (by have := hb5.size; simp at this; omega); have hz6 : w2.heap.size < w5.heap.size := (by have := hb5.size; simp at this; omega); obtain ⟨hc5, hf5⟩ := bcell hb5))
  have k0 : w5.cell? ⟨w.heap.size, 0, none⟩ = some (.int .i64 0) := by go_simp
  have k1 : w5.cell? ⟨w.heap.size, 1, none⟩ = some (.int .u64 0) := by go_simp
  have k2 : w5.cell? ⟨w.heap.size, 2, none⟩ = some (.int .u64 0) := by go_simp
  have k3 : w5.cell? ⟨w.heap.size, 3, none⟩ = some (.int .i64 0) := by go_simp
  refine bodyPost_ret (v := .tuple #[pref 4 hi lo n, .int .i64 0]) (by simp [results, Tryd.results13, go_sem, k0, k1, k2, k3]) rfl ⟨?_, ?_⟩
  · rw [HO.out]; rfl
  · have B2 : Below w.heap.size w w2 := (((Below.refl _ _).alloc (Nat.le_refl _) _).trans (hb1.mono (by simp))).trans (hb2.mono (by omega))
    have B5 := (B2.alloc (by omega) (.cells #[.int .i64 4, .int .u64 hi, .int .u64 lo, .int .i64 n] 26)).trans (hb5.mono (by simp; omega))
    exact ((((B5.setCell (by dsimp only; omega) _).setCell (by dsimp only; omega) _).setCell (by dsimp only; omega) _).setCell (by dsimp only; omega) _)
set_option maxHeartbeats 4000000 in
theorem parse_4n (t : ByteArray) (w : World) (hi lo n : Nat) (z : Int) (hz : (z == 0) = false) (o : Option (Int × Nat × Nat × Nat))
    (HP : Hid (∀ w, Calls Tryd.prog 22 #[.string t, sty4] w fun e w' => e = .returned (.tuple #[pref 4 hi lo n, .bool true]) ∧ Below w.heap.size w w'))
    (HC : Hid (∀ w, Calls Tryd.prog 25 #[pref 4 hi lo n] w fun e w' => e = .returned (.int .i64 z) ∧ Below w.heap.size w w'))
    (HO : Hid (o = none)) :
    Calls Tryd.prog 13 #[.string t] w fun e w' => ParsePost o e ∧ Below w.heap.size w w' := by
  go_enter Tryd.func13, Tryd.ntmps13
  go_wp2_with (first | (go_at_call 23; refine (style4_any _).mono ?_; rintro e w1 ⟨rfl, hb1⟩; have hz1 : w.heap.size < w1.heap.size := (by have := hb1.size; simp at this; omega); obtain ⟨hc1, hf1⟩ := bcell hb1) | (go_at_call 22; refine (HP.out _).mono ?_; rintro e w2 ⟨rfl, hb2⟩; have hz2 : w.heap.size < w2.heap.size := (by have := hb2.size; omega); obtain ⟨hc2, hf2⟩ := bcell hb2) | (go_at_call 25; refine (HC.out _).mono ?_; rintro e w5 ⟨rfl, hb5⟩; have hz5 : w.heap.size < w5.heap.size := (by have := hb5.size; simp at this; omega); have hz6 : w2.heap.size < w5.heap.size := (by have := hb5.size; simp at this; omega); obtain ⟨hc5, hf5⟩ := bcell hb5))
  have k0 : w5.cell? ⟨w.heap.size, 0, none⟩ = some (.int .i64 0) := by go_simp
  have k1 : w5.cell? ⟨w.heap.size, 1, none⟩ = some (.int .u64 0) := by go_simp
  have k2 : w5.cell? ⟨w.heap.size, 2, none⟩ = some (.int .u64 0) := by go_simp
  have k3 : w5.cell? ⟨w.heap.size, 3, none⟩ = some (.int .i64 0) := by go_simp
  refine bodyPost_ret (v := .tuple #[pref 0 0 0 0, .int .i64 5]) (by simp [results, Tryd.results13, go_sem, k0, k1, k2, k3]) rfl ⟨?_, ?_⟩
  · rw [HO.out]; rfl
  · have B2 : Below w.heap.size w w2 := (((Below.refl _ _).alloc (Nat.le_refl _) _).trans (hb1.mono (by simp))).trans (hb2.mono (by omega))
    have B5 := (B2.alloc (by omega) (.cells #[.int .i64 4, .int .u64 hi, .int .u64 lo, .int .i64 n] 26)).trans (hb5.mono (by simp; omega))
    exact ((((B5.setCell (by dsimp only; omega) _).setCell (by dsimp only; omega) _).setCell (by dsimp only; omega) _).setCell (by dsimp only; omega) _)
set_option maxHeartbeats 4000000 in
theorem parse_6y (t : ByteArray) (w : World) (hi lo n : Nat) (o : Option (Int × Nat × Nat × Nat))
    (HP : Hid (∀ w, Calls Tryd.prog 22 #[.string t, sty4] w fun e w' => e = .returned (.tuple #[pref 0 0 0 0, .bool false]) ∧ Below w.heap.size w w'))
    (HQ : Hid (∀ w, Calls Tryd.prog 22 #[.string t, sty6] w fun e w' => e = .returned (.tuple #[pref 6 hi lo n, .bool true]) ∧ Below w.heap.size w w'))
    (HC : Hid (∀ w, Calls Tryd.prog 25 #[pref 6 hi lo n] w fun e w' => e = .returned (.int .i64 0) ∧ Below w.heap.size w w'))
    (HO : Hid (o = some (6, hi, lo, n))) :
    Calls Tryd.prog 13 #[.string t] w fun e w' => ParsePost o e ∧ Below w.heap.size w w' := by
  go_enter Tryd.func13, Tryd.ntmps13
  go_wp2_with (first | (go_at_call 23; refine (style4_any _).mono ?_; rintro e w1 ⟨rfl, hb1⟩; have hz1 : w.heap.size < w1.heap.size := (by have := hb1.size; simp at this; omega); obtain ⟨hc1, hf1⟩ := bcell hb1) | (go_at_call 22; refine (HP.out _).mono ?_; rintro e w2 ⟨rfl, hb2⟩; have hz2 : w.heap.size < w2.heap.size := (by have := hb2.size; omega); obtain ⟨hc2, hf2⟩ := bcell hb2; refine Hid.out ?_))
  refine Lib.hid ?_
  go_wp2_with (first | (go_at_call 24; refine (style6_any _).mono ?_; rintro e w3 ⟨rfl, hb3⟩; have hz3 : w.heap.size < w3.heap.size := (by have := hb3.size; simp at this; omega); have hz3' : w2.heap.size < w3.heap.size := (by have := hb3.size; simp at this; omega); obtain ⟨hc3, hf3⟩ := bcell hb3) | (go_at_call 22; refine (HQ.out _).mono ?_; rintro e w4 ⟨rfl, hb4⟩; have hz4 : w.heap.size < w4.heap.size := (by have := hb4.size; omega); have hz4' : w2.heap.size < w4.heap.size := (by have := hb4.size; omega); obtain ⟨hc4, hf4⟩ := bcell hb4) | (go_at_call 25; refine (HC.out _).mono ?_; rintro e w5 ⟨rfl, hb5⟩; have hz5 : w.heap.size < w5.heap.size := (by have := hb5.size; simp at this; omega); have hz6 : w2.heap.size < w5.heap.size := (by have := hb5.size; simp at this; omega); obtain ⟨hc5, hf5⟩ := bcell hb5))
  have k0 : w5.cell? ⟨w.heap.size, 0, none⟩ = some (.int .i64 0) := by go_simp
  have k1 : w5.cell? ⟨w.heap.size, 1, none⟩ = some (.int .u64 0) := by go_simp
  have k2 : w5.cell? ⟨w.heap.size, 2, none⟩ = some (.int .u64 0) := by go_simp
  have k3 : w5.cell? ⟨w.heap.size, 3, none⟩ = some (.int .i64 0) := by go_simp
  refine bodyPost_ret (v := .tuple #[pref 6 hi lo n, .int .i64 0]) (by simp [results, Tryd.results13, go_sem, k0, k1, k2, k3]) rfl ⟨?_, ?_⟩
  · rw [HO.out]; rfl
  · have B2 : Below w.heap.size w w2 := (((Below.refl _ _).alloc (Nat.le_refl _) _).trans (hb1.mono (by simp))).trans (hb2.mono (by omega))
    have B3 := (B2.alloc (by omega) (.cells #[.int .i64 0, .int .u64 0, .int .u64 0, .int .i64 0] 26)).trans (hb3.mono (by simp; omega))
    have B4 := B3.trans (hb4.mono (by omega))
    have B5 := ((((B4.setCell (by dsimp only; omega) _).setCell (by dsimp only; omega) _).setCell (by dsimp only; omega) _).setCell (by dsimp only; omega) _).trans (hb5.mono (by simp; omega))
    exact ((((B5.setCell (by dsimp only; omega) _).setCell (by dsimp only; omega) _).setCell (by dsimp only; omega) _).setCell (by dsimp only; omega) _)
set_option maxHeartbeats 4000000 in
theorem parse_6n (t : ByteArray) (w : World) (hi lo n : Nat) (z : Int) (hz : (z == 0) = false) (o : Option (Int × Nat × Nat × Nat))
    (HP : Hid (∀ w, Calls Tryd.prog 22 #[.string t, sty4] w fun e w' => e = .returned (.tuple #[pref 0 0 0 0, .bool false]) ∧ Below w.heap.size w w'))
    (HQ : Hid (∀ w, Calls Tryd.prog 22 #[.string t, sty6] w fun e w' => e = .returned (.tuple #[pref 6 hi lo n, .bool true]) ∧ Below w.heap.size w w'))
    (HC : Hid (∀ w, Calls Tryd.prog 25 #[pref 6 hi lo n] w fun e w' => e = .returned (.int .i64 z) ∧ Below w.heap.size w w'))
    (HO : Hid (o = none)) :
    Calls Tryd.prog 13 #[.string t] w fun e w' => ParsePost o e ∧ Below w.heap.size w w' := by
  go_enter Tryd.func13, Tryd.ntmps13
  go_wp2_with (first | (go_at_call 23; refine (style4_any _).mono ?_; rintro e w1 ⟨rfl, hb1⟩; have hz1 : w.heap.size < w1.heap.size := (by have := hb1.size; simp at this; omega); obtain ⟨hc1, hf1⟩ := bcell hb1) | (go_at_call 22; refine (HP.out _).mono ?_; rintro e w2 ⟨rfl, hb2⟩; have hz2 : w.heap.size < w2.heap.size := (by have := hb2.size; omega); obtain ⟨hc2, hf2⟩ := bcell hb2; refine Hid.out ?_))
  refine Lib.hid ?_
  go_wp2_with (first | (go_at_call 24; refine (style6_any _).mono ?_; rintro e w3 ⟨rfl, hb3⟩; have hz3 : w.heap.size < w3.heap.size := (by have := hb3.size; simp at this; omega); have hz3' : w2.heap.size < w3.heap.size := (by have := hb3.size; simp at this; omega); obtain ⟨hc3, hf3⟩ := bcell hb3) | (go_at_call 22; refine (HQ.out _).mono ?_; rintro e w4 ⟨rfl, hb4⟩; have hz4 : w.heap.size < w4.heap.size := (by have := hb4.size; omega); have hz4' : w2.heap.size < w4.heap.size := (by have := hb4.size; omega); obtain ⟨hc4, hf4⟩ := bcell hb4) | (go_at_call 25; refine (HC.out _).mono ?_; rintro e w5 ⟨rfl, hb5⟩; have hz5 : w.heap.size < w5.heap.size := (by have := hb5.size; simp at this; omega); have hz6 : w2.heap.size < w5.heap.size := (by have := hb5.size; simp at this; omega); obtain ⟨hc5, hf5⟩ := bcell hb5))
  have k0 : w5.cell? ⟨w.heap.size, 0, none⟩ = some (.int .i64 0) := by go_simp
  have k1 : w5.cell? ⟨w.heap.size, 1, none⟩ = some (.int .u64 0) := by go_simp
  have k2 : w5.cell? ⟨w.heap.size, 2, none⟩ = some (.int .u64 0) := by go_simp
  have k3 : w5.cell? ⟨w.heap.size, 3, none⟩ = some (.int .i64 0) := by go_simp
  refine bodyPost_ret (v := .tuple #[pref 0 0 0 0, .int .i64 5]) (by simp [results, Tryd.results13, go_sem, k0, k1, k2, k3]) rfl ⟨?_, ?_⟩
  · rw [HO.out]; rfl
  · have B2 : Below w.heap.size w w2 := (((Below.refl _ _).alloc (Nat.le_refl _) _).trans (hb1.mono (by simp))).trans (hb2.mono (by omega))
    have B3 := (B2.alloc (by omega) (.cells #[.int .i64 0, .int .u64 0, .int .u64 0, .int .i64 0] 26)).trans (hb3.mono (by simp; omega))
    have B4 := B3.trans (hb4.mono (by omega))
    have B5 := ((((B4.setCell (by dsimp only; omega) _).setCell (by dsimp only; omega) _).setCell (by dsimp only; omega) _).setCell (by dsimp only; omega) _).trans (hb5.mono (by simp; omega))
    exact ((((B5.setCell (by dsimp only; omega) _).setCell (by dsimp only; omega) _).setCell (by dsimp only; omega) _).setCell (by dsimp only; omega) _)
set_option maxHeartbeats 4000000 in
theorem parse_0 (t : ByteArray) (w : World)  (o : Option (Int × Nat × Nat × Nat))
    (HP : Hid (∀ w, Calls Tryd.prog 22 #[.string t, sty4] w fun e w' => e = .returned (.tuple #[pref 0 0 0 0, .bool false]) ∧ Below w.heap.size w w'))
    (HQ : Hid (∀ w, Calls Tryd.prog 22 #[.string t, sty6] w fun e w' => e = .returned (.tuple #[pref 0 0 0 0, .bool false]) ∧ Below w.heap.size w w'))
    (HO : Hid (o = none)) :
    Calls Tryd.prog 13 #[.string t] w fun e w' => ParsePost o e ∧ Below w.heap.size w w' := by
  go_enter Tryd.func13, Tryd.ntmps13
  go_wp2_with (first | (go_at_call 23; refine (style4_any _).mono ?_; rintro e w1 ⟨rfl, hb1⟩; have hz1 : w.heap.size < w1.heap.size := (by have := hb1.size; simp at this; omega); obtain ⟨hc1, hf1⟩ := bcell hb1) | (go_at_call 22; refine (HP.out _).mono ?_; rintro e w2 ⟨rfl, hb2⟩; have hz2 : w.heap.size < w2.heap.size := (by have := hb2.size; omega); obtain ⟨hc2, hf2⟩ := bcell hb2; refine Hid.out ?_))
  refine Lib.hid ?_
  go_wp2_with (first | (go_at_call 24; refine (style6_any _).mono ?_; rintro e w3 ⟨rfl, hb3⟩; have hz3 : w.heap.size < w3.heap.size := (by have := hb3.size; simp at this; omega); have hz3' : w2.heap.size < w3.heap.size := (by have := hb3.size; simp at this; omega); obtain ⟨hc3, hf3⟩ := bcell hb3) | (go_at_call 22; refine (HQ.out _).mono ?_; rintro e w4 ⟨rfl, hb4⟩; have hz4 : w.heap.size < w4.heap.size := (by have := hb4.size; omega); have hz4' : w2.heap.size < w4.heap.size := (by have := hb4.size; omega); obtain ⟨hc4, hf4⟩ := bcell hb4))
  have k0 : w4.cell? ⟨w.heap.size, 0, none⟩ = some (.int .i64 0) := by go_simp
  have k1 : w4.cell? ⟨w.heap.size, 1, none⟩ = some (.int .u64 0) := by go_simp
  have k2 : w4.cell? ⟨w.heap.size, 2, none⟩ = some (.int .u64 0) := by go_simp
  have k3 : w4.cell? ⟨w.heap.size, 3, none⟩ = some (.int .i64 0) := by go_simp
  refine bodyPost_ret (v := .tuple #[pref 0 0 0 0, .int .i64 5]) (by simp [results, Tryd.results13, go_sem, k0, k1, k2, k3]) rfl ⟨?_, ?_⟩
  · rw [HO.out]; rfl
  · have B2 : Below w.heap.size w w2 := (((Below.refl _ _).alloc (Nat.le_refl _) _).trans (hb1.mono (by simp))).trans (hb2.mono (by omega))
    have B3 := (B2.alloc (by omega) (.cells #[.int .i64 0, .int .u64 0, .int .u64 0, .int .i64 0] 26)).trans (hb3.mono (by simp; omega))
    have B4 := B3.trans (hb4.mono (by omega))
    exact ((((((((B4.setCell (by dsimp only; omega) _).setCell (by dsimp only; omega) _).setCell (by dsimp only; omega) _).setCell (by dsimp only; omega) _).setCell (by dsimp only; omega) _).setCell (by dsimp only; omega) _).setCell (by dsimp only; omega) _).setCell (by dsimp only; omega) _)
theorem z_beq {z : Int} (h : ¬ z = 0) : (z == 0) = false := by simpa using h
/-- texts.Parse, whole. -/
theorem tparse_any (t : ByteArray) (w : World) (hs : t.size ≤ maxLen) :
    Calls Tryd.prog 13 #[.string t] w fun e w' => ParsePost (parseF t.data.toList) e ∧ Below w.heap.size w w' := by
  rcases h4 : rd4 t.data.toList with _ | ⟨hi, lo, n⟩
  · rcases h6 : rd6 t.data.toList with _ | ⟨hi, lo, n⟩
    · exact parse_0 t w _ (pre4_none hs h4) (pre6_none hs h6) (by show _ = _; simp [parseF, h4, h6])
    · obtain ⟨b1, b2, b3⟩ := rd6_bound h6
      have hc := fun w => check_any 6 hi lo n w b1 b2
      by_cases hz : chk 6 hi lo n = 0
      · rw [hz] at hc
        exact parse_6y t w hi lo n _ (pre4_none hs h4) (pre6_some hs h6) hc (by show _ = _; simp [parseF, h4, h6, hz])
      · exact parse_6n t w hi lo n _ (z_beq hz) _ (pre4_none hs h4) (pre6_some hs h6) hc (by show _ = _; simp [parseF, h4, h6, hz])
  · obtain ⟨b1, b2, b3⟩ := rd4_bound h4
    have hc := fun w => check_any 4 hi lo n w (by omega) (by omega)
    by_cases hz : chk 4 hi lo n = 0
    · rw [hz] at hc
      exact parse_4y t w hi lo n _ (pre4_some hs h4) hc (by show _ = _; simp [parseF, h4, hz])
    · exact parse_4n t w hi lo n _ (z_beq hz) _ (pre4_some hs h4) hc (by show _ = _; simp [parseF, h4, hz])
set_option maxHeartbeats 400000 in
theorem wparse_val (t : ByteArray) (w : World) (f : Int) (hi lo : Nat) (n z : Int) (HP : Hid (∀ w, Calls Tryd.prog 13 #[.string t] w fun e w' => e = .returned (.tuple #[pref f hi lo n, .int .i64 z]) ∧ Below w.heap.size w w')) :
    Calls Tryd.prog 5 #[.string t] w fun e w' => e = .returned (.tuple #[pref f hi lo n, .int .i64 z]) ∧ Below w.heap.size w w' := by
  go_enter Tryd.func5, Tryd.ntmps5
  go_wp2_with (first | (go_at_call 13; refine (HP.out _).mono ?_; rintro e w1 ⟨rfl, hb⟩; obtain ⟨hc, hf⟩ := bcell hb; have hz : w.heap.size < w1.heap.size := (by have := hb.size; simp at this; omega)))
  have k0 : w1.cell? ⟨w.heap.size, 0, none⟩ = some (.int .i64 0) := by go_simp
  have k1 : w1.cell? ⟨w.heap.size, 1, none⟩ = some (.int .u64 0) := by go_simp
  have k2 : w1.cell? ⟨w.heap.size, 2, none⟩ = some (.int .u64 0) := by go_simp
  have k3 : w1.cell? ⟨w.heap.size, 3, none⟩ = some (.int .i64 0) := by go_simp
  refine bodyPost_ret (v := .tuple #[pref f hi lo n, .int .i64 z]) (by simp [results, Tryd.results5, go_sem, k0, k1, k2, k3]) rfl ⟨rfl, ?_⟩
  have B1 := ((Below.refl w.heap.size w).alloc (Nat.le_refl _) (.cells #[.int .i64 0, .int .u64 0, .int .u64 0, .int .i64 0] 26)).trans (hb.mono (by simp))
  exact ((((B1.setCell (by dsimp only; omega) _).setCell (by dsimp only; omega) _).setCell (by dsimp only; omega) _).setCell (by dsimp only; omega) _)
/-- waymark.Parse, whole. -/
theorem parse_some {t : ByteArray} (hs : t.size ≤ maxLen) {f : Int} {hi lo n : Nat} (h : parseF t.data.toList = some (f, hi, lo, n)) (w : World) :
    Calls Tryd.prog 5 #[.string t] w fun e w' => e = .returned (.tuple #[pref f hi lo n, .int .i64 0]) ∧ Below w.heap.size w w' := by
  refine wparse_val t w f hi lo n 0 (fun w => (tparse_any t w hs).mono ?_)
  rintro e w' ⟨hp, hb⟩
  rw [h] at hp
  exact ⟨hp, hb⟩
theorem parse_none {t : ByteArray} (hs : t.size ≤ maxLen) (h : parseF t.data.toList = none) (w : World) :
    Calls Tryd.prog 5 #[.string t] w fun e w' => e = .returned (.tuple #[pref 0 0 0 0, .int .i64 5]) ∧ Below w.heap.size w w' := by
  refine wparse_val t w 0 0 0 0 5 (fun w => (tparse_any t w hs).mono ?_)
  rintro e w' ⟨hp, hb⟩
  rw [h] at hp
  exact ⟨hp, hb⟩
end Go.Proofs.YtnfkgnjeamnhfaaDoor
