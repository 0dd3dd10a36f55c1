import Derived.Test.YtnfkgnjeamnhfaaDoorWrite4
import Derived.Test.YtnfkgnjeamnhfaaDoorWrite6
import Derived.Test.YtnfkgnjeamnhfaaDoorChk
namespace Go.Proofs.YtnfkgnjeamnhfaaDoor
open Go.RowKit

/-- What the calls read of the library's tables. -/
structure Tabs (w : World) : Prop where
  pow : Lib.TabIs Tryd.prog w "internal/strconv.uint64pow10" .u64 Lib.pow10Tab
  bru : w.cell? ⟨2, 15, none⟩ = some (.int .u8 4)
  siz : 2 < w.heap.size
theorem Tabs.below {w w' : World} (h : Tabs w) (hb : Below w.heap.size w w') : Tabs w' :=
  ⟨Joins.tab_stays gpow h.pow hb (Nat.le_refl _), (hb.cell (p := ⟨2, 15, none⟩) h.siz).trans h.bru, Nat.lt_of_lt_of_le h.siz hb.size⟩

theorem itoa_any (n : Nat) (hn : n ≤ 1000) (w : World) (ht : Tabs w) :
    Calls Tryd.prog 30 #[.int .i64 n] w fun e w' => e = .returned (.string ⟨(Lib.decDigits n).toArray⟩) ∧ Below w.heap.size w w' := by
  refine (Tryd.strconv_Itoa n (by omega) (by omega) w ht.pow).mono ?_
  rintro e w' ⟨rfl, k, os, rfl⟩
  exact ⟨by rw [Lib.itoa_nonneg], Lib.below_grow _ _ (Nat.le_refl _) _ _⟩
def txt4 (lo : Nat) : List UInt8 := wrA 46 Lib.decDigits low4 pop4f 4 true (0, lo) []
def txt6 (hi lo : Nat) : List UInt8 := wrA 58 hexD low6 pop6f 8 true (hi, lo) []
theorem wr4_all (lo : Nat) (w : World) (h : lo ≤ 4294967295) (ht : Tabs w) :
    Calls Tryd.prog 29 #[addr 4 0 lo, sty4] w fun e w' => e = .returned (.string ⟨(txt4 lo).toArray⟩) ∧ Below w.heap.size w w' := write4_any lo w h ht.pow
theorem wr6_all (hi lo : Nat) (w : World) (h : lo ≤ 18446744073709551615) (ht : Tabs w) :
    Calls Tryd.prog 29 #[addr 6 hi lo, sty6] w fun e w' => e = .returned (.string ⟨(txt6 hi lo).toArray⟩) ∧ Below w.heap.size w w' := write6_any hi lo w h ht.bru ht.siz
theorem wrA_length {sep : UInt8} {dig : Nat → List UInt8} {low : Nat × Nat → Nat} {pop : Nat × Nat → Nat × Nat} (hd : ∀ a, (dig (low a)).length ≤ 4) :
    ∀ (n : Nat) (b : Bool) (a : Nat × Nat) (acc : List UInt8), (wrA sep dig low pop n b a acc).length ≤ acc.length + 5 * n
  | 0, b, a, acc => by simp [wrA]
  | n + 1, b, a, acc => by
    have h1 := wrA_length (sep := sep) (pop := pop) hd n false (pop a) (dig (low a) ++ (if b = true then acc else sep :: acc))
    have h2 := hd a
    simp only [wrA]
    cases b <;> simp at h1 ⊢ <;> omega
theorem txt4_length (lo : Nat) : (txt4 lo).length ≤ 20 := by
  have := wrA_length (sep := 46) (dig := Lib.decDigits) (low := low4) (pop := pop4f) (fun a => by have := decDigits_255 (low4 a) (by unfold low4; omega); omega) 4 true (0, lo) []
  simpa [txt4] using this
theorem txt6_length (hi lo : Nat) : (txt6 hi lo).length ≤ 40 := by
  have := wrA_length (sep := 58) (dig := hexD) (low := low6) (pop := pop6f) (fun a => hexD_65535 (low6 a) (by unfold low6; omega)) 8 true (hi, lo) []
  simpa [txt6] using this
theorem decDigits_1000 (p : Nat) (h : p ≤ 1000) : (Lib.decDigits p).length ≤ 4 := by
  rw [Lib.decDigits_length]
  rcases Nat.lt_or_ge p 10 with h1 | h1
  · rw [Lib.nDigits_small h1]; decide
  · rw [Lib.nDigits_big (by omega)]
    rcases Nat.lt_or_ge (p / 10) 10 with h2 | h2
    · rw [Lib.nDigits_small h2]; decide
    · rw [Lib.nDigits_big (by omega)]
      rcases Nat.lt_or_ge (p / 10 / 10) 10 with h3 | h3
      · rw [Lib.nDigits_small h3]; decide
      · rw [Lib.nDigits_big (by omega), Lib.nDigits_small (by omega)]; decide

set_option maxHeartbeats 4000000 in
/-- texts.Format of what is not good. -/
theorem format_bad (f : Int) (hi lo : Nat) (n z : Int) (w : World) (hz : (z == 0) = false)
    (HC : Hid (∀ w, Calls Tryd.prog 25 #[pref f hi lo n] w fun e w' => e = .returned (.int .i64 z) ∧ Below w.heap.size w w')) :
    Calls Tryd.prog 17 #[pref f hi lo n] w fun e w' => e = .returned (.tuple #[.string ⟨#[]⟩, .int .i64 z]) ∧ Below w.heap.size w w' := by
  go_enter Tryd.func17, Tryd.ntmps17
  go_wp2_with (first | (go_at_call 25; refine (HC.out _).mono ?_; rintro e w1 ⟨rfl, hb1⟩))
  go_ret2
  exact ⟨rfl, ((Below.refl _ _).alloc (Nat.le_refl _) _).trans (hb1.mono (by simp))⟩
set_option maxHeartbeats 4000000 in
theorem format_4 (lo n : Nat) (tx dg : List UInt8) (w : World) (ht : Tabs w) (hlt : tx.length ≤ 20) (hld : dg.length ≤ 4)
    (HC : Hid (∀ w, Calls Tryd.prog 25 #[pref 4 0 lo n] w fun e w' => e = .returned (.int .i64 0) ∧ Below w.heap.size w w'))
    (HW : Hid (∀ w, Tabs w → Calls Tryd.prog 29 #[addr 4 0 lo, sty4] w fun e w' => e = .returned (.string ⟨tx.toArray⟩) ∧ Below w.heap.size w w'))
    (HI : Hid (∀ w, Tabs w → Calls Tryd.prog 30 #[.int .i64 n] w fun e w' => e = .returned (.string ⟨dg.toArray⟩) ∧ Below w.heap.size w w')) :
    Calls Tryd.prog 17 #[pref 4 0 lo n] w fun e w' => e = .returned (.tuple #[.string ⟨(tx ++ 47 :: dg).toArray⟩, .int .i64 0]) ∧ Below w.heap.size w w' := by
  have HT : Hid _ := ht
  clear ht
  go_enter Tryd.func17, Tryd.ntmps17
  go_wp2_with (first | (go_at_call 25; refine (HC.out _).mono ?_; rintro e w1 ⟨rfl, hb1⟩; have hz1 : w.heap.size < w1.heap.size := (by have := hb1.size; simp at this; omega); obtain ⟨hc1, hf1⟩ := bcell hb1; have HB1 : Hid (Below w.heap.size w w1) := ((Below.refl _ _).alloc (Nat.le_refl _) _).trans (hb1.mono (by simp))) | (go_at_call 23; refine (style4_any _).mono ?_; rintro e w2 ⟨rfl, hb2⟩; have hz2 : w.heap.size < w2.heap.size := (by have := hb2.size; omega); obtain ⟨hc2, hf2⟩ := bcell hb2; have HB2 : Hid (Below w.heap.size w w2) := HB1.out.trans (hb2.mono (by omega))) | (go_at_call 29; refine (HW.out _ (by exact HT.out.below (HB2.out.alloc (by omega) _))).mono ?_; rintro e w3 ⟨rfl, hb3⟩; have hz3 : w.heap.size < w3.heap.size := (by have := hb3.size; simp at this; omega); obtain ⟨hc3, hf3⟩ := bcell hb3; have HB3 : Hid (Below w.heap.size w w3) := (HB2.out.alloc (by omega) _).trans (hb3.mono (by simp; omega))) | (go_at_call 30; refine (HI.out _ (by exact HT.out.below HB3.out)).mono ?_; rintro e w4 ⟨rfl, hb4⟩))
  go_ret2
  exact ⟨ret_strb (ba_ext (by simp [ByteArray.data_append])), HB3.out.trans (hb4.mono (by omega))⟩
set_option maxHeartbeats 4000000 in
theorem format_6 (hi lo n : Nat) (tx dg : List UInt8) (w : World) (ht : Tabs w) (hlt : tx.length ≤ 40) (hld : dg.length ≤ 4)
    (HC : Hid (∀ w, Calls Tryd.prog 25 #[pref 6 hi lo n] w fun e w' => e = .returned (.int .i64 0) ∧ Below w.heap.size w w'))
    (HW : Hid (∀ w, Tabs w → Calls Tryd.prog 29 #[addr 6 hi lo, sty6] w fun e w' => e = .returned (.string ⟨tx.toArray⟩) ∧ Below w.heap.size w w'))
    (HI : Hid (∀ w, Tabs w → Calls Tryd.prog 30 #[.int .i64 n] w fun e w' => e = .returned (.string ⟨dg.toArray⟩) ∧ Below w.heap.size w w')) :
    Calls Tryd.prog 17 #[pref 6 hi lo n] w fun e w' => e = .returned (.tuple #[.string ⟨(tx ++ 47 :: dg).toArray⟩, .int .i64 0]) ∧ Below w.heap.size w w' := by
  have HT : Hid _ := ht
  clear ht
  go_enter Tryd.func17, Tryd.ntmps17
  go_wp2_with (first | (go_at_call 25; refine (HC.out _).mono ?_; rintro e w1 ⟨rfl, hb1⟩; have hz1 : w.heap.size < w1.heap.size := (by have := hb1.size; simp at this; omega); obtain ⟨hc1, hf1⟩ := bcell hb1; have HB1 : Hid (Below w.heap.size w w1) := ((Below.refl _ _).alloc (Nat.le_refl _) _).trans (hb1.mono (by simp))) | (go_at_call 23; refine (style4_any _).mono ?_; rintro e w2 ⟨rfl, hb2⟩; have hz2 : w.heap.size < w2.heap.size := (by have := hb2.size; omega); obtain ⟨hc2, hf2⟩ := bcell hb2; have HB2 : Hid (Below w.heap.size w w2) := HB1.out.trans (hb2.mono (by omega))) | (go_at_call 24; refine (style6_any _).mono ?_; rintro e w6 ⟨rfl, hb6⟩; have hz6 : w.heap.size < w6.heap.size := (by have := hb6.size; simp at this; omega); have hz7 : w2.heap.size < w6.heap.size := (by have := hb6.size; simp at this; omega); obtain ⟨hc6, hf6⟩ := bcell hb6; have HB6 : Hid (Below w.heap.size w w6) := (HB2.out.alloc (by omega) _).trans (hb6.mono (by simp; omega))) | (go_at_call 29; refine (HW.out _ (by exact HT.out.below ((((((HB6.out.setCell (by dsimp only; omega) _).setCell (by dsimp only; omega) _).setCell (by dsimp only; omega) _).setCell (by dsimp only; omega) _).setCell (by dsimp only; omega) _).setCell (by dsimp only; omega) _))).mono ?_; rintro e w3 ⟨rfl, hb3⟩; have hz3 : w.heap.size < w3.heap.size := (by have := hb3.size; simp at this; omega); obtain ⟨hc3, hf3⟩ := bcell hb3; have HB3 : Hid (Below w.heap.size w w3) := (by exact ((((((HB6.out.setCell (by dsimp only; omega) _).setCell (by dsimp only; omega) _).setCell (by dsimp only; omega) _).setCell (by dsimp only; omega) _).setCell (by dsimp only; omega) _).setCell (by dsimp only; omega) _).trans (hb3.mono (by simp; omega)))) | (go_at_call 30; refine (HI.out _ (by exact HT.out.below HB3.out)).mono ?_; rintro e w4 ⟨rfl, hb4⟩))
  go_ret2
  exact ⟨ret_strb (ba_ext (by simp [ByteArray.data_append])), HB3.out.trans (hb4.mono (by omega))⟩

set_option maxHeartbeats 400000 in
theorem wformat_val (f : Int) (hi lo : Nat) (n z : Int) (w : World) (ht : Tabs w) (s : ByteArray) (HP : Hid (∀ w, Tabs w → Calls Tryd.prog 17 #[pref f hi lo n] w fun e w' => e = .returned (.tuple #[.string s, .int .i64 z]) ∧ Below w.heap.size w w')) :
    Calls Tryd.prog 8 #[pref f hi lo n] w fun e w' => e = .returned (.tuple #[.string s, .int .i64 z]) ∧ Below w.heap.size w w' := by
  have HT : Hid _ := ht
  clear ht
  go_enter Tryd.func8, Tryd.ntmps8
  go_wp2_with (first | (go_at_call 17; refine (HP.out _ (by exact HT.out.below ((Below.refl _ _).alloc (Nat.le_refl _) _))).mono ?_; rintro e w1 ⟨rfl, hb⟩))
  go_ret2
  exact ⟨rfl, ((Below.refl _ _).alloc (Nat.le_refl _) _).trans (hb.mono (by simp))⟩
/-- The text of a good prefix. -/
def formatF (f : Int) (hi lo n : Nat) : List UInt8 := (if f = 6 then txt6 hi lo else txt4 lo) ++ 47 :: Lib.decDigits n
/-- waymark.Format of a good prefix. -/
theorem format_good (f : Int) (hi lo n : Nat) (w : World) (hh : hi ≤ 18446744073709551615) (hl : lo ≤ 18446744073709551615) (ht : Tabs w) (h : chk f hi lo n = 0) :
    Calls Tryd.prog 8 #[pref f hi lo n] w fun e w' => e = .returned (.tuple #[.string ⟨(formatF f hi lo n).toArray⟩, .int .i64 0]) ∧ Below w.heap.size w w' := by
  have hc := fun w => check_any f hi lo n w hh hl
  rw [h] at hc
  refine wformat_val f hi lo n 0 w ht _ (fun w ht => ?_)
  by_cases h4 : f = 4
  · subst h4
    have hb : hi = 0 ∧ lo < 4294967296 ∧ n ≤ 32 := by
      unfold chk at h
      rw [if_pos rfl] at h
      split at h
      · cases h
      · split at h
        · rename_i h1 h2; exact ⟨h2.1, h2.2.1, by omega⟩
        · cases h
    obtain ⟨rfl, hb1, hb2⟩ := hb
    exact format_4 lo n (txt4 lo) (Lib.decDigits n) w ht (txt4_length lo) (decDigits_1000 n (by omega)) hc (fun w ht => wr4_all lo w (by omega) ht) (fun w ht => itoa_any n (by omega) w ht)
  · by_cases h6 : f = 6
    · subst h6
      have hb : n ≤ 128 := by
        unfold chk at h
        rw [if_neg (by decide), if_pos rfl] at h
        split at h
        · cases h
        · omega
      exact format_6 hi lo n (txt6 hi lo) (Lib.decDigits n) w ht (txt6_length hi lo) (decDigits_1000 n (by omega)) hc (fun w ht => wr6_all hi lo w hl ht) (fun w ht => itoa_any n (by omega) w ht)
    · unfold chk at h; rw [if_neg h4, if_neg h6] at h; cases h
/-- waymark.Format of what is not good. -/
theorem format_no (f : Int) (hi lo : Nat) (n : Int) (w : World) (hh : hi ≤ 18446744073709551615) (hl : lo ≤ 18446744073709551615) (ht : Tabs w) (h : ¬ chk f hi lo n = 0) :
    Calls Tryd.prog 8 #[pref f hi lo n] w fun e w' => e = .returned (.tuple #[.string ⟨#[]⟩, .int .i64 (chk f hi lo n)]) ∧ Below w.heap.size w w' :=
  wformat_val f hi lo n _ w ht _ (fun w _ => format_bad f hi lo n _ w (by simpa using h) (fun w => check_any f hi lo n w hh hl))
end Go.Proofs.YtnfkgnjeamnhfaaDoor
