import Derived.Test.YtnfkgnjeamnhfaaDoorRr1
import Derived.Test.YtnfkgnjeamnhfaaDoorRr2
import Derived.Test.YtnfkgnjeamnhfaaDoorRr3
import Derived.Test.YtnfkgnjeamnhfaaDoorRr4
import Derived.Test.YtnfkgnjeamnhfaaDoorMath3
namespace Go.Proofs.YtnfkgnjeamnhfaaDoor
open Go.RowKit

theorem hex2001 : hexD 8193 = [50, 48, 48, 49] := by
  rw [hexD_ge (by decide), hexD_ge (show ¬ 8193 / 16 < 16 by decide), hexD_ge (show ¬ 8193 / 16 / 16 < 16 by decide), hexD_lt (show 8193 / 16 / 16 / 16 < 16 by decide)]
  decide +kernel
theorem hexdb8 : hexD 3512 = [100, 98, 56] := by
  rw [hexD_ge (by decide), hexD_ge (show ¬ 3512 / 16 < 16 by decide), hexD_lt (show 3512 / 16 / 16 < 16 by decide)]
  decide +kernel
theorem hex0 : hexD 0 = [48] := by rw [hexD_lt (by decide)]; decide +kernel
theorem dec32 : Lib.decDigits 32 = [51, 50] := by rw [Lib.decDigits_two (by decide) (by decide)]; decide +kernel
theorem parts_sure : parts6 (nn (2306139568115548160, 0)) = [8193, 3512, 0, 0, 0, 0, 0, 0] := by decide +kernel
theorem format_sure : formatF 6 2306139568115548160 0 32 = [50, 48, 48, 49, 58, 100, 98, 56, 58, 48, 58, 48, 58, 48, 58, 48, 58, 48, 58, 48, 47, 51, 50] := by
  rw [formatF_6, txt6_eq, parts_sure, dec32]
  simp only [ptxt, hex2001, hexdb8, hex0]
  rfl
theorem chk_sure : chk 6 2306139568115548160 0 ((32 : Nat) : Int) = 0 := by decide +kernel
theorem sure_call (w : World) (ht : Tabs w) : Calls Tryd.prog 8 #[pref 6 2306139568115548160 0 32] w fun e w' => e = .returned (.tuple #[.string { data := #[50, 48, 48, 49, 58, 100, 98, 56, 58, 48, 58, 48, 58, 48, 58, 48, 58, 48, 58, 48, 47, 51, 50] }, .int .i64 0]) ∧ Below w.heap.size w w' := by
  have h := format_good 6 2306139568115548160 0 32 w (by decide) (by decide) ht chk_sure
  rw [format_sure] at h
  exact h

theorem chk_clr4 {hi lo : Nat} {n : Int} (h : chk 4 hi lo n = 0) : clr lo (32 - n).toNat = lo := by
  unfold chk at h
  rw [if_pos rfl] at h
  split at h
  · cases h
  · split at h
    · rename_i h2; exact h2.2.2
    · cases h
theorem chk_clr6 {hi lo : Nat} {n : Int} (h : chk 6 hi lo n = 0) : clr hi (128 - n - 64).toNat = hi ∧ clr lo (128 - n).toNat = lo := by
  unfold chk at h
  rw [if_neg (show ¬ (6 : Int) = 4 by decide), if_pos rfl] at h
  split at h
  · cases h
  · split at h
    · rename_i h2; exact h2
    · cases h
theorem sz_any {k : Nat} {args : Array Value} {v : Value} {w : World} (h : Calls Tryd.prog k args w fun e w' => e = .returned v ∧ w' = w) : Calls Tryd.prog k args w fun e w' => e = .returned v ∧ Below w.heap.size w w' := by
  refine h.mono ?_
  rintro e w' ⟨rfl, rfl⟩
  exact ⟨rfl, Below.refl _ _⟩
theorem formatF_length (f : Int) (hi lo n : Nat) (hn : n ≤ 1000) : (formatF f hi lo n).length ≤ 45 := by
  have h1 := txt4_length lo
  have h2 := txt6_length hi lo
  have h3 := decDigits_1000 n hn
  unfold formatF
  split <;> simp <;> omega
theorem fmt_back {t : ByteArray} {f : Int} {hi lo n : Nat} (h : parseF t.data.toList = some (f, hi, lo, n)) (w : World) (ht : Tabs w) :
    Calls Tryd.prog 8 #[pref f hi lo n] w fun e w' => e = .returned (.tuple #[.string t, .int .i64 0]) ∧ Below w.heap.size w w' := by
  obtain ⟨h1, h2, h3, h4⟩ := format_parse h
  have := format_good f hi lo n w h3 h4 ht h2
  rwa [h1, Lib.mk_data] at this
theorem neq0 {z : Int} (h : ¬ z = 0) : (z == 0) = false := by simpa using h

/-- THE LAW, for every prefix and every text. -/
theorem reread_all (f : Int) (hi lo : Nat) (n : Int) (t : ByteArray) (w : World) (hh : hi ≤ 18446744073709551615) (hl : lo ≤ 18446744073709551615) (hs : t.size ≤ maxLen) (hT : Tabs w) :
    Calls Tryd.prog 4 #[pref f hi lo n, .string t] w fun e w' => e = .returned (.bool true) ∧ Below w.heap.size w w' := by
  by_cases hc : chk f hi lo n = 0
  · obtain ⟨m, rfl, hm⟩ : ∃ m : Nat, n = (m : Int) ∧ m ≤ 128 := by
      rcases chk_family hc with rfl | rfl
      · obtain ⟨_, _, h3, h4⟩ := chk_bounds4 hc; exact ⟨n.toNat, by omega, by omega⟩
      · obtain ⟨h3, h4⟩ := chk_bounds6 hc; exact ⟨n.toNat, by omega, by omega⟩
    have hlen := formatF_length f hi lo m (by omega)
    have H1 := fun w ht => format_good f hi lo m w hh hl ht hc
    have HPs := parse_some (t := ⟨(formatF f hi lo m).toArray⟩) (by rw [mk_size]; unfold maxLen; omega) (show parseF (formatF f hi lo m) = _ from parse_format hh hl hc)
    obtain ⟨sz, h0, h1, HG, HS, HC⟩ : ∃ sz : Int, 0 ≤ (m : Int) ∧ (m : Int) ≤ sz ∧ (∀ w, Calls Tryd.prog 10 #[addr f hi lo] w fun e w' => e = .returned (.bool true) ∧ Below w.heap.size w w') ∧ (∀ w, Calls Tryd.prog 11 #[.int .i64 f] w fun e w' => e = .returned (.int .i64 sz) ∧ Below w.heap.size w w') ∧ (∀ w, Calls Tryd.prog 12 #[addr f hi lo, .int .i64 m] w fun e w' => e = .returned (addr f hi lo) ∧ Below w.heap.size w w') := by
      rcases chk_family hc with rfl | rfl
      · obtain ⟨rfl, h2, h3, h4⟩ := chk_bounds4 hc
        refine ⟨32, h3, h4, fun w => good_4y lo w h2, fun w => sz_any (size_4 w), fun w => ?_⟩
        have := kcut_4 0 lo m w hl h3 h4
        rwa [chk_clr4 hc] at this
      · obtain ⟨h3, h4⟩ := chk_bounds6 hc
        refine ⟨128, h3, h4, fun w => good_6 hi lo w, fun w => sz_any (size_no 6 w (by decide)), fun w => ?_⟩
        have := kcut_6 hi lo m w hh hl h3 h4
        rwa [(chk_clr6 hc).1, (chk_clr6 hc).2] at this
    rcases hp : parseF t.data.toList with _ | ⟨f2, hi2, lo2, n2⟩
    · exact reread_d0 f hi lo m sz _ t w hT sure_call H1 h0 h1 HG HS HC HPs (parse_none hs hp)
    · exact reread_d1 f hi lo m sz f2 hi2 lo2 n2 _ t w hT sure_call H1 h0 h1 HG HS HC HPs (parse_some hs hp) (fmt_back hp)
  · have H1 := fun w ht => format_no f hi lo n w hh hl ht hc
    have hz := neq0 hc
    by_cases hn : 0 ≤ n
    · have bad : ∀ (hg : ∀ w, Calls Tryd.prog 10 #[addr f hi lo] w fun e w' => e = .returned (.bool false) ∧ Below w.heap.size w w'), Calls Tryd.prog 4 #[pref f hi lo n, .string t] w fun e w' => e = .returned (.bool true) ∧ Below w.heap.size w w' := by
        intro hg
        rcases hp : parseF t.data.toList with _ | ⟨f2, hi2, lo2, n2⟩
        · exact reread_b0 f hi lo n _ t _ hz w hT sure_call H1 hn hg (parse_none hs hp)
        · exact reread_b1 f hi lo n f2 hi2 lo2 n2 _ t _ hz w hT sure_call H1 hn hg (parse_some hs hp) (fmt_back hp)
      by_cases h4 : f = 4
      · subst h4
        by_cases hhi : hi = 0
        · subst hhi
          by_cases hlo : lo < 4294967296
          · have HG := fun w => good_4y lo w hlo
            have HS := fun w => sz_any (size_4 w)
            by_cases h32 : n ≤ 32
            · have HC := fun w => kcut_4 0 lo n w hl hn h32
              have hne : ¬ clr lo (32 - n).toNat = lo := fun h => hc (by unfold chk; rw [if_pos rfl, if_neg (by omega), if_pos ⟨rfl, hlo, h⟩])
              rcases hp : parseF t.data.toList with _ | ⟨f2, hi2, lo2, n2⟩
              · exact reread_f0 4 0 lo n 32 _ _ t _ hz w hT sure_call H1 hn h32 (ne_beq hne) HG HS HC (parse_none hs hp)
              · exact reread_f1 4 0 lo n 32 _ f2 hi2 lo2 n2 _ t _ hz w hT sure_call H1 hn h32 (ne_beq hne) HG HS HC (parse_some hs hp) (fmt_back hp)
            · rcases hp : parseF t.data.toList with _ | ⟨f2, hi2, lo2, n2⟩
              · exact reread_c0 4 0 lo n 32 _ t _ hz w hT sure_call H1 hn (decide_eq_false h32) HG HS (parse_none hs hp)
              · exact reread_c1 4 0 lo n 32 f2 hi2 lo2 n2 _ t _ hz w hT sure_call H1 hn (decide_eq_false h32) HG HS (parse_some hs hp) (fmt_back hp)
          · exact bad (fun w => good_4n lo w hlo)
        · exact bad (fun w => good_4h hi lo w (ne_beq (b := 0) hhi))
      · by_cases h6 : f = 6
        · subst h6
          have HG := fun w => good_6 hi lo w
          have HS := fun w => sz_any (size_no 6 w (by decide))
          by_cases h128 : n ≤ 128
          · have HC := fun w => kcut_6 hi lo n w hh hl hn h128
            by_cases hch : clr hi (128 - n - 64).toNat = hi
            · have hne : ¬ clr lo (128 - n).toNat = lo := fun h => hc (by unfold chk; rw [if_neg (show ¬ (6 : Int) = 4 by decide), if_pos rfl, if_neg (by omega), if_pos ⟨hch, h⟩])
              rw [hch] at HC
              rcases hp : parseF t.data.toList with _ | ⟨f2, hi2, lo2, n2⟩
              · exact reread_f0 6 hi lo n 128 _ _ t _ hz w hT sure_call H1 hn h128 (ne_beq hne) HG HS HC (parse_none hs hp)
              · exact reread_f1 6 hi lo n 128 _ f2 hi2 lo2 n2 _ t _ hz w hT sure_call H1 hn h128 (ne_beq hne) HG HS HC (parse_some hs hp) (fmt_back hp)
            · rcases hp : parseF t.data.toList with _ | ⟨f2, hi2, lo2, n2⟩
              · exact reread_e0 6 hi lo n 128 _ _ _ t _ hz w hT sure_call H1 hn h128 (ne_beq hch) HG HS HC (parse_none hs hp)
              · exact reread_e1 6 hi lo n 128 _ _ f2 hi2 lo2 n2 _ t _ hz w hT sure_call H1 hn h128 (ne_beq hch) HG HS HC (parse_some hs hp) (fmt_back hp)
          · rcases hp : parseF t.data.toList with _ | ⟨f2, hi2, lo2, n2⟩
            · exact reread_c0 6 hi lo n 128 _ t _ hz w hT sure_call H1 hn (decide_eq_false h128) HG HS (parse_none hs hp)
            · exact reread_c1 6 hi lo n 128 f2 hi2 lo2 n2 _ t _ hz w hT sure_call H1 hn (decide_eq_false h128) HG HS (parse_some hs hp) (fmt_back hp)
        · exact bad (fun w => good_no f hi lo w (by simpa using h4) (by simpa using h6))
    · rcases hp : parseF t.data.toList with _ | ⟨f2, hi2, lo2, n2⟩
      · exact reread_a0 f hi lo n _ t _ hz w hT sure_call H1 (decide_eq_false hn) (parse_none hs hp)
      · exact reread_a1 f hi lo n f2 hi2 lo2 n2 _ t _ hz w hT sure_call H1 (decide_eq_false hn) (parse_some hs hp) (fmt_back hp)
end Go.Proofs.YtnfkgnjeamnhfaaDoor
