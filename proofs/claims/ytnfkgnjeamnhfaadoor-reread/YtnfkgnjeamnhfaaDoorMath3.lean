import Derived.Test.YtnfkgnjeamnhfaaDoorMath2
namespace Go.Proofs.YtnfkgnjeamnhfaaDoor
theorem parts4_le (N : Nat) : ∀ v ∈ parts4 N, v ≤ 255 := by
  intro v hv
  simp only [parts4, List.mem_cons, List.not_mem_nil, or_false] at hv
  omega
theorem parts6_le (N : Nat) : ∀ v ∈ parts6 N, v ≤ 65535 := by
  intro v hv
  simp only [parts6, List.mem_cons, List.not_mem_nil, or_false] at hv
  omega
theorem parts6_fold (N : Nat) (h : N < 340282366920938463463374607431768211456) : (parts6 N).foldl (fun n v => n * 65536 + v) 0 = N := by
  simp only [parts6, List.foldl_cons, List.foldl_nil]; omega
theorem parts4_fold (N : Nat) (h : N < 4294967296) : (parts4 N).foldl step4 (0, 0) = (0, N) := by
  simp only [parts4, List.foldl_cons, List.foldl_nil, step4, Prod.mk.injEq, true_and]; omega
theorem fold6_parts {vs : List Nat} (h8 : vs.length = 8) (hv : ∀ v ∈ vs, v ≤ 65535) : parts6 (vs.foldl (fun n v => n * 65536 + v) 0) = vs := by
  obtain ⟨a, b, c, d, e, f, g, i, rfl⟩ := len8 h8
  have ha := hv a (by simp)
  have hb := hv b (by simp)
  have hc := hv c (by simp)
  have hd := hv d (by simp)
  have he := hv e (by simp)
  have hf := hv f (by simp)
  have hg := hv g (by simp)
  have hi := hv i (by simp)
  clear hv h8
  simp only [List.foldl_cons, List.foldl_nil, parts6, List.cons.injEq, and_true]
  refine ⟨?_, ?_, ?_, ?_, ?_, ?_, ?_, ?_⟩ <;> omega
theorem fold4_parts {vs : List Nat} (h4 : vs.length = 4) (hv : ∀ v ∈ vs, v ≤ 255) : parts4 (vs.foldl step4 (0, 0)).2 = vs := by
  obtain ⟨a, b, c, d, rfl⟩ := len4 h4
  have ha := hv a (by simp)
  have hb := hv b (by simp)
  have hc := hv c (by simp)
  have hd := hv d (by simp)
  clear hv h4
  simp only [List.foldl_cons, List.foldl_nil, step4, parts4, List.cons.injEq, and_true]
  refine ⟨?_, ?_, ?_, ?_⟩ <;> omega

theorem pair_ext {a : Nat × Nat} {hi lo : Nat} (h1 : a.2 ≤ 18446744073709551615) (h2 : lo ≤ 18446744073709551615) (h : nn a = nn (hi, lo)) : a = (hi, lo) := by
  obtain ⟨x, y⟩ := a
  unfold nn at h
  simp only [] at h h1
  have e1 : x = hi := by omega
  have e2 : y = lo := by omega
  rw [e1, e2]
theorem rdA_vs4 (vs : List Nat) (h : vs.length = 4) (hv : ∀ v ∈ vs, v ≤ 255) (r : List UInt8) (hr : NDH 10 r) : rdA 46 10 255 step4 4 true (0, 0) (ptxt 46 Lib.decDigits true vs ++ r) = some (vs.foldl step4 (0, 0), r) := by
  have := rdA_ptxt numer10 (g := 255) (sep := 46) (by decide) (step := step4) vs true (0, 0) r hv hr
  rwa [h] at this
theorem rdA_vs6 (vs : List Nat) (h : vs.length = 8) (hv : ∀ v ∈ vs, v ≤ 65535) (r : List UInt8) (hr : NDH 16 r) : rdA 58 16 65535 step6 8 true (0, 0) (ptxt 58 hexD true vs ++ r) = some (vs.foldl step6 (0, 0), r) := by
  have := rdA_ptxt numer16 (g := 65535) (sep := 58) (by decide) (step := step6) vs true (0, 0) r hv hr
  rwa [h] at this
theorem rdP_mk {sep : UInt8} {base g : Nat} {step : Nat × Nat → Nat → Nat × Nat} {k width : Nat} {l r r1 : List UInt8} {a : Nat × Nat} {v : Nat} (h1 : rdA sep base g step k true (0, 0) l = some (a, r)) (h2 : skipB 47 r = some r1) (h3 : readN 10 width 0 false r1 = some (v, [])) : rdP sep base g step k width l = some (a.1, a.2, v) := by
  unfold rdP
  rw [h1]
  simp only [h2, h3]
theorem len_num (n width : Nat) (hn : n ≤ width) : readN 10 width 0 false (Lib.decDigits n) = some (n, []) := by
  have h2 := readN_numeral numer10 hn (r := []) trivial
  rwa [List.append_nil] at h2
theorem skipB_eq (c : UInt8) (r : List UInt8) : skipB c (c :: r) = some r := by simp [skipB]
theorem parts4_len (N : Nat) : (parts4 N).length = 4 := rfl
theorem parts6_len (N : Nat) : (parts6 N).length = 8 := rfl
/-- WHAT FORMAT WRITES IS READ. -/
theorem rd4_format (lo n : Nat) (hl : lo < 4294967296) (hn : n ≤ 32) : rd4 (txt4 lo ++ 47 :: Lib.decDigits n) = some (0, lo, n) := by
  have h1 := rdA_vs4 (parts4 lo) (parts4_len lo) (parts4_le lo) (47 :: Lib.decDigits n) (show 10 ≤ dgt 47 by decide)
  rw [← txt4_eq, parts4_fold lo hl] at h1
  exact rdP_mk h1 (skipB_eq _ _) (len_num n 32 hn)
theorem rd6_format (hi lo n : Nat) (hh : hi ≤ 18446744073709551615) (hl : lo ≤ 18446744073709551615) (hn : n ≤ 128) : rd6 (txt6 hi lo ++ 47 :: Lib.decDigits n) = some (hi, lo, n) := by
  have hN : nn (hi, lo) < 340282366920938463463374607431768211456 := by unfold nn; simp only []; omega
  have h1 := rdA_vs6 (parts6 (nn (hi, lo))) (parts6_len _) (parts6_le _) (47 :: Lib.decDigits n) (show 16 ≤ dgt 47 by decide)
  obtain ⟨h3, h4⟩ := fold6 (parts6 (nn (hi, lo))) (parts6_len _) (parts6_le _)
  rw [parts6_fold _ hN] at h3
  rw [← txt6_eq, pair_ext h4 hl h3] at h1
  exact rdP_mk h1 (skipB_eq _ _) (len_num n 128 hn)
theorem skipB_inv {c : UInt8} {l r : List UInt8} (h : skipB c l = some r) : l = c :: r := by
  cases l with
  | nil => cases h
  | cons x xs =>
    simp only [skipB] at h
    split at h
    · rename_i hx; cases h; rw [hx]
    · cases h
/-- WHAT IS READ IS WHAT FORMAT WRITES. -/
theorem rd4_inv {l : List UInt8} {hi lo n : Nat} (h : rd4 l = some (hi, lo, n)) : l = txt4 lo ++ 47 :: Lib.decDigits n := by
  obtain ⟨r, r1, ha, hs, hn⟩ := rdP_some h
  obtain ⟨vs, k1, k2, k3, k4, _⟩ := rdA_back numer10 4 true (0, 0) (hi, lo) l r ha
  obtain ⟨h5, _, _⟩ := readN_inv numer10 hn
  rw [List.append_nil] at h5
  have e := fold4_parts k1 k2
  rw [← k3] at e
  rw [k4, skipB_inv hs, h5, txt4_eq]
  simp only [] at e
  rw [e]
theorem rd6_inv {l : List UInt8} {hi lo n : Nat} (h : rd6 l = some (hi, lo, n)) : l = txt6 hi lo ++ 47 :: Lib.decDigits n := by
  obtain ⟨r, r1, ha, hs, hn⟩ := rdP_some h
  obtain ⟨vs, k1, k2, k3, k4, _⟩ := rdA_back numer16 8 true (0, 0) (hi, lo) l r ha
  obtain ⟨h5, _, _⟩ := readN_inv numer10 hn
  rw [List.append_nil] at h5
  have e := fold6_parts k1 k2
  obtain ⟨h3, _⟩ := fold6 vs k1 k2
  rw [← h3, ← k3] at e
  rw [k4, skipB_inv hs, h5, txt6_eq, e]
theorem no58 (v : Nat) : (58 : UInt8) ∉ Lib.decDigits v := by
  have all : ∀ i : Fin 10, (58 : UInt8) ∉ [ch10 i.val] := by decide +kernel
  induction v using Nat.strongRecOn with
  | _ v ih =>
    by_cases hv : v < 10
    · rw [numer10.one v hv]
      exact all ⟨v, hv⟩
    · rw [numer10.more v hv]
      intro hm
      rcases List.mem_append.1 hm with hm | hm
      · exact ih (v / 10) (by omega) hm
      · exact all ⟨v % 10, by omega⟩ hm
theorem no58s : ∀ (vs : List Nat) (first : Bool), (58 : UInt8) ∉ ptxt 46 Lib.decDigits first vs
  | [], first => by simp [ptxt]
  | v :: vs, first => by
    have h1 := no58 v
    have h2 := no58s vs false
    cases first <;> simp [ptxt, h1, h2]
theorem has58 (a b : Nat) (vs : List Nat) (r : List UInt8) : (58 : UInt8) ∈ ptxt 58 hexD true (a :: b :: vs) ++ r := by
  simp [ptxt]
/-- A text of V6 is none of V4. -/
theorem rd4_txt6 (hi lo n : Nat) : rd4 (txt6 hi lo ++ 47 :: Lib.decDigits n) = none := by
  rcases h : rd4 (txt6 hi lo ++ 47 :: Lib.decDigits n) with _ | ⟨x, y, z⟩
  · rfl
  · exfalso
    have h1 := rd4_inv h
    obtain ⟨a, b, vs, hvs⟩ : ∃ a b vs, parts6 (nn (hi, lo)) = a :: b :: vs := ⟨_, _, _, rfl⟩
    have m6 := has58 a b vs (47 :: Lib.decDigits n)
    rw [← hvs, ← txt6_eq, h1, txt4_eq] at m6
    rcases List.mem_append.1 m6 with m | m
    · exact no58s _ _ m
    · rcases List.mem_cons.1 m with m | m
      · exact absurd m (by decide)
      · exact no58 _ m
theorem chk_bounds4 {hi lo : Nat} {n : Int} (h : chk 4 hi lo n = 0) : hi = 0 ∧ lo < 4294967296 ∧ 0 ≤ n ∧ n ≤ 32 := by
  unfold chk at h
  rw [if_pos rfl] at h
  split at h
  · cases h
  · split at h
    · rename_i h1 h2; exact ⟨h2.1, h2.2.1, by omega, by omega⟩
    · cases h
theorem chk_bounds6 {hi lo : Nat} {n : Int} (h : chk 6 hi lo n = 0) : 0 ≤ n ∧ n ≤ 128 := by
  unfold chk at h
  rw [if_neg (by decide), if_pos rfl] at h
  split at h
  · cases h
  · omega
theorem chk_family {f : Int} {hi lo : Nat} {n : Int} (h : chk f hi lo n = 0) : f = 4 ∨ f = 6 := by
  by_cases h4 : f = 4
  · exact Or.inl h4
  · by_cases h6 : f = 6
    · exact Or.inr h6
    · unfold chk at h; rw [if_neg h4, if_neg h6] at h; cases h
theorem formatF_4 (hi lo n : Nat) : formatF 4 hi lo n = txt4 lo ++ 47 :: Lib.decDigits n := by
  unfold formatF; rw [if_neg (show ¬ (4 : Int) = 6 by decide)]
theorem formatF_6 (hi lo n : Nat) : formatF 6 hi lo n = txt6 hi lo ++ 47 :: Lib.decDigits n := by
  unfold formatF; rw [if_pos (show (6 : Int) = 6 from rfl)]
theorem parseF_4 {l : List UInt8} {hi lo n : Nat} (h : rd4 l = some (hi, lo, n)) (hc : chk 4 hi lo n = 0) : parseF l = some (4, hi, lo, n) := by
  unfold parseF
  rw [h]
  exact if_pos hc
theorem parseF_6 {l : List UInt8} {hi lo n : Nat} (h4 : rd4 l = none) (h : rd6 l = some (hi, lo, n)) (hc : chk 6 hi lo n = 0) : parseF l = some (6, hi, lo, n) := by
  unfold parseF
  rw [h4, h]
  exact if_pos hc
/-- Parse of Format. -/
theorem parse_format {f : Int} {hi lo n : Nat} (hh : hi ≤ 18446744073709551615) (hl : lo ≤ 18446744073709551615) (h : chk f hi lo n = 0) : parseF (formatF f hi lo n) = some (f, hi, lo, n) := by
  rcases chk_family h with rfl | rfl
  · obtain ⟨rfl, h2, _, h4⟩ := chk_bounds4 h
    rw [formatF_4]
    exact parseF_4 (rd4_format lo n h2 (by omega)) h
  · obtain ⟨_, h4⟩ := chk_bounds6 h
    rw [formatF_6]
    exact parseF_6 (rd4_txt6 hi lo n) (rd6_format hi lo n hh hl (by omega)) h
/-- Format of Parse. -/
theorem format_parse {l : List UInt8} {f : Int} {hi lo n : Nat} (h : parseF l = some (f, hi, lo, n)) : formatF f hi lo n = l ∧ chk f hi lo n = 0 ∧ hi ≤ 18446744073709551615 ∧ lo ≤ 18446744073709551615 := by
  unfold parseF at h
  split at h
  · rename_i a b c h4
    split at h
    · rename_i hc
      simp only [Option.some.injEq, Prod.mk.injEq] at h
      obtain ⟨rfl, rfl, rfl, rfl⟩ := h
      obtain ⟨h1, h2, _⟩ := rd4_bound h4
      exact ⟨by rw [formatF_4]; exact (rd4_inv h4).symm, hc, by omega, by omega⟩
    · cases h
  · split at h
    · rename_i a b c h6
      split at h
      · rename_i hc
        simp only [Option.some.injEq, Prod.mk.injEq] at h
        obtain ⟨rfl, rfl, rfl, rfl⟩ := h
        obtain ⟨h1, h2, _⟩ := rd6_bound h6
        exact ⟨by rw [formatF_6]; exact (rd6_inv h6).symm, hc, h1, h2⟩
      · cases h
    · cases h
end Go.Proofs.YtnfkgnjeamnhfaaDoor
