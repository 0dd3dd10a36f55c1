import Derived.Test.YtnfkgnjeamnhfabFk
namespace Go.Proofs.Ytnfkgnjeamnhfab
open Go.RowKit

/-- A sum that is folded at each step. -/
theorem fold_add (a x : Nat) : fold (fold a + x) = fold (a + x) := by
  rcases Nat.eq_zero_or_pos a with rfl | h
  · rw [show fold 0 = 0 from rfl]
  · have e : fold a = (a - 1) % 65535 + 1 := by unfold fold; rw [if_neg (by omega)]
    have d := Nat.div_add_mod (a - 1) 65535
    exact (fold_back (s := a + x) (t := fold a + x) (k := (a - 1) / 65535) (by omega) (by omega)).symm
theorem fold_one {v : Nat} (h : v ≤ 131070) : fold v = if 65535 < v then v - 65535 else v := by
  split
  · rw [fold_back (t := v - 65535) (k := 1) (by omega) (by omega), fold_small (by omega)]
  · exact fold_small (by omega)
set_option maxHeartbeats 1000000 in
theorem ksum_any (s : ByteArray) (hs : s.size ≤ 100000) (w : World) :
    Calls Try.prog 27 #[.string s] w fun e w' => e = .returned (.int .i64 (fold (cs 0 s.data.toList) : Nat)) ∧ w' = w := by
  go_enter Try.func27, Try.ntmps27
  go_wp2
  go_loop [3, 4] (fun v i => ∃ (c k : Nat), k ≤ s.size ∧ i = .int .i64 k ∧ v = .int .i64 c ∧ c ≤ 65535 ∧ Hid (c = fold (cs 0 (s.data.toList.take k)))) (fun _ i => s.size - (intOf i).toNat)
  case atStart => exact ⟨0, 0, Nat.zero_le _, rfl, rfl, by decide, rfl⟩
  case round =>
    obtain ⟨c, k, hk, rfl, rfl, hc, HC⟩ := hrel
    by_cases hks : k < s.size
    · have hg := bget hks
      have h1 := cs_take hg
      have ha := s[k].toNat_lt
      obtain ⟨x, hx, hx2⟩ : ∃ x, (if k % 2 = 0 then s[k].toNat * 256 else s[k].toNat) = x ∧ x ≤ 65280 := ⟨_, rfl, by split <;> omega⟩
      rw [hx] at h1
      have h2 : fold (cs 0 (s.data.toList.take (k + 1))) = if 65535 < c + x then c + x - 65535 else c + x := by rw [h1, ← fold_add, ← HC.out, fold_one (by omega)]
      have H2 := Lib.hid h2
      clear h2 h1 hg
      by_cases hp : k % 2 = 0
      case' pos => rw [if_pos hp] at hx
      case' neg => rw [if_neg hp] at hx
      all_goals
        by_cases hv : 65535 < c + x
        · have h3 := H2.out
          rw [if_pos hv] at h3
          have H3 := Lib.hid h3
          clear h3 H2
          go_wp2
          exact ⟨⟨c + x - 65535, k + 1, by omega, by go_num, by go_num, by omega, H3.out.symm⟩, by simp [intOf]; omega⟩
        · have h3 := H2.out
          rw [if_neg hv] at h3
          have H3 := Lib.hid h3
          clear h3 H2
          go_wp2
          exact ⟨⟨c + x, k + 1, by omega, by go_num, by go_num, by omega, H3.out.symm⟩, by simp [intOf]; omega⟩
    · have hkk : k = s.size := by omega
      have HC1 := Lib.hid (show c = fold (cs 0 s.data.toList) by rw [HC.out, List.take_of_length_le (by rw [blen]; omega)])
      clear HC
      subst hkk
      go_wp2
      go_ret
      exact ⟨ret_nat (by rw [← HC1.out]), rfl⟩
theorem strange_any (v : Nat) (hv : v < 4294967296) (w : World) : Calls Try.prog 25 #[.int .u32 v] w fun e w' => e = .returned (.bool (mart (v / 16777216))) ∧ w' = w := by
  unfold mart
  go_enter Try.func25, Try.ntmps25
  go_wp2
  all_goals go_ret
  all_goals exact ⟨fret_bool (by rw [Bool.eq_iff_iff]; simp; omega), rfl⟩
theorem octet_any (s : ByteArray) (i : Nat) (w : World) : Calls Try.prog 28 #[.string s, .int .i64 i] w fun e w' => e = .returned (.int .u8 (g1 s.data.toList i : Nat)) ∧ w' = w := by
  by_cases h : i < s.size
  · rw [g1_b h]
    have q : (i : Int) < (s.size : Int) := by omega
    go_enter Try.func28, Try.ntmps28
    go_wp2
    go_ret
    exact ⟨rfl, rfl⟩
  · have e : g1 s.data.toList i = 0 := by
      unfold g1
      rw [List.getD_eq_getElem?_getD, List.getElem?_eq_none (by rw [blen]; omega)]; rfl
    rw [e]
    have q : ¬ (i : Int) < (s.size : Int) := by omega
    go_enter Try.func28, Try.ntmps28
    go_wp2
    go_ret
    exact ⟨rfl, rfl⟩
end Go.Proofs.Ytnfkgnjeamnhfab
