import Derived.Test.YtnfkgnjeamnhfabKnb
import Derived.Test.YtnfkgnjeamnhfabKb
namespace Go.Proofs.Ytnfkgnjeamnhfab
open Go.RowKit

set_option maxHeartbeats 1000000 in
theorem kis_any (so : Option Addr) (n nc : Nat) (xs : List Int) (c : Int) (w : World) (hn : n = xs.length) (hn2 : n ≤ 1000) (hR : Rd w so n xs) :
    Calls Try.prog 26 #[.slice so n nc, .int .i64 c] w fun e w' => e = .returned (.bool (decide (c ∈ xs))) ∧ w' = w := by
  obtain ⟨r, hr⟩ : ∃ r, decide (c ∈ xs) = r := ⟨_, rfl⟩
  rw [hr]
  have HR0 := Lib.hid hr
  have HR := Lib.hid hR
  have Hn := Lib.hid hn
  clear hr hR hn
  go_enter Try.func26, Try.ntmps26
  go_wp2
  go_loop [5] (fun i => ∃ k : Nat, k ≤ n ∧ i = .int .i64 k ∧ Hid (∀ j, j < k → xs[j]? ≠ some c)) (fun i => n - (intOf i).toNat)
  case atStart => exact ⟨0, Nat.zero_le _, rfl, fun j hj => by omega⟩
  case round =>
    obtain ⟨k, hk, rfl, HJ⟩ := hrel
    by_cases hkn : k < n
    · obtain ⟨b, off, rfl, hbl, hcell⟩ := HR.out.at (by omega)
      obtain ⟨x, hx⟩ : ∃ x, xs[k]? = some x := ⟨_, List.getElem?_eq_getElem (by rw [← Hn.out]; exact hkn)⟩
      have d0 := hcell k x hx
      have q2 : (k : Int) < (n : Int) := by omega
      have q3 : (0 : Int) ≤ (k : Int) := by omega
      clear hcell
      by_cases hxc : x = c
      · subst hxc
        obtain rfl : r = true := by rw [← HR0.out]; exact decide_eq_true (List.mem_of_getElem? hx)
        clear hx
        go_wp2
        go_ret
        exact ⟨rfl, rfl⟩
      · have q4 : (x == c) = false := ine_beq hxc
        have HJ1 := Lib.hid (show ∀ j, j < k + 1 → xs[j]? ≠ some c from fun j hj => by
          rcases Nat.lt_or_ge j k with h | h
          · exact HJ.out j h
          · rw [show j = k by omega, hx]; intro e; cases e; exact hxc rfl)
        clear hx
        go_wp2
        exact ⟨⟨k + 1, by omega, by go_num, HJ1⟩, by simp [intOf]; omega⟩
    · obtain rfl : k = n := by omega
      obtain rfl : r = false := by
        rw [← HR0.out]
        refine decide_eq_false (fun h => ?_)
        obtain ⟨j, hj⟩ := List.getElem?_of_mem h
        have := (List.getElem?_eq_some_iff.1 hj).1
        exact HJ.out j (by rw [Hn.out]; exact this) hj
      go_wp2
      go_ret
      exact ⟨rfl, rfl⟩
end Go.Proofs.Ytnfkgnjeamnhfab
