import Derived.Test.YtnmmbbkaamfgpaaGev
namespace Go.Proofs.Ytnmmbbkaamfgpaa
open Go.RowKit

/-- May these be hops? -/
def goodB (xs : List Int) : Bool := decide (xs.length ≠ 0 ∧ xs.length ≤ 8 ∧ ∀ x ∈ xs, 0 ≤ x ∧ x ≤ 65535)

set_option maxHeartbeats 1000000 in
theorem goodHops_any (ao : Option Addr) (n cap : Nat) (xs : List Int) (w : World) (hr : Rd w ao n xs) (hm : n ≤ maxLen) :
    Calls Try.prog 87 #[.slice ao n cap] w fun e w' => e = .returned (.bool (goodB xs)) ∧ w' = w := by
  unfold maxLen at hm
  have hl := hr.1
  by_cases h0 : n = 0
  · have e : goodB xs = false := by unfold goodB; rw [decide_eq_false]; rintro ⟨h1, _⟩; omega
    have h1 : ((n : Int) == 0) = true := by rw [h0]; rfl
    rw [e]
    clear hr hl
    go_enter Try.func87, Try.ntmps87
    go_wp2
    go_ret
    exact ⟨rfl, rfl⟩
  · have h1 : ((n : Int) == 0) = false := ne_beq (b := 0) h0
    by_cases h8 : 8 < n
    · have e : goodB xs = false := by unfold goodB; rw [decide_eq_false]; rintro ⟨_, h1, _⟩; omega
      have h2 : (8 : Int) < (n : Int) := by omega
      rw [e]
      clear hr hl
      go_enter Try.func87, Try.ntmps87
      go_wp2
      go_ret
      exact ⟨rfl, rfl⟩
    · have h2 : ¬ (8 : Int) < (n : Int) := by omega
      obtain ⟨b, off, rfl, hlt, hc⟩ := hr.at (by omega)
      have HR := Lib.hid hr
      have HL := Lib.hid hl
      clear hr hc hl
      go_enter Try.func87, Try.ntmps87
      go_wp2
      go_loop [3] (fun i => ∃ k : Nat, k ≤ n ∧ i = .int .i64 k ∧ Hid (∀ x ∈ xs.take k, 0 ≤ x ∧ x ≤ 65535)) (fun i => n - (intOf i).toNat)
      case atStart => exact ⟨0, Nat.zero_le _, rfl, by intro x hx; simp at hx⟩
      case round =>
        obtain ⟨k, hk, rfl, HT⟩ := hrel
        by_cases hlt2 : k < n
        · obtain ⟨x, hx, hcx⟩ := HR.out.cell hlt2
          have HX := Lib.hid hx
          clear hx
          by_cases hx0 : x < 0
          · go_wp2
            go_ret
            refine ⟨?_, rfl⟩
            have e : goodB xs = false := by
              unfold goodB; rw [decide_eq_false]; rintro ⟨_, _, h⟩
              have := h x (List.mem_of_getElem? HX.out); omega
            rw [e]; rfl
          · by_cases hx1 : 65535 < x
            · go_wp2
              go_ret
              refine ⟨?_, rfl⟩
              have e : goodB xs = false := by
                unfold goodB; rw [decide_eq_false]; rintro ⟨_, _, h⟩
                have := h x (List.mem_of_getElem? HX.out); omega
              rw [e]; rfl
            · go_wp2
              go_round
              case rel =>
                refine ⟨k + 1, by omega, by go_num, ?_⟩
                intro y hy
                rw [List.take_add_one, HX.out] at hy
                rcases List.mem_append.1 hy with hy | hy
                · exact HT.out y hy
                · simp at hy; subst hy; exact ⟨by omega, by omega⟩
              case measure => simp [intOf]; omega
        · obtain rfl : k = n := by omega
          go_wp2
          go_ret
          refine ⟨?_, rfl⟩
          have e : goodB xs = true := by
            unfold goodB; rw [decide_eq_true]
            have hl := HL.out
            refine ⟨by omega, by omega, ?_⟩
            have := HT.out
            rwa [List.take_of_length_le (by omega)] at this
          rw [e]; rfl
end Go.Proofs.Ytnmmbbkaamfgpaa
