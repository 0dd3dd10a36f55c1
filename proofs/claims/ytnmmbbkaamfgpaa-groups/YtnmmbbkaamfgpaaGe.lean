import Derived.Test.YtnmmbbkaamfgpaaGd
namespace Go.Proofs.Ytnmmbbkaamfgpaa
open Go.RowKit

theorem num_any (n : Int) (w : World) : Calls Try.prog 60 #[.int .i64 n] w fun e w' => e = .returned (.int .i64 n) ∧ w' = w := by
  go_enter Try.func60, Try.ntmps60
  go_wp2
  go_ret
  exact ⟨rfl, rfl⟩

theorem St.new (w : World) (a : Array Value) (t : TypeId) : St (w.alloc (.cells a t)) w.heap.size a.size (fun j => a.getD j undef) := by
  intro j hj
  refine ⟨?_, World.frozen?_alloc_new _ _ _ _⟩
  rw [World.cell?_alloc_new]
  simp [hj]

/-- A new table: its lists lie from offset o on, its routes at r. -/
def NewT (o r : Nat) (w w' : World) : Prop :=
  ∃ f, St w' w.heap.size 36 f ∧ (∀ j, j < 32 → f (o + j) = nilS) ∧ f r = nilS ∧ Below w.heap.size w w' ∧ w'.heap.size = w.heap.size + 1

set_option maxHeartbeats 1000000 in
theorem new_any (limit seed own : Int) (w : World) (h1 : ¬ limit < 1) (h2 : ¬ 256 < limit) :
    Calls Try.prog 27 #[.int .i64 limit, .int .u64 seed, .int .u32 own] w fun e w' => e = .returned (.tuple #[.pointer (some ⟨w.heap.size, 0, none⟩), .int .i64 0]) ∧ NewT 3 35 w w' := by
  go_enter Try.func27, Try.ntmps27
  go_wp2
  go_ret2
  refine ⟨rfl, _, St.new w _ _, ?_, rfl, (Below.refl _ _).alloc (Nat.le_refl _) _, by simp⟩
  intro j hj
  iterate 32 (rcases j with _ | j; · rfl)
  omega
set_option maxHeartbeats 1000000 in
theorem new_no (limit seed own : Int) (w : World) (h1 : limit < 1 ∨ 256 < limit) :
    Calls Try.prog 27 #[.int .i64 limit, .int .u64 seed, .int .u32 own] w fun e w' => e = .returned (.tuple #[.pointer none, .int .i64 1]) ∧ w' = w := by
  rcases h1 with h | h
  · go_enter Try.func27, Try.ntmps27
    go_wp2
    go_ret2
    exact ⟨rfl, rfl⟩
  · have h' : ¬ limit < 1 := by omega
    go_enter Try.func27, Try.ntmps27
    go_wp2
    go_ret2
    exact ⟨rfl, rfl⟩
set_option maxHeartbeats 1000000 in
theorem rnew_any (limit seed own : Int) (w : World) (h1 : ¬ limit < 1) (h2 : ¬ 256 < limit) :
    Calls Try.prog 59 #[.int .i64 limit, .int .u64 seed, .int .u32 own] w fun e w' => e = .returned (.pointer (some ⟨w.heap.size, 0, none⟩)) ∧ NewT 4 3 w w' := by
  go_enter Try.func59, Try.ntmps59
  go_wp2
  go_ret
  refine ⟨rfl, _, St.new w _ _, ?_, rfl, (Below.refl _ _).alloc (Nat.le_refl _) _, by simp⟩
  intro j hj
  iterate 32 (rcases j with _ | j; · rfl)
  omega
set_option maxHeartbeats 1000000 in
theorem rnew_no (limit seed own : Int) (w : World) (h1 : limit < 1 ∨ 256 < limit) :
    Calls Try.prog 59 #[.int .i64 limit, .int .u64 seed, .int .u32 own] w fun e w' => e = .returned (.pointer none) ∧ w' = w := by
  rcases h1 with h | h
  · go_enter Try.func59, Try.ntmps59
    go_wp2
    go_ret
    exact ⟨rfl, rfl⟩
  · have h' : ¬ limit < 1 := by omega
    go_enter Try.func59, Try.ntmps59
    go_wp2
    go_ret
    exact ⟨rfl, rfl⟩

set_option maxHeartbeats 1000000 in
/-- Two lists that read alike. -/
theorem sameInts_yes (a1 a2 : Option Addr) (n c1 c2 : Nat) (xs : List Int) (w : World) (h1 : Rd w a1 n xs) (h2 : Rd w a2 n xs) (hm : n ≤ maxLen) :
    Calls Try.prog 65 #[.slice a1 n c1, .slice a2 n c2] w fun e w' => e = .returned (.bool true) ∧ ∃ d, w' = w.drewN d := by
  unfold maxLen at hm
  have q : ((n : Int) == (n : Int)) = true := by simp
  rcases Nat.eq_zero_or_pos n with h0 | h0
  · subst h0
    clear h1 h2
    go_enter Try.func65, Try.ntmps65
    go_wp2
    go_loop [5] (fun i => i = .int .i64 0) (fun _ => 0)
    case atStart => rfl
    case round =>
      subst hrel
      go_wp2
      go_ret
      exact ⟨rfl, 0, rfl⟩
  · obtain ⟨b1, o1, rfl, l1, -⟩ := h1.at h0
    obtain ⟨b2, o2, rfl, l2, -⟩ := h2.at h0
    have H1 := Lib.hid h1
    have H2 := Lib.hid h2
    clear h1 h2
    go_enter Try.func65, Try.ntmps65
    go_wp2
    go_loopw [5] (fun i wr => ∃ k d : Nat, k ≤ n ∧ i = .int .i64 k ∧ wr = w.drewN d) (fun i _ => n - (intOf i).toNat)
    case atStart => exact ⟨0, 0, Nat.zero_le _, rfl, rfl⟩
    case round =>
      obtain ⟨k, d, hk, rfl, rfl⟩ := hrel
      by_cases hlt : k < n
      · obtain ⟨x, hx, hc1⟩ := H1.out.cell hlt
        obtain ⟨y, hy, hc2⟩ := H2.out.cell hlt
        rw [hx] at hy
        cases hy
        clear hx
        have q2 : (x == x) = true := by simp
        go_wp2
        go_quiet (fail)
        go_wp2
        go_roundw
        case rel => exact ⟨k + 1, _, by omega, by go_num, rfl⟩
        case measure => simp [intOf]; omega
      · obtain rfl : k = n := by omega
        go_wp2
        go_ret
        exact ⟨rfl, d, rfl⟩
end Go.Proofs.Ytnmmbbkaamfgpaa
