import Derived.Test.YtnfkgnjeamnhfabGc
import Derived.Deep.RegionLaw
import Derived.Laws.CopyOwn
namespace Go.Proofs.Ytnfkgnjeamnhfab
open Go.RowKit

/-! ### The document's table: its lists lie from offset 4 on, its routes at 3. -/
theorem good_bad {xs : List Int} {x : Int} (h : x ∈ xs) (hx : x < 0 ∨ 65535 < x) : goodB xs = false := by
  unfold goodB; rw [decide_eq_false]; rintro ⟨_, _, h'⟩
  have := h' x h; omega
/-- The document's test of hops. -/
def badB (xs : List Int) (k : Nat) : Bool := (decide (xs.length = 0) || decide (8 < xs.length)) || (xs.take k).any fun x => decide (x < 0) || decide (65535 < x)
theorem badB_all (xs : List Int) : badB xs xs.length = !goodB xs := by
  have h : badB xs xs.length = true ↔ goodB xs = false := by
    unfold badB goodB
    rw [List.take_of_length_le (Nat.le_refl _)]
    simp only [Bool.or_eq_true, decide_eq_true_eq, List.any_eq_true, decide_eq_false_iff_not]
    constructor
    · rintro ((h | h) | ⟨x, hx, h⟩) ⟨h1, h2, h3⟩
      · omega
      · omega
      · have := h3 x hx; omega
    · intro h
      by_cases h0 : xs.length = 0
      · exact .inl (.inl h0)
      · by_cases h8 : 8 < xs.length
        · exact .inl (.inr h8)
        · refine .inr ?_
          apply Classical.byContradiction
          intro hn
          refine h ⟨h0, by omega, fun x hx => ?_⟩
          apply Classical.byContradiction
          intro hb
          exact hn ⟨x, hx, by omega⟩
  cases hb : badB xs xs.length <;> cases hg : goodB xs <;> simp_all
theorem badB_succ {xs : List Int} {k : Nat} {x : Int} (h : xs[k]? = some x) : badB xs (k + 1) = ((badB xs k || decide (x < 0)) || decide (65535 < x)) := by
  unfold badB
  rw [List.take_add_one, h, List.any_append]
  simp [Bool.or_assoc]
theorem badB_zero (xs : List Int) : badB xs 0 = (decide (xs.length = 0) || decide (8 < xs.length)) := by simp [badB]

theorem eq_nil (w : World) : Sem.run Try.prog (binOp BinOp.eql 31 (.slice none 0 0) (.slice none 0 0)) w = .ok (.bool true) w := by kernel_rfl
theorem eq_some (w : World) (a : Addr) (n c : Nat) : Sem.run Try.prog (binOp BinOp.eql 31 (.slice (some a) n c) (.slice none 0 0)) w = .ok (.bool false) w := by kernel_rfl

end Go.Proofs.Ytnfkgnjeamnhfab
namespace Go.Proofs.Ytnfkgnjeamnhfab
open Go.RowKit

theorem St.new (w : World) (a : Array Value) (t : TypeId) : St (w.alloc (.cells a t)) w.heap.size a.size (fun j => a.getD j undef) := by
  intro j hj
  refine ⟨?_, World.frozen?_alloc_new _ _ _ _⟩
  rw [World.cell?_alloc_new]
  simp [hj]

/-- A new table: its lists lie from offset o on, its routes at r. -/
def NewT (o r : Nat) (w w' : World) : Prop :=
  ∃ f, St w' w.heap.size 36 f ∧ (∀ j, j < 32 → f (o + j) = nilS) ∧ f r = nilS ∧ Below w.heap.size w w' ∧ w'.heap.size = w.heap.size + 1

set_option maxHeartbeats 1000000 in
theorem new_any (limit seed own : Int) (w : World) (h1 : ¬ limit < 1) (h2 : ¬ 256 < limit) :
    Calls Try.prog 32 #[.int .i64 limit, .int .u64 seed, .int .u32 own] w fun e w' => e = .returned (.tuple #[.pointer (some ⟨w.heap.size, 0, none⟩), .int .i64 0]) ∧ NewT 3 35 w w' := by
  go_enter Try.func32, Try.ntmps32
  go_wp2
  go_ret2
  refine ⟨rfl, _, St.new w _ _, ?_, rfl, (Below.refl _ _).alloc (Nat.le_refl _) _, by simp⟩
  intro j hj
  iterate 32 (rcases j with _ | j; · rfl)
  omega
set_option maxHeartbeats 1000000 in
theorem new_no (limit seed own : Int) (w : World) (h1 : limit < 1 ∨ 256 < limit) :
    Calls Try.prog 32 #[.int .i64 limit, .int .u64 seed, .int .u32 own] w fun e w' => e = .returned (.tuple #[.pointer none, .int .i64 1]) ∧ w' = w := by
  rcases h1 with h | h
  · go_enter Try.func32, Try.ntmps32
    go_wp2
    go_ret2
    exact ⟨rfl, rfl⟩
  · have h' : ¬ limit < 1 := by omega
    go_enter Try.func32, Try.ntmps32
    go_wp2
    go_ret2
    exact ⟨rfl, rfl⟩
end Go.Proofs.Ytnfkgnjeamnhfab
namespace Go.Proofs.Ytnfkgnjeamnhfab
open Go.RowKit

theorem own_full {w : World} {base e g n : Nat} {xs : List Value} (h : w.ownsRow base e 1 (.slice (some ⟨g, 0, none⟩) n n) n xs) : w.heap[g]? = some (.cells xs.toArray e (0, 0)) ∧ base ≤ g := by
  rcases h.2 with ⟨h', _⟩ | ⟨g', cap, cur, hv, hb, hg, hnc, hcm, hcs, ht⟩
  · cases h'
  · simp only [Value.slice.injEq, Option.some.injEq, Addr.mk.injEq, and_true, true_and] at hv
    obtain ⟨rfl, rfl⟩ := hv
    rw [Nat.mul_one] at ht hcs
    rw [List.take_of_length_le (by simp; omega)] at ht
    refine ⟨?_, hb⟩
    rw [hg, ← ht]
theorem full_own {w : World} {base e g n : Nat} {xs : List Value} (h : w.heap[g]? = some (.cells xs.toArray e (0, 0))) (hb : base ≤ g) (hl : xs.length = n) (hm : n ≤ maxLen) : w.ownsRow base e 1 (.slice (some ⟨g, 0, none⟩) n n) n xs :=
  ⟨by rw [Nat.mul_one]; exact hl, .inr ⟨g, n, xs.toArray, rfl, hb, h, Nat.le_refl _, hm, by simp [hl], by rw [Nat.mul_one]; exact List.take_of_length_le (by simp [hl])⟩⟩
theorem below_of_grown {w w' : World} (h : w.grownBy w' none) : Below w.heap.size w w' := ⟨h.os, h.tape, h.output, h.size, fun i hi => h.block i hi (by simp)⟩
theorem info31 : (Try.prog.info? 3).map (·.size) = some 1 := by kernel_rfl
theorem madeInts (n : Nat) : (madeCells #[Value.int .i64 0] n).toList = ints (List.replicate n 0) := by
  rw [toList_madeCells_one]
  simp [ints]

theorem handed_eq (xs : List Int) (n : Nat) (h : xs.length = n) : (ints (xs ++ [0])).toArray.setIfInBounds n (Value.int .i64 (-7)) = (ints (xs ++ [-7])).toArray := by
  apply Array.ext'
  rw [Array.toList_setIfInBounds]
  subst h
  simp

end Go.Proofs.Ytnfkgnjeamnhfab
