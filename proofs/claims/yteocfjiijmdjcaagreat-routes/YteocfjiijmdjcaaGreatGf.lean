import Derived.Test.YteocfjiijmdjcaaGreatGd
import Derived.Laws.CopyOwn
namespace Go.Proofs.YteocfjiijmdjcaaGreat
open Go.RowKit

theorem num_any (n : Int) (w : World) : Calls Tryz.prog 22 #[.int .i64 n] w fun e w' => e = .returned (.int .i64 n) ∧ w' = w := by
  go_enter Tryz.func22, Tryz.ntmps22
  go_wp2
  go_ret
  exact ⟨rfl, rfl⟩

theorem St.new (w : World) (a : Array Value) (t : TypeId) : St (w.alloc (.cells a t)) w.heap.size a.size (fun j => a.getD j undef) := by
  intro j hj
  refine ⟨?_, World.frozen?_alloc_new _ _ _ _⟩
  rw [World.cell?_alloc_new]
  simp [hj]

/-- A new table: its lists lie from offset o on, its routes at r. -/
def NewT (o r : Nat) (w w' : World) : Prop :=
  ∃ f, St w' w.heap.size 36 f ∧ (∀ j, j < 32 → f (o + j) = nilS) ∧ f r = nilS ∧ Below w.heap.size w w' ∧ w'.heap.size = w.heap.size + 1

set_option maxHeartbeats 1000000 in
theorem new_any (limit seed own : Int) (w : World) (h1 : ¬ limit < 1) (h2 : ¬ 256 < limit) :
    Calls Tryz.prog 20 #[.int .i64 limit, .int .u64 seed, .int .u32 own] w fun e w' => e = .returned (.tuple #[.pointer (some ⟨w.heap.size, 0, none⟩), .int .i64 0]) ∧ NewT 3 35 w w' := by
  go_enter Tryz.func20, Tryz.ntmps20
  go_wp2
  go_ret2
  refine ⟨rfl, _, St.new w _ _, ?_, rfl, (Below.refl _ _).alloc (Nat.le_refl _) _, by simp⟩
  intro j hj
  iterate 32 (rcases j with _ | j; · rfl)
  omega
set_option maxHeartbeats 1000000 in
theorem new_no (limit seed own : Int) (w : World) (h1 : limit < 1 ∨ 256 < limit) :
    Calls Tryz.prog 20 #[.int .i64 limit, .int .u64 seed, .int .u32 own] w fun e w' => e = .returned (.tuple #[.pointer none, .int .i64 1]) ∧ w' = w := by
  rcases h1 with h | h
  · go_enter Tryz.func20, Tryz.ntmps20
    go_wp2
    go_ret2
    exact ⟨rfl, rfl⟩
  · have h' : ¬ limit < 1 := by omega
    go_enter Tryz.func20, Tryz.ntmps20
    go_wp2
    go_ret2
    exact ⟨rfl, rfl⟩
set_option maxHeartbeats 1000000 in
theorem rnew_any (limit seed own : Int) (w : World) (h1 : ¬ limit < 1) (h2 : ¬ 256 < limit) :
    Calls Tryz.prog 21 #[.int .i64 limit, .int .u64 seed, .int .u32 own] w fun e w' => e = .returned (.pointer (some ⟨w.heap.size, 0, none⟩)) ∧ NewT 4 3 w w' := by
  go_enter Tryz.func21, Tryz.ntmps21
  go_wp2
  go_ret
  refine ⟨rfl, _, St.new w _ _, ?_, rfl, (Below.refl _ _).alloc (Nat.le_refl _) _, by simp⟩
  intro j hj
  iterate 32 (rcases j with _ | j; · rfl)
  omega
set_option maxHeartbeats 1000000 in
theorem rnew_no (limit seed own : Int) (w : World) (h1 : limit < 1 ∨ 256 < limit) :
    Calls Tryz.prog 21 #[.int .i64 limit, .int .u64 seed, .int .u32 own] w fun e w' => e = .returned (.pointer none) ∧ w' = w := by
  rcases h1 with h | h
  · go_enter Tryz.func21, Tryz.ntmps21
    go_wp2
    go_ret
    exact ⟨rfl, rfl⟩
  · have h' : ¬ limit < 1 := by omega
    go_enter Tryz.func21, Tryz.ntmps21
    go_wp2
    go_ret
    exact ⟨rfl, rfl⟩

set_option maxHeartbeats 1000000 in
/-- Two lists that read alike. -/
theorem sameInts_yes (a1 a2 : Option Addr) (n c1 c2 : Nat) (xs : List Int) (w : World) (h1 : Rd w a1 n xs) (h2 : Rd w a2 n xs) (hm : n ≤ maxLen) :
    Calls Tryz.prog 29 #[.slice a1 n c1, .slice a2 n c2] w fun e w' => e = .returned (.bool true) ∧ ∃ d, w' = w.drewN d := by
  unfold maxLen at hm
  have q : ((n : Int) == (n : Int)) = true := by simp
  rcases Nat.eq_zero_or_pos n with h0 | h0
  · subst h0
    clear h1 h2
    go_enter Tryz.func29, Tryz.ntmps29
    go_wp2
    go_loop [5] (fun i => i = .int .i64 0) (fun _ => 0)
    case atStart => rfl
    case round =>
      subst hrel
      go_wp2
      go_ret
      exact ⟨rfl, 0, rfl⟩
  · obtain ⟨b1, o1, rfl, l1, -⟩ := h1.at h0
    obtain ⟨b2, o2, rfl, l2, -⟩ := h2.at h0
    have H1 := Lib.hid h1
    have H2 := Lib.hid h2
    clear h1 h2
    go_enter Tryz.func29, Tryz.ntmps29
    go_wp2
    go_loopw [5] (fun i wr => ∃ k d : Nat, k ≤ n ∧ i = .int .i64 k ∧ wr = w.drewN d) (fun i _ => n - (intOf i).toNat)
    case atStart => exact ⟨0, 0, Nat.zero_le _, rfl, rfl⟩
    case round =>
      obtain ⟨k, d, hk, rfl, rfl⟩ := hrel
      by_cases hlt : k < n
      · obtain ⟨x, hx, hc1⟩ := H1.out.cell hlt
        obtain ⟨y, hy, hc2⟩ := H2.out.cell hlt
        rw [hx] at hy
        cases hy
        clear hx
        have q2 : (x == x) = true := by simp
        go_wp2
        go_quiet (fail)
        go_wp2
        go_roundw
        case rel => exact ⟨k + 1, _, by omega, by go_num, rfl⟩
        case measure => simp [intOf]; omega
      · obtain rfl : k = n := by omega
        go_wp2
        go_ret
        exact ⟨rfl, d, rfl⟩
end Go.Proofs.YteocfjiijmdjcaaGreat
namespace Go.Proofs.YteocfjiijmdjcaaGreat
open Go.RowKit

theorem own_full {w : World} {base e g n : Nat} {xs : List Value} (h : w.ownsRow base e 1 (.slice (some ⟨g, 0, none⟩) n n) n xs) : w.heap[g]? = some (.cells xs.toArray e (0, 0)) ∧ base ≤ g := by
  rcases h.2 with ⟨h', _⟩ | ⟨g', cap, cur, hv, hb, hg, hnc, hcm, hcs, ht⟩
  · cases h'
  · simp only [Value.slice.injEq, Option.some.injEq, Addr.mk.injEq, and_true, true_and] at hv
    obtain ⟨rfl, rfl⟩ := hv
    rw [Nat.mul_one] at ht hcs
    rw [List.take_of_length_le (by simp; omega)] at ht
    refine ⟨?_, hb⟩
    rw [hg, ← ht]
theorem full_own {w : World} {base e g n : Nat} {xs : List Value} (h : w.heap[g]? = some (.cells xs.toArray e (0, 0))) (hb : base ≤ g) (hl : xs.length = n) (hm : n ≤ maxLen) : w.ownsRow base e 1 (.slice (some ⟨g, 0, none⟩) n n) n xs :=
  ⟨by rw [Nat.mul_one]; exact hl, .inr ⟨g, n, xs.toArray, rfl, hb, h, Nat.le_refl _, hm, by simp [hl], by rw [Nat.mul_one]; exact List.take_of_length_le (by simp [hl])⟩⟩
theorem below_of_grown {w w' : World} (h : w.grownBy w' none) : Below w.heap.size w w' := ⟨h.os, h.tape, h.output, h.size, fun i hi => h.block i hi (by simp)⟩
theorem info31 : (Tryz.prog.info? 3).map (·.size) = some 1 := by kernel_rfl
theorem madeInts (n : Nat) : (madeCells #[Value.int .i64 0] n).toList = ints (List.replicate n 0) := by
  rw [toList_madeCells_one]
  simp [ints]

theorem handed_eq (xs : List Int) (n : Nat) (h : xs.length = n) : (ints (xs ++ [0])).toArray.setIfInBounds n (Value.int .i64 (-7)) = (ints (xs ++ [-7])).toArray := by
  apply Array.ext'
  rw [Array.toList_setIfInBounds]
  subst h
  simp

set_option maxHeartbeats 1000000 in
theorem hand_any (ao : Option Addr) (n cap : Nat) (xs : List Int) (w : World) (hr : Rd w ao n xs) (hm : n ≤ 17592186044415) :
    Calls Tryz.prog 23 #[.slice ao n cap] w fun e w' => e = .returned (.slice (some ⟨w.heap.size, 0, none⟩) (n + 1) (n + 1)) ∧ w'.heap[w.heap.size]? = some (.cells (ints (xs ++ [-7])).toArray 3 (0, 0)) ∧ Below w.heap.size w w' := by
  obtain ⟨i0, hi, hz0, hz1, hz2⟩ := info3
  have HR := Lib.hid hr
  have HL := Lib.hid hr.1
  clear hr
  go_enter Tryz.func23, Tryz.ntmps23
  go_wp2_with (at_make; refine wpList_make_full _ rfl _ _ 36 rfl w.heap.size 3 i0 (.int .i64 0) 1 Tryz.underlying36 hi hz0 hz1 .i64 .i64 _ _ (n + 1) rfl rfl ?c1 ?c2 ?c3 ?c4 ?c5 ?_)
  case c1 => go_simp
  case c2 => go_simp
  case c3 => rw [hz2]; omega
  case c4 => unfold maxLen; omega
  case c5 => exact Nat.le_refl _
  intro w1 hown hgrow
  rw [madeInts] at hown
  have HG := Lib.hid (own_full hown).1
  have HB := Lib.hid (below_of_grown hgrow)
  have hz : w.heap.size < w1.heap.size := (Array.getElem?_eq_some_iff.1 (own_full hown).1).1
  clear hown hgrow
  go_wp2_with (refine wpList_copy_splice rfl _ _ 36 36 rfl 3 Tryz.underlying36 info31 _ _ _ _ _ _ rfl rfl w.heap.size 0 _ 3 HG.out (ints xs) ?c1 ?c2 ?c3 (ints_one xs) w.heap.size w HB.out (Nat.le_refl _) ?_)
  case c1 => simp [HL.out]
  case c2 =>
    intro hp
    have hp' : 0 < n := by simpa [HL.out] using hp
    obtain ⟨b, off, rfl, hlt, -⟩ := HR.out.at hp'
    exact ⟨_, rfl, fun j x hx => (HR.out.below HB.out).news j _ (by simp [hx])⟩
  case c3 => simp [HL.out]
  intro w2 HG2 hb2
  have e : splice (List.replicate (n + 1) (Value.int IntKind.i64 0)) 0 (ints xs) = ints (xs ++ [0]) := by
    simp [splice, HL.out]
  rw [e] at HG2
  have HB2 := Lib.hid hb2
  have hc : w2.cell? ⟨w.heap.size, n, none⟩ = some (.int .i64 0) := by
    rw [cell_of_row w2 w.heap.size n _ 3 (0, 0) HG2.out]
    simp [← HL.out]
  have hf : w2.frozen? ⟨w.heap.size, n, none⟩ = false := frozen_of_row w2 w.heap.size n _ 3 HG2.out
  have q : (n : Int) < (n : Int) + 1 := by omega
  clear hb2 e HG HB
  go_wp2
  go_ret
  refine ⟨rfl, ?_, HB2.out.setCell (Nat.le_refl _) _⟩
  rw [heap_setCell_same w2 w.heap.size n _ 3 _ HG2.out, handed_eq xs n HL.out]
end Go.Proofs.YteocfjiijmdjcaaGreat
