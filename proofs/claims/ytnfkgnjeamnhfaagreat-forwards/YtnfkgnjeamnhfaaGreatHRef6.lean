import Derived.Test.YtnfkgnjeamnhfaaGreatHLeaf
import Derived.Lib.Hide
import Derived.Laws.Append
import Derived.Lib.ItoaMem
import Derived.OwnWalk
import Derived.Deep.RegionWith
import Derived.Deep.QuietTactic
import Derived.BigQuiet
import Derived.Test.YtnfkgnjeamnhfaaGreatHChk
namespace Go.Proofs.YtnfkgnjeamnhfaaGreat.H
open Go.RowKit

/-- Bit k of v. -/
def bitN (v k : Nat) : Nat := v / 2 ^ k % 2
/-- The number of some bits, the highest first. -/
def numF (bf : Nat → Nat) : Nat → Nat
  | 0 => 0
  | k + 1 => 2 * numF bf k + bf k
theorem numF_lt {bf : Nat → Nat} (h : ∀ j, bf j ≤ 1) : ∀ k, numF bf k < 2 ^ k
  | 0 => by simp [numF]
  | k + 1 => by have := numF_lt h k; have := h k; rw [Nat.pow_succ]; simp only [numF]; omega
theorem numF_congr {bf bg : Nat → Nat} : ∀ k, (∀ j, j < k → bf j = bg j) → numF bf k = numF bg k
  | 0, _ => rfl
  | k + 1, h => by simp only [numF]; rw [numF_congr k (fun j hj => h j (by omega)), h k (by omega)]
theorem bitN_le (v k : Nat) : bitN v k ≤ 1 := by unfold bitN; omega

theorem mk32 (w : World) : (Instr.makeSlice 36 (.int .i64 32) (.int .i64 32)).run Tryz.prog w = .ok (.slice (some ⟨w.heap.size, 0, none⟩) 32 32) (w.alloc (.cells (Array.replicate 32 (.int .i64 0)) 3)) := by kernel_rfl
theorem mk64 (w : World) : (Instr.makeSlice 36 (.int .i64 64) (.int .i64 64)).run Tryz.prog w = .ok (.slice (some ⟨w.heap.size, 0, none⟩) 64 64) (w.alloc (.cells (Array.replicate 64 (.int .i64 0)) 3)) := by kernel_rfl

/-- A row of n bits in a block. -/
def RowB (w : World) (b n : Nat) (bf : Nat → Nat) : Prop := ∀ j, j < n → w.cell? ⟨b, j, none⟩ = some (.int .i64 (bf j : Int))
def RowF (w : World) (b n : Nat) : Prop := ∀ j, j < n → w.frozen? ⟨b, j, none⟩ = false
theorem RowB.set {w : World} {b n : Nat} {bf bg : Nat → Nat} (h : RowB w b n bf) {k : Nat} (hk : k < n) {x : Int} (hx : x = (bg k : Int)) (hg : ∀ j, j ≠ k → bg j = bf j) : RowB (w.setCell ⟨b, k, none⟩ (.int .i64 x)) b n bg := by
  intro j hj
  by_cases e : j = k
  · subst e; rw [World.cell?_setCell_same _ _ _ (h j hj), hx]
  · rw [World.cell?_setCell_other (w := w) (a := ⟨b, k, none⟩) (b := ⟨b, j, none⟩) _ (by intro hh; injection hh with _ h2; exact e h2.symm), h j hj, hg j e]
theorem RowF.set {w : World} {b n : Nat} (h : RowF w b n) (k : Nat) (x : Value) : RowF (w.setCell ⟨b, k, none⟩ x) b n := by
  intro j hj; rw [World.frozen?_setCell]; exact h j hj
theorem RowB.below {w w' : World} {B b n : Nat} {bf : Nat → Nat} (h : RowB w b n bf) (hb : Below B w w') (hlt : b < B) : RowB w' b n bf := fun j hj => (hb.cell (p := ⟨b, j, none⟩) hlt).trans (h j hj)
theorem RowF.below {w w' : World} {B b n : Nat} (h : RowF w b n) (hb : Below B w w') (hlt : b < B) : RowF w' b n := fun j hj => (hb.frozen (p := ⟨b, j, none⟩) hlt).trans (h j hj)

set_option maxHeartbeats 1000000 in
theorem bits32 (v : Nat) (w : World) (hv : v ≤ 18446744073709551615) :
    Calls Tryz.prog 133 #[.int .u64 v, .int .i64 32] w fun e w' => e = .returned (.slice (some ⟨w.heap.size, 0, none⟩) 32 32) ∧ w.heap.size < w'.heap.size ∧ RowB w' w.heap.size 32 (fun j => bitN v (31 - j)) ∧ RowF w' w.heap.size 32 ∧ Below w.heap.size w w' := by
  have hmk := mk32
  go_enter Tryz.func133, Tryz.ntmps133
  go_wp2
  go_loopw [0, 6] (fun x i wr => ∃ r q : Nat, r ≤ 32 ∧ i = .int .i64 ((r : Int) - 1) ∧ x = .int .u64 q ∧ q ≤ 18446744073709551615 ∧ Hid (q = v / 2 ^ (32 - r)) ∧ w.heap.size < wr.heap.size ∧ RowB wr w.heap.size 32 (fun j => if r ≤ j then bitN v (31 - j) else 0) ∧ RowF wr w.heap.size 32 ∧ Below w.heap.size w wr) (fun _ i _ => (intOf i + 1).toNat)
  case atStart =>
    refine ⟨32, v, Nat.le_refl _, rfl, rfl, hv, by show _ = _; simp, by simp, ?_, ?_, (Below.refl _ _).alloc (Nat.le_refl _) _⟩
    · intro j hj
      rw [World.cell?_alloc_new]
      simp [hj, show ¬ 32 ≤ j by omega]
    · intro j hj
      exact World.frozen?_alloc_new _ _ _ _
  case round =>
    obtain ⟨r, q, hr, hi, rfl, hq, HQ, hz, hB, hF, hb⟩ := hrel
    have HB := Lib.hid hB
    have HF := Lib.hid hF
    have HW := Lib.hid hb
    rcases r with _ | m
    · have e : ((0 : Nat) : Int) - 1 = -1 := rfl
      rw [e] at hi
      subst hi
      clear hB hF hb
      go_wp2
      go_ret
      refine ⟨rfl, hz, ?_, HF.out, HW.out⟩
      intro j hj
      have := HB.out j hj
      simpa using this
    · have e : ((m + 1 : Nat) : Int) - 1 = (m : Int) := by omega
      rw [e] at hi
      subst hi
      have hc := hB m (by omega)
      have hf := hF m (by omega)
      clear hB hF hb
      go_wp2
      go_roundw
      case rel =>
        refine ⟨m, q / 2, by omega, rfl, by go_num, by omega, ?_, by simpa using hz, HB.out.set (by omega) ?_ ?_, HF.out.set _ _, HW.out.setCell (Nat.le_refl _) _⟩
        · show _ = _
          rw [HQ.out, Nat.div_div_eq_div_mul, ← Nat.pow_succ]
          rw [show (32 - (m + 1)).succ = 32 - m by omega]
        · rw [if_pos (Nat.le_refl _)]
          have : (32 - (m + 1)) = 31 - m := by omega
          unfold bitN
          rw [← this, ← HQ.out]
          simp
        · intro j hj
          by_cases h1 : m + 1 ≤ j
          · simp [h1, show m ≤ j by omega]
          · simp [h1, show ¬ m ≤ j by omega]
      case measure => simp [intOf] <;> omega

set_option maxHeartbeats 1000000 in
theorem bits64 (v : Nat) (w : World) (hv : v ≤ 18446744073709551615) :
    Calls Tryz.prog 133 #[.int .u64 v, .int .i64 64] w fun e w' => e = .returned (.slice (some ⟨w.heap.size, 0, none⟩) 64 64) ∧ w.heap.size < w'.heap.size ∧ RowB w' w.heap.size 64 (fun j => bitN v (63 - j)) ∧ RowF w' w.heap.size 64 ∧ Below w.heap.size w w' := by
  have hmk := mk64
  go_enter Tryz.func133, Tryz.ntmps133
  go_wp2
  go_loopw [0, 6] (fun x i wr => ∃ r q : Nat, r ≤ 64 ∧ i = .int .i64 ((r : Int) - 1) ∧ x = .int .u64 q ∧ q ≤ 18446744073709551615 ∧ Hid (q = v / 2 ^ (64 - r)) ∧ w.heap.size < wr.heap.size ∧ RowB wr w.heap.size 64 (fun j => if r ≤ j then bitN v (63 - j) else 0) ∧ RowF wr w.heap.size 64 ∧ Below w.heap.size w wr) (fun _ i _ => (intOf i + 1).toNat)
  case atStart =>
    refine ⟨64, v, Nat.le_refl _, rfl, rfl, hv, by show _ = _; simp, by simp, ?_, ?_, (Below.refl _ _).alloc (Nat.le_refl _) _⟩
    · intro j hj
      rw [World.cell?_alloc_new]
      simp [hj, show ¬ 64 ≤ j by omega]
    · intro j hj
      exact World.frozen?_alloc_new _ _ _ _
  case round =>
    obtain ⟨r, q, hr, hi, rfl, hq, HQ, hz, hB, hF, hb⟩ := hrel
    have HB := Lib.hid hB
    have HF := Lib.hid hF
    have HW := Lib.hid hb
    rcases r with _ | m
    · have e : ((0 : Nat) : Int) - 1 = -1 := rfl
      rw [e] at hi
      subst hi
      clear hB hF hb
      go_wp2
      go_ret
      refine ⟨rfl, hz, ?_, HF.out, HW.out⟩
      intro j hj
      have := HB.out j hj
      simpa using this
    · have e : ((m + 1 : Nat) : Int) - 1 = (m : Int) := by omega
      rw [e] at hi
      subst hi
      have hc := hB m (by omega)
      have hf := hF m (by omega)
      clear hB hF hb
      go_wp2
      go_roundw
      case rel =>
        refine ⟨m, q / 2, by omega, rfl, by go_num, by omega, ?_, by simpa using hz, HB.out.set (by omega) ?_ ?_, HF.out.set _ _, HW.out.setCell (Nat.le_refl _) _⟩
        · show _ = _
          rw [HQ.out, Nat.div_div_eq_div_mul, ← Nat.pow_succ]
          rw [show (64 - (m + 1)).succ = 64 - m by omega]
        · rw [if_pos (Nat.le_refl _)]
          have : (64 - (m + 1)) = 63 - m := by omega
          unfold bitN
          rw [← this, ← HQ.out]
          simp
        · intro j hj
          by_cases h1 : m + 1 ≤ j
          · simp [h1, show m ≤ j by omega]
          · simp [h1, show ¬ m ≤ j by omega]
      case measure => simp [intOf] <;> omega
set_option maxHeartbeats 1000000 in
theorem number_any (b off len cap : Nat) (bf : Nat → Nat) (w : World) (hb : ∀ j, bf j ≤ 1) (hl : len ≤ 64) (hc : ∀ j, j < len → w.cell? ⟨b, off + j, none⟩ = some (.int .i64 (bf j : Int))) :
    Calls Tryz.prog 106 #[.slice (some ⟨b, off, none⟩) len cap] w fun e w' => e = .returned (.int .u64 (numF bf len : Int)) ∧ w' = w := by
  have HC : Hid _ := hc
  clear hc
  go_enter Tryz.func106, Tryz.ntmps106
  go_wp2
  go_loop [3, 4] (fun v i => ∃ k : Nat, k ≤ len ∧ i = .int .i64 k ∧ v = .int .u64 (numF bf k : Int)) (fun _ i => len - (intOf i).toNat)
  case atStart => exact ⟨0, Nat.zero_le _, rfl, rfl⟩
  case round =>
    obtain ⟨k, hk, rfl, rfl⟩ := hrel
    by_cases hlt : k < len
    · have hn := numF_lt hb k
      have h2 : (2 : Nat) ^ k ≤ 2 ^ 63 := Nat.pow_le_pow_right (by decide) (by omega)
      have hn2 : numF bf k < 9223372036854775808 := by omega
      have hbk := hb k
      have hck := HC.out k hlt
      clear hn h2
      go_wp2
      go_round
      case rel => exact ⟨k + 1, by omega, by go_num, by simp only [numF]; go_num⟩
      case measure => simp [intOf]; omega
    · obtain rfl : k = len := by omega
      go_wp2
      go_ret
      exact ⟨rfl, rfl⟩
end Go.Proofs.YtnfkgnjeamnhfaaGreat.H
namespace Go.Proofs.YtnfkgnjeamnhfaaGreat.H
open Go.RowKit

/-- The bits of an address of V6. -/
def bits6 (hi lo : Nat) (j : Nat) : Nat := if j < 64 then bitN hi (63 - j) else bitN lo (127 - j)
theorem info3m : (Tryz.prog.info? 3).map (fun i => (i.size, i.bytes, i.zero)) = some (1, 8, some (.int .i64 0)) := by kernel_rfl
theorem info3 : ∃ i, Tryz.prog.info? 3 = some i ∧ i.size = 1 ∧ i.bytes = 8 ∧ i.zero = some (.int .i64 0) := by
  obtain ⟨i, hi, he⟩ := Option.map_eq_some_iff.1 info3m
  simp only [Prod.mk.injEq] at he
  exact ⟨i, hi, he.1, he.2.1, he.2.2⟩

set_option maxHeartbeats 1000000 in
theorem Bits4 (hi lo : Nat) (w : World) (hl : lo ≤ 18446744073709551615) :
    Calls Tryz.prog 105 #[addr 4 hi lo] w fun e w' => ∃ b, w.heap.size ≤ b ∧ b < w'.heap.size ∧ e = .returned (.slice (some ⟨b, 0, none⟩) 32 32) ∧ RowB w' b 32 (fun j => bitN lo (31 - j)) ∧ RowF w' b 32 ∧ Below w.heap.size w w' := by
  go_enter Tryz.func105, Tryz.ntmps105
  go_wp2_with (first | (go_at_call 133; refine (bits32 _ _ hl).mono ?_; rintro e w1 ⟨rfl, hz, hB, hF, hb⟩))
  have e1 : (w.alloc (.cells #[.int .i64 4, .int .u64 hi, .int .u64 lo] 31)).heap.size = w.heap.size + 1 := by simp
  rw [e1] at hz hB hF
  go_ret
  exact ⟨w.heap.size + 1, by omega, hz, rfl, hB, hF, ((Below.refl _ _).alloc (Nat.le_refl _) _).trans (hb.mono (by simp))⟩

/-- An append whose run is known. -/
theorem wpList_append_run {P : Program} {w w' : World} {v' : Value} {ops : Array Oper} {rest : List Oper} {o : Oper} {a : Act} {Q : Exit → Act → World → Prop} (hgd : o.guard = none) (s x : Operand) (t : TypeId)
    (ho : o.op = .call { callee := .builtin .append, args := #[s, x], argTypes := #[t, t] }) (v1 v2 : Value) (hs : a.eval s = v1) (hx : a.eval x = v2)
    (hr : (Builtin.append_ #[t, t] o.type #[v1, v2]).run P w = .ok v' w') (h : wpList P ops Q rest (a.put o.dst v') w') : wpList P ops Q (o :: rest) a w :=
  wpList_plain hgd fun _ hK => by
    unfold Oper.wp execOp
    simp only [ho, resolve, invoke, builtin, Sem.run_bind, Sem.run_pure, Result.andThen_ok, List.map_toArray, List.map_cons, List.map_nil, hs, hx, hr]
    exact hK _ _ h

/-- Two rows of 64 bits, appended. -/
theorem append64 (W : World) (b1 b2 : Nat) (f g : Nat → Nat) (h1 : RowB W b1 64 f) (h2 : RowB W b2 64 g) (ty : TypeId) :
    ∃ c cs, (Builtin.append_ #[36, 36] ty #[.slice (some ⟨b1, 0, none⟩) 64 64, .slice (some ⟨b2, 0, none⟩) 64 64]).run Tryz.prog W = .ok (.slice (some ⟨W.heap.size, 0, none⟩) 128 c) (W.drew.alloc (.cells cs 3)) ∧ (∀ j, j < 128 → cs[j]? = some (.int .i64 ((if j < 64 then f j else g (j - 64) : Nat) : Int))) ∧ 128 ≤ c := by
  obtain ⟨i, hi, hs, hby, hz⟩ := info3
  have r := run_append_grow (P := Tryz.prog) W 36 ty 3 i (.int .i64 0) Tryz.underlying36 hi hz ⟨b1, 0, none⟩ 64 64 ((List.range 64).map fun j => .int .i64 (f j : Int)) (by simp [hs]) (fun j v hv => by
      obtain ⟨hj, rfl⟩ : j < 64 ∧ Value.int .i64 (f j : Int) = v := by
        rw [List.getElem?_map] at hv
        by_cases hj : j < 64
        · simp [hj] at hv; exact ⟨hj, hv⟩
        · simp [hj] at hv
      rw [Lib.add_plain]
      simpa using h1 j hj) ⟨b2, 0, none⟩ 64 64 ((List.range 64).map fun j => .int .i64 (g j : Int)) (by simp [hs]) (fun j v hv => by
      obtain ⟨hj, rfl⟩ : j < 64 ∧ Value.int .i64 (g j : Int) = v := by
        rw [List.getElem?_map] at hv
        by_cases hj : j < 64
        · simp [hj] at hv; exact ⟨hj, hv⟩
        · simp [hj] at hv
      rw [Lib.add_plain]
      simpa using h2 j hj) (by decide) (by decide) (by rw [hby]; decide)
  refine ⟨_, _, r, ?_, grownCap_ge _ _ _ _⟩
  intro j hj
  by_cases h : j < 64
  · rw [Array.getElem?_append, if_pos (by simp; omega), Array.getElem?_append, if_pos (by simp; omega)]
    simp [h]
  · simp only [h, if_false]
    rw [Array.getElem?_append, if_pos (by simp; omega), Array.getElem?_append, if_neg (by simp; omega)]
    simp [show j - 64 < 64 by omega]

set_option maxHeartbeats 1000000 in
theorem Bits6 (f : Int) (hi lo : Nat) (w : World) (hh : hi ≤ 18446744073709551615) (hl : lo ≤ 18446744073709551615) (h4 : (f == 4) = false) :
    Calls Tryz.prog 105 #[addr f hi lo] w fun e w' => ∃ b c, 128 ≤ c ∧ w.heap.size ≤ b ∧ b < w'.heap.size ∧ e = .returned (.slice (some ⟨b, 0, none⟩) 128 c) ∧ RowB w' b 128 (bits6 hi lo) ∧ RowF w' b 128 ∧ Below w.heap.size w w' := by
  go_enter Tryz.func105, Tryz.ntmps105
  go_wp2_with fail
  refine (bits64 _ _ hh).mono ?_
  rintro e w1 ⟨rfl, hz1, hB1, hF1, hb1⟩
  have hsz1 : (w.alloc (.cells #[.int .i64 f, .int .u64 hi, .int .u64 lo] 31)).heap.size = w.heap.size + 1 := by simp
  have hz1' : w.heap.size + 1 < w1.heap.size := by rw [hsz1] at hz1; exact hz1
  have c2 : w1.cell? ⟨w.heap.size, 2, none⟩ = some (.int .u64 lo) := by rw [(bcell hb1).1 _ _ (by simp)]; simp
  have HB1 := Lib.hid hB1
  have HW1 := Lib.hid hb1
  clear hB1 hF1 hb1 hz1
  go_wp2_with fail
  refine (bits64 _ _ hl).mono ?_
  rintro e w2 ⟨rfl, hz2, hB2, hF2, hb2⟩
  have r1 := HB1.out.below hb2 (by simp; omega)
  obtain ⟨c, cs, hap, hcs, hcc⟩ := append64 w2 _ _ _ _ r1 hB2 36
  have HB2 := Lib.hid (((Below.refl w.heap.size w).alloc (Nat.le_refl _) (.cells #[.int .i64 f, .int .u64 hi, .int .u64 lo] 31)).trans ((HW1.out.mono (by simp)).trans (hb2.mono (by omega))))
  have HCS := Lib.hid hcs
  have hz3 : w.heap.size < w2.heap.size := by have := hb2.size; omega
  rw [hsz1] at hap
  have HAP := Lib.hid hap
  clear r1 hB2 hF2 hb2 hcs hsz1 c2 hz2 hap
  go_wp2_with (at_builtin; refine wpList_append_run rfl _ _ 36 rfl _ _ rfl rfl HAP.out ?_)
  go_ret
  refine ⟨w2.heap.size, c, hcc, by omega, by simp, rfl, ?_, ?_, HB2.out.drew.alloc (by simp; omega) _⟩
  · intro j hj
    have := HCS.out j hj
    rw [World.cell?_drew, World.cell?_alloc_new, this]
    unfold bits6
    by_cases h : j < 64
    · simp [h]
    · simp [h, show 63 - (j - 64) = 127 - j by omega]
  · intro j hj
    exact World.frozen?_alloc_new _ _ _ _
end Go.Proofs.YtnfkgnjeamnhfaaGreat.H
namespace Go.Proofs.YtnfkgnjeamnhfaaGreat.H
open Go.RowKit

/-- Cut's own two blocks: the address, the result. -/
structure Fc (B : Nat) (wr : World) (f : Int) : Prop where
  a0 : wr.cell? ⟨B, 0, none⟩ = some (.int .i64 f)
  r0 : wr.cell? ⟨B + 1, 0, none⟩ = some (.int .i64 0)
  r1 : wr.cell? ⟨B + 1, 1, none⟩ = some (.int .u64 0)
  r2 : wr.cell? ⟨B + 1, 2, none⟩ = some (.int .u64 0)
  f0 : wr.frozen? ⟨B + 1, 0, none⟩ = false
  f1 : wr.frozen? ⟨B + 1, 1, none⟩ = false
  f2 : wr.frozen? ⟨B + 1, 2, none⟩ = false
theorem Fc.below {B D : Nat} {wr w2 : World} {f : Int} (h : Fc B wr f) (hb : Below D wr w2) (hz : B + 1 < D) : Fc B w2 f := by
  have hc : ∀ b o, b < D → w2.cell? ⟨b, o, none⟩ = wr.cell? ⟨b, o, none⟩ := fun b o h => hb.cell (p := ⟨b, o, none⟩) h
  have hf : ∀ b o, b < D → w2.frozen? ⟨b, o, none⟩ = wr.frozen? ⟨b, o, none⟩ := fun b o h => hb.frozen (p := ⟨b, o, none⟩) h
  exact ⟨(hc _ _ (by omega)).trans h.a0, (hc _ _ (by omega)).trans h.r0, (hc _ _ (by omega)).trans h.r1, (hc _ _ (by omega)).trans h.r2, (hf _ _ (by omega)).trans h.f0, (hf _ _ (by omega)).trans h.f1, (hf _ _ (by omega)).trans h.f2⟩
theorem Fc.set {B : Nat} {wr : World} {f : Int} (h : Fc B wr f) {b k : Nat} (hb : B + 1 < b) (x : Value) : Fc B (wr.setCell ⟨b, k, none⟩ x) f :=
  h.below ((Below.refl (B + 2) wr).setCell (by show _ ≤ b; omega) x) (by omega)

/-- The bits behind the first m are noughts. -/
def cutB (m : Nat) (bf : Nat → Nat) (j : Nat) : Nat := if j < m then bf j else 0
theorem cutB_le {m : Nat} {bf : Nat → Nat} (h : ∀ j, bf j ≤ 1) (j : Nat) : cutB m bf j ≤ 1 := by unfold cutB; split; exact h j; omega
set_option maxHeartbeats 2000000 in
theorem rcut4 (hi lo m : Nat) (w : World) (hl : lo ≤ 18446744073709551615) (hm : m ≤ 32) :
    Calls Tryz.prog 66 #[addr 4 hi lo, .int .i64 m] w fun e w' => e = .returned (addr 4 0 (numF (cutB m (fun j => bitN lo (31 - j))) 32)) ∧ Below w.heap.size w w' := by
  go_enter Tryz.func66, Tryz.ntmps66
  go_wp2_with (go_at_call 105; refine (Bits4 _ _ _ hl).mono ?_; rintro e w1 ⟨b, hb0, hbz, rfl, hB, hF, hb⟩; refine Hid.out ?_)
  refine Lib.hid ?_
  have hFc : Fc w.heap.size ((w.alloc (.cells #[.int .i64 4, .int .u64 hi, .int .u64 lo] 31)).alloc (.cells #[.int .i64 0, .int .u64 0, .int .u64 0] 31)) 4 := by constructor <;> go_simp
  have e1 : ((w.alloc (.cells #[.int .i64 4, .int .u64 hi, .int .u64 lo] 31)).alloc (.cells #[.int .i64 0, .int .u64 0, .int .u64 0] 31)).heap.size = w.heap.size + 2 := by simp
  rw [e1] at hb hb0
  have HFc := Lib.hid (hFc.below hb (by omega))
  have HB := Lib.hid hB
  have HF := Lib.hid hF
  have HW := Lib.hid ((((Below.refl w.heap.size w).alloc (Nat.le_refl _) _).alloc (by simp) _).trans (hb.mono (by omega)))
  clear hFc e1 hB hF hb
  go_wp2
  go_loopw [6] (fun i wr => ∃ k : Nat, m ≤ k ∧ k ≤ 32 ∧ i = .int .i64 k ∧ b < wr.heap.size ∧ Fc w.heap.size wr 4 ∧ RowB wr b 32 (fun j => if m ≤ j ∧ j < k then 0 else bitN lo (31 - j)) ∧ RowF wr b 32 ∧ Below w.heap.size w wr) (fun i _ => 32 - (intOf i).toNat)
  case atStart =>
    refine ⟨m, Nat.le_refl _, hm, rfl, hbz, HFc.out, ?_, HF.out, HW.out⟩
    intro j hj
    have := HB.out j hj
    rw [this]
    simp [show ¬ (m ≤ j ∧ j < m) by omega]
  case round =>
    obtain ⟨k, hk0, hk, rfl, hz, hFc, hB, hF, hW⟩ := hrel
    have HFc2 := Lib.hid hFc
    have HB2 := Lib.hid hB
    have HF2 := Lib.hid hF
    have HW2 := Lib.hid hW
    by_cases hlt : k < 32
    · have hc := hB k hlt
      have hf := hF k hlt
      clear hFc hB hF hW HFc HB HF HW
      go_wp2
      go_roundw
      case rel =>
        refine ⟨k + 1, by omega, by omega, by go_num, by simpa using hz, HFc2.out.set (by omega) _, HB2.out.set hlt ?_ ?_, HF2.out.set _ _, HW2.out.setCell (by show _ ≤ b; omega) _⟩
        · simp [hk0]
        · intro j hj
          by_cases h1 : m ≤ j ∧ j < k
          · simp [h1, show j < k + 1 by omega]
          · simp [h1, show ¬ (m ≤ j ∧ j < k + 1) by omega]
      case measure => simp [intOf] <;> omega
    · obtain rfl : k = 32 := by omega
      obtain ⟨a0, r0, r1, r2, f0, f1, f2⟩ := hFc
      have HN := Lib.hid (fun (c : Nat) => number_any b 0 32 c (cutB m (fun j => bitN lo (31 - j))) wr (cutB_le (fun j => bitN_le _ _)) (by decide) (fun j hj => by
        have := HB2.out j hj
        rw [Nat.zero_add, this]
        unfold cutB
        by_cases h1 : j < m
        · simp [h1, show ¬ (m ≤ j ∧ j < 32) by omega]
        · simp [h1, show m ≤ j by omega, hj]))
      clear hB hF hW HFc HB HF HW
      go_wp2_with (go_at_call 106; refine (HN.out _).mono ?_; rintro e w2 ⟨rfl, rfl⟩)
      refine bodyPost_ret (v := .agg #[.int .i64 4, .int .u64 0, .int .u64 (numF (cutB m (fun j => bitN lo (31 - j))) 32 : Int)]) (by simp [results, Tryz.results66, go_sem, r0, r1, r2]) rfl ⟨rfl, ?_⟩
      exact ((HW2.out.setCell (by dsimp only; omega) _).setCell (by dsimp only; omega) _).setCell (by dsimp only; omega) _
end Go.Proofs.YtnfkgnjeamnhfaaGreat.H
namespace Go.Proofs.YtnfkgnjeamnhfaaGreat.H
open Go.RowKit

theorem bits6_le (hi lo j : Nat) : bits6 hi lo j ≤ 1 := by unfold bits6; split <;> exact bitN_le _ _
set_option maxHeartbeats 2000000 in
set_option maxRecDepth 100000 in
theorem rcut6 (hi lo m : Nat) (w : World) (hh : hi ≤ 18446744073709551615) (hl : lo ≤ 18446744073709551615) (hm : m ≤ 128) :
    Calls Tryz.prog 66 #[addr 6 hi lo, .int .i64 m] w fun e w' => e = .returned (addr 6 (numF (cutB m (bits6 hi lo)) 64) (numF (fun j => cutB m (bits6 hi lo) (64 + j)) 64)) ∧ Below w.heap.size w w' := by
  go_enter Tryz.func66, Tryz.ntmps66
  go_wp2_with (go_at_call 105; refine (Bits6 _ _ _ _ hh hl rfl).mono ?_; rintro e w1 ⟨b, c, hcc, hb0, hbz, rfl, hB, hF, hb⟩; refine Hid.out ?_)
  refine Lib.hid ?_
  have hFc : Fc w.heap.size ((w.alloc (.cells #[.int .i64 6, .int .u64 hi, .int .u64 lo] 31)).alloc (.cells #[.int .i64 0, .int .u64 0, .int .u64 0] 31)) 6 := by constructor <;> go_simp
  have e1 : ((w.alloc (.cells #[.int .i64 6, .int .u64 hi, .int .u64 lo] 31)).alloc (.cells #[.int .i64 0, .int .u64 0, .int .u64 0] 31)).heap.size = w.heap.size + 2 := by simp
  rw [e1] at hb hb0
  have HFc := Lib.hid (hFc.below hb (by omega))
  have HB := Lib.hid hB
  have HF := Lib.hid hF
  have HW := Lib.hid ((((Below.refl w.heap.size w).alloc (Nat.le_refl _) _).alloc (by simp) _).trans (hb.mono (by omega)))
  clear hFc e1 hB hF hb
  go_wp2
  go_loopw [6] (fun i wr => ∃ k : Nat, m ≤ k ∧ k ≤ 128 ∧ i = .int .i64 k ∧ b < wr.heap.size ∧ Fc w.heap.size wr 6 ∧ RowB wr b 128 (fun j => if m ≤ j ∧ j < k then 0 else bits6 hi lo j) ∧ RowF wr b 128 ∧ Below w.heap.size w wr) (fun i _ => 128 - (intOf i).toNat)
  case atStart =>
    refine ⟨m, Nat.le_refl _, hm, rfl, hbz, HFc.out, ?_, HF.out, HW.out⟩
    intro j hj
    have := HB.out j hj
    rw [this]
    simp [show ¬ (m ≤ j ∧ j < m) by omega]
  case round =>
    obtain ⟨k, hk0, hk, rfl, hz, hFc, hB, hF, hW⟩ := hrel
    have HFc2 := Lib.hid hFc
    have HB2 := Lib.hid hB
    have HF2 := Lib.hid hF
    have HW2 := Lib.hid hW
    by_cases hlt : k < 128
    · have hc := hB k hlt
      have hf := hF k hlt
      clear hFc hB hF hW HFc HB HF HW
      go_wp2
      go_roundw
      case rel =>
        refine ⟨k + 1, by omega, by omega, by go_num, by simpa using hz, HFc2.out.set (by omega) _, HB2.out.set hlt ?_ ?_, HF2.out.set _ _, HW2.out.setCell (by show _ ≤ b; omega) _⟩
        · simp [hk0]
        · intro j hj
          by_cases h1 : m ≤ j ∧ j < k
          · simp [h1, show j < k + 1 by omega]
          · simp [h1, show ¬ (m ≤ j ∧ j < k + 1) by omega]
      case measure => simp [intOf] <;> omega
    · obtain rfl : k = 128 := by omega
      obtain ⟨a0, r0, r1, r2, f0, f1, f2⟩ := hFc
      have hcell : ∀ j, j < 128 → wr.cell? ⟨b, j, none⟩ = some (.int .i64 (cutB m (bits6 hi lo) j : Int)) := by
        intro j hj
        have := HB2.out j hj
        rw [this]
        unfold cutB
        by_cases h1 : j < m
        · simp [h1, show ¬ (m ≤ j ∧ j < 128) by omega]
        · simp [h1, show m ≤ j by omega, hj]
      have HN := Lib.hid (fun (off c : Nat) (W : World) (hW : ∀ a, W.cell? a = wr.cell? a) (ho : off ≤ 64) => number_any b off 64 c (fun j => cutB m (bits6 hi lo) (off + j)) W (fun j => cutB_le (bits6_le hi lo) (off + j)) (by decide) (fun j hj => by rw [hW]; exact hcell (off + j) (by omega)))
      clear hB hF hW HFc HB HF HW hcell
      go_wp2
      go_region_with (go_at_call 106; refine (HN.out _ _ _ ?h1 ?h2).mono ?_; (case h1 => exact fun _ => rfl); (case h2 => decide); rintro e w2 ⟨rfl, rfl⟩)
      all_goals go_wp2
      all_goals refine bodyPost_ret (v := .agg #[.int .i64 6, .int .u64 (numF (fun j => cutB m (bits6 hi lo) j) 64 : Int), .int .u64 (numF (fun j => cutB m (bits6 hi lo) (64 + j)) 64 : Int)]) (by simp [results, Tryz.results66, go_sem, r0, r1, r2]) rfl ⟨rfl, ?_⟩
      all_goals exact (((HW2.out.setCell (by dsimp only; omega) _).setCell (by dsimp only; omega) _).setCell (by dsimp only; omega) _).drew
end Go.Proofs.YtnfkgnjeamnhfaaGreat.H
namespace Go.Proofs.YtnfkgnjeamnhfaaGreat.H
open Go.RowKit

theorem rsize_4 (w : World) : Calls Tryz.prog 62 #[.int .i64 4] w fun e w' => e = .returned (.int .i64 32) ∧ w' = w := by
  go_enter Tryz.func62, Tryz.ntmps62
  go_wp2
  go_ret
  exact ⟨rfl, rfl⟩
theorem rsize_6 (w : World) : Calls Tryz.prog 62 #[.int .i64 6] w fun e w' => e = .returned (.int .i64 128) ∧ w' = w := by
  go_enter Tryz.func62, Tryz.ntmps62
  go_wp2
  go_ret
  exact ⟨rfl, rfl⟩
theorem rsize_no (f : Int) (w : World) (h4 : ¬ f = 4) (h6 : ¬ f = 6) : Calls Tryz.prog 62 #[.int .i64 f] w fun e w' => e = .returned (.int .i64 0) ∧ w' = w := by
  go_enter Tryz.func62, Tryz.ntmps62
  go_wp2
  go_ret
  exact ⟨rfl, rfl⟩
set_option maxHeartbeats 400000 in
theorem raddr_6 (hi lo : Nat) (w : World) : Calls Tryz.prog 70 #[addr 6 hi lo] w fun e w' => e = .returned (.int .i64 0) ∧ Below w.heap.size w w' := by
  go_enter Tryz.func70, Tryz.ntmps70
  go_wp2_with (go_at_call 62; refine (rsize_6 _).mono ?_; rintro e w' ⟨rfl, rfl⟩)
  go_ret
  exact ⟨rfl, (Below.refl _ _).alloc (Nat.le_refl _) _⟩
set_option maxHeartbeats 400000 in
theorem raddr_4y (lo : Nat) (w : World) (h : lo ≤ 4294967295) : Calls Tryz.prog 70 #[addr 4 0 lo] w fun e w' => e = .returned (.int .i64 0) ∧ Below w.heap.size w w' := by
  have h' : ¬ (4294967295 : Int) < (lo : Int) := by omega
  go_enter Tryz.func70, Tryz.ntmps70
  go_wp2_with (go_at_call 62; refine (rsize_4 _).mono ?_; rintro e w' ⟨rfl, rfl⟩)
  go_ret
  exact ⟨rfl, (Below.refl _ _).alloc (Nat.le_refl _) _⟩
set_option maxHeartbeats 400000 in
theorem raddr_4n (lo : Nat) (w : World) (h : ¬ lo ≤ 4294967295) : Calls Tryz.prog 70 #[addr 4 0 lo] w fun e w' => e = .returned (.int .i64 4) ∧ Below w.heap.size w w' := by
  have h' : (4294967295 : Int) < (lo : Int) := by omega
  go_enter Tryz.func70, Tryz.ntmps70
  go_wp2_with (go_at_call 62; refine (rsize_4 _).mono ?_; rintro e w' ⟨rfl, rfl⟩)
  go_ret
  exact ⟨rfl, (Below.refl _ _).alloc (Nat.le_refl _) _⟩
set_option maxHeartbeats 400000 in
theorem raddr_4h (hi lo : Nat) (w : World) (h : 1 ≤ hi) : Calls Tryz.prog 70 #[addr 4 hi lo] w fun e w' => e = .returned (.int .i64 4) ∧ Below w.heap.size w w' := by
  have h' : (0 : Int) < (hi : Int) := by omega
  go_enter Tryz.func70, Tryz.ntmps70
  go_wp2_with (go_at_call 62; refine (rsize_4 _).mono ?_; rintro e w' ⟨rfl, rfl⟩)
  go_ret
  exact ⟨rfl, (Below.refl _ _).alloc (Nat.le_refl _) _⟩

set_option maxHeartbeats 400000 in
theorem rgood_no (f : Int) (hi lo : Nat) (n : Int) (w : World) (h4 : ¬ f = 4) (h6 : ¬ f = 6) :
    Calls Tryz.prog 96 #[pref f hi lo n] w fun e w' => e = .returned (.int .i64 2) ∧ Below w.heap.size w w' := by
  go_enter Tryz.func96, Tryz.ntmps96
  go_wp2_with (go_at_call 62; refine (rsize_no _ _ h4 h6).mono ?_; rintro e w' ⟨rfl, rfl⟩)
  go_ret
  exact ⟨rfl, (Below.refl _ _).alloc (Nat.le_refl _) _⟩
set_option maxHeartbeats 400000 in
theorem rgood_len (f sz : Int) (hi lo : Nat) (n : Int) (w : World) (h0 : 0 < sz) (HS : Hid (∀ w, Calls Tryz.prog 62 #[.int .i64 f] w fun e w' => e = .returned (.int .i64 sz) ∧ w' = w)) (h : n < 0 ∨ sz < n) :
    Calls Tryz.prog 96 #[pref f hi lo n] w fun e w' => e = .returned (.int .i64 3) ∧ Below w.heap.size w w' := by
  rcases h with h | h
  · go_enter Tryz.func96, Tryz.ntmps96
    go_wp2_with (go_at_call 62; refine (HS.out _).mono ?_; rintro e w' ⟨rfl, rfl⟩)
    go_ret
    exact ⟨rfl, (Below.refl _ _).alloc (Nat.le_refl _) _⟩
  · have h' : ¬ n < 0 := by omega
    go_enter Tryz.func96, Tryz.ntmps96
    go_wp2_with (go_at_call 62; refine (HS.out _).mono ?_; rintro e w' ⟨rfl, rfl⟩)
    go_ret
    exact ⟨rfl, (Below.refl _ _).alloc (Nat.le_refl _) _⟩
set_option maxHeartbeats 400000 in
theorem rgood_addr (f sz : Int) (hi lo : Nat) (n : Int) (w : World) (h0 : 0 < sz) (hn0 : 0 ≤ n) (hn1 : n ≤ sz) (HS : Hid (∀ w, Calls Tryz.prog 62 #[.int .i64 f] w fun e w' => e = .returned (.int .i64 sz) ∧ w' = w))
    (HA : Hid (∀ w, Calls Tryz.prog 70 #[addr f hi lo] w fun e w' => e = .returned (.int .i64 4) ∧ Below w.heap.size w w')) :
    Calls Tryz.prog 96 #[pref f hi lo n] w fun e w' => e = .returned (.int .i64 4) ∧ Below w.heap.size w w' := by
  go_enter Tryz.func96, Tryz.ntmps96
  go_wp2_with (first | (go_at_call 62; refine (HS.out _).mono ?_; rintro e w' ⟨rfl, rfl⟩) | (go_at_call 70; refine (HA.out _).mono ?_; rintro e w' ⟨rfl, hb⟩))
  go_ret
  exact ⟨rfl, ((Below.refl _ _).alloc (Nat.le_refl _) _).trans (hb.mono (by simp))⟩
set_option maxHeartbeats 1000000 in
theorem rgood_cut (f sz : Int) (hi lo a b : Nat) (n z : Int) (w : World) (h0 : 0 < sz) (hn0 : 0 ≤ n) (hn1 : n ≤ sz) (HS : Hid (∀ w, Calls Tryz.prog 62 #[.int .i64 f] w fun e w' => e = .returned (.int .i64 sz) ∧ w' = w))
    (HA : Hid (∀ w, Calls Tryz.prog 70 #[addr f hi lo] w fun e w' => e = .returned (.int .i64 0) ∧ Below w.heap.size w w'))
    (HC : Hid (∀ w, Calls Tryz.prog 66 #[addr f hi lo, .int .i64 n] w fun e w' => e = .returned (addr f a b) ∧ Below w.heap.size w w'))
    (hz : ((a : Int) == (hi : Int)) = false ∧ z = 4 ∨ a = hi ∧ ((b : Int) == (lo : Int)) = false ∧ z = 4 ∨ a = hi ∧ b = lo ∧ z = 0) :
    Calls Tryz.prog 96 #[pref f hi lo n] w fun e w' => e = .returned (.int .i64 z) ∧ Below w.heap.size w w' := by
  rcases hz with ⟨hz, rfl⟩ | ⟨rfl, hz, rfl⟩ | ⟨rfl, rfl, rfl⟩
  all_goals
    go_enter Tryz.func96, Tryz.ntmps96
    go_wp2_with (first | (go_at_call 62; refine (HS.out _).mono ?_; rintro e w' ⟨rfl, rfl⟩) | (go_at_call 70; refine (HA.out _).mono ?_; rintro e w1 ⟨rfl, hb1⟩; obtain ⟨hc1, hf1⟩ := bcell hb1; have hz1 : w.heap.size < w1.heap.size := (by have := hb1.size; simp at this; omega)) | (go_at_call 66; refine (HC.out _).mono ?_; rintro e w2 ⟨rfl, hb2⟩; obtain ⟨hc2, hf2⟩ := bcell hb2; have hz2 : w.heap.size < w2.heap.size := (by have := hb2.size; omega)))
    go_ret
    exact ⟨rfl, ((((Below.refl _ _).alloc (Nat.le_refl _) _).trans (hb1.mono (by simp))).trans (hb2.mono (by omega))).alloc (by omega) _⟩
end Go.Proofs.YtnfkgnjeamnhfaaGreat.H
namespace Go.Proofs.YtnfkgnjeamnhfaaGreat.H
open Go.RowKit

theorem clr_64 {v m : Nat} (hv : v ≤ 18446744073709551615) (hm : 64 ≤ m) : clr v m = 0 := by
  unfold clr
  have : 2 ^ 64 ≤ 2 ^ m := Nat.pow_le_pow_right (by decide) hm
  rw [Nat.div_eq_of_lt (by omega)]; simp
/-- mask, whole. -/
theorem numF_bits (v n : Nat) (hv : v < 2 ^ n) : ∀ k, k ≤ n → numF (fun j => bitN v (n - 1 - j)) k = v / 2 ^ (n - k)
  | 0, _ => by simp only [numF, Nat.sub_zero]; rw [Nat.div_eq_of_lt hv]
  | k + 1, hk => by
    simp only [numF]
    rw [numF_bits v n hv k (by omega)]
    have e1 : n - k = (n - (k + 1)) + 1 := by omega
    have e2 : n - 1 - k = n - (k + 1) := by omega
    rw [e1, e2, Nat.pow_succ, ← Nat.div_div_eq_div_mul]
    unfold bitN
    omega
theorem numF_zeros (bf : Nat → Nat) (m : Nat) (h : ∀ j, m ≤ j → bf j = 0) : ∀ d, numF bf (m + d) = numF bf m * 2 ^ d
  | 0 => by simp
  | d + 1 => by
    show 2 * numF bf (m + d) + bf (m + d) = _
    rw [numF_zeros bf m h d, h (m + d) (by omega), Nat.pow_succ, Nat.add_zero, Nat.mul_comm 2, Nat.mul_assoc]
theorem numF_cut (v n m : Nat) (hv : v < 2 ^ n) (hm : m ≤ n) : numF (cutB m (fun j => bitN v (n - 1 - j))) n = clr v (n - m) := by
  have h1 := numF_zeros (cutB m (fun j => bitN v (n - 1 - j))) m (fun j hj => by unfold cutB; rw [if_neg (by omega)]) (n - m)
  rw [show m + (n - m) = n by omega] at h1
  rw [h1, numF_congr (bg := fun j => bitN v (n - 1 - j)) m (fun j hj => by unfold cutB; rw [if_pos hj]), numF_bits v n hv m hm]
  rfl
theorem cut_hi (hi lo m : Nat) (hh : hi ≤ 18446744073709551615) : numF (cutB m (bits6 hi lo)) 64 = clr hi (64 - m) := by
  by_cases h : m ≤ 64
  · rw [← numF_cut hi 64 m (by omega) h]
    refine numF_congr 64 (fun j hj => ?_)
    unfold cutB bits6
    rw [if_pos hj]
  · rw [show 64 - m = 64 - 64 by omega, ← numF_cut hi 64 64 (by omega) (by omega)]
    refine numF_congr 64 (fun j hj => ?_)
    unfold cutB bits6
    rw [if_pos hj, if_pos (by omega), if_pos hj]
theorem cut_lo (hi lo m : Nat) (hl : lo ≤ 18446744073709551615) (hm : m ≤ 128) : numF (fun j => cutB m (bits6 hi lo) (64 + j)) 64 = clr lo (128 - m) := by
  by_cases h : m ≤ 64
  · rw [clr_64 hl (by omega)]
    have := numF_zeros (fun j => cutB m (bits6 hi lo) (64 + j)) 0 (fun j hj => by show cutB m _ _ = 0; unfold cutB; rw [if_neg (by omega)]) 64
    rw [Nat.zero_add] at this
    rw [this]
    simp [numF]
  · rw [show 128 - m = 64 - (m - 64) by omega, ← numF_cut lo 64 (m - 64) (by omega) (by omega)]
    refine numF_congr 64 (fun j hj => ?_)
    show cutB m (bits6 hi lo) (64 + j) = cutB (m - 64) _ j
    unfold cutB bits6
    by_cases hj2 : 64 + j < m
    · rw [if_pos hj2, if_neg (by omega), if_pos (by omega), show 127 - (64 + j) = 64 - 1 - j by omega]
    · rw [if_neg hj2, if_neg (by omega)]

/-- The document's Good, whole: as the program's Check. -/
theorem rgood_any (f : Int) (hi lo : Nat) (n : Int) (w : World) (hh : hi ≤ 18446744073709551615) (hl : lo ≤ 18446744073709551615) :
    Calls Tryz.prog 96 #[pref f hi lo n] w fun e w' => e = .returned (.int .i64 (chk f hi lo n)) ∧ Below w.heap.size w w' := by
  by_cases h4 : f = 4
  · subst h4
    by_cases hn : n < 0 ∨ 32 < n
    · have e : chk 4 hi lo n = 3 := by unfold chk; rw [if_pos rfl, if_pos hn]
      rw [e]
      exact rgood_len 4 32 hi lo n w (by decide) rsize_4 hn
    · obtain ⟨m, rfl⟩ : ∃ m : Nat, n = (m : Int) := ⟨n.toNat, by omega⟩
      have hm : m ≤ 32 := by omega
      by_cases hhi : hi = 0
      · subst hhi
        by_cases hlo : lo ≤ 4294967295
        · have hc := fun w => rcut4 0 lo m w hl hm
          have e := numF_cut lo 32 m (by omega) hm
          rw [e] at hc
          refine rgood_cut 4 32 0 lo 0 _ m _ w (by decide) (by omega) (by omega) rsize_4 (fun w => raddr_4y lo w hlo) hc ?_
          have e2 : (32 - (m : Int)).toNat = 32 - m := by omega
          by_cases hcl : clr lo (32 - m) = lo
          · refine Or.inr (Or.inr ⟨rfl, hcl, ?_⟩)
            unfold chk; rw [if_pos rfl, if_neg hn, if_pos ⟨rfl, by omega, by rw [e2]; exact hcl⟩]
          · refine Or.inr (Or.inl ⟨rfl, ne_beq hcl, ?_⟩)
            unfold chk; rw [if_pos rfl, if_neg hn, if_neg (fun h => hcl (by rw [← e2]; exact h.2.2))]
        · have e : chk 4 0 lo m = 4 := by unfold chk; rw [if_pos rfl, if_neg hn, if_neg (fun h => hlo (by omega))]
          rw [e]
          exact rgood_addr 4 32 0 lo m w (by decide) (by omega) (by omega) rsize_4 (fun w => raddr_4n lo w hlo)
      · have e : chk 4 hi lo m = 4 := by unfold chk; rw [if_pos rfl, if_neg hn, if_neg (fun h => hhi h.1)]
        rw [e]
        exact rgood_addr 4 32 hi lo m w (by decide) (by omega) (by omega) rsize_4 (fun w => raddr_4h hi lo w (by omega))
  · by_cases h6 : f = 6
    · subst h6
      by_cases hn : n < 0 ∨ 128 < n
      · have e : chk 6 hi lo n = 3 := by unfold chk; rw [if_neg h4, if_pos rfl, if_pos hn]
        rw [e]
        exact rgood_len 6 128 hi lo n w (by decide) rsize_6 hn
      · obtain ⟨m, rfl⟩ : ∃ m : Nat, n = (m : Int) := ⟨n.toNat, by omega⟩
        have hm : m ≤ 128 := by omega
        have hc := fun w => rcut6 hi lo m w hh hl hm
        rw [cut_hi hi lo m hh, cut_lo hi lo m hl hm] at hc
        refine rgood_cut 6 128 hi lo _ _ m _ w (by decide) (by omega) (by omega) rsize_6 (fun w => raddr_6 hi lo w) hc ?_
        have e1 : (128 - (m : Int) - 64).toNat = 64 - m := by omega
        have e2 : (128 - (m : Int)).toNat = 128 - m := by omega
        by_cases hch : clr hi (64 - m) = hi
        · by_cases hcl : clr lo (128 - m) = lo
          · refine Or.inr (Or.inr ⟨hch, hcl, ?_⟩)
            unfold chk; rw [if_neg h4, if_pos rfl, if_neg hn, if_pos ⟨by rw [e1]; exact hch, by rw [e2]; exact hcl⟩]
          · refine Or.inr (Or.inl ⟨hch, ne_beq hcl, ?_⟩)
            unfold chk; rw [if_neg h4, if_pos rfl, if_neg hn, if_neg (fun h => hcl (by rw [← e2]; exact h.2))]
        · refine Or.inl ⟨ne_beq hch, ?_⟩
          unfold chk; rw [if_neg h4, if_pos rfl, if_neg hn, if_neg (fun h => hch (by rw [← e1]; exact h.1))]
    · have e : chk f hi lo n = 2 := by unfold chk; rw [if_neg h4, if_neg h6]
      rw [e]
      exact rgood_no f hi lo n w h4 h6
end Go.Proofs.YtnfkgnjeamnhfaaGreat.H
