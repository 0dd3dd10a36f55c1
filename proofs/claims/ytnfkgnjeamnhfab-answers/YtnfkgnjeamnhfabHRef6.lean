import Derived.Test.YtnfkgnjeamnhfabHLeaf
import Derived.Lib.Hide
import Derived.Laws.Append
import Derived.Lib.ItoaMem
import Derived.OwnWalk
import Derived.Deep.RegionWith
import Derived.Deep.QuietTactic
import Derived.BigQuiet
import Derived.Test.YtnfkgnjeamnhfabHChk
namespace Go.Proofs.Ytnfkgnjeamnhfab.H
open Go.RowKit

/-- Bit k of v. -/
def bitN (v k : Nat) : Nat := v / 2 ^ k % 2
/-- The number of some bits, the highest first. -/
def numF (bf : Nat → Nat) : Nat → Nat
  | 0 => 0
  | k + 1 => 2 * numF bf k + bf k
theorem numF_lt {bf : Nat → Nat} (h : ∀ j, bf j ≤ 1) : ∀ k, numF bf k < 2 ^ k
  | 0 => by simp [numF]
  | k + 1 => by have := numF_lt h k; have := h k; rw [Nat.pow_succ]; simp only [numF]; omega
theorem numF_congr {bf bg : Nat → Nat} : ∀ k, (∀ j, j < k → bf j = bg j) → numF bf k = numF bg k
  | 0, _ => rfl
  | k + 1, h => by simp only [numF]; rw [numF_congr k (fun j hj => h j (by omega)), h k (by omega)]
theorem bitN_le (v k : Nat) : bitN v k ≤ 1 := by unfold bitN; omega

theorem mk32 (w : World) : (Instr.makeSlice 31 (.int .i64 32) (.int .i64 32)).run Try.prog w = .ok (.slice (some ⟨w.heap.size, 0, none⟩) 32 32) (w.alloc (.cells (Array.replicate 32 (.int .i64 0)) 3)) := by kernel_rfl
theorem mk64 (w : World) : (Instr.makeSlice 31 (.int .i64 64) (.int .i64 64)).run Try.prog w = .ok (.slice (some ⟨w.heap.size, 0, none⟩) 64 64) (w.alloc (.cells (Array.replicate 64 (.int .i64 0)) 3)) := by kernel_rfl

/-- A row of n bits in a block. -/
def RowB (w : World) (b n : Nat) (bf : Nat → Nat) : Prop := ∀ j, j < n → w.cell? ⟨b, j, none⟩ = some (.int .i64 (bf j : Int))
def RowF (w : World) (b n : Nat) : Prop := ∀ j, j < n → w.frozen? ⟨b, j, none⟩ = false
theorem RowB.set {w : World} {b n : Nat} {bf bg : Nat → Nat} (h : RowB w b n bf) {k : Nat} (hk : k < n) {x : Int} (hx : x = (bg k : Int)) (hg : ∀ j, j ≠ k → bg j = bf j) : RowB (w.setCell ⟨b, k, none⟩ (.int .i64 x)) b n bg := by
  intro j hj
  by_cases e : j = k
  · subst e; rw [World.cell?_setCell_same _ _ _ (h j hj), hx]
  · rw [World.cell?_setCell_other (w := w) (a := ⟨b, k, none⟩) (b := ⟨b, j, none⟩) _ (by intro hh; injection hh with _ h2; exact e h2.symm), h j hj, hg j e]
theorem RowF.set {w : World} {b n : Nat} (h : RowF w b n) (k : Nat) (x : Value) : RowF (w.setCell ⟨b, k, none⟩ x) b n := by
  intro j hj; rw [World.frozen?_setCell]; exact h j hj
theorem RowB.below {w w' : World} {B b n : Nat} {bf : Nat → Nat} (h : RowB w b n bf) (hb : Below B w w') (hlt : b < B) : RowB w' b n bf := fun j hj => (hb.cell (p := ⟨b, j, none⟩) hlt).trans (h j hj)
theorem RowF.below {w w' : World} {B b n : Nat} (h : RowF w b n) (hb : Below B w w') (hlt : b < B) : RowF w' b n := fun j hj => (hb.frozen (p := ⟨b, j, none⟩) hlt).trans (h j hj)

end Go.Proofs.Ytnfkgnjeamnhfab.H
namespace Go.Proofs.Ytnfkgnjeamnhfab.H
open Go.RowKit

/-- The bits of an address of V6. -/
def bits6 (hi lo : Nat) (j : Nat) : Nat := if j < 64 then bitN hi (63 - j) else bitN lo (127 - j)
theorem info3m : (Try.prog.info? 3).map (fun i => (i.size, i.bytes, i.zero)) = some (1, 8, some (.int .i64 0)) := by kernel_rfl
theorem info3 : ∃ i, Try.prog.info? 3 = some i ∧ i.size = 1 ∧ i.bytes = 8 ∧ i.zero = some (.int .i64 0) := by
  obtain ⟨i, hi, he⟩ := Option.map_eq_some_iff.1 info3m
  simp only [Prod.mk.injEq] at he
  exact ⟨i, hi, he.1, he.2.1, he.2.2⟩

/-- An append whose run is known. -/
theorem wpList_append_run {P : Program} {w w' : World} {v' : Value} {ops : Array Oper} {rest : List Oper} {o : Oper} {a : Act} {Q : Exit → Act → World → Prop} (hgd : o.guard = none) (s x : Operand) (t : TypeId)
    (ho : o.op = .call { callee := .builtin .append, args := #[s, x], argTypes := #[t, t] }) (v1 v2 : Value) (hs : a.eval s = v1) (hx : a.eval x = v2)
    (hr : (Builtin.append_ #[t, t] o.type #[v1, v2]).run P w = .ok v' w') (h : wpList P ops Q rest (a.put o.dst v') w') : wpList P ops Q (o :: rest) a w :=
  wpList_plain hgd fun _ hK => by
    unfold Oper.wp execOp
    simp only [ho, resolve, invoke, builtin, Sem.run_bind, Sem.run_pure, Result.andThen_ok, List.map_toArray, List.map_cons, List.map_nil, hs, hx, hr]
    exact hK _ _ h

/-- Two rows of 64 bits, appended. -/
theorem append64 (W : World) (b1 b2 : Nat) (f g : Nat → Nat) (h1 : RowB W b1 64 f) (h2 : RowB W b2 64 g) (ty : TypeId) :
    ∃ c cs, (Builtin.append_ #[31, 31] ty #[.slice (some ⟨b1, 0, none⟩) 64 64, .slice (some ⟨b2, 0, none⟩) 64 64]).run Try.prog W = .ok (.slice (some ⟨W.heap.size, 0, none⟩) 128 c) (W.drew.alloc (.cells cs 3)) ∧ (∀ j, j < 128 → cs[j]? = some (.int .i64 ((if j < 64 then f j else g (j - 64) : Nat) : Int))) ∧ 128 ≤ c := by
  obtain ⟨i, hi, hs, hby, hz⟩ := info3
  have r := run_append_grow (P := Try.prog) W 31 ty 3 i (.int .i64 0) Try.underlying31 hi hz ⟨b1, 0, none⟩ 64 64 ((List.range 64).map fun j => .int .i64 (f j : Int)) (by simp [hs]) (fun j v hv => by
      obtain ⟨hj, rfl⟩ : j < 64 ∧ Value.int .i64 (f j : Int) = v := by
        rw [List.getElem?_map] at hv
        by_cases hj : j < 64
        · simp [hj] at hv; exact ⟨hj, hv⟩
        · simp [hj] at hv
      rw [Lib.add_plain]
      simpa using h1 j hj) ⟨b2, 0, none⟩ 64 64 ((List.range 64).map fun j => .int .i64 (g j : Int)) (by simp [hs]) (fun j v hv => by
      obtain ⟨hj, rfl⟩ : j < 64 ∧ Value.int .i64 (g j : Int) = v := by
        rw [List.getElem?_map] at hv
        by_cases hj : j < 64
        · simp [hj] at hv; exact ⟨hj, hv⟩
        · simp [hj] at hv
      rw [Lib.add_plain]
      simpa using h2 j hj) (by decide) (by decide) (by rw [hby]; decide)
  refine ⟨_, _, r, ?_, grownCap_ge _ _ _ _⟩
  intro j hj
  by_cases h : j < 64
  · rw [Array.getElem?_append, if_pos (by simp; omega), Array.getElem?_append, if_pos (by simp; omega)]
    simp [h]
  · simp only [h, if_false]
    rw [Array.getElem?_append, if_pos (by simp; omega), Array.getElem?_append, if_neg (by simp; omega)]
    simp [show j - 64 < 64 by omega]

end Go.Proofs.Ytnfkgnjeamnhfab.H
namespace Go.Proofs.Ytnfkgnjeamnhfab.H
open Go.RowKit

/-- Cut's own two blocks: the address, the result. -/
structure Fc (B : Nat) (wr : World) (f : Int) : Prop where
  a0 : wr.cell? ⟨B, 0, none⟩ = some (.int .i64 f)
  r0 : wr.cell? ⟨B + 1, 0, none⟩ = some (.int .i64 0)
  r1 : wr.cell? ⟨B + 1, 1, none⟩ = some (.int .u64 0)
  r2 : wr.cell? ⟨B + 1, 2, none⟩ = some (.int .u64 0)
  f0 : wr.frozen? ⟨B + 1, 0, none⟩ = false
  f1 : wr.frozen? ⟨B + 1, 1, none⟩ = false
  f2 : wr.frozen? ⟨B + 1, 2, none⟩ = false
theorem Fc.below {B D : Nat} {wr w2 : World} {f : Int} (h : Fc B wr f) (hb : Below D wr w2) (hz : B + 1 < D) : Fc B w2 f := by
  have hc : ∀ b o, b < D → w2.cell? ⟨b, o, none⟩ = wr.cell? ⟨b, o, none⟩ := fun b o h => hb.cell (p := ⟨b, o, none⟩) h
  have hf : ∀ b o, b < D → w2.frozen? ⟨b, o, none⟩ = wr.frozen? ⟨b, o, none⟩ := fun b o h => hb.frozen (p := ⟨b, o, none⟩) h
  exact ⟨(hc _ _ (by omega)).trans h.a0, (hc _ _ (by omega)).trans h.r0, (hc _ _ (by omega)).trans h.r1, (hc _ _ (by omega)).trans h.r2, (hf _ _ (by omega)).trans h.f0, (hf _ _ (by omega)).trans h.f1, (hf _ _ (by omega)).trans h.f2⟩
theorem Fc.set {B : Nat} {wr : World} {f : Int} (h : Fc B wr f) {b k : Nat} (hb : B + 1 < b) (x : Value) : Fc B (wr.setCell ⟨b, k, none⟩ x) f :=
  h.below ((Below.refl (B + 2) wr).setCell (by show _ ≤ b; omega) x) (by omega)

/-- The bits behind the first m are noughts. -/
def cutB (m : Nat) (bf : Nat → Nat) (j : Nat) : Nat := if j < m then bf j else 0
theorem cutB_le {m : Nat} {bf : Nat → Nat} (h : ∀ j, bf j ≤ 1) (j : Nat) : cutB m bf j ≤ 1 := by unfold cutB; split; exact h j; omega
end Go.Proofs.Ytnfkgnjeamnhfab.H
namespace Go.Proofs.Ytnfkgnjeamnhfab.H
open Go.RowKit

theorem bits6_le (hi lo j : Nat) : bits6 hi lo j ≤ 1 := by unfold bits6; split <;> exact bitN_le _ _
end Go.Proofs.Ytnfkgnjeamnhfab.H
namespace Go.Proofs.Ytnfkgnjeamnhfab.H
open Go.RowKit

end Go.Proofs.Ytnfkgnjeamnhfab.H
namespace Go.Proofs.Ytnfkgnjeamnhfab.H
open Go.RowKit

theorem clr_64 {v m : Nat} (hv : v ≤ 18446744073709551615) (hm : 64 ≤ m) : clr v m = 0 := by
  unfold clr
  have : 2 ^ 64 ≤ 2 ^ m := Nat.pow_le_pow_right (by decide) hm
  rw [Nat.div_eq_of_lt (by omega)]; simp
/-- mask, whole. -/
theorem numF_bits (v n : Nat) (hv : v < 2 ^ n) : ∀ k, k ≤ n → numF (fun j => bitN v (n - 1 - j)) k = v / 2 ^ (n - k)
  | 0, _ => by simp only [numF, Nat.sub_zero]; rw [Nat.div_eq_of_lt hv]
  | k + 1, hk => by
    simp only [numF]
    rw [numF_bits v n hv k (by omega)]
    have e1 : n - k = (n - (k + 1)) + 1 := by omega
    have e2 : n - 1 - k = n - (k + 1) := by omega
    rw [e1, e2, Nat.pow_succ, ← Nat.div_div_eq_div_mul]
    unfold bitN
    omega
theorem numF_zeros (bf : Nat → Nat) (m : Nat) (h : ∀ j, m ≤ j → bf j = 0) : ∀ d, numF bf (m + d) = numF bf m * 2 ^ d
  | 0 => by simp
  | d + 1 => by
    show 2 * numF bf (m + d) + bf (m + d) = _
    rw [numF_zeros bf m h d, h (m + d) (by omega), Nat.pow_succ, Nat.add_zero, Nat.mul_comm 2, Nat.mul_assoc]
theorem numF_cut (v n m : Nat) (hv : v < 2 ^ n) (hm : m ≤ n) : numF (cutB m (fun j => bitN v (n - 1 - j))) n = clr v (n - m) := by
  have h1 := numF_zeros (cutB m (fun j => bitN v (n - 1 - j))) m (fun j hj => by unfold cutB; rw [if_neg (by omega)]) (n - m)
  rw [show m + (n - m) = n by omega] at h1
  rw [h1, numF_congr (bg := fun j => bitN v (n - 1 - j)) m (fun j hj => by unfold cutB; rw [if_pos hj]), numF_bits v n hv m hm]
  rfl
theorem cut_hi (hi lo m : Nat) (hh : hi ≤ 18446744073709551615) : numF (cutB m (bits6 hi lo)) 64 = clr hi (64 - m) := by
  by_cases h : m ≤ 64
  · rw [← numF_cut hi 64 m (by omega) h]
    refine numF_congr 64 (fun j hj => ?_)
    unfold cutB bits6
    rw [if_pos hj]
  · rw [show 64 - m = 64 - 64 by omega, ← numF_cut hi 64 64 (by omega) (by omega)]
    refine numF_congr 64 (fun j hj => ?_)
    unfold cutB bits6
    rw [if_pos hj, if_pos (by omega), if_pos hj]
theorem cut_lo (hi lo m : Nat) (hl : lo ≤ 18446744073709551615) (hm : m ≤ 128) : numF (fun j => cutB m (bits6 hi lo) (64 + j)) 64 = clr lo (128 - m) := by
  by_cases h : m ≤ 64
  · rw [clr_64 hl (by omega)]
    have := numF_zeros (fun j => cutB m (bits6 hi lo) (64 + j)) 0 (fun j hj => by show cutB m _ _ = 0; unfold cutB; rw [if_neg (by omega)]) 64
    rw [Nat.zero_add] at this
    rw [this]
    simp [numF]
  · rw [show 128 - m = 64 - (m - 64) by omega, ← numF_cut lo 64 (m - 64) (by omega) (by omega)]
    refine numF_congr 64 (fun j hj => ?_)
    show cutB m (bits6 hi lo) (64 + j) = cutB (m - 64) _ j
    unfold cutB bits6
    by_cases hj2 : 64 + j < m
    · rw [if_pos hj2, if_neg (by omega), if_pos (by omega), show 127 - (64 + j) = 64 - 1 - j by omega]
    · rw [if_neg hj2, if_neg (by omega)]

end Go.Proofs.Ytnfkgnjeamnhfab.H
