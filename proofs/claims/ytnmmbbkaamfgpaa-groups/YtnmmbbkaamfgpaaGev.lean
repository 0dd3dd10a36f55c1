import Derived.Test.YtnmmbbkaamfgpaaProg
import Derived.WalkKit
import Derived.WalkSpells
import Derived.WalkLawsBesides
import Derived.Lib.Hide
import Derived.Lib.ItoaMem
import Derived.OwnWalk
import Derived.Deep.AppendLies
import Derived.Deep.AppendSrc
import Derived.Deep.RegionWith
import Derived.Deep.QuietTactic
import Derived.BigQuiet
namespace Go.Proofs.Ytnmmbbkaamfgpaa
open Go.RowKit

theorem ne_beq {a b : Nat} (h : ¬ a = b) : ((a : Int) == (b : Int)) = false := by
  rw [Bool.eq_false_iff]; intro e; simp at e; exact h (by omega)
theorem ine_beq {a b : Int} (h : ¬ a = b) : (a == b) = false := by
  rw [Bool.eq_false_iff]; intro e; simp at e; exact h e
theorem bcell {W w1 : World} (hb : Below W.heap.size W w1) : (∀ b o, b < W.heap.size → w1.cell? ⟨b, o, none⟩ = W.cell? ⟨b, o, none⟩) ∧ (∀ b o, b < W.heap.size → w1.frozen? ⟨b, o, none⟩ = W.frozen? ⟨b, o, none⟩) :=
  ⟨fun b o h => hb.cell (p := ⟨b, o, none⟩) h, fun b o h => hb.frozen (p := ⟨b, o, none⟩) h⟩

/-- Integers as cells. -/
abbrev ints (xs : List Int) : List Value := xs.map fun x => .int .i64 x
abbrev nilS : Value := .slice none 0 0

/-- A list of integers that can be read. -/
def Rd (w : World) (ao : Option Addr) (n : Nat) (xs : List Int) : Prop :=
  xs.length = n ∧ (n = 0 ∨ ∃ b off, ao = some ⟨b, off, none⟩ ∧ ∀ j x, xs[j]? = some x → w.cell? ⟨b, off + j, none⟩ = some (.int .i64 x))
theorem Rd.at {w : World} {ao : Option Addr} {n : Nat} {xs : List Int} (h : Rd w ao n xs) (h0 : 0 < n) : ∃ b off, ao = some ⟨b, off, none⟩ ∧ b < w.heap.size ∧ ∀ j x, xs[j]? = some x → w.cell? ⟨b, off + j, none⟩ = some (.int .i64 x) := by
  rcases h.2 with h1 | ⟨b, off, h1, h2⟩
  · omega
  · have hl := h.1
    obtain ⟨x, hx⟩ : ∃ x, xs[0]? = some x := ⟨_, List.getElem?_eq_getElem (by omega)⟩
    exact ⟨b, off, h1, World.block_lt_of_cell? w ⟨b, off + 0, none⟩ (h2 0 x hx), h2⟩
theorem Rd.same {w w' : World} {ao : Option Addr} {n : Nat} {xs : List Int} (h : Rd w ao n xs) (hb : ∀ b off, ao = some ⟨b, off, none⟩ → b < w.heap.size → w'.heap[b]? = w.heap[b]?) : Rd w' ao n xs := by
  refine ⟨h.1, ?_⟩
  rcases Nat.eq_zero_or_pos n with h0 | h0
  · exact .inl h0
  · obtain ⟨b, off, h1, hlt, h2⟩ := h.at h0
    exact .inr ⟨b, off, h1, fun j x hx => (World.cell?_of_block (a := ⟨b, off + j, none⟩) (hb b off h1 hlt)).trans (h2 j x hx)⟩
theorem Rd.below {w w' : World} {ao : Option Addr} {n : Nat} {xs : List Int} (h : Rd w ao n xs) (hb : Below w.heap.size w w') : Rd w' ao n xs := h.same fun b _ _ hlt => hb.block b hlt
theorem Rd.cell {w : World} {b off n : Nat} {xs : List Int} (h : Rd w (some ⟨b, off, none⟩) n xs) {j : Nat} (hj : j < n) : ∃ x, xs[j]? = some x ∧ w.cell? ⟨b, off + j, none⟩ = some (.int .i64 x) := by
  have hl := h.1
  obtain ⟨x, hx⟩ : ∃ x, xs[j]? = some x := ⟨_, List.getElem?_eq_getElem (by omega)⟩
  rcases h.2 with h0 | ⟨b', off', h1, h2⟩
  · omega
  · simp only [Option.some.injEq, Addr.mk.injEq, and_true] at h1
    obtain ⟨rfl, rfl⟩ := h1
    exact ⟨x, hx, h2 j x hx⟩

/-- A struct's cells in a block. -/
def St (w : World) (b n : Nat) (f : Nat → Value) : Prop := ∀ j, j < n → w.cell? ⟨b, j, none⟩ = some (f j) ∧ w.frozen? ⟨b, j, none⟩ = false
def upd (f : Nat → Value) (k : Nat) (v : Value) : Nat → Value := fun j => if j = k then v else f j
theorem upd_same (f : Nat → Value) (k : Nat) (v : Value) : upd f k v k = v := by simp [upd]
theorem upd_ne {f : Nat → Value} {k j : Nat} {v : Value} (h : j ≠ k) : upd f k v j = f j := by simp [upd, h]
theorem St.lt {w : World} {b n : Nat} {f : Nat → Value} (h : St w b n f) (hn : 0 < n) : b < w.heap.size := World.block_lt_of_cell? w ⟨b, 0, none⟩ (h 0 hn).1
theorem St.same {w w' : World} {b n : Nat} {f : Nat → Value} (h : St w b n f) (hb : w'.heap[b]? = w.heap[b]?) : St w' b n f := fun j hj =>
  ⟨(World.cell?_of_block (a := ⟨b, j, none⟩) hb).trans (h j hj).1, (World.frozen?_of_block (a := ⟨b, j, none⟩) hb).trans (h j hj).2⟩
theorem St.set {w : World} {b n : Nat} {f : Nat → Value} (h : St w b n f) {k : Nat} (hk : k < n) (v : Value) : St (w.setCell ⟨b, k, none⟩ v) b n (upd f k v) := by
  intro j hj
  refine ⟨?_, by rw [World.frozen?_setCell]; exact (h j hj).2⟩
  by_cases e : j = k
  · subst e; rw [World.cell?_setCell_same _ _ _ (h j hj).1, upd_same]
  · rw [World.cell?_setCell_other (w := w) (a := ⟨b, k, none⟩) (b := ⟨b, j, none⟩) _ (by intro hh; injection hh with _ h2; exact e h2.symm), (h j hj).1, upd_ne e]
theorem St.setOther {w : World} {b n : Nat} {f : Nat → Value} (h : St w b n f) {a : Addr} (ha : b ≠ a.block) (v : Value) : St (w.setCell a v) b n f := h.same (Below.heap_setCell w a v b ha)
theorem St.alloc {w : World} {b n : Nat} {f : Nat → Value} (h : St w b n f) (hn : 0 < n) (o : Obj) : St (w.alloc o) b n f := h.same (Below.heap_alloc w o b (h.lt hn))
theorem St.below {w w' : World} {B b n : Nat} {f : Nat → Value} (h : St w b n f) (hb : Below B w w') (hlt : b < B) : St w' b n f := h.same (hb.block b hlt)
theorem St.congr {w : World} {b n : Nat} {f g : Nat → Value} (h : St w b n f) (he : ∀ j, j < n → f j = g j) : St w b n g := fun j hj => by rw [← he j hj]; exact h j hj

theorem info3m : (Try.prog.info? 3).map (fun i => (i.size, i.bytes, i.zero)) = some (1, 8, some (.int .i64 0)) := by kernel_rfl
theorem info3 : ∃ i, Try.prog.info? 3 = some i ∧ i.zero = some (.int .i64 0) ∧ i.size = 1 ∧ i.bytes = 8 := by
  obtain ⟨i, hi, he⟩ := Option.map_eq_some_iff.1 info3m
  simp only [Prod.mk.injEq] at he
  exact ⟨i, hi, he.2.2, he.1, he.2.1⟩
theorem info36m : (Try.prog.info? 54).map (fun i => (i.size, i.bytes, i.zero)) = some (1, 24, some (.slice none 0 0)) := by kernel_rfl
theorem info36 : ∃ i, Try.prog.info? 54 = some i ∧ i.zero = some (.slice none 0 0) ∧ i.size = 1 ∧ i.bytes = 24 := by
  obtain ⟨i, hi, he⟩ := Option.map_eq_some_iff.1 info36m
  simp only [Prod.mk.injEq] at he
  exact ⟨i, hi, he.2.2, he.1, he.2.1⟩
end Go.Proofs.Ytnmmbbkaamfgpaa
