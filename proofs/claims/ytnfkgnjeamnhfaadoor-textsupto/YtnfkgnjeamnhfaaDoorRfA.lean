import Derived.Test.YtnfkgnjeamnhfaaDoorRef9
import Derived.Test.YtnfkgnjeamnhfaaDoorRef6
namespace Go.Proofs.YtnfkgnjeamnhfaaDoor
open Go.RowKit

theorem splitG_len (c : UInt8) : ∀ (l cur x : List UInt8), x ∈ splitG c cur l → x.length ≤ cur.length + l.length
  | [], cur, x, h => by simp [splitG] at h; rw [h]; simp
  | y :: r, cur, x, h => by
    simp only [splitG] at h
    split at h
    · rcases List.mem_cons.1 h with rfl | h
      · simp
      · have := splitG_len c r [] x h; simp at this ⊢; omega
    · have := splitG_len c r (cur ++ [y]) x h; simp at this ⊢; omega
theorem splitG_pos (c : UInt8) : ∀ (l cur : List UInt8), 1 ≤ (splitG c cur l).length
  | [], cur => by simp [splitG]
  | y :: r, cur => by
    simp only [splitG]
    split
    · simp
    · exact splitG_pos c r _
/-- Some texts in a row. -/
def RowS (w : World) (g : Nat) (ls : List (List UInt8)) : Prop := ∀ j l, ls[j]? = some l → w.cell? ⟨g, j, none⟩ = some (.string ⟨l.toArray⟩)
theorem RowS.below {w w' : World} {B g : Nat} {ls : List (List UInt8)} (h : RowS w g ls) (hb : Below B w w') (hlt : g < B) : RowS w' g ls := fun j l hj => (hb.cell (p := ⟨g, j, none⟩) hlt).trans (h j l hj)
theorem parts_row (l : List UInt8) (c : UInt8) (w : World) (hs : l.length ≤ 1048576) (ls : List (List UInt8)) (hls : splitG c [] l = ls) (n : Nat) (hn : ls.length = n) :
    Calls Tryd.prog 14 #[.string ⟨l.toArray⟩, .int .u8 (c.toNat : Int)] w fun e w' => ∃ g cap, e = .returned (.slice (some ⟨g, 0, none⟩) n cap) ∧ n ≤ cap ∧ w.heap.size ≤ g ∧ g < w'.heap.size ∧ RowS w' g ls ∧ Below w.heap.size w w' := by
  refine (parts_any ⟨l.toArray⟩ c w hs).mono ?_
  rintro e w' ⟨v, rfl, hown, hb⟩
  have e1 : splitG c [] (⟨l.toArray⟩ : ByteArray).data.toList = ls := hls
  rw [e1, hn] at hown
  have hp := splitG_pos c l []
  rw [hls, hn] at hp
  have hown0 := hown
  rcases hown.2 with ⟨_, h0⟩ | ⟨g, cap, cur, rfl, hg, _, hcap, _⟩
  · omega
  · refine ⟨g, cap, rfl, hcap, hg, (hown0.lt g rfl).2, fun j x hj => ?_, hb⟩
    have := hown0.cells (g := g) rfl j (.string ⟨x.toArray⟩) (by simp [strs, hj])
    rwa [Lib.add_plain, Nat.zero_add] at this
theorem valF_range (base most : Nat) (l : List UInt8) : -1 ≤ valF base most l ∧ valF base most l ≤ most := by
  unfold valF
  split
  · omega
  · split
    · omega
    · split <;> omega
/-- Parse's own blocks: the result, the prefix, the words. -/
structure Fp (B P g : Nat) (wr : World) (f : Int) (hi lo : Nat) (n : Int) (ws : List (List UInt8)) : Prop where
  r0 : wr.cell? ⟨B, 0, none⟩ = some (.int .i64 0)
  r1 : wr.cell? ⟨B, 1, none⟩ = some (.int .u64 0)
  r2 : wr.cell? ⟨B, 2, none⟩ = some (.int .u64 0)
  r3 : wr.cell? ⟨B, 3, none⟩ = some (.int .i64 0)
  fr0 : wr.frozen? ⟨B, 0, none⟩ = false
  fr1 : wr.frozen? ⟨B, 1, none⟩ = false
  fr2 : wr.frozen? ⟨B, 2, none⟩ = false
  fr3 : wr.frozen? ⟨B, 3, none⟩ = false
  p0 : wr.cell? ⟨P, 0, none⟩ = some (.int .i64 f)
  p1 : wr.cell? ⟨P, 1, none⟩ = some (.int .u64 hi)
  p2 : wr.cell? ⟨P, 2, none⟩ = some (.int .u64 lo)
  p3 : wr.cell? ⟨P, 3, none⟩ = some (.int .i64 n)
  fp0 : wr.frozen? ⟨P, 0, none⟩ = false
  fp1 : wr.frozen? ⟨P, 1, none⟩ = false
  fp2 : wr.frozen? ⟨P, 2, none⟩ = false
  fp3 : wr.frozen? ⟨P, 3, none⟩ = false
  ww : RowS wr g ws
theorem Fp.below {B P g D : Nat} {wr w2 : World} {f : Int} {hi lo : Nat} {n : Int} {ws : List (List UInt8)} (h : Fp B P g wr f hi lo n ws) (hb : Below D wr w2) (h1 : B < D) (h2 : P < D) (h3 : g < D) : Fp B P g w2 f hi lo n ws := by
  have hc : ∀ b o, b < D → w2.cell? ⟨b, o, none⟩ = wr.cell? ⟨b, o, none⟩ := fun b o h => hb.cell (p := ⟨b, o, none⟩) h
  have hf : ∀ b o, b < D → w2.frozen? ⟨b, o, none⟩ = wr.frozen? ⟨b, o, none⟩ := fun b o h => hb.frozen (p := ⟨b, o, none⟩) h
  exact ⟨(hc _ _ h1).trans h.r0, (hc _ _ h1).trans h.r1, (hc _ _ h1).trans h.r2, (hc _ _ h1).trans h.r3, (hf _ _ h1).trans h.fr0, (hf _ _ h1).trans h.fr1, (hf _ _ h1).trans h.fr2, (hf _ _ h1).trans h.fr3,
    (hc _ _ h2).trans h.p0, (hc _ _ h2).trans h.p1, (hc _ _ h2).trans h.p2, (hc _ _ h2).trans h.p3, (hf _ _ h2).trans h.fp0, (hf _ _ h2).trans h.fp1, (hf _ _ h2).trans h.fp2, (hf _ _ h2).trans h.fp3, h.ww.below hb h3⟩
theorem cell_other {w : World} {P k b o : Nat} {x : Value} (h : P ≠ b ∨ k ≠ o) : (w.setCell ⟨P, k, none⟩ x).cell? ⟨b, o, none⟩ = w.cell? ⟨b, o, none⟩ :=
  World.cell?_setCell_other (w := w) (a := ⟨P, k, none⟩) (b := ⟨b, o, none⟩) _ (by intro hh; injection hh with h1 h2; rcases h with h | h <;> contradiction)
theorem Fp.set1 {B P g : Nat} {wr : World} {f : Int} {hi lo : Nat} {n : Int} {ws : List (List UInt8)} (h : Fp B P g wr f hi lo n ws) (h1 : P ≠ B) (h2 : P ≠ g) (hi' : Nat) : Fp B P g (wr.setCell ⟨P, 1, none⟩ (.int .u64 hi')) f hi' lo n ws := by
  obtain ⟨r0, r1, r2, r3, fr0, fr1, fr2, fr3, p0, p1, p2, p3, fp0, fp1, fp2, fp3, ww⟩ := h
  refine ⟨?_, ?_, ?_, ?_, ?_, ?_, ?_, ?_, ?_, World.cell?_setCell_same _ _ _ p1, ?_, ?_, ?_, ?_, ?_, ?_, fun j l hj => ?_⟩
  all_goals first | (rw [cell_other (Or.inl h1)]; assumption) | (rw [cell_other (Or.inr (by decide))]; assumption) | (rw [World.frozen?_setCell]; assumption) | (rw [cell_other (Or.inl h2)]; exact ww j l hj)
theorem Fp.set2 {B P g : Nat} {wr : World} {f : Int} {hi lo : Nat} {n : Int} {ws : List (List UInt8)} (h : Fp B P g wr f hi lo n ws) (h1 : P ≠ B) (h2 : P ≠ g) (lo' : Nat) : Fp B P g (wr.setCell ⟨P, 2, none⟩ (.int .u64 lo')) f hi lo' n ws := by
  obtain ⟨r0, r1, r2, r3, fr0, fr1, fr2, fr3, p0, p1, p2, p3, fp0, fp1, fp2, fp3, ww⟩ := h
  refine ⟨?_, ?_, ?_, ?_, ?_, ?_, ?_, ?_, ?_, ?_, World.cell?_setCell_same _ _ _ p2, ?_, ?_, ?_, ?_, ?_, fun j l hj => ?_⟩
  all_goals first | (rw [cell_other (Or.inl h1)]; assumption) | (rw [cell_other (Or.inr (by decide))]; assumption) | (rw [World.frozen?_setCell]; assumption) | (rw [cell_other (Or.inl h2)]; exact ww j l hj)
theorem Fp.set0 {B P g : Nat} {wr : World} {f : Int} {hi lo : Nat} {n : Int} {ws : List (List UInt8)} (h : Fp B P g wr f hi lo n ws) (h1 : P ≠ B) (h2 : P ≠ g) (f' : Int) : Fp B P g (wr.setCell ⟨P, 0, none⟩ (.int .i64 f')) f' hi lo n ws := by
  obtain ⟨r0, r1, r2, r3, fr0, fr1, fr2, fr3, p0, p1, p2, p3, fp0, fp1, fp2, fp3, ww⟩ := h
  refine ⟨?_, ?_, ?_, ?_, ?_, ?_, ?_, ?_, World.cell?_setCell_same _ _ _ p0, ?_, ?_, ?_, ?_, ?_, ?_, ?_, fun j l hj => ?_⟩
  all_goals first | (rw [cell_other (Or.inl h1)]; assumption) | (rw [cell_other (Or.inr (by decide))]; assumption) | (rw [World.frozen?_setCell]; assumption) | (rw [cell_other (Or.inl h2)]; exact ww j l hj)

set_option maxHeartbeats 4000000 in
/-- Not two parts about the slash. -/
theorem rparse_0 (l : List UInt8) (w : World) (hs : l.length ≤ 1048576) (m : Nat) (hm : (splitG 47 [] l).length = m) (h2 : ((m : Int) == 2) = false) :
    Calls Tryd.prog 6 #[.string ⟨l.toArray⟩] w fun e w' => e = .returned (.tuple #[pref 0 0 0 0, .int .i64 5]) ∧ Below w.heap.size w w' := by
  have HP := Lib.hid (fun w => parts_row l 47 w hs _ rfl m hm)
  clear hm
  go_enter Tryd.func6, Tryd.ntmps6
  go_wp2_with (go_at_call 14; refine (HP.out _).mono ?_; rintro e w1 ⟨g, cap, rfl, hcap, hg, hgz, hR, hb⟩; obtain ⟨hc, hf⟩ := bcell hb; have hz : w.heap.size < w1.heap.size := (by have := hb.size; simp at this; omega))
  have k0 : w1.cell? ⟨w.heap.size, 0, none⟩ = some (.int .i64 0) := by go_simp
  have k1 : w1.cell? ⟨w.heap.size, 1, none⟩ = some (.int .u64 0) := by go_simp
  have k2 : w1.cell? ⟨w.heap.size, 2, none⟩ = some (.int .u64 0) := by go_simp
  have k3 : w1.cell? ⟨w.heap.size, 3, none⟩ = some (.int .i64 0) := by go_simp
  refine bodyPost_ret (v := .tuple #[pref 0 0 0 0, .int .i64 5]) (by simp [results, Tryd.results6, go_sem, k0, k1, k2, k3]) rfl ⟨rfl, ?_⟩
  have B1 := ((Below.refl w.heap.size w).alloc (Nat.le_refl _) (.cells #[.int .i64 0, .int .u64 0, .int .u64 0, .int .i64 0] 26)).trans (hb.mono (by simp))
  exact ((((B1.setCell (Nat.le_refl _) _).setCell (Nat.le_refl _) _).setCell (Nat.le_refl _) _).setCell (Nat.le_refl _) _)
end Go.Proofs.YtnfkgnjeamnhfaaDoor
