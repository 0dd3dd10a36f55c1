import Derived.Test.YteocfjiijmdjcaaGreatRv
import Derived.Deep.WholeRow
namespace Go.Proofs.YteocfjiijmdjcaaGreat
open Go.RowKit Go.Sort

set_option maxRecDepth 4000 in
set_option maxHeartbeats 4000000 in
theorem change_any {N : Nat} {ρ : Nat → Nat} {w : World} {T rS rQ : Nat} {gs : Nat → List Int} {rs : List Rt} {lim : Int} {f : Nat → Value} (h : Tq N ρ w T rS rQ 3 35 gs rs lim f) (hro : Ro rS rQ) (hN : N ≤ w.heap.size) (hF : Fr ρ w) (h15 : ∀ k, ρ k ≠ 15) (hlen : rs.length ≤ 1000) (c : Ch) (hp : Fit c.r) :
    Calls Tryz.prog 73 #[.pointer (some ⟨T, 0, none⟩), .agg #[.int .i64 c.k, .int .i64 c.r.f, .int .u64 c.r.hi, .int .u64 c.r.lo, .int .i64 c.r.n, .int .i64 c.r.g]] w fun e w' => e = .returned (.int .i64 (stepT gs lim rs c).1) ∧ TqPost N ρ w T rS rQ 3 35 gs lim (stepT gs lim rs c).2 w' := by
  obtain ⟨ρ0, hE0, hF0, hb0, h150⟩ := boxE hF h15 (.cells #[.int .i64 c.k, .int .i64 c.r.f, .int .u64 c.r.hi, .int .u64 c.r.lo, .int .i64 c.r.n, .int .i64 c.r.g] 112)
  obtain ⟨w0, hw0⟩ : ∃ w0, w0 = w.alloc (.cells #[.int .i64 c.k, .int .i64 c.r.f, .int .u64 c.r.hi, .int .u64 c.r.lo, .int .i64 c.r.n, .int .i64 c.r.g] 112) := ⟨_, rfl⟩
  rw [← hw0] at hE0 hF0
  have hN0 : N ≤ w0.heap.size := by rw [hw0]; simp; omega
  have h0 := h.ev (hE0 (fun _ => False)) id id id hro
  have HP := Lib.hid (tput_any h0 hro hN0 hF0 h150 hlen c.r hp)
  have HT := Lib.hid (ttake_any h0 hro hF0 h150 hlen c.r hp)
  have HE := Lib.hid hE0
  have HQ := Lib.hid h
  have HF := Lib.hid hF0
  have H15 := Lib.hid h150
  have HRo := Lib.hid hro
  have Hw0 := Lib.hid hw0
  clear hw0 hE0 hF0 h150 hb0 h h0 hF h15 hro hp
  by_cases h1 : c.k = 1
  · have q1 : (c.k == 1) = true := by rw [h1]; rfl
    have Hst := Lib.hid (show stepT gs lim rs c = putT gs lim rs c.r by unfold stepT; rw [if_pos h1])
    clear h1
    go_enter Tryz.func73, Tryz.ntmps73
    go_wp2_with fail
    rw [← Hw0.out]
    refine HP.out.mono ?_
    rintro e w5 ⟨rfl, hp5⟩
    have Hp5 := Lib.hid (TqPost.trans (HE.out _) hp5)
    clear hp5
    go_wp2
    go_ret
    rw [Hst.out]
    exact ⟨rfl, Hp5.out⟩
  · have q1 : (c.k == 1) = false := ine_beq h1
    by_cases h2 : c.k = 2
    · have q2 : (c.k == 2) = true := by rw [h2]; rfl
      have Hst := Lib.hid (show stepT gs lim rs c = takeT rs c.r by unfold stepT; rw [if_neg h1, if_pos h2])
      clear h1 h2
      go_enter Tryz.func73, Tryz.ntmps73
      go_wp2_with fail
      rw [← Hw0.out]
      refine HT.out.mono ?_
      rintro e w5 ⟨rfl, hp5⟩
      have Hp5 := Lib.hid (TqPost.trans (HE.out _) hp5)
      clear hp5
      go_wp2
      go_ret
      rw [Hst.out]
      exact ⟨rfl, Hp5.out⟩
    · have q2 : (c.k == 2) = false := ine_beq h2
      have Hst := Lib.hid (show stepT gs lim rs c = (11, rs) by unfold stepT; rw [if_neg h1, if_neg h2])
      clear h1 h2
      go_enter Tryz.func73, Tryz.ntmps73
      go_wp2
      go_ret
      rw [Hst.out, ← Hw0.out]
      exact ⟨rfl, TqPost.same HQ.out HRo.out HF.out H15.out HE.out⟩
end Go.Proofs.YteocfjiijmdjcaaGreat
namespace Go.Proofs.YteocfjiijmdjcaaGreat
open Go.RowKit Go.Sort

theorem RwO.raise {w : World} {N M : Nat} {v : Value} {rs : List Rt} (h : RwO w N v rs) (hM : ∀ k, v.ownBlock = some k → M ≤ k) : RwO w M v rs := by
  refine ⟨h.1, ?_⟩
  rcases h.2 with h1 | ⟨g, cap, cur, h1, hb, rest⟩
  · exact .inl h1
  · exact .inr ⟨g, cap, cur, h1, hM g (by rw [h1]; rfl), rest⟩
/-- Roles for the trial: all that was there is constant. -/
def ρT (n tb : Nat) (v : Value) : Nat → Nat := fun k => if k < n then 7 else if k = tb then 40 else if v.ownBlock = some k then 41 else 14
/-- A table's cells. -/
def cellsT (f : Nat → Value) : Array Value := ((List.range 36).map f).toArray
theorem cellsT_get (f : Nat → Value) {j : Nat} (hj : j < 36) : (cellsT f).getD j undef = f j := by
  unfold cellsT; simp [hj]
theorem cellsT_size (f : Nat → Value) : (cellsT f).size = 36 := by simp [cellsT]
theorem load36 {w : World} {T : Nat} {f : Nat → Value} (h : St w T 36 f) : (loadCellsFrom ⟨T, 0, none⟩ 0 36 #[]).run Tryz.prog w = .ok (cellsT f) w := by
  have := run_loadCells_list (P := Tryz.prog) w ⟨T, 0, none⟩ ((List.range 36).map f) (fun j v hv => by
    have hadd : (⟨T, 0, none⟩ : Addr).add j = ⟨T, j, none⟩ := by unfold Addr.add; split <;> simp_all
    have hj : j < 36 := by have := (List.getElem?_eq_some_iff.1 hv).1; simpa using this
    rw [hadd, (h j hj).1]
    simp [hj] at hv
    rw [hv])
  simpa [loadCells, cellsT] using this
theorem info85 : (Tryz.prog.info? 120).map (·.size) = some 36 := by kernel_rfl
theorem store36 (w : World) (f : Nat → Value) (h1 : ∀ j, j < 36 → (f j).oneCell' = true) (c : Array Value) (hc : c.size = 36) : (storeCells ⟨w.heap.size, 0, none⟩ (cellsT f).toList 0).run Tryz.prog (w.alloc (.cells c 120)) = .ok () (w.alloc (.cells (cellsT f) 120)) := by
  refine run_storeCells_new w _ c (cellsT f) (by rw [info85, cellsT_size]) (by rw [hc, cellsT_size]) ?_
  rw [Array.all_eq_true]
  intro i hi
  have h2 : (cellsT f)[i] = f i := by simp [cellsT]
  rw [h2]
  rw [cellsT_size] at hi
  exact h1 i hi
/-- The trial's table. -/
theorem trial_tq {N : Nat} {ρ : Nat → Nat} {w w1 : World} {T rS rQ tb : Nat} {gs : Nat → List Int} {rs : List Rt} {lim : Int} {f : Nat → Value} {v : Value} (h : Tq N ρ w T rS rQ 3 35 gs rs lim f) (hb : Below w.heap.size w w1) (htb : w.heap.size ≤ tb) (hst : St w1 tb 36 f) (hv : RwO w1 w.heap.size v rs) (hvt : ∀ k, v.ownBlock = some k → k ≠ tb) (hN : N ≤ w.heap.size) (hlen : rs.length ≤ 256) (st : List Rt → Ch → Int × List Rt) (cs : List Ch) :
    BK N (ρT w.heap.size tb v) w (w1.setCell ⟨tb, 35, none⟩ v) tb 40 41 3 35 gs rs lim st cs 0 (ρT w.heap.size tb v) (w1.setCell ⟨tb, 35, none⟩ v) rs (upd f 35 v) ∧ Below w.heap.size w (w1.setCell ⟨tb, 35, none⟩ v) := by
  have hlt := hst.lt (by decide)
  have hB : Below w.heap.size w (w1.setCell ⟨tb, 35, none⟩ v) := below_set hb htb v
  have hsz : (w1.setCell ⟨tb, 35, none⟩ v).heap.size = w1.heap.size := by simp [World.setCell]
  refine ⟨⟨⟨⟨?_, hst.set (by decide) v, ?_⟩, ?_, fun j hj => ?_, fun j hj => by rw [upd_ne (by omega)]; exact h.one j hj⟩, ?_, ?_, Ev.refl _ _ _, by rw [List.take_zero]; rfl, hlen, hB.size⟩, hB⟩
  · unfold ρT; rw [if_neg (by omega), if_pos rfl]
  · rw [upd_same]
    refine ⟨(hv.lower hN).setOther hvt v, fun g hg => ?_⟩
    have hgw := World.ownsRow.lt hv g hg
    unfold ρT; rw [if_neg (by omega), if_neg (hvt g hg), if_pos hg]
  · rw [upd_ne (by decide)]; exact h.lim
  · rw [upd_ne (by omega)]
    have hcl := h.ls j hj
    refine ⟨⟨⟨⟨hcl.1.1.1.1, ?_⟩, fun g hg => ?_⟩, hcl.1.2⟩, hcl.2⟩
    · rcases hcl.1.1.1.2 with h1 | ⟨g, cap, cur, h1, hNg, hgg, rest⟩
      · exact .inl h1
      · exact .inr ⟨g, cap, cur, h1, hNg, (hB.block g (Array.getElem?_eq_some_iff.1 hgg).1).trans hgg, rest⟩
    · unfold ρT; rw [if_pos (World.ownsRow.lt hcl.1.1.1 g hg).2]
  · intro k hk
    rw [hsz] at hk
    unfold ρT
    rw [if_neg (by have := hb.size; omega), if_neg (by omega), if_neg (fun e => by have := (World.ownsRow.lt hv k e).2; omega)]
  · intro k
    unfold ρT
    split
    · decide
    · split
      · decide
      · split <;> decide
/-- Behind the trial all that was there is as it was. -/
theorem trial_below {N : Nat} {ρk : Nat → Nat} {w w2 wk : World} {tb : Nat} {gs : Nat → List Int} {rs : List Rt} {lim : Int} {v : Value} {st : List Rt → Ch → Int × List Rt} {cs : List Ch} {k : Nat} {rsk : List Rt} {fk : Nat → Value} (h : BK N (ρT w.heap.size tb v) w w2 tb 40 41 3 35 gs rs lim st cs k ρk wk rsk fk) (hb : Below w.heap.size w w2) : Below w.heap.size w wk := by
  have h7 : ∀ i, i < w.heap.size → ρT w.heap.size tb v i = 7 := fun i hi => by unfold ρT; rw [if_pos hi]
  exact ⟨h.ev.os.trans hb.os, h.ev.tape.trans hb.tape, h.ev.output.trans hb.output, h.sz, fun i hi => (h.ev.block i (Nat.lt_of_lt_of_le hi hb.size) (by rw [h7 i hi]; decide) (by rw [h7 i hi]; decide)).trans (hb.block i hi)⟩
theorem trial_post {N : Nat} {ρk : Nat → Nat} {w w2 wk w' : World} {tb : Nat} {gs : Nat → List Int} {rs rs' : List Rt} {lim : Int} {v : Value} {st : List Rt → Ch → Int × List Rt} {cs : List Ch} {k : Nat} {rsk : List Rt} {fk : Nat → Value} (h : BK N (ρT w.heap.size tb v) w w2 tb 40 41 3 35 gs rs lim st cs k ρk wk rsk fk) (hb : Below w.heap.size w w2) (hp : TqPost N ρk wk tb 40 41 3 35 gs lim rs' w') : Below w.heap.size w w' := by
  obtain ⟨ρ', f', h1, h2, h3, h4⟩ := hp
  have hE := h.ev.trans h4
  have h7 : ∀ i, i < w.heap.size → ρT w.heap.size tb v i = 7 := fun i hi => by unfold ρT; rw [if_pos hi]
  exact ⟨hE.os.trans hb.os, hE.tape.trans hb.tape, hE.output.trans hb.output, Nat.le_trans hb.size hE.size, fun i hi => (hE.block i (Nat.lt_of_lt_of_le hi hb.size) (by rw [h7 i hi]; decide) (by rw [h7 i hi]; decide)).trans (hb.block i hi)⟩
theorem trial_row {N : Nat} {ρk : Nat → Nat} {w w2 wk : World} {tb : Nat} {gs : Nat → List Int} {rs : List Rt} {lim : Int} {v : Value} {st : List Rt → Ch → Int × List Rt} {cs : List Ch} {k : Nat} {rsk : List Rt} {fk : Nat → Value} (h : BK N (ρT w.heap.size tb v) w w2 tb 40 41 3 35 gs rs lim st cs k ρk wk rsk fk) (hb : Below w.heap.size w w2) : RwO wk w.heap.size (fk 35) rsk := by
  refine RwO.raise (N := N) h.tq.rq.row.1 (fun g hg => ?_)
  have h41 := h.tq.rq.row.2 g hg
  rcases Nat.lt_or_ge g w.heap.size with hlt | hge
  · have h7 : ρT w.heap.size tb v g = 7 := by unfold ρT; rw [if_pos hlt]
    have := h.ev.role g (Nat.lt_of_lt_of_le hlt hb.size) (by rw [h7]; decide)
    rw [this, h7] at h41; omega
  · exact hge
theorem Tq.ones {N : Nat} {ρ : Nat → Nat} {w : World} {T rS rQ : Nat} {gs : Nat → List Int} {rs : List Rt} {lim : Int} {f : Nat → Value} (h : Tq N ρ w T rS rQ 3 35 gs rs lim f) : ∀ j, j < 36 → (f j).oneCell' = true := by
  intro j hj
  by_cases h0 : j = 0
  · subst h0; rw [h.lim]; rfl
  · by_cases e1 : j = 1
    · subst e1; exact h.one 1 (.inl rfl)
    · by_cases e2 : j = 2
      · subst e2; exact h.one 2 (.inr rfl)
      · by_cases e35 : j = 35
        · subst e35; obtain ⟨ao, cap, e, _⟩ := RwO.form h.rq.row.1; rw [e]; rfl
        · obtain ⟨i, rfl⟩ : ∃ i, j = 3 + i := ⟨j - 3, by omega⟩
          obtain ⟨ao, cap, e, _⟩ := (h.ls i (by omega)).1.rd
          rw [e]; rfl
end Go.Proofs.YteocfjiijmdjcaaGreat
