import Derived.Test.YtnfkgnjeamnhfabRv
import Derived.Deep.WholeRow
import Derived.Deep.MidRow
namespace Go.Proofs.Ytnfkgnjeamnhfab
open Go.RowKit Go.Sort

set_option maxRecDepth 4000 in
set_option maxHeartbeats 4000000 in
theorem change_any {N : Nat} {ρ : Nat → Nat} {w : World} {T rS rQ : Nat} {gs : Nat → List Int} {rs : List Rt} {lim : Int} {f : Nat → Value} (h : Tq N ρ w T rS rQ 3 35 gs rs lim f) (hro : Ro rS rQ) (hN : N ≤ w.heap.size) (hF : Fr ρ w) (h15 : ∀ k, ρ k ≠ 15) (hlen : rs.length ≤ 1000) (c : Ch) (hp : Fit c.r) :
    Calls Try.prog 59 #[.pointer (some ⟨T, 0, none⟩), .agg #[.int .i64 c.k, .int .i64 c.r.f, .int .u64 c.r.hi, .int .u64 c.r.lo, .int .i64 c.r.n, .int .i64 c.r.g]] w fun e w' => e = .returned (.int .i64 (stepT gs lim rs c).1) ∧ TqPost N ρ w T rS rQ 3 35 gs lim (stepT gs lim rs c).2 w' := by
  obtain ⟨ρ0, hE0, hF0, hb0, h150⟩ := boxE hF h15 (.cells #[.int .i64 c.k, .int .i64 c.r.f, .int .u64 c.r.hi, .int .u64 c.r.lo, .int .i64 c.r.n, .int .i64 c.r.g] 112)
  obtain ⟨w0, hw0⟩ : ∃ w0, w0 = w.alloc (.cells #[.int .i64 c.k, .int .i64 c.r.f, .int .u64 c.r.hi, .int .u64 c.r.lo, .int .i64 c.r.n, .int .i64 c.r.g] 112) := ⟨_, rfl⟩
  rw [← hw0] at hE0 hF0
  have hN0 : N ≤ w0.heap.size := by rw [hw0]; simp; omega
  have h0 := h.ev (hE0 (fun _ => False)) id id id hro
  have HP := Lib.hid (tput_any h0 hro hN0 hF0 h150 hlen c.r hp)
  have HT := Lib.hid (ttake_any h0 hro hF0 h150 hlen c.r hp)
  have HE := Lib.hid hE0
  have HQ := Lib.hid h
  have HF := Lib.hid hF0
  have H15 := Lib.hid h150
  have HRo := Lib.hid hro
  have Hw0 := Lib.hid hw0
  clear hw0 hE0 hF0 h150 hb0 h h0 hF h15 hro hp
  by_cases h1 : c.k = 1
  · have q1 : (c.k == 1) = true := by rw [h1]; rfl
    have Hst := Lib.hid (show stepT gs lim rs c = putT gs lim rs c.r by unfold stepT; rw [if_pos h1])
    clear h1
    go_enter Try.func59, Try.ntmps59
    go_wp2_with fail
    rw [← Hw0.out]
    refine HP.out.mono ?_
    rintro e w5 ⟨rfl, hp5⟩
    have Hp5 := Lib.hid (TqPost.trans (HE.out _) hp5)
    clear hp5
    go_wp2
    go_ret
    rw [Hst.out]
    exact ⟨rfl, Hp5.out⟩
  · have q1 : (c.k == 1) = false := ine_beq h1
    by_cases h2 : c.k = 2
    · have q2 : (c.k == 2) = true := by rw [h2]; rfl
      have Hst := Lib.hid (show stepT gs lim rs c = takeT rs c.r by unfold stepT; rw [if_neg h1, if_pos h2])
      clear h1 h2
      go_enter Try.func59, Try.ntmps59
      go_wp2_with fail
      rw [← Hw0.out]
      refine HT.out.mono ?_
      rintro e w5 ⟨rfl, hp5⟩
      have Hp5 := Lib.hid (TqPost.trans (HE.out _) hp5)
      clear hp5
      go_wp2
      go_ret
      rw [Hst.out]
      exact ⟨rfl, Hp5.out⟩
    · have q2 : (c.k == 2) = false := ine_beq h2
      have Hst := Lib.hid (show stepT gs lim rs c = (11, rs) by unfold stepT; rw [if_neg h1, if_neg h2])
      clear h1 h2
      go_enter Try.func59, Try.ntmps59
      go_wp2
      go_ret
      rw [Hst.out, ← Hw0.out]
      exact ⟨rfl, TqPost.same HQ.out HRo.out HF.out H15.out HE.out⟩
end Go.Proofs.Ytnfkgnjeamnhfab
namespace Go.Proofs.Ytnfkgnjeamnhfab
open Go.RowKit Go.Sort

theorem RwO.raise {w : World} {N M : Nat} {v : Value} {rs : List Rt} (h : RwO w N v rs) (hM : ∀ k, v.ownBlock = some k → M ≤ k) : RwO w M v rs := by
  refine ⟨h.1, ?_⟩
  rcases h.2 with h1 | ⟨g, cap, cur, h1, hb, rest⟩
  · exact .inl h1
  · exact .inr ⟨g, cap, cur, h1, hM g (by rw [h1]; rfl), rest⟩
/-- Roles for the trial: all that was there is constant. -/
def ρT (n tb : Nat) (v : Value) : Nat → Nat := fun k => if k < n then 7 else if k = tb then 40 else if v.ownBlock = some k then 41 else 14
/-- A table's cells. -/
def cellsT (f : Nat → Value) : Array Value := ((List.range 36).map f).toArray
theorem cellsT_get (f : Nat → Value) {j : Nat} (hj : j < 36) : (cellsT f).getD j undef = f j := by
  unfold cellsT; simp [hj]
theorem cellsT_size (f : Nat → Value) : (cellsT f).size = 36 := by simp [cellsT]
theorem load36 {w : World} {T : Nat} {f : Nat → Value} (h : St w T 36 f) : (loadCellsFrom ⟨T, 0, none⟩ 0 36 #[]).run Try.prog w = .ok (cellsT f) w := by
  have := run_loadCells_list (P := Try.prog) w ⟨T, 0, none⟩ ((List.range 36).map f) (fun j v hv => by
    have hadd : (⟨T, 0, none⟩ : Addr).add j = ⟨T, j, none⟩ := by unfold Addr.add; split <;> simp_all
    have hj : j < 36 := by have := (List.getElem?_eq_some_iff.1 hv).1; simpa using this
    rw [hadd, (h j hj).1]
    simp [hj] at hv
    rw [hv])
  simpa [loadCells, cellsT] using this
theorem info85 : (Try.prog.info? 87).map (·.size) = some 36 := by kernel_rfl
theorem store36 (w : World) (f : Nat → Value) (h1 : ∀ j, j < 36 → (f j).oneCell' = true) (c : Array Value) (hc : c.size = 36) : (storeCells ⟨w.heap.size, 0, none⟩ (cellsT f).toList 0).run Try.prog (w.alloc (.cells c 87)) = .ok () (w.alloc (.cells (cellsT f) 87)) := by
  refine run_storeCells_new w _ c (cellsT f) (by rw [info85, cellsT_size]) (by rw [hc, cellsT_size]) ?_
  rw [Array.all_eq_true]
  intro i hi
  have h2 : (cellsT f)[i] = f i := by simp [cellsT]
  rw [h2]
  rw [cellsT_size] at hi
  exact h1 i hi
/-- The trial's table. -/
theorem trial_tq {N : Nat} {ρ : Nat → Nat} {w w1 : World} {T rS rQ tb : Nat} {gs : Nat → List Int} {rs : List Rt} {lim : Int} {f : Nat → Value} {v : Value} (h : Tq N ρ w T rS rQ 3 35 gs rs lim f) (hb : Below w.heap.size w w1) (htb : w.heap.size ≤ tb) (hst : St w1 tb 36 f) (hv : RwO w1 w.heap.size v rs) (hvt : ∀ k, v.ownBlock = some k → k ≠ tb) (hN : N ≤ w.heap.size) (hlen : rs.length ≤ 256) (st : List Rt → Ch → Int × List Rt) (cs : List Ch) :
    BK N (ρT w.heap.size tb v) w (w1.setCell ⟨tb, 35, none⟩ v) tb 40 41 3 35 gs rs lim st cs 0 (ρT w.heap.size tb v) (w1.setCell ⟨tb, 35, none⟩ v) rs (upd f 35 v) ∧ Below w.heap.size w (w1.setCell ⟨tb, 35, none⟩ v) := by
  have hlt := hst.lt (by decide)
  have hB : Below w.heap.size w (w1.setCell ⟨tb, 35, none⟩ v) := below_set hb htb v
  have hsz : (w1.setCell ⟨tb, 35, none⟩ v).heap.size = w1.heap.size := by simp [World.setCell]
  refine ⟨⟨⟨⟨?_, hst.set (by decide) v, ?_⟩, ?_, fun j hj => ?_, fun j hj => by rw [upd_ne (by omega)]; exact h.one j hj⟩, ?_, ?_, Ev.refl _ _ _, by rw [List.take_zero]; rfl, hlen, hB.size⟩, hB⟩
  · unfold ρT; rw [if_neg (by omega), if_pos rfl]
  · rw [upd_same]
    refine ⟨(hv.lower hN).setOther hvt v, fun g hg => ?_⟩
    have hgw := World.ownsRow.lt hv g hg
    unfold ρT; rw [if_neg (by omega), if_neg (hvt g hg), if_pos hg]
  · rw [upd_ne (by decide)]; exact h.lim
  · rw [upd_ne (by omega)]
    have hcl := h.ls j hj
    refine ⟨⟨⟨⟨hcl.1.1.1.1, ?_⟩, fun g hg => ?_⟩, hcl.1.2⟩, hcl.2⟩
    · rcases hcl.1.1.1.2 with h1 | ⟨g, cap, cur, h1, hNg, hgg, rest⟩
      · exact .inl h1
      · exact .inr ⟨g, cap, cur, h1, hNg, (hB.block g (Array.getElem?_eq_some_iff.1 hgg).1).trans hgg, rest⟩
    · unfold ρT; rw [if_pos (World.ownsRow.lt hcl.1.1.1 g hg).2]
  · intro k hk
    rw [hsz] at hk
    unfold ρT
    rw [if_neg (by have := hb.size; omega), if_neg (by omega), if_neg (fun e => by have := (World.ownsRow.lt hv k e).2; omega)]
  · intro k
    unfold ρT
    split
    · decide
    · split
      · decide
      · split <;> decide
/-- Behind the trial all that was there is as it was. -/
theorem trial_below {N : Nat} {ρk : Nat → Nat} {w w2 wk : World} {tb : Nat} {gs : Nat → List Int} {rs : List Rt} {lim : Int} {v : Value} {st : List Rt → Ch → Int × List Rt} {cs : List Ch} {k : Nat} {rsk : List Rt} {fk : Nat → Value} (h : BK N (ρT w.heap.size tb v) w w2 tb 40 41 3 35 gs rs lim st cs k ρk wk rsk fk) (hb : Below w.heap.size w w2) : Below w.heap.size w wk := by
  have h7 : ∀ i, i < w.heap.size → ρT w.heap.size tb v i = 7 := fun i hi => by unfold ρT; rw [if_pos hi]
  exact ⟨h.ev.os.trans hb.os, h.ev.tape.trans hb.tape, h.ev.output.trans hb.output, h.sz, fun i hi => (h.ev.block i (Nat.lt_of_lt_of_le hi hb.size) (by rw [h7 i hi]; decide) (by rw [h7 i hi]; decide)).trans (hb.block i hi)⟩
theorem trial_post {N : Nat} {ρk : Nat → Nat} {w w2 wk w' : World} {tb : Nat} {gs : Nat → List Int} {rs rs' : List Rt} {lim : Int} {v : Value} {st : List Rt → Ch → Int × List Rt} {cs : List Ch} {k : Nat} {rsk : List Rt} {fk : Nat → Value} (h : BK N (ρT w.heap.size tb v) w w2 tb 40 41 3 35 gs rs lim st cs k ρk wk rsk fk) (hb : Below w.heap.size w w2) (hp : TqPost N ρk wk tb 40 41 3 35 gs lim rs' w') : Below w.heap.size w w' := by
  obtain ⟨ρ', f', h1, h2, h3, h4⟩ := hp
  have hE := h.ev.trans h4
  have h7 : ∀ i, i < w.heap.size → ρT w.heap.size tb v i = 7 := fun i hi => by unfold ρT; rw [if_pos hi]
  exact ⟨hE.os.trans hb.os, hE.tape.trans hb.tape, hE.output.trans hb.output, Nat.le_trans hb.size hE.size, fun i hi => (hE.block i (Nat.lt_of_lt_of_le hi hb.size) (by rw [h7 i hi]; decide) (by rw [h7 i hi]; decide)).trans (hb.block i hi)⟩
theorem trial_row {N : Nat} {ρk : Nat → Nat} {w w2 wk : World} {tb : Nat} {gs : Nat → List Int} {rs : List Rt} {lim : Int} {v : Value} {st : List Rt → Ch → Int × List Rt} {cs : List Ch} {k : Nat} {rsk : List Rt} {fk : Nat → Value} (h : BK N (ρT w.heap.size tb v) w w2 tb 40 41 3 35 gs rs lim st cs k ρk wk rsk fk) (hb : Below w.heap.size w w2) : RwO wk w.heap.size (fk 35) rsk := by
  refine RwO.raise (N := N) h.tq.rq.row.1 (fun g hg => ?_)
  have h41 := h.tq.rq.row.2 g hg
  rcases Nat.lt_or_ge g w.heap.size with hlt | hge
  · have h7 : ρT w.heap.size tb v g = 7 := by unfold ρT; rw [if_pos hlt]
    have := h.ev.role g (Nat.lt_of_lt_of_le hlt hb.size) (by rw [h7]; decide)
    rw [this, h7] at h41; omega
  · exact hge
theorem Tq.ones {N : Nat} {ρ : Nat → Nat} {w : World} {T rS rQ : Nat} {gs : Nat → List Int} {rs : List Rt} {lim : Int} {f : Nat → Value} (h : Tq N ρ w T rS rQ 3 35 gs rs lim f) : ∀ j, j < 36 → (f j).oneCell' = true := by
  intro j hj
  by_cases h0 : j = 0
  · subst h0; rw [h.lim]; rfl
  · by_cases e1 : j = 1
    · subst e1; rw [h.one 1 (.inl rfl)]; exact sd_one _ _
    · by_cases e2 : j = 2
      · subst e2; rw [h.one 2 (.inr rfl)]; exact sd_one _ _
      · by_cases e35 : j = 35
        · subst e35; obtain ⟨ao, cap, e, _⟩ := RwO.form h.rq.row.1; rw [e]; rfl
        · obtain ⟨i, rfl⟩ : ∃ i, j = 3 + i := ⟨j - 3, by omega⟩
          obtain ⟨ao, cap, e, _⟩ := (h.ls i (by omega)).1.rd
          rw [e]; rfl
end Go.Proofs.Ytnfkgnjeamnhfab
namespace Go.Proofs.Ytnfkgnjeamnhfab
open Go.RowKit Go.Sort

theorem range36 {w : World} {T : Nat} {f : Nat → Value} (h : St w T 36 f) : w.rangeAt T 0 (cellsT f).toList := by
  intro j u hu
  have hj : j < 36 := by have := (List.getElem?_eq_some_iff.1 hu).1; simpa [cellsT] using this
  rw [Nat.zero_add, (h j hj).1]
  simp [cellsT, hj] at hu
  rw [hu]
theorem all36 {f : Nat → Value} (h1 : ∀ j, j < 36 → (f j).oneCell' = true) : (cellsT f).all (·.oneCell') = true := by
  rw [Array.all_eq_true]
  intro i hi
  have h2 : (cellsT f)[i] = f i := by simp [cellsT]
  rw [h2]
  rw [cellsT_size] at hi
  exact h1 i hi
theorem set36 (w : World) (f : Nat → Value) (c : Array Value) : (w.alloc (.cells c 87)).setRow w.heap.size (cellsT f) = w.alloc (.cells (cellsT f) 87) := World.setRow_alloc_new w c (cellsT f) _
theorem stepT_ro : Ro 40 41 := by unfold Ro; omega
theorem putC_len {lim : Int} {rs : List Rt} {p : Rt} (h : rs.length ≤ 256) (hl : lim ≤ 256) : (putC rs p lim).2.length ≤ 256 := by
  unfold putC
  split
  · simpa using h
  · split
    · exact h
    · simp; have := plc_le rs p; omega
theorem stepT_len {gs : Nat → List Int} {lim : Int} {rs : List Rt} {c : Ch} (h : rs.length ≤ 256) (hl : lim ≤ 256) : (stepT gs lim rs c).2.length ≤ 256 := by
  unfold stepT
  split
  · unfold putT
    split
    · split
      · exact putC_len h hl
      · exact h
    · exact h
  · split
    · unfold takeT
      split
      · unfold takeC
        split
        · simp only []; have := List.length_eraseIdx_le rs (plc rs c.r); omega
        · exact h
      · exact h
    · exact h

set_option maxRecDepth 8000 in
set_option maxHeartbeats 4000000 in
theorem tbatch_any {N : Nat} {ρ : Nat → Nat} {w : World} {T rS rQ : Nat} {gs : Nat → List Int} {rs : List Rt} {lim : Int} {f : Nat → Value} (h : Tq N ρ w T rS rQ 3 35 gs rs lim f) (hro : Ro rS rQ) (hN : N ≤ w.heap.size) (hF : Fr ρ w) (h15 : ∀ k, ρ k ≠ 15) (hlen : rs.length ≤ 256) (hlim : lim ≤ 256)
    (ao : Option Addr) (n cap : Nat) (cs : List Ch) (hr : RdC w ao n cs) (hfit : ∀ c ∈ cs, Fit c.r) (hn : n ≤ 1000000000000000) :
    Calls Try.prog 34 #[.pointer (some ⟨T, 0, none⟩), .slice ao n cap] w fun e w' => ∃ a b rs', e = .returned (.tuple #[.int .i64 a, .int .i64 b]) ∧ Bat (stepT gs lim) rs cs a b rs' ∧ TqPost N ρ w T rS rQ 3 35 gs lim rs' w' := by
  obtain ⟨w0, hw0⟩ : ∃ w0, w0 = w.alloc (.cells (cellsT f) 87) := ⟨_, rfl⟩
  obtain ⟨tb, htb⟩ : ∃ tb, tb = w.heap.size := ⟨_, rfl⟩
  have Hld := Lib.hid (range36 h.rq.st)
  have Hone := Lib.hid (all36 h.ones)
  have Hset := Lib.hid (fun c => (set36 w f c).trans hw0.symm)
  have hSt0 : St w0 tb 36 f := by
    rw [hw0, htb]
    have := St.new w (cellsT f) 87
    rw [cellsT_size] at this
    exact this.congr (fun j hj => cellsT_get f hj)
  have hB0 : Below w.heap.size w w0 := by rw [hw0]; exact (Below.refl _ _).alloc (Nat.le_refl _) _
  have hz0 : tb < w0.heap.size := by rw [hw0, htb]; simp
  have hT : T < w.heap.size := h.rq.st.lt (by decide)
  have HC := Lib.hid (copy_any N T (f 35) rs w0 ((hB0.cell (p := ⟨T, 35, none⟩) hT).trans (h.rq.st 35 (by decide)).1) (RwO.far (N := N) h.rq.row.1 hB0 (fun k hk => (World.ownsRow.lt h.rq.row.1 k hk).2)) (by omega))
  have HQ := Lib.hid h
  have HF := Lib.hid hF
  have H15 := Lib.hid h15
  have HRo := Lib.hid hro
  have HRd := Lib.hid hr
  have HFit := Lib.hid hfit
  have HSt0 := Lib.hid hSt0
  have HB0 := Lib.hid hB0
  have Hw0 := Lib.hid hw0
  have Htb := Lib.hid htb
  have Hlen := Lib.hid hlen
  have htbw : w.heap.size ≤ tb := Nat.le_of_eq htb.symm
  have cT35 := (HB0.out.frozen (p := ⟨T, 35, none⟩) hT).trans (h.rq.st 35 (by decide)).2
  clear h hro hF h15 hr hfit hSt0 hB0 hw0 htb hlen
  go_enter Try.func34, Try.ntmps34
  go_wp2_with (first | (refine wpList_load_mid rfl 87 _ rfl T 0 rfl (cellsT f).toList _ Hld.out Try.underlying87 rfl (by rw [Array.length_toList, cellsT_size]; exact info85) ?_) | (refine wpList_store_row rfl 87 _ _ rfl w.heap.size (cellsT f) rfl rfl 87 _ (heap_alloc_new w _) (by rw [cellsT_size]; exact info85) (by rw [cellsT_size]; rfl) Hone.out ?_) | fail)
  rw [Hset.out, ← Htb.out]
  refine HC.out.mono ?_
  rintro e w1 ⟨ao3, m3, cap3, rfl, hm3, hr3, hb1⟩
  have hb1' : Below w.heap.size w w1 := HB0.out.trans (hb1.mono HB0.out.size)
  have hst1 : St w1 tb 36 f := HSt0.out.below hb1 hz0
  have s1 := (hst1 35 (by decide)).1
  have s2 := (hst1 35 (by decide)).2
  have hvt : ∀ k, (Value.slice ao3 m3 cap3).ownBlock = some k → k ≠ tb := fun k hk => by have := hr3.base k hk; omega
  obtain ⟨hBK, hB2⟩ := trial_tq HQ.out hb1' htbw hst1 (hr3.lower HB0.out.size) hvt hN Hlen.out (stepT gs lim) cs
  have HBK := Lib.hid hBK
  have HB2 := Lib.hid hB2
  clear hb1 hb1' hst1 hvt hBK hB2 hr3 hm3
  go_wp2
  generalize w1.setCell ⟨tb, 35, none⟩ (Value.slice ao3 m3 cap3) = w2 at *
  clear s1 s2 cT35
  go_loopw [7] (fun i wr => ∃ (k : Nat) (ρk : Nat → Nat) (rsk : List Rt) (fk : Nat → Value), k ≤ n ∧ i = .int .i64 k ∧ Hid (BK N (ρT w.heap.size tb (.slice ao3 m3 cap3)) w w2 tb 40 41 3 35 gs rs lim (stepT gs lim) cs k ρk wr rsk fk)) (fun i _ => n - (intOf i).toNat)
  case atStart => exact ⟨0, _, rs, _, Nat.zero_le _, rfl, HBK⟩
  case round =>
    obtain ⟨k, ρk, rsk, fk, hk, rfl, HK⟩ := hrel
    have HBl := Lib.hid (trial_below HK.out HB2.out)
    by_cases hlt : k < n
    · obtain ⟨c, hck⟩ : ∃ c, cs[k]? = some c := ⟨_, List.getElem?_eq_getElem (by rw [HRd.out.1]; exact hlt)⟩
      obtain ⟨b, off, hao, hbw, hcs⟩ : ∃ b off, ao = some ⟨b, off, none⟩ ∧ b < w.heap.size ∧ ∀ j c, cs[j]? = some c → ChAt w b (off + j * 6) c := by
        rcases HRd.out.2 with h0 | h
        · omega
        · exact h
      subst hao
      have hat := (hcs k c hck).same (HBl.out.block b hbw)
      have ck := hat.ck
      have c0 := hat.c0
      have c1 := hat.c1
      have c2 := hat.c2
      have c3 := hat.c3
      have c4 := hat.c4
      have Hck := Lib.hid hck
      have q1 : (k : Int) < (n : Int) := by omega
      have hfc : Fit c.r := HFit.out c (List.mem_of_getElem? hck)
      have HP := Lib.hid (change_any HK.out.tq stepT_ro (Nat.le_trans hN HK.out.sz) HK.out.fr HK.out.h15 (by have := HK.out.len; omega) c hfc)
      obtain ⟨x, hx⟩ : ∃ x, x = (stepT gs lim rsk c).1 := ⟨_, rfl⟩
      rw [← hx] at HP
      have Hx := Lib.hid hx
      clear hat hck hcs hfc hx
      go_wp2_with fail
      refine HP.out.mono ?_
      rintro e w5 ⟨rfl, hp5⟩
      have Hp5 := Lib.hid hp5
      clear hp5 ck c0 c1 c2 c3 c4
      by_cases hx0 : x = 0
      · have q3 : (x == 0) = true := by rw [hx0]; rfl
        have HNx := Lib.hid (HK.out.next Hck.out (by rw [← Hx.out]; exact hx0) (stepT_len HK.out.len hlim) Hp5.out)
        clear hx0
        go_wp2
        go_roundw
        case rel =>
          obtain ⟨ρ', f', hn'⟩ := HNx.out
          exact ⟨k + 1, ρ', _, f', by omega, by go_num, hn'⟩
        case measure => simp [intOf]; omega
      · have q3 : (x == 0) = false := ine_beq hx0
        have HBat := Lib.hid (Bat.stop (cs := cs) HK.out.run Hck.out (by rw [← Hx.out]; exact hx0))
        have HBw := Lib.hid (trial_post HK.out HB2.out Hp5.out)
        clear hx0
        go_wp2
        go_ret2
        refine ⟨k, x, rs, rfl, ?_, TqPost.same HQ.out HRo.out (HF.out.grow HBw.out.size) H15.out (fun R => Ev.of_below ρ HBw.out)⟩
        have := HBat.out
        rw [← Hx.out] at this
        exact this
    · obtain rfl : k = n := by omega
      have hrow := trial_row HK.out HB2.out
      obtain ⟨ao6, cap6, e6, -⟩ := RwO.form hrow
      have t1 := (HK.out.tq.rq.st 35 (by decide)).1
      rw [e6] at t1 hrow
      have T1 := (HBl.out.cell (p := ⟨T, 35, none⟩) hT).trans (HQ.out.rq.st 35 (by decide)).1
      have T2 := (HBl.out.frozen (p := ⟨T, 35, none⟩) hT).trans (HQ.out.rq.st 35 (by decide)).2
      have Hrow := Lib.hid hrow
      clear hrow e6
      generalize rsk.length = z6 at *
      go_wp2
      go_ret2
      have hrun := HK.out.run
      rw [List.take_of_length_le (by rw [HRd.out.1]; exact Nat.le_refl _)] at hrun
      have hb := Bat.all hrun
      rw [HRd.out.1] at hb
      exact ⟨_, _, rsk, rfl, hb, lift_post HQ.out HRo.out (fun R => Ev.refl R _ _) (fresh_done HQ.out.rq (fun R => Ev.refl R _ _) HF.out H15.out HRo.out hN (by decide) HBl.out Hrow.out) (by decide) (by omega)⟩
end Go.Proofs.Ytnfkgnjeamnhfab
