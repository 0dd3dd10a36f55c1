import Derived.Test.YtnfkgnjeamnhfaaGreatWv
import Derived.Test.YtnfkgnjeamnhfaaGreatUc
import Derived.Deep.DeepCutAuto
import Derived.ProofKit
import Derived.OpenShut
import Derived.SizedLaws
import Derived.Deep.Slices
import Derived.Test.YtnfkgnjeamnhfaaGreatRows
namespace Go.Proofs.YtnfkgnjeamnhfaaGreat
open Go.RowKit Go.Sort

def ownN (gs : Nat → List Int) : Nat := ((gs 33).headD 0 % 4294967296).toNat
theorem ownN_eq (gs : Nat → List Int) : sd gs 2 = .int .u32 (ownN gs : Nat) ∧ ownN gs < 4294967296 := by
  have h1 : 0 ≤ (gs 33).headD 0 % 4294967296 := Int.emod_nonneg _ (by decide)
  have h2 : (gs 33).headD 0 % 4294967296 < 4294967296 := Int.emod_lt_of_pos _ (by decide)
  unfold ownN
  refine ⟨?_, by omega⟩
  show Value.int .u32 _ = _
  rw [Int.toNat_of_nonneg h1]
set_option maxRecDepth 4000 in
set_option maxHeartbeats 4000000 in
theorem asksq_forward (N : Nat) (ρ : Nat → Nat) (w : World) (W T R B rT rR s : Nat) (gs : Nat → List Int) (cs rs : List Rt) (lim : Int) (n : Int) (x : Nat → Value) (sx : ByteArray) (hsx : sx.size ≤ maxLen) (hx14 : x 14 = .string sx) (h : Value) (m : Bool)
    (hN : N ≤ w.heap.size) (hF : Fr ρ w) (h15 : ∀ k, ρ k ≠ 15) (hW : Wq N ρ w W T R B rT rR gs cs rs lim) (hB : BqX N ρ w B s) (hT : 8 ≤ rT) (hT2 : rT ≤ 11) (hR : 8 ≤ rR) (hR2 : rR ≤ 11) :
    Calls Tryz.prog 13 #[.pointer (some ⟨W, 0, none⟩), .agg (opA 12 n x h m)] w (SPq N ρ w W T R B rT rR lim s) := by
  obtain ⟨ρ0, w0, hw0, hNz, hsz, hE0, hF0, h150, hb0, hW0, hB0, hS0⟩ := boxq 12 n x h m hN hF h15 hW hB hT hT2 hR hR2
  have k0 : w0.cell? ⟨w.heap.size, 0, none⟩ = some (.int .i64 12) := (hS0 0 (by decide)).1
  have k14 : w0.cell? ⟨w.heap.size, 14, none⟩ = some (.string sx) := by rw [← hx14]; exact (hS0 14 (by decide)).1
  have c0 : w0.cell? ⟨W, 0, none⟩ = some (.pointer (some ⟨T, 0, none⟩)) := (hW0.st 0 (by decide)).1
  have c1 : w0.cell? ⟨W, 1, none⟩ = some (.pointer (some ⟨R, 0, none⟩)) := (hW0.st 1 (by decide)).1
  have HE := Lib.hid hE0
  have hWl := hW0.st.lt (by decide)
  obtain ⟨f, hf⟩ := hW0.t
  obtain ⟨g, hg⟩ := hW0.r
  have hlen := hW0.rel.len
  have hl2 := hW0.len
  have hrel := hW0.rel
  have hgr := hW0.grp
  obtain ⟨hown, hol⟩ := ownN_eq gs
  have cT : w0.cell? ⟨T, 2, none⟩ = some (.int .u32 (ownN gs : Nat)) := by have h := (hf.rq.st 2 (by decide)).1; rw [hf.one 2 (.inr rfl), hown] at h; exact h
  have cR : w0.cell? ⟨R, 2, none⟩ = some (.int .u32 (ownN gs : Nat)) := by have h := (hg.rq.st 2 (by decide)).1; rw [hg.one 2 (.inr rfl), hown] at h; exact h
  have hTl := World.block_lt_of_cell? w0 _ cT
  have hRl := World.block_lt_of_cell? w0 _ cR
  have HHo := Lib.hid (show ∀ (w1 : World), Below w0.heap.size w0 w1 → Calls Tryz.prog 32 #[.pointer (some ⟨T, 0, none⟩), .string sx] w1 fun e w' => e = .returned (vV (fwdV (ownN gs) sx.data.toList (fun tg => pkE cs (4, 0, tg)) (fun tg fl => pkH gs cs (4, 0, tg) fl))) ∧ Below w1.heap.size w1 w' from fun w1 hb => forward_any T (ownN gs) hol sx w1 ((hb.cell (p := ⟨T, 2, none⟩) hTl).trans cT) _ _ (fun tg fl w2 h1 h2 hb2 => tpick_any (hf.ev (Ev.of_below (R := fun _ => False) ρ0 (hb.trans (hb2.mono hb.size))) id id id (ro_of hT hT2)) (by omega) hrel.srt hrel.gd hgr (4, 0, tg) ⟨Nat.zero_le _, by show tg ≤ _; omega⟩ fl h2 (ro_of hT hT2)))
  have HRo := Lib.hid (show ∀ (w1 : World), Below w0.heap.size w0 w1 → Calls Tryz.prog 33 #[.pointer (some ⟨R, 0, none⟩), .string sx] w1 fun e w' => e = .returned (vV (fwdV (ownN gs) sx.data.toList (fun tg => pkE cs (4, 0, tg)) (fun tg fl => pkH gs cs (4, 0, tg) fl))) ∧ Below w1.heap.size w1 w' from fun w1 hb => rforward_any R (ownN gs) hol sx hsx w1 ((hb.cell (p := ⟨R, 2, none⟩) hRl).trans cR) _ _ (fun tg fl w2 h1 h2 hb2 => rpick_all (hg.ev (Ev.of_below (R := fun _ => False) ρ0 (hb.trans (hb2.mono hb.size))) id id id (ro_of hR hR2)) (by omega) hrel hgr (4, 0, tg) ⟨Nat.zero_le _, by show tg ≤ _; omega⟩ fl h2))
  have HW := Lib.hid hW0
  have HB := Lib.hid hB0
  have HF := Lib.hid hF0
  have H15 := Lib.hid h150
  obtain ⟨bx, hbx⟩ : ∃ bx, bx = w.heap.size := ⟨_, rfl⟩
  rw [← hbx] at k0 k14 hsz
  generalize fwdV (ownN gs) sx.data.toList (fun tg => pkE cs (4, 0, tg)) (fun tg fl => pkH gs cs (4, 0, tg) fl) = V at HHo HRo
  unfold vV at HHo HRo
  obtain ⟨VC, hVC⟩ : ∃ VC : Array Value, VC = #[.int .i64 V.kind, .int .i64 V.reason, .int .i64 V.hop, .string ⟨V.out.toArray⟩] := ⟨_, rfl⟩
  have HVC := Lib.hid hVC
  clear hW hB hF h15 hE0 hF0 h150 hb0 hW0 hB0 hS0 hf hg hN hlen hl2 hrel hgr hown hol cT cR hTl hRl hVC
  simp only [opA, hx14] at hw0
  have Hw0 := Lib.hid hw0
  have Hbx := Lib.hid hbx
  clear hw0 hbx
  unfold opA
  rw [hx14]
  clear hx14
  go_enter Tryz.func13, Tryz.ntmps13
  go_wp2
  rw [← Hw0.out, ← Hbx.out]
  go_cut [24] (fun v wx => ∃ g1, v = .pointer (some ⟨g1, 0, none⟩) ∧ Hid (wx.heap[g1]? = some (.cells VC 83)) ∧ Hid (Below w0.heap.size w0 wx))
  case first =>
    go_region_with (go_at_call 32; first | (refine (HHo.out _ (by exact ⟨rfl, rfl, rfl, Nat.le_refl _, fun _ _ => rfl⟩)).mono ?_; rintro e w1 ⟨rfl, hb1⟩; have Hb1 := Lib.hid (show Below w0.heap.size w0 w1 from ⟨hb1.os, hb1.tape, hb1.output, hb1.size, hb1.block⟩); clear hb1) | (refine (HHo.out _ (by exact (below1 w0 _).drew)).mono ?_; rintro e w1 ⟨rfl, hb1⟩; have HRB := Lib.hid (row_below hb1 (heap_alloc_last w0 _) (by show _ < (w0.alloc _).heap.size; rw [sz1]; omega)); have Hb1 := Lib.hid (Below.trans ((below1 w0 _).drew) (hb1.mono (by show _ ≤ (w0.alloc _).heap.size; rw [sz1]; omega))); have k0 := cl20 HRB.out (j := 0) rfl; have k1 := cl20 HRB.out (j := 1) rfl; have k2 := cl20 HRB.out (j := 2) rfl; have k3 := cl20 HRB.out (j := 3) rfl; have f0 := froz_row (j := 0) HRB.out; have f1 := froz_row (j := 1) HRB.out; have f2 := froz_row (j := 2) HRB.out; have f3 := froz_row (j := 3) HRB.out; clear hb1))
    all_goals
      go_wp2_with fail
      go_meet
      first
        | exact ⟨_, rfl, by rw [HVC.out]; exact heap_alloc_last w1 _, Hb1.out.trans ((below1 w1 _).mono Hb1.out.size)⟩
        | exact ⟨_, rfl, by rw [HVC.out]; exact frow_set _ (frow_set _ (frow_set _ (frow_set _ HRB.out))), below4 Hb1.out (Nat.le_refl _) _ _ _ _⟩
  case rest =>
  obtain ⟨g1, rfl, Hg1, Hb1⟩ := hcut
  have k14' := (Hb1.out.cell (p := ⟨bx, 14, none⟩) hsz).trans k14
  have c1' := (Hb1.out.cell (p := ⟨W, 1, none⟩) hWl).trans c1
  have hsz1 : bx < wc.heap.size := Nat.lt_of_lt_of_le hsz Hb1.out.size
  have hWl1 : W < wc.heap.size := Nat.lt_of_lt_of_le hWl Hb1.out.size
  clear k0 k14 c0 c1 hsz
  go_wp2_with fail
  generalize wc = w1 at *
  go_cut [25] (fun v wx => ∃ g2, v = .pointer (some ⟨g2, 0, none⟩) ∧ Hid (wx.heap[g2]? = some (.cells VC 83)) ∧ Hid (Below w1.heap.size w1 wx))
  case first =>
    go_region_with (go_at_call 33; first | (refine (HRo.out _ (by exact ⟨Hb1.out.os, Hb1.out.tape, Hb1.out.output, Hb1.out.size, Hb1.out.block⟩)).mono ?_; rintro e w2 ⟨rfl, hb2⟩; have Hb2 := Lib.hid (show Below w1.heap.size w1 w2 from ⟨hb2.os, hb2.tape, hb2.output, hb2.size, hb2.block⟩); clear hb2) | (refine (HRo.out _ (by exact (Hb1.out.trans ((below1 w1 _).mono Hb1.out.size)).drew)).mono ?_; rintro e w2 ⟨rfl, hb2⟩; have HRB := Lib.hid (row_below hb2 (heap_alloc_last w1 _) (by show _ < (w1.alloc _).heap.size; rw [sz1]; omega)); have Hb2 := Lib.hid (Below.trans ((below1 w1 _).drew) (hb2.mono (by show _ ≤ (w1.alloc _).heap.size; rw [sz1]; omega))); have k0 := cl20 HRB.out (j := 0) rfl; have k1 := cl20 HRB.out (j := 1) rfl; have k2 := cl20 HRB.out (j := 2) rfl; have k3 := cl20 HRB.out (j := 3) rfl; have f0 := froz_row (j := 0) HRB.out; have f1 := froz_row (j := 1) HRB.out; have f2 := froz_row (j := 2) HRB.out; have f3 := froz_row (j := 3) HRB.out; clear hb2))
    all_goals
      go_wp2_with fail
      go_meet
      first
        | exact ⟨_, rfl, by rw [HVC.out]; exact heap_alloc_last w2 _, Hb2.out.trans ((below1 w2 _).mono Hb2.out.size)⟩
        | exact ⟨_, rfl, by rw [HVC.out]; exact frow_set _ (frow_set _ (frow_set _ (frow_set _ HRB.out))), below4 Hb2.out (Nat.le_refl _) _ _ _ _⟩
  case rest =>
  obtain ⟨g2, rfl, Hg2, Hb2⟩ := hcut
  generalize wc = w2 at *
  have hr1 := row_below Hb2.out Hg1.out ((Array.getElem?_eq_some_iff.1 Hg1.out).1)
  have hr2 := Hg2.out
  rw [HVC.out] at hr1 hr2
  have a0 := cl20 hr1 (j := 0) rfl
  have a1 := cl20 hr1 (j := 1) rfl
  have a2 := cl20 hr1 (j := 2) rfl
  have a3 := cl20 hr1 (j := 3) rfl
  have d0 := cl20 hr2 (j := 0) rfl
  have d1 := cl20 hr2 (j := 1) rfl
  have d2 := cl20 hr2 (j := 2) rfl
  have d3 := cl20 hr2 (j := 3) rfl
  have HBf := Lib.hid (Hb1.out.trans (Hb2.out.mono Hb1.out.size))
  clear c1' k14' hr1 hr2 Hg1 Hg2
  go_wp2_with fail
  go_ret
  exact ⟨rfl, ρ0, gs, cs, rs, HW.out.ev (Ev.of_below (R := fun _ => False) ρ0 HBf.out) id id id id id id hT hT2 hR hR2, (HB.out.ev (Ev.of_below (R := fun _ => False) ρ0 HBf.out) (fun _ _ => id)).more (Nat.le_succ s), HF.out.grow HBf.out.size, H15.out, (HE.out _).trans (Ev.of_below ρ0 HBf.out)⟩
set_option maxRecDepth 4000 in
set_option maxHeartbeats 4000000 in
theorem stepq_arm12 {w : World} {W : Nat} {i : Int} {x : Nat → Value} {h : Value} {m : Bool} {P : World → Prop}
    (HG : Calls Tryz.prog 13 #[.pointer (some ⟨W, 0, none⟩), .agg (opA 12 i x h m)] (w.alloc (.cells (opA 12 i x h m) 39)) (fun e w' => e = .returned (.bool true) ∧ P w')) :
    Calls Tryz.prog 12 #[.pointer (some ⟨W, 0, none⟩), .agg (opA 12 i x h m)] w (fun e w' => e = .returned (.bool true) ∧ P w') := by
  simp only [opA] at HG
  have HG := Lib.hid HG
  unfold opA
  go_enter Tryz.func12, Tryz.ntmps12
  go_wp2_with fail
  refine HG.out.mono ?_
  rintro e w1 ⟨rfl, hp⟩
  go_wp2
  go_ret
  exact ⟨rfl, hp⟩
theorem stepOk12 : StepOk 12 := by
  intro N ρ w W T R B rT rR s gs cs rs lim k i x m ao n cap hN hF h15 hW hB hs hT hT2 hR hR2 hne ho hρ hk
  by_cases hk9 : k ≤ 11
  · exact stepOk11 N ρ w W T R B rT rR s gs cs rs lim k i x m ao n cap hN hF h15 hW hB hs hT hT2 hR hR2 hne ho hρ hk9
  · obtain rfl : k = 12 := by omega
    obtain ⟨ρ0, w0, hw0, hNz, hsz, hE0, hF0, h150, hb0, hW0, hB0, hS0⟩ := boxq 12 i x (.slice ao n cap) m hN hF h15 hW hB hT hT2 hR hR2
    have hbox : ∀ e w', SPq N ρ0 w0 W T R B rT rR lim s e w' → SPq N ρ w W T R B rT rR lim s e w' := fun e w' h => h.box hE0
    obtain ⟨sx, hsx, x14⟩ := ho.str
    have HG := asksq_forward N ρ0 w0 W T R B rT rR s gs cs rs lim i x sx hsx x14 (.slice ao n cap) m hNz hF0 h150 hW0 hB0 hT hT2 hR hR2
    rw [hw0] at HG hbox
    exact (stepq_arm12 HG).mono hbox
/-- All: the law. -/
theorem all_law (N : Nat) (ρ : Nat → Nat) (limit seed own : Int) (so : Option Addr) (z scap : Nat) (w : World) (hN : N ≤ w.heap.size) (hF : Fr ρ w) (h15 : ∀ k, ρ k ≠ 15) (hρ : ∀ b, b < N → ρ b = 0) (hS : Scriptq N w so z) (hz : z ≤ 837728385445) (hsn : Rg seed own) :
    Calls Tryz.prog 9 #[.int .i64 limit, .int .u64 seed, .int .u32 own, .slice so z scap] w fun e w' => e = .returned (.bool true) ∧ ∃ ρ', Ev (fun q => 1 ≤ q) ρ w ρ' w' := by
  have H : Calls Tryz.prog 10 #[.int .i64 limit, .int .u64 seed, .int .u32 own, .slice so z scap, .int .i64 12] w fun e w' => e = .returned (.bool true) ∧ ∃ ρ', Ev (fun q => 1 ≤ q) ρ w ρ' w' := by
    by_cases h : limit < 1 ∨ 256 < limit
    · exact playsq_no ρ limit seed own so z scap w h 12
    · exact playsq_any N ρ limit seed own so z scap w hN hF h15 hρ hS hz hsn (by omega) (by omega) 12 (by decide) stepOk12 (by decide)
  have HH := Lib.hid H
  clear H hN hF h15 hρ hS hz hsn
  go_enter Tryz.func9, Tryz.ntmps9
  go_wp2_with (go_at_call 10; refine HH.out.mono ?_; rintro e w1 ⟨rfl, hp⟩; have H2 := Lib.hid hp; clear hp)
  go_ret
  exact ⟨rfl, H2.out⟩
end Go.Proofs.YtnfkgnjeamnhfaaGreat
namespace Go.Proofs.YtnfkgnjeamnhfaaGreat
open Go.ChangeShapes Go.WideShapes Go.ChangeAt Go.RowKit

namespace Q
theorem cOp : Tryz.prog.cellsOf 39 = 16 := by kernel_rfl
theorem cInt : Tryz.prog.cellsOf 3 = 1 := by kernel_rfl
theorem cBool : Tryz.prog.cellsOf 4 = 1 := by kernel_rfl
theorem cU64 : Tryz.prog.cellsOf 22 = 1 := by kernel_rfl
theorem cStr : Tryz.prog.cellsOf 9 = 1 := by kernel_rfl
theorem cInts : Tryz.prog.cellsOf 36 = 1 := by kernel_rfl
theorem cChs : Tryz.prog.cellsOf 37 = 1 := by kernel_rfl
theorem cAddr : Tryz.prog.cellsOf 31 = 3 := by kernel_rfl
theorem cPref : Tryz.prog.cellsOf 33 = 4 := by kernel_rfl
theorem cRoute : Tryz.prog.cellsOf 35 = 5 := by kernel_rfl
theorem cCh : Tryz.prog.cellsOf 152 = 6 := by kernel_rfl
theorem bInt : Tryz.prog.bytesOf 3 = 8 := by kernel_rfl
theorem bOp : Tryz.prog.bytesOf 39 = 168 := by kernel_rfl
theorem bCh : Tryz.prog.bytesOf 152 = 48 := by kernel_rfl

theorem at_none {w : World} {a : Addr} {v : Value} (h : w.cell? a = some v) : ∃ b off, a = ⟨b, off, none⟩ := by
  obtain ⟨b, off, spot⟩ := a
  cases spot with
  | none => exact ⟨b, off, rfl⟩
  | some s =>
    unfold World.cell? at h
    split at h <;> simp at h
theorem weights_all {H : Type} {P : Program} {e : TypeId} {d : DataW H} : ∀ {ds : List (DataW H)}, d ∈ ds → ∀ n ∈ d.weights P e, n ∈ DataW.weightsAll P e ds
  | d0 :: ds, hd, n, hn => by
    simp only [DataW.weightsAll, List.mem_append]
    rcases List.mem_cons.1 hd with rfl | h
    · exact .inl hn
    · exact .inr (weights_all h n hn)
theorem cons_of {α : Type} {l : List α} {n : Nat} (h : l.length = n + 1) : ∃ a t, l = a :: t ∧ t.length = n := by
  cases l with
  | nil => simp at h
  | cons a t => exact ⟨a, t, rfl, by simpa using h⟩
theorem u64_nat {n : Int} (h : (Lit.int .u64 n).wf = true) : ∃ m : Nat, n = (m : Int) ∧ m ≤ 18446744073709551615 := by
  have h2 : (0 : Int) ≤ n ∧ n ≤ 18446744073709551615 := by
    simp only [Lit.wf, Bool.and_eq_true, decide_eq_true_eq] at h
    exact h
  exact ⟨n.toNat, by omega, by omega⟩
/-- An address, opened. -/
theorem open_adr {H : Type} {enc : TypeId × Value → H} {W : World} {n : Nat} {a0 a1 a2 : Value} {D : DataW H × List MemPlace} (h2 : DataW.trod enc Tryz.prog W 0 (fun _ => true) true n 31 [a0, a1, a2] = some D) :
    ∃ a : Ad, FitA a ∧ a0 = .int .i64 a.1 ∧ a1 = .int .u64 a.2.1 ∧ a2 = .int .u64 a.2.2 := by
  obtain ⟨us, n3, _, _, _, hul, hu⟩ := DataW.trod_struct Tryz.underlying31 h2
  have hul : us.length = 3 := hul
  obtain ⟨u0, g0⟩ : ∃ y, us[0]? = some y := ⟨_, List.getElem?_eq_getElem (by omega)⟩
  obtain ⟨u1, g1⟩ : ∃ y, us[1]? = some y := ⟨_, List.getElem?_eq_getElem (by omega)⟩
  obtain ⟨u2, g2⟩ : ∃ y, us[2]? = some y := ⟨_, List.getElem?_eq_getElem (by omega)⟩
  have k0 : DataW.trod enc Tryz.prog W 0 (fun _ => true) true n3 3 [a0] = some u0 := by have := (hu 0 _ rfl).trans g0; simpa [cInt] using this
  have k1 : DataW.trod enc Tryz.prog W 0 (fun _ => true) true n3 22 [a1] = some u1 := by have := (hu 1 _ rfl).trans g1; simpa [cU64] using this
  have k2 : DataW.trod enc Tryz.prog W 0 (fun _ => true) true n3 22 [a2] = some u2 := by have := (hu 2 _ rfl).trans g2; simpa [cU64] using this
  obtain ⟨x0, q0, -, -⟩ := DataW.trod_int Tryz.underlying3 k0
  obtain ⟨x1, q1, -, w1⟩ := DataW.trod_int Tryz.underlying22 k1
  obtain ⟨x2, q2, -, w2⟩ := DataW.trod_int Tryz.underlying22 k2
  simp only [List.cons.injEq, and_true] at q0 q1 q2
  obtain ⟨m1, rfl, l1⟩ := u64_nat w1
  obtain ⟨m2, rfl, l2⟩ := u64_nat w2
  exact ⟨(x0, m1, m2), ⟨l1, l2⟩, q0, q1, q2⟩
/-- A route, opened. -/
theorem open_route {H : Type} {enc : TypeId × Value → H} {W : World} {n : Nat} {a0 a1 a2 a3 a4 : Value} {D : DataW H × List MemPlace} (h : DataW.trod enc Tryz.prog W 0 (fun _ => true) true n 35 [a0, a1, a2, a3, a4] = some D) :
    ∃ r : Rt, Fit r ∧ a0 = .int .i64 r.f ∧ a1 = .int .u64 r.hi ∧ a2 = .int .u64 r.lo ∧ a3 = .int .i64 r.n ∧ a4 = .int .i64 r.g := by
  obtain ⟨ys, n1, _, _, _, hyl, hf⟩ := DataW.trod_struct Tryz.underlying35 h
  have hyl : ys.length = 2 := hyl
  obtain ⟨y0, e0⟩ : ∃ y, ys[0]? = some y := ⟨_, List.getElem?_eq_getElem (by omega)⟩
  obtain ⟨y1, e1⟩ : ∃ y, ys[1]? = some y := ⟨_, List.getElem?_eq_getElem (by omega)⟩
  have h0 : DataW.trod enc Tryz.prog W 0 (fun _ => true) true n1 33 [a0, a1, a2, a3] = some y0 := by have := (hf 0 _ rfl).trans e0; simpa [cPref] using this
  have h1 : DataW.trod enc Tryz.prog W 0 (fun _ => true) true n1 3 [a4] = some y1 := by have := (hf 1 _ rfl).trans e1; simpa [cInt] using this
  obtain ⟨zs, n2, _, _, _, hzl, hg⟩ := DataW.trod_struct Tryz.underlying33 h0
  have hzl : zs.length = 2 := hzl
  obtain ⟨z0, f0⟩ : ∃ y, zs[0]? = some y := ⟨_, List.getElem?_eq_getElem (by omega)⟩
  obtain ⟨z1, f1⟩ : ∃ y, zs[1]? = some y := ⟨_, List.getElem?_eq_getElem (by omega)⟩
  have h2 : DataW.trod enc Tryz.prog W 0 (fun _ => true) true n2 31 [a0, a1, a2] = some z0 := by have := (hg 0 _ rfl).trans f0; simpa [cAddr] using this
  have h3 : DataW.trod enc Tryz.prog W 0 (fun _ => true) true n2 3 [a3] = some z1 := by have := (hg 1 _ rfl).trans f1; simpa [cInt] using this
  obtain ⟨us, n3, _, _, _, hul, hu⟩ := DataW.trod_struct Tryz.underlying31 h2
  have hul : us.length = 3 := hul
  obtain ⟨u0, g0⟩ : ∃ y, us[0]? = some y := ⟨_, List.getElem?_eq_getElem (by omega)⟩
  obtain ⟨u1, g1⟩ : ∃ y, us[1]? = some y := ⟨_, List.getElem?_eq_getElem (by omega)⟩
  obtain ⟨u2, g2⟩ : ∃ y, us[2]? = some y := ⟨_, List.getElem?_eq_getElem (by omega)⟩
  have k0 : DataW.trod enc Tryz.prog W 0 (fun _ => true) true n3 3 [a0] = some u0 := by have := (hu 0 _ rfl).trans g0; simpa [cInt] using this
  have k1 : DataW.trod enc Tryz.prog W 0 (fun _ => true) true n3 22 [a1] = some u1 := by have := (hu 1 _ rfl).trans g1; simpa [cU64] using this
  have k2 : DataW.trod enc Tryz.prog W 0 (fun _ => true) true n3 22 [a2] = some u2 := by have := (hu 2 _ rfl).trans g2; simpa [cU64] using this
  obtain ⟨x0, q0, -, -⟩ := DataW.trod_int Tryz.underlying3 k0
  obtain ⟨x1, q1, -, w1⟩ := DataW.trod_int Tryz.underlying22 k1
  obtain ⟨x2, q2, -, w2⟩ := DataW.trod_int Tryz.underlying22 k2
  obtain ⟨x3, q3, -, -⟩ := DataW.trod_int Tryz.underlying3 h3
  obtain ⟨x4, q4, -, -⟩ := DataW.trod_int Tryz.underlying3 h1
  simp only [List.cons.injEq, and_true] at q0 q1 q2 q3 q4
  obtain ⟨m1, rfl, l1⟩ := u64_nat w1
  obtain ⟨m2, rfl, l2⟩ := u64_nat w2
  exact ⟨⟨x0, m1, m2, x3, x4⟩, ⟨l1, l2⟩, q0, q1, q2, q3, q4⟩
/-- A change, opened. -/
theorem open_chg {H : Type} {enc : TypeId × Value → H} {W : World} {n b off : Nat} {cs : List Value} {D : DataW H × List MemPlace} (hc : W.cells? 0 ⟨b, off, none⟩ 6 = some cs) (h : DataW.trod enc Tryz.prog W 0 (fun _ => true) true n 152 cs = some D) :
    ∃ c : Ch, Fit c.r ∧ ChAt W b off c := by
  obtain ⟨_, hlen, hcell⟩ := World.cells?_some hc
  obtain ⟨ys, n1, _, _, _, hyl, hf⟩ := DataW.trod_struct Tryz.underlying152 h
  obtain ⟨a0, t0, rfl, l0⟩ := cons_of hlen
  obtain ⟨a1, t1, rfl, l1⟩ := cons_of l0
  obtain ⟨a2, t2, rfl, l2⟩ := cons_of l1
  obtain ⟨a3, t3, rfl, l3⟩ := cons_of l2
  obtain ⟨a4, t4, rfl, l4⟩ := cons_of l3
  obtain ⟨a5, t5, rfl, l5⟩ := cons_of l4
  obtain rfl : t5 = [] := List.length_eq_zero_iff.1 l5
  have hyl : ys.length = 2 := hyl
  obtain ⟨y0, e0⟩ : ∃ y, ys[0]? = some y := ⟨_, List.getElem?_eq_getElem (by omega)⟩
  obtain ⟨y1, e1⟩ : ∃ y, ys[1]? = some y := ⟨_, List.getElem?_eq_getElem (by omega)⟩
  have h0 : DataW.trod enc Tryz.prog W 0 (fun _ => true) true n1 3 [a0] = some y0 := by have := (hf 0 _ rfl).trans e0; simpa [cInt] using this
  have h1 : DataW.trod enc Tryz.prog W 0 (fun _ => true) true n1 35 [a1, a2, a3, a4, a5] = some y1 := by have := (hf 1 _ rfl).trans e1; simpa [cRoute] using this
  obtain ⟨x0, q0, -, -⟩ := DataW.trod_int Tryz.underlying3 h0
  obtain ⟨r, hr, q1, q2, q3, q4, q5⟩ := open_route h1
  simp only [List.cons.injEq, and_true] at q0
  have hcells : ∀ j, j < 6 → W.cell? ⟨b, off + j, none⟩ = [a0, a1, a2, a3, a4, a5][j]? := fun j hj => by
    have := hcell j hj
    rwa [Lib.add_plain] at this
  subst q0 q1 q2 q3 q4 q5
  exact ⟨⟨x0, r⟩, hr, hcells 0 (by decide), hcells 1 (by decide), hcells 2 (by decide), hcells 3 (by decide), hcells 4 (by decide), hcells 5 (by decide)⟩
/-- A list of changes, opened. -/
theorem open_list {H : Type} {enc : TypeId × Value → H} {W : World} {n : Nat} {a : Value} {D : DataW H × List MemPlace} (h : DataW.trod enc Tryz.prog W 0 (fun _ => true) true n 37 [a] = some D) (hw : ∀ m ∈ D.1.weights Tryz.prog 37, m ≤ reachBytes) :
    ∃ co z cap ch, a = .slice co z cap ∧ RdC W co z ch ∧ (∀ c ∈ ch, Fit c.r) ∧ z ≤ 2932031007317 ∧ (0 < z → ∀ b off, co = some ⟨b, off, none⟩ → b < W.heap.size) := by
  rcases Deep.open_slice Tryz.underlying37 h with ⟨h1, _⟩ | ⟨q, len, cap, m, n', D', Pl, h1, _, hle, hcm, hm, hx, hall⟩
  · simp only [List.cons.injEq, and_true] at h1
    exact ⟨none, 0, 0, [], h1, ⟨rfl, .inl rfl⟩, by simp, by omega, fun h => by omega⟩
  · simp only [List.cons.injEq, and_true] at h1
    simp only [if_true] at hm
    have hm := hm.symm
    subst hm
    rw [cCh] at hall
    have hsz : cap * 48 ≤ reachBytes := by
      refine hw _ ?_
      rw [hx]
      simp only [DataW.weights, Tryz.underlying37, bCh]
      refine List.mem_cons.2 (.inl ?_)
      simp; omega
    have hsz' : cap * 48 ≤ 140737488351232 := hsz
    rcases Nat.eq_zero_or_pos len with hl | hl
    · subst hl
      exact ⟨some q, 0, cap, [], h1, ⟨rfl, .inl rfl⟩, by simp, by omega, fun h => by omega⟩
    · obtain ⟨cs0, c0, _⟩ := hall 0 (by omega)
      obtain ⟨_, hl0, hc0⟩ := World.cells?_some c0
      obtain ⟨v0, hv0⟩ : ∃ v, cs0[0]? = some v := ⟨_, List.getElem?_eq_getElem (by omega)⟩
      have hq := (hc0 0 (by decide)).trans hv0
      obtain ⟨b, off, rfl⟩ := at_none (a := q) (v := v0) (by simpa [Addr.add] using hq)
      have hb : b < W.heap.size := World.block_lt_of_cell? W _ hq
      haveI : Inhabited Ch := ⟨⟨0, ⟨0, 0, 0, 0, 0⟩⟩⟩
      obtain ⟨C, hC⟩ := Deep.choose_lt (α := Ch) (n := len) (p := fun i c => Fit c.r ∧ ChAt W b (off + i * 6) c) (fun i hi => by
        obtain ⟨cs, cq, tq⟩ := hall i (by omega)
        rw [Lib.add_plain] at cq
        exact open_chg cq tq)
      refine ⟨some ⟨b, off, none⟩, len, cap, (List.range len).map C, h1, ⟨by simp, .inr ⟨b, off, rfl, hb, fun j c hj => ?_⟩⟩, fun c hc => ?_, by omega, fun _ b' off' e => ?_⟩
      · rw [List.getElem?_map] at hj
        have hjl : j < len := by
          rcases Nat.lt_or_ge j len with h' | h'
          · exact h'
          · rw [List.getElem?_eq_none (by simpa using h')] at hj; cases hj
        rw [List.getElem?_range hjl] at hj
        obtain rfl : C j = c := by simpa using hj
        exact (hC j hjl).2
      · obtain ⟨i, hi, rfl⟩ := List.mem_map.1 hc
        exact (hC i (by simpa using hi)).1
      · obtain ⟨rfl, -⟩ : b = b' ∧ off = off' := by simpa using e
        exact hb
/-- A step of the script, opened. -/
theorem open_op {H : Type} {enc : TypeId × Value → H} {W : World} {n b off : Nat} {cs : List Value} {D : DataW H × List MemPlace} (hc : W.cells? 0 ⟨b, off, none⟩ 16 = some cs) (h : DataW.trod enc Tryz.prog W 0 (fun _ => true) true n 39 cs = some D)
    (hw : ∀ m ∈ D.1.weights Tryz.prog 39, m ≤ reachBytes) : ∃ k i x ao n cap m, OpAtq W.heap.size W b off k i x ao n cap m := by
  obtain ⟨_, hlen, hcell⟩ := World.cells?_some hc
  obtain ⟨ys, n', _, hx, _, hyl, hf⟩ := DataW.trod_struct Tryz.underlying39 h
  obtain ⟨a0, t0, rfl, l0⟩ := cons_of hlen
  obtain ⟨a1, t1, rfl, l1⟩ := cons_of l0
  obtain ⟨a2, t2, rfl, l2⟩ := cons_of l1
  obtain ⟨a3, t3, rfl, l3⟩ := cons_of l2
  obtain ⟨a4, t4, rfl, l4⟩ := cons_of l3
  obtain ⟨a5, t5, rfl, l5⟩ := cons_of l4
  obtain ⟨a6, t6, rfl, l6⟩ := cons_of l5
  obtain ⟨a7, t7, rfl, l7⟩ := cons_of l6
  obtain ⟨a8, t8, rfl, l8⟩ := cons_of l7
  obtain ⟨a9, t9, rfl, l9⟩ := cons_of l8
  obtain ⟨a10, t10, rfl, l10⟩ := cons_of l9
  obtain ⟨a11, t11, rfl, l11⟩ := cons_of l10
  obtain ⟨a12, t12, rfl, l12⟩ := cons_of l11
  obtain ⟨a13, t13, rfl, l13⟩ := cons_of l12
  obtain ⟨a14, t14, rfl, l14⟩ := cons_of l13
  obtain ⟨a15, t15, rfl, l15⟩ := cons_of l14
  obtain rfl : t15 = [] := List.length_eq_zero_iff.1 l15
  have hyl : ys.length = 10 := hyl
  obtain ⟨y0, e0⟩ : ∃ y, ys[0]? = some y := ⟨_, List.getElem?_eq_getElem (by omega)⟩
  obtain ⟨y1, e1⟩ : ∃ y, ys[1]? = some y := ⟨_, List.getElem?_eq_getElem (by omega)⟩
  obtain ⟨y2, e2⟩ : ∃ y, ys[2]? = some y := ⟨_, List.getElem?_eq_getElem (by omega)⟩
  obtain ⟨y4, e4⟩ : ∃ y, ys[4]? = some y := ⟨_, List.getElem?_eq_getElem (by omega)⟩
  obtain ⟨y3, e3⟩ : ∃ y, ys[3]? = some y := ⟨_, List.getElem?_eq_getElem (by omega)⟩
  obtain ⟨y5, e5⟩ : ∃ y, ys[5]? = some y := ⟨_, List.getElem?_eq_getElem (by omega)⟩
  obtain ⟨y8, e8⟩ : ∃ y, ys[8]? = some y := ⟨_, List.getElem?_eq_getElem (by omega)⟩
  obtain ⟨y6, e6⟩ : ∃ y, ys[6]? = some y := ⟨_, List.getElem?_eq_getElem (by omega)⟩
  obtain ⟨y7, e7⟩ : ∃ y, ys[7]? = some y := ⟨_, List.getElem?_eq_getElem (by omega)⟩
  obtain ⟨y9, e9⟩ : ∃ y, ys[9]? = some y := ⟨_, List.getElem?_eq_getElem (by omega)⟩
  have h0 : DataW.trod enc Tryz.prog W 0 (fun _ => true) true n' 3 [a0] = some y0 := by have := (hf 0 _ rfl).trans e0; simpa [cInt] using this
  have h1 : DataW.trod enc Tryz.prog W 0 (fun _ => true) true n' 3 [a1] = some y1 := by have := (hf 1 _ rfl).trans e1; simpa [cInt] using this
  have h2 : DataW.trod enc Tryz.prog W 0 (fun _ => true) true n' 3 [a2] = some y2 := by have := (hf 2 _ rfl).trans e2; simpa [cInt] using this
  have h4 : DataW.trod enc Tryz.prog W 0 (fun _ => true) true n' 31 [a8, a9, a10] = some y4 := by have := (hf 4 _ rfl).trans e4; simpa [cAddr] using this
  have h3 : DataW.trod enc Tryz.prog W 0 (fun _ => true) true n' 35 [a3, a4, a5, a6, a7] = some y3 := by have := (hf 3 _ rfl).trans e3; simpa [cRoute] using this
  have h5 : DataW.trod enc Tryz.prog W 0 (fun _ => true) true n' 22 [a11] = some y5 := by have := (hf 5 _ rfl).trans e5; simpa [cU64] using this
  have h8 : DataW.trod enc Tryz.prog W 0 (fun _ => true) true n' 9 [a14] = some y8 := by have := (hf 8 _ rfl).trans e8; simpa [cStr] using this
  have h6 : DataW.trod enc Tryz.prog W 0 (fun _ => true) true n' 36 [a12] = some y6 := by have := (hf 6 _ rfl).trans e6; simpa [cInts] using this
  have h7 : DataW.trod enc Tryz.prog W 0 (fun _ => true) true n' 37 [a13] = some y7 := by have := (hf 7 _ rfl).trans e7; simpa [cChs] using this
  have h9 : DataW.trod enc Tryz.prog W 0 (fun _ => true) true n' 4 [a15] = some y9 := by have := (hf 9 _ rfl).trans e9; simpa [cBool] using this
  obtain ⟨k, q0, -, -⟩ := DataW.trod_int Tryz.underlying3 h0
  obtain ⟨i, q1, -, -⟩ := DataW.trod_int Tryz.underlying3 h1
  obtain ⟨m, q9, -⟩ := DataW.trod_bool Tryz.underlying4 h9
  have hD : D.1 = .agg (ys.map (·.1)) := by rw [hx]
  have hroute := open_route h3
  have hmm : ∃ l, a2 = Value.int .i64 l := by
    obtain ⟨l, q2, -, -⟩ := DataW.trod_int Tryz.underlying3 h2
    simp only [List.cons.injEq, and_true] at q2
    exact ⟨l, q2⟩
  have hadr := open_adr h4
  have hflow : ∃ fl : Nat, fl ≤ 18446744073709551615 ∧ a11 = Value.int .u64 fl := by
    obtain ⟨l, q2, -, q3⟩ := DataW.trod_int Tryz.underlying22 h5
    simp only [List.cons.injEq, and_true] at q2
    obtain ⟨l, rfl, q4⟩ := u64_nat q3
    exact ⟨l, q4, q2⟩
  have hstr : ∃ sx : ByteArray, sx.size ≤ maxLen ∧ a14 = Value.string sx := by
    obtain ⟨sx, q2, -, q3⟩ := DataW.trod_string Tryz.underlying9 h8
    simp only [List.cons.injEq, and_true] at q2
    exact ⟨sx, q3, q2⟩
  have hlist := open_list h7 (fun u hu => hw u (by
    rw [hD]
    simp only [DataW.weights, Tryz.underlying39]
    exact DataW.weights_mem_each (j := 7) (t := 37) (d := y7.1) rfl (by simp [e7]) _ hu))
  have hcells : ∀ j, j < 16 → W.cell? ⟨b, off + j, none⟩ = [a0, a1, a2, a3, a4, a5, a6, a7, a8, a9, a10, a11, a12, a13, a14, a15][j]? := fun j hj => by
    have := hcell j hj
    rwa [Lib.add_plain] at this
  have hb : b < W.heap.size := World.block_lt_of_cell? W ⟨b, off + 0, none⟩ (hcells 0 (by decide))
  simp only [List.cons.injEq, and_true] at q0 q1 q9
  subst q0 q1 q9
  have fin : ∀ ao z cap, a12 = .slice ao z cap → ∀ j, j < 16 → W.cell? ⟨b, off + j, none⟩ = some ((opA k i (fun j => [Value.int .i64 k, .int .i64 i, a2, a3, a4, a5, a6, a7, a8, a9, a10, a11, a12, a13, a14, .bool m].getD j undef) (.slice ao z cap) m).getD j undef) := by
    intro ao z cap e j hj
    rw [hcells j hj, ← e]
    iterate 16 (rcases j with _ | j; · rfl)
    omega
  rcases open_ints Tryz.underlying36 Tryz.underlying3 cInt h6 with ⟨q6, _⟩ | ⟨a, len, cap, zs, q6, _, hle, hcm, hzl, hy6, hzc, _⟩
  · simp only [List.cons.injEq, and_true] at q6
    exact ⟨k, i, _, none, 0, 0, m, hb, fin none 0 0 q6, ⟨[], rfl, .inl rfl⟩, by omega, fun h => by omega, hroute, hmm, hadr, hflow, hstr, hlist⟩
  · simp only [List.cons.injEq, and_true] at q6
    simp only [if_true] at hzl
    have hsz : cap * 8 ≤ reachBytes := by
      refine hw _ ?_
      rw [hD]
      simp only [DataW.weights, Tryz.underlying39]
      refine DataW.weights_mem_each (j := 6) (t := 36) (d := y6.1) rfl (by simp [e6]) _ ?_
      rw [hy6]
      simp only [DataW.weights, Tryz.underlying36, bInt]
      refine List.mem_cons.2 (.inl ?_)
      simp [lits, hzl]; omega
    have hsz' : cap * 8 ≤ 140737488351232 := hsz
    refine ⟨k, i, _, some a, len, cap, m, hb, fin (some a) len cap q6, ⟨zs.take len, by simp; omega, ?_⟩, by omega, fun hl b' off' e => ?_, hroute, hmm, hadr, hflow, hstr, hlist⟩
    · rcases Nat.eq_zero_or_pos len with hl | hl
      · exact .inl hl
      · obtain ⟨b', off', rfl⟩ := at_none (hzc 0 (by omega))
        refine .inr ⟨b', off', rfl, fun j z hz => ?_⟩
        have hj : j < len := by have := (List.getElem?_eq_some_iff.1 hz).1; simp at this; omega
        have := hzc j (by omega)
        rw [Lib.add_plain] at this
        rw [this]
        rw [List.getElem?_take_of_lt hj] at hz
        simp [List.getD, hz]
    · obtain rfl : a = ⟨b', off', none⟩ := by simpa using e
      have := hzc 0 (by omega)
      exact World.block_lt_of_cell? W _ this
/-- The script, opened. -/
theorem open_script {H : Type} {enc : TypeId × Value → H} {W : World} {a0 : Option Addr} {len cap : Nat} {d : DataW H} {p : List MemPlace} (h : DataW.Trod enc Tryz.prog W 0 (fun _ => true) true 24 (.slice a0 len cap) d p)
    (hw : ∀ m ∈ d.weights Tryz.prog 24, m ≤ reachBytes) : Scriptq W.heap.size W a0 len ∧ len ≤ 837728385445 := by
  obtain ⟨fuel, hf⟩ := h
  rcases Deep.open_slice Tryz.underlying24 hf with ⟨h1, _⟩ | ⟨a, l, c, m, n, D, Pl, h1, _, hle, hcm, hm, hx, hall⟩
  · have : a0 = none ∧ len = 0 ∧ cap = 0 := by simpa [Value.cells] using h1
    obtain ⟨rfl, rfl, rfl⟩ := this
    exact ⟨fun q hq => by omega, by omega⟩
  · have : a0 = some a ∧ len = l ∧ cap = c := by simpa [Value.cells] using h1
    obtain ⟨rfl, rfl, rfl⟩ := this
    simp only [if_true] at hm
    subst hm
    obtain ⟨rfl, -⟩ := Prod.ext_iff.1 hx
    rw [cOp] at hall
    simp only [DataW.weights, Tryz.underlying24, bOp] at hw
    refine ⟨fun q hq => ?_, ?_⟩
    · obtain ⟨cs0, c0, _⟩ := hall 0 (by omega)
      obtain ⟨_, hl0, hc0⟩ := World.cells?_some c0
      obtain ⟨v0, hv0⟩ : ∃ v, cs0[0]? = some v := ⟨_, List.getElem?_eq_getElem (by omega)⟩
      have := (hc0 0 (by decide)).trans hv0
      obtain ⟨b, off, rfl⟩ := at_none (a := a) (v := v0) (by simpa [Addr.add] using this)
      obtain ⟨cs, cq, tq⟩ := hall q (by omega)
      rw [Lib.add_plain] at cq
      obtain ⟨k, i, x, ao, n, c, m, ho⟩ := open_op cq tq (fun u hu => hw u (List.mem_cons.2 (.inr (List.mem_append_left _ (weights_all (List.mem_map.2 ⟨q, by simpa using hq, rfl⟩) u hu)))))
      exact ⟨b, off, k, i, x, ao, n, c, m, rfl, ho⟩
    · have := hw _ (List.mem_cons.2 (.inl rfl))
      simp only [List.length_map, List.length_range] at this
      rw [show reachBytes = 140737488351232 from rfl] at this
      omega
end Q
end Go.Proofs.YtnfkgnjeamnhfaaGreat
namespace Go.Proofs.YtnfkgnjeamnhfaaGreat
open Go.ChangeShapes Go.WideShapes Go.ChangeAt Go.RowKit

theorem Q.rg_of {a b : Int} (h1 : (Lit.int .u64 a).wf = true) (h2 : (Lit.int .u32 b).wf = true) : Rg a b := by
  have k1 : (0 : Int) ≤ a ∧ a ≤ 18446744073709551615 := by
    simp only [Lit.wf, Bool.and_eq_true, decide_eq_true_eq] at h1
    exact h1
  have k2 : (0 : Int) ≤ b ∧ b ≤ 4294967295 := by
    simp only [Lit.wf, Bool.and_eq_true, decide_eq_true_eq] at h2
    exact h2
  unfold Rg; omega
theorem Q.own : ownKnob Tryz.prog.godebug = none := by kernel_rfl
theorem Q.laidOut : laidOutB Tryz.prog = true := by kernel_rfl
/-- All that was there is as it was. -/
theorem Q.below_of_ev {w w' : World} {ρ' : Nat → Nat} (h : Ev (fun q => 1 ≤ q) (fun k => if k < w.heap.size then 0 else 14) w ρ' w') : Below w.heap.size w w' :=
  ⟨h.os, h.tape, h.output, h.size, fun k hk => h.block k hk (by simp [hk]) (by simp [hk])⟩

end Go.Proofs.YtnfkgnjeamnhfaaGreat
namespace Go.Proofs.YtnfkgnjeamnhfaaGreat
open Go.RowKit

/-- The step on either table, where it makes no list. -/
theorem Twoq.stepF {N : Nat} {ρ : Nat → Nat} {w : World} {W V B s : Nat} {l l' : Int} {w1 : World} (h : Twoq N ρ w W V B l l' s w1) (hN : N ≤ w.heap.size) (hs : s ≤ 2000000000000) (hρ : ∀ b, b < N → ρ b = 0) {b off : Nat} {k i : Int} {x : Nat → Value} {ao : Option Addr} {n cap : Nat} {m : Bool} (ho : OpAtq N w b off k i x ao n cap m) (hk : k = 1 ∨ k = 4 ∨ k = 5 ∨ k = 7) :
    Calls Tryz.prog 12 #[.pointer (some ⟨W, 0, none⟩), .agg (opA k i x (.slice ao n cap) m)] w1 (fun e w2 => e = .returned (.bool true) ∧ Twoq N ρ w W V B l l' (s + 1) w2) ∧
    Calls Tryz.prog 12 #[.pointer (some ⟨V, 0, none⟩), .agg (opA k i x (.slice ao n cap) m)] w1 (fun e w2 => e = .returned (.bool true) ∧ Twoq N ρ w W V B l l' (s + 1) w2) := by
  obtain ⟨T, R, T', R', ρ1, gs, gs', cs, cs', rs, rs', h1, h2, h3, h4, h5, h6⟩ := h
  have ho1 := ho.ev hN h6 hρ
  have hρ1 : ∀ b, b < N → ρ1 b = 0 := fun b hb => by rw [h6.role b (by omega) (by rw [hρ b hb]; decide), hρ b hb]
  have hN1 := Nat.le_trans hN h6.size
  exact ⟨(Go.Proofs.YtnfkgnjeamnhfaaGreat.stepF N ρ1 w1 W T R B 8 9 s gs cs rs l k i x m ao n cap hN1 h4 h5 h1 h3 hs (by decide) (by decide) (by decide) (by decide) (by decide) ho1.2.2 hρ1 hk).mono fun e w2 hp => ⟨hp.1, Twoq.one h2 h6 (Thenq.step hp) rfl⟩,
    (Go.Proofs.YtnfkgnjeamnhfaaGreat.stepF N ρ1 w1 V T' R' B 10 11 s gs' cs' rs' l' k i x m ao n cap hN1 h4 h5 h2 h3 hs (by decide) (by decide) (by decide) (by decide) (by decide) ho1.2.2 hρ1 hk).mono fun e w2 hp => ⟨hp.1, Twoq.other h1 h6 (Thenq.step hp) rfl⟩⟩
/-- The cells of a packet's step but for its packet. -/
def opF (sx : ByteArray) : Nat → Value := fun j => [undef, undef, .int .i64 0, .int .i64 0, .int .u64 0, .int .u64 0, .int .i64 0, .int .i64 0, .int .i64 0, .int .u64 0, .int .u64 0, .int .u64 0, undef, .slice none 0 0, .string sx].getD j undef
/-- A packet on either table. -/
def AsksF : Prop := ∀ (N : Nat) (ρ : Nat → Nat) (w : World) (W V B s : Nat) (l l' : Int) (w1 : World) (sx : ByteArray), Twoq N ρ w W V B l l' s w1 → N ≤ w.heap.size → sx.size ≤ maxLen →
    Calls Tryz.prog 13 #[.pointer (some ⟨W, 0, none⟩), .agg (opA 12 0 (opF sx) (.slice none 0 0) false)] w1 (fun e w2 => e = .returned (.bool true) ∧ Twoq N ρ w W V B l l' (s + 1) w2) ∧
    Calls Tryz.prog 13 #[.pointer (some ⟨V, 0, none⟩), .agg (opA 12 0 (opF sx) (.slice none 0 0) false)] w1 (fun e w2 => e = .returned (.bool true) ∧ Twoq N ρ w W V B l l' (s + 1) w2)
theorem OpAtq.cells {N : Nat} {w : World} {b off : Nat} {k i : Int} {x : Nat → Value} {ao : Option Addr} {n cap : Nat} {m : Bool} (h : OpAtq N w b off k i x ao n cap m) :
    w.cell? ⟨b, off, none⟩ = some (.int .i64 k) ∧ w.cell? ⟨b, off + 1, none⟩ = some (.int .i64 i) ∧ w.cell? ⟨b, off + 2, none⟩ = some (x 2) ∧ w.cell? ⟨b, off + 3, none⟩ = some (x 3) ∧ w.cell? ⟨b, off + 4, none⟩ = some (x 4) ∧ w.cell? ⟨b, off + 5, none⟩ = some (x 5) ∧ w.cell? ⟨b, off + 6, none⟩ = some (x 6) ∧ w.cell? ⟨b, off + 7, none⟩ = some (x 7) ∧ w.cell? ⟨b, off + 8, none⟩ = some (x 8) ∧ w.cell? ⟨b, off + 9, none⟩ = some (x 9) ∧ w.cell? ⟨b, off + 10, none⟩ = some (x 10) ∧ w.cell? ⟨b, off + 11, none⟩ = some (x 11) ∧ w.cell? ⟨b, off + 12, none⟩ = some (.slice ao n cap) ∧ w.cell? ⟨b, off + 13, none⟩ = some (x 13) ∧ w.cell? ⟨b, off + 14, none⟩ = some (x 14) ∧ w.cell? ⟨b, off + 15, none⟩ = some (.bool m) :=
  ⟨h.2.1 0 (by decide), h.2.1 1 (by decide), h.2.1 2 (by decide), h.2.1 3 (by decide), h.2.1 4 (by decide), h.2.1 5 (by decide), h.2.1 6 (by decide), h.2.1 7 (by decide), h.2.1 8 (by decide), h.2.1 9 (by decide), h.2.1 10 (by decide), h.2.1 11 (by decide), h.2.1 12 (by decide), h.2.1 13 (by decide), h.2.1 14 (by decide), h.2.1 15 (by decide)⟩
set_option maxRecDepth 4000 in
set_option maxHeartbeats 4000000 in
theorem forwards_any (hA : AsksF) (N : Nat) (ρ : Nat → Nat) (limit seed own : Int) (so : Option Addr) (z scap : Nat) (p q : ByteArray) (w : World) (hN : N ≤ w.heap.size) (hF : Fr ρ w) (h15 : ∀ k, ρ k ≠ 15) (hρ : ∀ b, b < N → ρ b = 0) (hS : Scriptq N w so z) (hz : z ≤ 837728385445) (hsn : Rg seed own) (h1 : ¬ limit < 1) (h2 : ¬ 256 < limit) (hpl : p.size ≤ maxLen) (hql : q.size ≤ maxLen) :
    Calls Tryz.prog 8 #[.int .i64 limit, .int .u64 seed, .int .u32 own, .slice so z scap, .string p, .string q] w fun e w' => e = .returned (.bool true) ∧ ∃ ρ', Ev (fun q => 1 ≤ q) ρ w ρ' w' := by
  have H1 := Lib.hid (bothq_any N ρ limit seed own w hsn hF h15 h1 h2)
  have HN := Lib.hid hN
  have HP := Lib.hid hρ
  have HS := Lib.hid hS
  have HA := Lib.hid (fun (s : Nat) (w1 : World) (W V B : Nat) (h : Twoq N ρ w W V B limit (257 - limit) s w1) => hA N ρ w W V B s limit (257 - limit) w1 p h hN hpl)
  have HO := Lib.hid (fun (s : Nat) (w1 : World) (W V B : Nat) (h : Twoq N ρ w W V B limit (257 - limit) s w1) => hA N ρ w W V B s limit (257 - limit) w1 q h hN hql)
  clear hA hN hF h15 hρ hS h1 h2 hsn hpl hql
  go_enter Tryz.func8, Tryz.ntmps8
  go_wp2_with (go_at_call 11; refine H1.out.mono ?_; rintro e w1 ⟨W, V, B, rfl, hp⟩; have H2 := Lib.hid hp; clear hp)
  go_loopw [15, 16] (fun ok i wr => ∃ k : Nat, k ≤ z ∧ ok = .bool true ∧ i = .int .i64 k ∧ Hid (Twoq N ρ w W V B limit (257 - limit) (2 * k) wr)) (fun _ i _ => z - (intOf i).toNat)
  case atStart => exact ⟨0, Nat.zero_le _, rfl, rfl, H2⟩
  case round =>
    obtain ⟨k, hk, rfl, rfl, HK⟩ := hrel
    by_cases hlt : k < z
    · obtain ⟨b, off, kk, ii, x, ao, n, cap, m, rfl, ho⟩ := HS.out k hlt
      obtain ⟨ρ1, h6⟩ := HK.out.evs
      obtain ⟨c0, c1, c2, c3, c4, c5, c6, c7, c8, c9, c10, c11, c12, c13, c14, c15⟩ := (ho.ev HN.out h6 HP.out).cells
      have q1 : (k : Int) < (z : Int) := by omega
      have q0 : (0 : Int) ≤ (k : Int) := by omega
      have HOp := Lib.hid ho
      clear ho h6
      go_upto_region 7 with fail
      obtain ⟨kb, hkb⟩ : ∃ kb : Bool, kb = decide (kk = 1 ∨ kk = 4 ∨ kk = 5 ∨ kk = 7) := ⟨_, rfl⟩
      have HKB := Lib.hid hkb
      clear hkb
      go_cut [76] from 38 to 92 (fun c wx => c = .bool kb ∧ wx = wr)
      case first =>
        by_cases h1 : kk = 1
        · subst h1
          obtain rfl : kb = true := HKB.out
          go_wp2_with fail
          go_meet
          exact ⟨rfl, rfl⟩
        · have n1 : (kk == 1) = false := by simpa using h1
          by_cases h4 : kk = 4
          · subst h4
            obtain rfl : kb = true := HKB.out
            go_wp2_with fail
            go_meet
            exact ⟨rfl, rfl⟩
          · have n4 : (kk == 4) = false := by simpa using h4
            by_cases h5 : kk = 5
            · subst h5
              obtain rfl : kb = true := HKB.out
              go_wp2_with fail
              go_meet
              exact ⟨rfl, rfl⟩
            · have n5 : (kk == 5) = false := by simpa using h5
              by_cases h7 : kk = 7
              · subst h7
                obtain rfl : kb = true := HKB.out
                go_wp2_with fail
                go_meet
                exact ⟨rfl, rfl⟩
              · have n7 : (kk == 7) = false := by simpa using h7
                obtain rfl : kb = false := by rw [HKB.out]; exact decide_eq_false (by omega)
                go_wp2_with fail
                go_meet
                exact ⟨rfl, rfl⟩
      case rest =>
      obtain ⟨rfl, rfl⟩ := hcut
      cases kb
      · clear c0 c1 c2 c3 c4 c5 c6 c7 c8 c9 c10 c11 c12 c13 c14 c15
        go_wp2_with fail
        go_roundw
        case rel => exact ⟨k + 1, by omega, rfl, by go_num, HK.out.more (by omega)⟩
        case measure => simp [intOf]; omega
      · have hkk : kk = 1 ∨ kk = 4 ∨ kk = 5 ∨ kk = 7 := of_decide_eq_true HKB.out.symm
        have HT := Lib.hid (HK.out.stepF HN.out (by omega) HP.out HOp.out hkk).1
        have HL := Lib.hid fun (w2 : World) (h : Twoq N ρ w W V B limit (257 - limit) (2 * k + 1) w2) => (h.stepF HN.out (by omega) HP.out HOp.out hkk).2
        simp only [opA] at HT HL
        clear HK hkk
        go_wp2_with fail
        refine HT.out.mono ?_
        rintro e w2 ⟨rfl, hp⟩
        obtain ⟨ρ2, h7⟩ := hp.evs
        clear c0 c1 c2 c3 c4 c5 c6 c7 c8 c9 c10 c11 c12 c13 c14 c15
        obtain ⟨c0, c1, c2, c3, c4, c5, c6, c7, c8, c9, c10, c11, c12, c13, c14, c15⟩ := (HOp.out.ev HN.out h7 HP.out).cells
        have H3 := Lib.hid (HL.out _ hp)
        clear hp HL HT h7
        go_wp2_with fail
        refine H3.out.mono ?_
        rintro e w3 ⟨rfl, hp⟩
        have HP3 := Lib.hid hp
        clear hp
        go_wp2_with fail
        go_roundw
        case rel => exact ⟨k + 1, by omega, rfl, by go_num, HP3.out.more (by omega)⟩
        case measure => simp [intOf]; omega
    · obtain rfl : k = z := by omega
      have H3 := Lib.hid (HA.out _ _ _ _ _ HK.out).1
      have HA2 := Lib.hid (fun (w1 : World) (h : Twoq N ρ w W V B limit (257 - limit) (2 * k + 1) w1) => (HA.out _ _ _ _ _ h).2)
      have HA3 := Lib.hid (fun (w1 : World) (h : Twoq N ρ w W V B limit (257 - limit) (2 * k + 1 + 1) w1) => (HO.out _ _ _ _ _ h).1)
      have HA4 := Lib.hid (fun (w1 : World) (h : Twoq N ρ w W V B limit (257 - limit) (2 * k + 1 + 1 + 1) w1) => (HA.out _ _ _ _ _ h).1)
      simp only [opA, opF, List.getD_cons_zero, List.getD_cons_succ] at H3 HA2 HA3 HA4
      clear HK HA HO
      go_wp2_with fail
      refine H3.out.mono ?_
      rintro e w2 ⟨rfl, hp⟩
      have H4 := Lib.hid (HA2.out _ hp)
      clear hp H3 HA2
      go_wp2_with fail
      refine H4.out.mono ?_
      rintro e w3 ⟨rfl, hp⟩
      have H5 := Lib.hid (HA3.out _ hp)
      clear hp H4 HA3
      go_wp2_with fail
      refine H5.out.mono ?_
      rintro e w4 ⟨rfl, hp⟩
      have H6 := Lib.hid (HA4.out _ hp)
      clear hp H5 HA4
      go_wp2_with fail
      refine H6.out.mono ?_
      rintro e w5 ⟨rfl, hp⟩
      have HP3 := Lib.hid hp
      clear hp
      go_wp2
      go_ret
      exact ⟨rfl, HP3.out.evs⟩
set_option maxRecDepth 4000 in
set_option maxHeartbeats 2000000 in
theorem forwards_no (ρ : Nat → Nat) (limit seed own : Int) (so : Option Addr) (z scap : Nat) (p q : ByteArray) (w : World) (h1 : limit < 1 ∨ 256 < limit) :
    Calls Tryz.prog 8 #[.int .i64 limit, .int .u64 seed, .int .u32 own, .slice so z scap, .string p, .string q] w fun e w' => e = .returned (.bool true) ∧ ∃ ρ', Ev (fun q => 1 ≤ q) ρ w ρ' w' := by
  have H1 := Lib.hid (bothq_no limit seed own w h1)
  clear h1
  go_enter Tryz.func8, Tryz.ntmps8
  go_wp2_with (go_at_call 11; refine H1.out.mono ?_; rintro e w1 ⟨rfl, hp⟩; have H2 := Lib.hid hp; clear hp)
  go_ret
  exact ⟨rfl, ρ, Ev.of_below ρ H2.out⟩
theorem forwards_law (hA : AsksF) (N : Nat) (ρ : Nat → Nat) (limit seed own : Int) (so : Option Addr) (z scap : Nat) (p q : ByteArray) (w : World) (hN : N ≤ w.heap.size) (hF : Fr ρ w) (h15 : ∀ k, ρ k ≠ 15) (hρ : ∀ b, b < N → ρ b = 0) (hS : Scriptq N w so z) (hz : z ≤ 837728385445) (hsn : Rg seed own) (hpl : p.size ≤ maxLen) (hql : q.size ≤ maxLen) :
    Calls Tryz.prog 8 #[.int .i64 limit, .int .u64 seed, .int .u32 own, .slice so z scap, .string p, .string q] w fun e w' => e = .returned (.bool true) ∧ ∃ ρ', Ev (fun q => 1 ≤ q) ρ w ρ' w' := by
  by_cases h : limit < 1 ∨ 256 < limit
  · exact forwards_no ρ limit seed own so z scap p q w h
  · exact forwards_any hA N ρ limit seed own so z scap p q w hN hF h15 hρ hS hz hsn (by omega) (by omega) hpl hql
end Go.Proofs.YtnfkgnjeamnhfaaGreat
namespace Go.Proofs.YtnfkgnjeamnhfaaGreat
open Go.ChangeShapes Go.WideShapes Go.ChangeAt Go.RowKit

theorem asksF_holds : AsksF := by
  intro N ρ w W V B s l l' w1 sx h hN hsx
  obtain ⟨T, R, T', R', ρ1, gs, gs', cs, cs', rs, rs', h1, h2, h3, h4, h5, h6⟩ := h
  have hN1 := Nat.le_trans hN h6.size
  exact ⟨(asksq_forward N ρ1 w1 W T R B 8 9 s gs cs rs l 0 (opF sx) sx hsx rfl (.slice none 0 0) false hN1 h4 h5 h1 h3 (by decide) (by decide) (by decide) (by decide)).mono fun e w2 hp => ⟨hp.1, Twoq.one h2 h6 (Thenq.step hp) rfl⟩,
    (asksq_forward N ρ1 w1 V T' R' B 10 11 s gs' cs' rs' l' 0 (opF sx) sx hsx rfl (.slice none 0 0) false hN1 h4 h5 h2 h3 (by decide) (by decide) (by decide) (by decide)).mono fun e w2 hp => ⟨hp.1, Twoq.other h1 h6 (Thenq.step hp) rfl⟩⟩
theorem trodAll_six6 {H : Type} {enc : TypeId × Value → H} {P : Program} {w : World} {base : Nat} {spare : Nat → Bool} {held : Bool} {t0 t1 t2 t3 t4 t5 : TypeId} {args : Array Value} {ds : List (DataW H)} {ps : List MemPlace} (h : DataW.TrodAll enc P w base spare held [t0, t1, t2, t3, t4, t5] args.toList ds ps) :
    ∃ v0 v1 v2 v3 v4 v5 d0 d1 d2 d3 d4 d5 p0 p1 p2 p3 p4 p5, args = #[v0, v1, v2, v3, v4, v5] ∧ ds = [d0, d1, d2, d3, d4, d5] ∧ ps = p0 ++ (p1 ++ (p2 ++ (p3 ++ (p4 ++ p5)))) ∧ DataW.Trod enc P w base spare held t0 v0 d0 p0 ∧ DataW.Trod enc P w base spare held t1 v1 d1 p1 ∧ DataW.Trod enc P w base spare held t2 v2 d2 p2 ∧ DataW.Trod enc P w base spare held t3 v3 d3 p3 ∧ DataW.Trod enc P w base spare held t4 v4 d4 p4 ∧ DataW.Trod enc P w base spare held t5 v5 d5 p5 := by
  obtain ⟨v0, vs0, d0, ds0, p0, q0, hargs, rfl, rfl, h0, k0⟩ := trodAll_cons h
  obtain ⟨v1, vs1, d1, ds1, p1, q1, rfl, rfl, rfl, h1, k1⟩ := trodAll_cons k0
  obtain ⟨v2, vs2, d2, ds2, p2, q2, rfl, rfl, rfl, h2, k2⟩ := trodAll_cons k1
  obtain ⟨v3, vs3, d3, ds3, p3, q3, rfl, rfl, rfl, h3, k3⟩ := trodAll_cons k2
  obtain ⟨v4, vs4, d4, ds4, p4, q4, rfl, rfl, rfl, h4, k4⟩ := trodAll_cons k3
  obtain ⟨v5, vs5, d5, ds5, p5, q5, rfl, rfl, rfl, h5, k5⟩ := trodAll_cons k4
  obtain ⟨rfl, rfl, rfl⟩ := trodAll_nil k5
  exact ⟨v0, v1, v2, v3, v4, v5, d0, d1, d2, d3, d4, d5, p0, p1, p2, p3, p4, p5, by cases args; simp_all, rfl, by simp, h0, h1, h2, h3, h4, h5⟩
theorem open_str {H : Type} {enc : TypeId × Value → H} {P : Program} {w : World} {base : Nat} {spare : Nat → Bool} {held : Bool} {t : TypeId} {v : Value} {d : DataW H} {p : List MemPlace} (ht : P.underlying t = some .string) (hv : ∃ s, v = .string s) (h : DataW.Trod enc P w base spare held t v d p) : ∃ s, v = .string s ∧ s.size ≤ maxLen := by
  obtain ⟨s, rfl⟩ := hv
  obtain ⟨fuel, hf⟩ := h
  obtain ⟨sx, q2, -, q3⟩ := DataW.trod_string ht hf
  have : s = sx := by simpa [Value.cells] using q2
  subst this
  exact ⟨s, rfl, q3⟩
set_option maxRecDepth 100000 in
theorem forwards_lifted (os : Os) (started : os.Started) (H : Type) (enc : TypeId × Value → H) :
    ReturnsInHanded {} Tryz.checked os 8 .any (Rows.forwardsSpec.pre6 enc Tryz.prog Tryz.f8 Rows.forwardsRow.domain false) (Rows.forwardsSpec.post enc Tryz.prog Tryz.f8 false true false false) := by
  refine returnsInHanded_of_change_sized (C := Tryz.checked) Q.own started (by kernel_rfl) Tryz.func8
    (ChangeSpec.witness6 (enc := enc) (C := Tryz.checked) false ⟨#[], #[.int .i64 0, .int .u64 0, .int .u32 0, .slice none 0 0, .string ⟨#[]⟩, .string ⟨#[]⟩], []⟩ 8 (by kernel_rfl) (by kernel_rfl) (by kernel_rfl) (by kernel_rfl)) ?_
  intro W base args ds gs before hval0 hW _ hsz0 _
  have hsz : (DataW.weightsEach Tryz.prog (Tryz.f8.params.toList ++ Rows.forwardsSpec.plain.varTypes Tryz.prog) (ds ++ gs)).all (· ≤ reachBytes) = true := hsz0
  clear hsz0
  have hval : ∀ (j : Nat) t v, Tryz.f8.params[j]? = some t → args[j]? = some v → Value.okWide Tryz.prog W .any base t v := hval0
  have hW' := hW
  obtain ⟨p, q, hA0, hV, rfl, _, _⟩ := hW
  have hA : DataW.TrodAll enc Tryz.prog W 0 (fun _ => true) true Tryz.f8.params.toList args.toList ds p := hA0
  rw [Tryz.params8] at hA hval hsz
  obtain ⟨v0, v1, v2, v3, v4, v5, d0, d1, d2, d3, d4, d5, p0, p1, p2, p3, p4, p5, rfl, rfl, rfl, h0, h1, h2, h3, h4, h5⟩ := trodAll_six6 hA
  obtain ⟨rfl, rfl⟩ := trodVars_none hV
  obtain ⟨limit, rfl, rfl, rfl, w0⟩ := open_int Tryz.underlying3 (hval 0 3 v0 rfl rfl) h0
  obtain ⟨seed, rfl, rfl, rfl, w1⟩ := open_int Tryz.underlying22 (hval 1 22 v1 rfl rfl) h1
  obtain ⟨own, rfl, rfl, rfl, w2⟩ := open_int Tryz.underlying23 (hval 2 23 v2 rfl rfl) h2
  obtain ⟨so, z, cap, rfl⟩ := okWide_slice Tryz.underlying24 (hval 3 24 v3 rfl rfl)
  obtain ⟨s4, rfl, l4⟩ := open_str Tryz.underlying9 (okWide_string Tryz.underlying9 (hval 4 9 v4 rfl rfl)) h4
  obtain ⟨s5, rfl, l5⟩ := open_str Tryz.underlying9 (okWide_string Tryz.underlying9 (hval 5 9 v5 rfl rfl)) h5
  have hlt : ∀ x ∈ p3 ++ (p4 ++ p5), x.block < W.heap.size := fun x hx => hW'.lt x (by simpa using hx)
  clear hA0 hval0
  simp only [List.append_nil, List.nil_append] at hW'
  obtain ⟨hS, hz⟩ := Q.open_script h3 (fun m hm => by
    have := List.all_eq_true.1 hsz _ (DataW.weights_mem_each (j := 3) (t := 24) (d := d3) rfl rfl m hm)
    simpa using this)
  refine (forwards_law asksF_holds W.heap.size (fun k => if k < W.heap.size then 0 else 14) limit seed own so z cap s4 s5 W (Nat.le_refl _) (fun k hk => if_neg (by omega)) (fun k => by split <;> decide) (fun b hb => if_pos hb) hS hz (Q.rg_of w1 w2) l4 l5).mono fun e W' ⟨he, ρ', hev⟩ => ?_
  have hb := Q.below_of_ev hev
  subst he
  refine ⟨_, rfl, _, _, _, [], [] ++ ([] ++ ([] ++ (p3 ++ (p4 ++ p5)))), [], hW', ?_, ?_, rfl, hb.frame _, fun h => by cases h⟩
  · exact trodAll_cons_mk (shut_bool Tryz.underlying4 _) trodAll_mk0
  · exact trodAll_cons_mk (shut_int Tryz.underlying3 w0) (trodAll_cons_mk (shut_int Tryz.underlying22 w1) (trodAll_cons_mk (shut_int Tryz.underlying23 w2) (trodAll_cons_mk (Below.trod Q.laidOut (by kernel_rfl) (of_decide_eq_true (by kernel_rfl)) h3 hb (fun x hx => hlt x (List.mem_append_left _ hx))) (trodAll_mk2 (Below.trod Q.laidOut (by kernel_rfl) (of_decide_eq_true (by kernel_rfl)) h4 hb (fun x hx => hlt x (List.mem_append_right _ (List.mem_append_left _ hx)))) (Below.trod Q.laidOut (by kernel_rfl) (of_decide_eq_true (by kernel_rfl)) h5 hb (fun x hx => hlt x (List.mem_append_right _ (List.mem_append_right _ hx))))))))

theorem forwards_holds : Rows.ForwardsSaid :=
  OpenClaim.holds_of_wide 8 Tryz.f8 rfl rfl rfl rfl rfl rfl rfl ⟨rfl, rfl, rfl, rfl, rfl⟩ rfl rfl rfl rfl rfl (by kernel_rfl) Tryz.func8 (by kernel_rfl)
    (of_decide_eq_true (by kernel_rfl)) (by unfold Func.isWrapper; first | (rw [if_pos (by decide +kernel)]; kernel_rfl) | (rw [if_neg (by decide +kernel)]; exact ⟨rfl, rfl⟩))
    (fun os started H enc _ => forwards_lifted os started H enc)
end Go.Proofs.YtnfkgnjeamnhfaaGreat
