import Derived.Test.YtnfkgnjeamnhfabFh
import Derived.Test.YtnfkgnjeamnhfabFi
namespace Go.Proofs.Ytnfkgnjeamnhfab
open Go.RowKit

/-- A verdict. -/
structure Vd where
  kind : Int
  reason : Int
  hop : Int
  out : List UInt8
def vV (v : Vd) : Value := .agg #[.int .i64 v.kind, .int .i64 v.reason, .int .i64 v.hop, .string ⟨v.out.toArray⟩]
/-- What becomes of a packet (head l, body b) that can't go on. -/
def ansV (l b : List UInt8) (own : Nat) (r : Int) : Vd :=
  if mayB l b = true then ⟨3, r, 0, sealL (ansZ l own (noteL (kindB r) (l ++ b.take 8)).length) ++ noteL (kindB r) (l ++ b.take 8)⟩ else ⟨0, r, 0, []⟩
theorem let_tq : ∃ (t : TypeId) (n : Nat), t = 100 ∧ n = 21 ∧ (∀ w, (isAgg t).run Try.prog w = .ok true w) ∧ (∀ w, (sizeOf t).run Try.prog w = .ok n w) :=
  ⟨100, 21, rfl, rfl, fun w => by simp, fun w => by simp⟩
theorem infoV : (Try.prog.info? 63).map (·.size) = some 4 := by kernel_rfl
theorem ldcW {w : World} {b : Nat} {l : List UInt8} {s : ByteArray} (hl : l.length = 20) (h : w.heap[b]? = some (.cells (pc l s) 100)) : (loadCellsFrom ⟨b, 0, none⟩ 0 21 #[]).run Try.prog w = .ok (pc l s) w := by
  have := run_loadCells_list (P := Try.prog) w ⟨b, 0, none⟩ (pc l s).toList (fun j v hv => by
    rw [Lib.add_plain, Nat.zero_add, cell_of_row _ _ j (pc l s) _ (0, 0) h]
    simpa using hv)
  simpa [loadCells, pc_size hl] using this
theorem ba_of {q : ByteArray} {l : List UInt8} (h : q.data.toList = l) : (⟨l.toArray⟩ : ByteArray) = q := by
  subst h; simp
theorem bodyV {fn : Func} {R : Ending → World → Prop} {tmps : Array Value} {w : World} {g : Nat} {a b c : Int} {q : ByteArray} {x0 x1 x2 x3 : Value} {p : Tmp} (hr : fn.results = #[.cell p 63]) (hp : tmps.getD p undef = .pointer (some ⟨g, 0, none⟩)) (hk : w.heap[g]? = some (.cells #[x0, x1, x2, x3] 63))
    (hR : R (.returned (.agg #[.int .i64 a, .int .i64 b, .int .i64 c, .string q])) ((((w.setCell ⟨g, 0, none⟩ (.int .i64 a)).setCell ⟨g, 1, none⟩ (.int .i64 b)).setCell ⟨g, 2, none⟩ (.int .i64 c)).setCell ⟨g, 3, none⟩ (.string q))) :
    bodyPost Try.prog fn R .ret { tmps := tmps, defers := [] } ((((w.setCell ⟨g, 0, none⟩ (.int .i64 a)).setCell ⟨g, 1, none⟩ (.int .i64 b)).setCell ⟨g, 2, none⟩ (.int .i64 c)).setCell ⟨g, 3, none⟩ (.string q)) := by
  refine bodyPost_ret (results_cell1 hr hp ?_) rfl hR
  exact run_loadVar_row _ _ 63 63 _ (0, 0) _ (frow_set _ (frow_set _ (frow_set _ (frow_set _ hk)))) Try.underlying63 rfl infoV
theorem below4 {B : Nat} {w w' : World} {g : Nat} (h : Below B w w') (hg : B ≤ g) (a b c d : Value) : Below B w ((((w'.setCell ⟨g, 0, none⟩ a).setCell ⟨g, 1, none⟩ b).setCell ⟨g, 2, none⟩ c).setCell ⟨g, 3, none⟩ d) :=
  (((h.setCell hg _).setCell hg _).setCell hg _).setCell hg _
set_option maxRecDepth 20000 in
set_option maxHeartbeats 2000000 in
theorem sendBack_any (T own : Nat) (ho : own < 4294967296) (l : List UInt8) (hl : l.length = 20) (s : ByteArray) (hs : s.size ≤ 1000000) (r : Int) (w : World) (hT : w.cell? ⟨T, 2, none⟩ = some (.int .u32 own)) :
    Calls Try.prog 53 #[.pointer (some ⟨T, 0, none⟩), pv l s, .int .i64 r] w fun e w' => e = .returned (vV (ansV l s.data.toList own r)) ∧ Below w.heap.size w w' := by
  have HV := Lib.hid (fun o => ldW hl (al1 w (.cells (pc l s) 100) o))
  have HM := Lib.hid (fun w => may_any l hl s hs w)
  have HA := Lib.hid (fun w => answer_any l hl s hs own ho r w)
  have hTl := World.block_lt_of_cell? w _ hT
  obtain ⟨t, n, ht, hn, hA, hS⟩ := let_tq
  have HLc := Lib.hid (fun (w : World) (b : Nat) (h : w.heap[b]? = some (Obj.cells (pc l s) 100)) => show (loadCellsFrom ⟨b, 0, none⟩ 0 n #[]).run Try.prog w = .ok (pc l s) w by rw [hn]; exact ldcW hl h)
  obtain ⟨V, hV⟩ : ∃ V, ansV l s.data.toList own r = V := ⟨_, rfl⟩
  rw [hV]
  unfold ansV at hV
  generalize sealL (ansZ l own (noteL (kindB r) (l ++ s.data.toList.take 8)).length) ++ noteL (kindB r) (l ++ s.data.toList.take 8) = out at *
  generalize mayB l s.data.toList = m at *
  unfold pv at *
  generalize pc l s = C at *
  go_enter Try.func53, Try.ntmps53
  go_wp2_with ((with_reducible refine wpL_load ?_ (HV.out _) ?_); exact rfl)
  refine (HM.out _).mono ?_
  rintro e w2 ⟨rfl, hb2⟩
  have hk0 := row_below hb2 (al1 w _ _) (by rw [sz1, sz1]; omega)
  have hk1 := row_below hb2 (al2 w _ _) (by rw [sz1, sz1]; omega)
  have hB2 := (two_al w _ _).trans (hb2.mono (by rw [sz1, sz1]; omega))
  have HB2 := Lib.hid hB2
  have HK1 := Lib.hid hk1
  have cT : w2.cell? ⟨T, 2, none⟩ = some (.int .u32 own) := (hB2.cell (p := ⟨T, 2, none⟩) hTl).trans hT
  clear hb2 hB2 HV HM
  by_cases hm : m = true
  case neg =>
    rw [if_neg hm] at hV
    obtain rfl : m = false := by simpa using hm
    have k0 := cl20 hk1 (j := 0) rfl
    have k1 := cl20 hk1 (j := 1) rfl
    have k2 := cl20 hk1 (j := 2) rfl
    have k3 := cl20 hk1 (j := 3) rfl
    have f0 := froz_row (j := 0) hk1
    have f1 := froz_row (j := 1) hk1
    have f2 := froz_row (j := 2) hk1
    have f3 := froz_row (j := 3) hk1
    clear hk0 hk1 ht hn
    subst hV
    go_wp2_with fail
    exact bodyV rfl rfl HK1.out ⟨rfl, below4 HB2.out (Nat.le_succ _) _ _ _ _⟩
  subst hm
  rw [if_pos rfl] at hV
  have hld := HLc.out w2.drew _ hk0
  clear hk0 hk1 HLc
  go_wp2_with fail
  rw [show (Op.load 100 (.tmp 4)) = Op.load t (.tmp 4) by rw [ht]]
  clear ht hn
  go_region_with (go_at_call 84; refine (HA.out _).mono ?_; rintro e w3 ⟨q, rfl, hq, hb3⟩; have HK3 := Lib.hid (row_below hb3 HK1.out ((Array.getElem?_eq_some_iff.1 HK1.out).1)); have HB3 := Lib.hid (HB2.out.drew.trans (hb3.mono HB2.out.size)); have k0 := cl20 HK3.out (j := 0) rfl; have k1 := cl20 HK3.out (j := 1) rfl; have k2 := cl20 HK3.out (j := 2) rfl; have k3 := cl20 HK3.out (j := 3) rfl; have f0 := froz_row (j := 0) HK3.out; have f1 := froz_row (j := 1) HK3.out; have f2 := froz_row (j := 2) HK3.out; have f3 := froz_row (j := 3) HK3.out; have Hq := Lib.hid hq; clear hb3 hq)
  all_goals
    go_wp2_with fail
    subst hV
    exact bodyV rfl rfl HK3.out ⟨by rw [← ba_of Hq.out]; rfl, below4 HB3.out (Nat.le_succ _) _ _ _ _⟩
end Go.Proofs.Ytnfkgnjeamnhfab
