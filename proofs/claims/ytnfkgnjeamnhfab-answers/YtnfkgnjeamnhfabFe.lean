import Derived.Test.YtnfkgnjeamnhfabFd
import Derived.Deep.MidRow
import Derived.Deep.RegionWith
namespace Go.Proofs.Ytnfkgnjeamnhfab
open Go.RowKit

/-- A packet in memory: its head, its body. -/
def pc (l : List UInt8) (s : ByteArray) : Array Value := (hc l).push (.string s)
def pv (l : List UInt8) (s : ByteArray) : Value := .agg (pc l s)
theorem pc_size {l : List UInt8} {s : ByteArray} (hl : l.length = 20) : (pc l s).size = 21 := by simp [pc, hc_size, hl]
theorem pc_at {l : List UInt8} {s : ByteArray} (hl : l.length = 20) {j : Nat} (hj : j < 20) : (pc l s)[j]? = some (.int .u8 (g1 l j : Nat)) := by
  unfold pc
  rw [Array.getElem?_push_lt (by rw [hc_size, hl]; exact hj), ← Array.getElem?_eq_getElem]
  exact hc_at hl hj
theorem pc_body {l : List UInt8} {s : ByteArray} (hl : l.length = 20) : (pc l s)[20]? = some (.string s) := by
  unfold pc
  have : (hc l).size = 20 := by rw [hc_size, hl]
  rw [← this]; simp
theorem ldP {w : World} {b : Nat} {l : List UInt8} {s : ByteArray} (hl : l.length = 20) (h : w.heap[b]? = some (.cells (pc l s) 100)) : (loadVar 98 ⟨b, 0, none⟩).run Try.prog w = .ok (hv l) w := by
  have := run_loadVar_mid (P := Try.prog) w b 0 98 (hc l).toList _ (fun j v hv => by
    rw [Nat.zero_add]
    have hj : j < 20 := by have := (List.getElem?_eq_some_iff.1 hv).1; simpa [hc_size, hl] using this
    have e := hc_at hl hj
    rw [cl20 h (pc_at hl hj)]
    rw [Array.getElem?_toList] at hv
    rw [← hv, e]) Try.underlying98 rfl (by rw [Array.length_toList, hc_size, hl]; exact infoH)
  simpa [hv] using this
theorem infoP : (Try.prog.info? 100).map (·.size) = some 21 := by kernel_rfl
theorem ldW {w : World} {b : Nat} {l : List UInt8} {s : ByteArray} (hl : l.length = 20) (h : w.heap[b]? = some (.cells (pc l s) 100)) : (loadVar 100 ⟨b, 0, none⟩).run Try.prog w = .ok (pv l s) w :=
  run_loadVar_row _ _ 100 100 _ (0, 0) _ h Try.underlying100 rfl (by rw [pc_size hl]; exact infoP)
/-- May a packet be answered? b: its body. -/
def mayB (l : List UInt8) (b : List UInt8) : Bool := if g2 l 6 % 8192 = 0 then (if g1 l 9 ≠ 1 ∨ b.length = 0 then true else decide (g1 b 0 = 0 ∨ g1 b 0 = 8)) else false
theorem canGoOn_any (l : List UInt8) (hl : l.length = 20) (s : ByteArray) (w : World) : Calls Try.prog 55 #[pv l s] w fun e w' => e = .returned (.bool (decide (1 < g1 l 8))) ∧ Below w.heap.size w w' := by
  have e8 := pc_at (s := s) hl (show 8 < 20 by decide)
  unfold pv
  generalize pc l s = C at *
  generalize g1 l 8 = x at *
  go_enter Try.func55, Try.ntmps55
  go_wp2
  go_ret
  exact ⟨fret_bool (by simp; omega), below1 _ _⟩
theorem messageOf_any (r : Int) (w : World) : Calls Try.prog 98 #[.int .i64 r] w fun e w' => e = .returned (.int .u8 (if r = 8 then 11 else 3)) ∧ w' = w := by
  go_enter Try.func98, Try.ntmps98
  by_cases h : r = 8
  · subst h
    go_wp2
    go_ret
    exact ⟨rfl, rfl⟩
  · rw [if_neg h]
    have q : (r == 8) = false := ine_beq h
    go_wp2
    go_ret
    exact ⟨rfl, rfl⟩
theorem flow_any (l : List UInt8) (hl : l.length = 20) (s : ByteArray) (w : World) : Calls Try.prog 51 #[pv l s] w fun e w' => e = .returned (.int .u64 (bits .xor .u64 (bits .xor .u64 ((g4 l 12 : Nat) * 4294967296 : Int) (g4 l 16 : Nat)) ((g1 l 9 : Nat) * 72057594037927936 : Int))) ∧ Below w.heap.size w w' := by
  have e9 := pc_at (s := s) hl (show 9 < 20 by decide)
  have HV := Lib.hid (ldP hl (heap_alloc_last w (.cells (pc l s) 100)))
  have HS := Lib.hid (fun w => source_any l hl w)
  have HT := Lib.hid (fun w => target_any l hl w)
  have HL := Lib.hid (fun (w : World) (b : Nat) (h : w.heap[b]? = some (Obj.cells (pc l s) 100)) => ldP hl h)
  have h9 := g1_lt l 9
  have h12 : g4 l 12 < 4294967296 := by have := g1_lt l 12; have := g1_lt l (12 + 1); have := g1_lt l (12 + 2); have := g1_lt l (12 + 3); unfold g4; omega
  unfold pv
  generalize pc l s = C at *
  generalize g1 l 9 = x at *
  generalize g4 l 12 = y at *
  generalize g4 l 16 = z at *
  generalize hv l = H at *
  go_enter Try.func51, Try.ntmps51
  go_wp2_with ((with_reducible refine wpL_load ?_ HV.out ?_); exact rfl)
  refine (HS.out _).mono ?_
  rintro e w2 ⟨rfl, hb2⟩
  have HK2 := Lib.hid (row_below hb2 (heap_alloc_last w _) (by rw [sz1]; omega))
  have HB2 := Lib.hid ((below1 w _).trans (hb2.mono (by rw [sz1]; omega)))
  have HV2 := Lib.hid (HL.out _ _ HK2.out)
  clear hb2 HV HS
  go_wp2_with ((with_reducible refine wpL_load ?_ HV2.out ?_); exact rfl)
  refine (HT.out _).mono ?_
  rintro e w3 ⟨rfl, hb3⟩
  have d9 := cl20 (row_below hb3 HK2.out ((Array.getElem?_eq_some_iff.1 HK2.out).1)) e9
  have HB3 := Lib.hid (HB2.out.trans (hb3.mono HB2.out.size))
  clear hb3 HV2 HT HL HK2 e9
  go_wp2
  go_ret
  exact ⟨rfl, HB3.out⟩
theorem infoA : (Try.prog.info? 25).map (·.size) = some 3 := by kernel_rfl
theorem ptarget_any (l : List UInt8) (hl : l.length = 20) (s : ByteArray) (w : World) : Calls Try.prog 50 #[pv l s] w fun e w' => e = .returned (.agg #[.int .i64 4, .int .u64 0, .int .u64 (g4 l 16 : Nat)]) ∧ Below w.heap.size w w' := by
  have HV := Lib.hid (fun o => ldP hl (al1 w (.cells (pc l s) 100) o))
  have HT := Lib.hid (fun w => target_any l hl w)
  unfold pv
  generalize pc l s = C at *
  generalize g4 l 16 = z at *
  generalize hv l = H at *
  go_enter Try.func50, Try.ntmps50
  go_wp2_with ((with_reducible refine wpL_load ?_ (HV.out _) ?_); exact rfl)
  refine (HT.out _).mono ?_
  rintro e w2 ⟨rfl, hb2⟩
  have hk2 := row_below hb2 (al2 w _ _) (by rw [sz1, sz1]; omega)
  have k0 := cl20 hk2 (j := 0) rfl
  have k1 := cl20 hk2 (j := 1) rfl
  have k2 := cl20 hk2 (j := 2) rfl
  have f0 := froz_row (j := 0) hk2
  have f1 := froz_row (j := 1) hk2
  have f2 := froz_row (j := 2) hk2
  have HB2 := Lib.hid ((two_al w _ _).trans (hb2.mono (by rw [sz1, sz1]; omega)))
  have HK2 := Lib.hid hk2
  clear hb2 HV HT hk2
  go_wp2_with fail
  refine bodyPost_ret (v := .agg #[.int .i64 4, .int .u64 0, .int .u64 (z : Nat)]) (results_cell1 rfl rfl ?_) rfl ⟨rfl, ((HB2.out.setCell (Nat.le_succ _) _).setCell (Nat.le_succ _) _).setCell (Nat.le_succ _) _⟩
  exact run_loadVar_row _ _ 25 25 _ (0, 0) _ (frow_set _ (frow_set _ (frow_set _ HK2.out))) Try.underlying25 rfl infoA
/-- The trick for a region that draws: the type's number and the array's length are letters. -/
theorem let_ty : ∃ (t : TypeId) (n : Nat), t = 98 ∧ n = 20 ∧ (∀ w, (isAgg t).run Try.prog w = .ok true w) ∧ (∀ w, (sizeOf t).run Try.prog w = .ok n w) :=
  ⟨98, 20, rfl, rfl, fun w => by simp, fun w => by simp⟩
theorem ldc {w : World} {b : Nat} {l : List UInt8} {s : ByteArray} (hl : l.length = 20) (h : w.heap[b]? = some (.cells (pc l s) 100)) : (loadCellsFrom ⟨b, 0, none⟩ 0 20 #[]).run Try.prog w = .ok (hc l) w := by
  have := run_loadCells_list (P := Try.prog) w ⟨b, 0, none⟩ (hc l).toList (fun j v hv => by
    rw [Lib.add_plain, Nat.zero_add]
    have hj : j < 20 := by have := (List.getElem?_eq_some_iff.1 hv).1; simpa [hc_size, hl] using this
    have e := hc_at hl hj
    rw [cl20 h (pc_at hl hj)]
    rw [Array.getElem?_toList] at hv
    rw [← hv, e])
  simpa [loadCells, hc_size, hl] using this
theorem ptext_any (l : List UInt8) (hl : l.length = 20) (s : ByteArray) (hs : s.size ≤ 1000000) (w : World) : Calls Try.prog 54 #[pv l s] w fun e w' => e = .returned (.string (⟨l.toArray⟩ ++ s)) ∧ Below w.heap.size w w' := by
  obtain ⟨t, n, ht, hn, hA, hS⟩ := let_ty
  have hq : ¬ 9223372036854775807 < 20 + s.size := by omega
  have HT := Lib.hid (fun w => text_any l hl w)
  have e20 := pc_body (s := s) hl
  have hld : (loadCellsFrom ⟨w.heap.size, 0, none⟩ 0 n #[]).run Try.prog (w.alloc (.cells (pc l s) 100)).drew = .ok (hc l) (w.alloc (.cells (pc l s) 100)).drew := by
    rw [hn]; exact ldc hl (heap_alloc_last w _)
  unfold pv
  unfold hv at *
  generalize pc l s = C at *
  generalize hc l = H at *
  go_enter Try.func54, Try.ntmps54
  go_wp2_with fail
  rw [show (Op.load 98 (.tmp 3)) = Op.load t (.tmp 3) by rw [ht]]
  clear ht hn
  go_region_with (go_at_call 85; refine (HT.out _).mono ?_; rintro e w2 ⟨rfl, rfl⟩)
  all_goals
    go_wp2_with fail
    go_ret
    exact ⟨rfl, (two_al w _ _).drew⟩
theorem g1_b {s : ByteArray} {i : Nat} (h : i < s.size) : g1 s.data.toList i = s[i].toNat := by
  unfold g1
  rw [List.getD_eq_getElem?_getD, bget h]; rfl
theorem may_any (l : List UInt8) (hl : l.length = 20) (s : ByteArray) (hs : s.size ≤ 1000000) (w : World) : Calls Try.prog 83 #[pv l s] w fun e w' => e = .returned (.bool (mayB l s.data.toList)) ∧ Below w.heap.size w w' := by
  have HV := Lib.hid (ldP hl (heap_alloc_last w (.cells (pc l s) 100)))
  have HP := Lib.hid (fun w => part_any l hl w)
  have e9 := pc_at (s := s) hl (show 9 < 20 by decide)
  have e20 := pc_body (s := s) hl
  have h9 := g1_lt l 9
  obtain ⟨r, hr⟩ : ∃ r, mayB l s.data.toList = r := ⟨_, rfl⟩
  rw [hr]
  unfold mayB at hr
  unfold pv
  generalize pc l s = C at *
  generalize g1 l 9 = x at *
  generalize g2 l 6 % 8192 = y at *
  generalize hv l = H at *
  go_enter Try.func83, Try.ntmps83
  go_wp2_with ((with_reducible refine wpL_load ?_ HV.out ?_); exact rfl)
  refine (HP.out _).mono ?_
  rintro e w2 ⟨rfl, hb2⟩
  have hk2 := row_below hb2 (heap_alloc_last w _) (by rw [sz1]; omega)
  have d9 := cl20 hk2 e9
  have d20 := cl20 hk2 e20
  have HB2 := Lib.hid ((below1 w _).trans (hb2.mono (by rw [sz1]; omega)))
  clear hb2 hk2 HV HP e9 e20
  by_cases h1 : y = 0
  case neg =>
    rw [if_neg h1] at hr
    subst hr
    have q1 : ((y : Int) != 0) = true := by simp; omega
    go_wp2_with fail
    go_ret
    exact ⟨rfl, HB2.out⟩
  subst h1
  rw [if_pos rfl] at hr
  by_cases h2 : x = 1
  case neg =>
    rw [if_pos (.inl h2)] at hr
    subst hr
    have q1 : ((x : Int) != 1) = true := by simp; omega
    go_wp2_with fail
    go_ret
    exact ⟨rfl, HB2.out⟩
  subst h2
  by_cases h3 : s.size = 0
  case pos =>
    rw [if_pos (.inr (by simpa using h3))] at hr
    subst hr
    go_wp2_with fail
    go_ret
    exact ⟨rfl, HB2.out⟩
  rw [if_neg (by rw [blen]; omega), g1_b (show 0 < s.size by omega)] at hr
  subst hr
  have q3 : 0 < s.size := by omega
  have q4 : ((s.size : Int) == 0) = false := ine_beq (by omega)
  go_wp2_with fail
  all_goals
    go_ret
    exact ⟨fret_bool (by rw [Bool.eq_iff_iff]; simp; omega), HB2.out⟩
end Go.Proofs.Ytnfkgnjeamnhfab
