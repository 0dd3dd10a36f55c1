import Derived.Test.YtnfkgnjeamnhfabFf
namespace Go.Proofs.Ytnfkgnjeamnhfab
open Go.RowKit

/-- A head whose life is less by one. -/
def lessL (l : List UInt8) : List UInt8 := l.set 8 (UInt8.ofNat (g1 l 8 - 1))
theorem lessL_len {l : List UInt8} : (lessL l).length = l.length := by simp [lessL]
theorem hc_less {l : List UInt8} (h : 1 < g1 l 8) : (hc l).setIfInBounds 8 (.int .u8 ((g1 l 8 : Nat) - 1 : Int)) = hc (lessL l) := by
  have h1 := hc_set l 8 (UInt8.ofNat (g1 l 8 - 1))
  have h2 := g1_lt l 8
  rw [show ((UInt8.ofNat (g1 l 8 - 1)).toNat : Int) = ((g1 l 8 : Nat) - 1 : Int) by simp; omega] at h1
  exact h1
set_option maxRecDepth 20000 in
set_option maxHeartbeats 1000000 in
theorem older_any (l : List UInt8) (hl : l.length = 20) (h1 : 1 < g1 l 8) (s : ByteArray) (hs : s.size ≤ 1000000) (w : World) : Calls Try.prog 56 #[pv l s] w fun e w' => e = .returned (.string (⟨(sealL (lessL l)).toArray⟩ ++ s)) ∧ Below w.heap.size w w' := by
  obtain ⟨t, n, ht, hn, hA, hS⟩ := let_ty
  have hq : ¬ 9223372036854775807 < 20 + s.size := by omega
  have hl1 : (lessL l).length = 20 := lessL_len.trans hl
  have hl2 : (sealL (lessL l)).length = 20 := sealL_len.trans hl1
  have HV := Lib.hid (ldP hl (heap_alloc_last w (.cells (pc l s) 100)))
  have HS := Lib.hid (run_storeVar_new (P := Try.prog) (w.alloc (.cells (pc l s) 100)) 98 #[.int .u8 0, .int .u8 0, .int .u8 0, .int .u8 0, .int .u8 0, .int .u8 0, .int .u8 0, .int .u8 0, .int .u8 0, .int .u8 0, .int .u8 0, .int .u8 0, .int .u8 0, .int .u8 0, .int .u8 0, .int .u8 0, .int .u8 0, .int .u8 0, .int .u8 0, .int .u8 0] (hc l) (by rw [hc_size, hl]; exact infoH) (by rw [hc_size, hl]; rfl) (hc_one l))
  have HV2 := Lib.hid (ldV (al2 w (.cells (pc l s) 100) (.cells (hc (lessL l)) 98)) (by rw [hc_size, hl1]))
  have HX := Lib.hid (fun w => sealed_any (lessL l) hl1 w)
  have HT := Lib.hid (fun w => text_any (sealL (lessL l)) hl2 w)
  have hC2 := hc_less h1
  have e8 := hc_at hl (show 8 < 20 by decide)
  have hsz : (hc l).size = 20 := by rw [hc_size, hl]
  have e20 := pc_body (s := s) hl
  have HStV := Lib.hid (fun (w : World) (b : Nat) (C : Array Value) (h : w.heap[b]? = some (Obj.cells C 98)) (hC : C.size = 20) => stV (l := sealL (lessL l)) h hC hl2)
  have HLd := Lib.hid (show ∀ (w : World) (b : Nat), w.heap[b]? = some (Obj.cells (hc (sealL (lessL l))) 98) → (loadCellsFrom ⟨b, 0, none⟩ 0 n #[]).run Try.prog w = .ok (hc (sealL (lessL l))) w from fun w b h => by rw [hn]; exact ld20 h (by rw [hc_size, hl2]))
  have hsz1 : (hc (lessL l)).size = 20 := by rw [hc_size, hl1]
  have hw8 : IntKind.u8.wrap ((g1 l 8 : Nat) - 1 : Int) = ((g1 l 8 : Nat) - 1 : Int) := by have := g1_lt l 8; simp [IntKind.wrap, IntKind.bits, IntKind.signed]; omega
  have HH1 := Lib.hid hsz1
  rw [sz1] at HS
  unfold hv at *
  unfold pv
  generalize pc l s = C at *
  generalize g1 l 8 = x at *
  generalize hc (lessL l) = C1 at *
  generalize sealL (lessL l) = l2 at *
  generalize hc l = C0 at *
  generalize hc l2 = C2 at *
  have a8 := at_of e8 (by omega)
  clear hl1 hsz1 e8
  go_enter Try.func56, Try.ntmps56
  go_wp2_with (first | ((with_reducible refine wpL_load ?_ HV.out ?_); exact rfl) | ((with_reducible refine wpL_store ?_ ?_ HS.out ?_); exact rfl; exact rfl) | ((with_reducible refine wpL_load ?_ HV2.out ?_); exact rfl))
  refine (HX.out _).mono ?_
  rintro e w3 ⟨rfl, hb3⟩
  have HB3 := Lib.hid ((two_al w _ _).trans (hb3.mono (by rw [sz1, sz1]; omega)))
  have hk0 := row_below hb3 (al1 w _ _) (by rw [sz1, sz1]; omega)
  have hk1 := row_below hb3 (al2 w _ _) (by rw [sz1, sz1]; omega)
  have HS3 := Lib.hid (HStV.out w3 _ _ hk1 HH1.out)
  obtain ⟨w4, hw4⟩ : ∃ w4, w4 = w3.setRow (w.heap.size + 1) C2 := ⟨_, rfl⟩
  have HB4 := Lib.hid (show Below w.heap.size w w4 by rw [hw4]; exact fbelow_row _ HB3.out (Nat.le_succ _))
  have hk4 : w4.heap[w.heap.size + 1]? = some (.cells C2 98) := by rw [hw4]; exact setRow_heap _ _ _ _ _ _ hk1
  have hk5 : w4.heap[w.heap.size]? = some (.cells C 100) := by rw [hw4]; exact row_row _ hk0 (by omega)
  have HK5 := Lib.hid hk5
  have d20 := cl20 hk5 e20
  have hld := HLd.out w4.drew _ hk4
  rw [← hw4] at HS3
  clear hb3 hk0 hk1 hw4 hk4 hk5 HStV HLd HX HV HS HV2 hC2 a8 hsz
  go_wp2_with ((with_reducible refine wpL_store ?_ ?_ HS3.out ?_); exact rfl; exact rfl)
  rw [show (Op.load 98 (.tmp 3)) = Op.load t (.tmp 3) by rw [ht]]
  clear ht hn
  go_region_with (go_at_call 85; refine (HT.out _).mono ?_; rintro e w5 ⟨rfl, hw5⟩; have HB5 := Lib.hid (show Below w.heap.size w w5 by rw [hw5]; exact (HB4.out.drew).trans ((below1 _ _).mono HB4.out.size)); have d5 : w5.cell? ⟨w.heap.size, 20, none⟩ = some (.string s) := (by rw [hw5]; exact cl20 (row_below (below1 w4.drew _) HK5.out ((Array.getElem?_eq_some_iff.1 HK5.out).1)) e20); clear hw5)
  all_goals
    go_wp2_with fail
    go_ret
    exact ⟨rfl, HB5.out⟩
end Go.Proofs.Ytnfkgnjeamnhfab
