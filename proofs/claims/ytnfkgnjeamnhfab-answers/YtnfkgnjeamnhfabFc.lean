import Derived.Test.YtnfkgnjeamnhfabFb
namespace Go.Proofs.Ytnfkgnjeamnhfab
open Go.RowKit

theorem ld20 {w : World} {b : Nat} {C : Array Value} {t : TypeId} (h : w.heap[b]? = some (.cells C t)) (hC : C.size = 20) : (loadCellsFrom ⟨b, 0, none⟩ 0 20 #[]).run Try.prog w = .ok C w := by
  have := run_loadCells_list (P := Try.prog) w ⟨b, 0, none⟩ C.toList (fun j v hv => by
    rw [Lib.add_plain, Nat.zero_add, cell_of_row _ _ j C t (0, 0) h]
    simpa using hv)
  simpa [loadCells, hC] using this
theorem cl20 {w : World} {b : Nat} {C : Array Value} {t : TypeId} (h : w.heap[b]? = some (.cells C t)) {j : Nat} {v : Value} (hv : C[j]? = some v) : w.cell? ⟨b, j, none⟩ = some v := by
  rw [cell_of_row _ _ j C t (0, 0) h]; exact hv
theorem hc_size {l : List UInt8} : (hc l).size = l.length := by simp [hc]
theorem hc_at {l : List UInt8} (hl : l.length = 20) {j : Nat} (hj : j < 20) : (hc l)[j]? = some (.int .u8 (g1 l j : Nat)) := by
  simp [hc, g1, List.getD_eq_getElem?_getD, show j < l.length by omega]
theorem at_of {C : Array Value} {j : Nat} {v : Value} (h : C[j]? = some v) (hj : j < C.size) : C[j] = v := by
  rw [Array.getElem?_eq_getElem hj] at h; exact Option.some.inj h
theorem fold20 {C : Array Value} (h : C.size = 20) : #[C[0], C[1], C[2], C[3], C[4], C[5], C[6], C[7], C[8], C[9], C[10], C[11], C[12], C[13], C[14], C[15], C[16], C[17], C[18], C[19]] = C := by
  apply Array.ext
  · simp [h]
  · intro i h1 h2
    have : i < 20 := by simpa using h1
    rcases i with _ | _ | _ | _ | _ | _ | _ | _ | _ | _ | _ | _ | _ | _ | _ | _ | _ | _ | _ | _ | i <;> first | rfl | omega
theorem cells20 {w : World} {b : Nat} {C : Array Value} {t : TypeId} (h : w.heap[b]? = some (.cells C t)) (hC : C.size = 20) : w.cell? ⟨b, 0, none⟩ = some C[0] ∧ w.cell? ⟨b, 1, none⟩ = some C[1] ∧ w.cell? ⟨b, 2, none⟩ = some C[2] ∧ w.cell? ⟨b, 3, none⟩ = some C[3] ∧ w.cell? ⟨b, 4, none⟩ = some C[4] ∧ w.cell? ⟨b, 5, none⟩ = some C[5] ∧ w.cell? ⟨b, 6, none⟩ = some C[6] ∧ w.cell? ⟨b, 7, none⟩ = some C[7] ∧ w.cell? ⟨b, 8, none⟩ = some C[8] ∧ w.cell? ⟨b, 9, none⟩ = some C[9] ∧ w.cell? ⟨b, 10, none⟩ = some C[10] ∧ w.cell? ⟨b, 11, none⟩ = some C[11] ∧ w.cell? ⟨b, 12, none⟩ = some C[12] ∧ w.cell? ⟨b, 13, none⟩ = some C[13] ∧ w.cell? ⟨b, 14, none⟩ = some C[14] ∧ w.cell? ⟨b, 15, none⟩ = some C[15] ∧ w.cell? ⟨b, 16, none⟩ = some C[16] ∧ w.cell? ⟨b, 17, none⟩ = some C[17] ∧ w.cell? ⟨b, 18, none⟩ = some C[18] ∧ w.cell? ⟨b, 19, none⟩ = some C[19] := by
  have k : ∀ j (hj : j < C.size), w.cell? ⟨b, j, none⟩ = some C[j] := fun j hj => cl20 h (Array.getElem?_eq_getElem hj)
  exact ⟨k 0 _, k 1 _, k 2 _, k 3 _, k 4 _, k 5 _, k 6 _, k 7 _, k 8 _, k 9 _, k 10 _, k 11 _, k 12 _, k 13 _, k 14 _, k 15 _, k 16 _, k 17 _, k 18 _, k 19 _⟩
/-- A whole array is loaded, in one step. -/
theorem wpL_load {P : Program} {ops : Array Oper} {Q : Exit → Act → World → Prop} {a : Act} {w : World} {rest : List Oper} {d s : Tmp} {t ty : TypeId} {pos : String} {after : Array Edge} {p : Addr} {v : Value} (hs : a.eval (.tmp s) = .pointer (some p)) (hr : (loadVar t p).run P w = .ok v w) (h : wpList P ops Q rest (a.put (some d) v) w) :
    wpList P ops Q (⟨some d, .load t (.tmp s), ty, pos, after, none⟩ :: rest) a w :=
  wpList_plain rfl (fun K hK => by
    have e : (execOp a.eval ⟨some d, .load t (.tmp s), ty, pos, after, none⟩).run P w = .ok (.value v) w := by
      simp [execOp, hs, Instr.loadAt, Instr.sureAddr, hr, Result.andThen]
    unfold Oper.wp
    rw [e]
    exact hK _ _ h)
theorem infoH : (Try.prog.info? 98).map (·.size) = some 20 := by kernel_rfl
theorem ldV {w : World} {b : Nat} {C : Array Value} (h : w.heap[b]? = some (.cells C 98)) (hC : C.size = 20) : (loadVar 98 ⟨b, 0, none⟩).run Try.prog w = .ok (.agg C) w :=
  run_loadVar_row _ _ 98 98 C (0, 0) _ h Try.underlying98 rfl (by rw [hC]; exact infoH)
/-- What is wrong with a head. -/
def fltN (l : List UInt8) (size : Nat) : Nat :=
  if g1 l 0 / 16 ≠ 4 then 2 else if g1 l 0 % 16 ≠ 5 then 3 else if g2 l 2 < 20 ∨ size < g2 l 2 then 4 else if ck l ≠ 0 then 5 else if mart (g1 l 12) = true then 6 else if mart (g1 l 16) = true then 6 else 0
set_option maxRecDepth 20000 in
set_option maxHeartbeats 2000000 in
theorem fault_any (l : List UInt8) (hl : l.length = 20) (n : Nat) (w : World) : Calls Try.prog 77 #[hv l, .int .i64 n] w fun e w' => e = .returned (.int .i64 (fltN l n : Nat)) ∧ Below w.heap.size w w' := by
  obtain ⟨z, hz⟩ : ∃ z, fltN l n = z := ⟨_, rfl⟩
  rw [hz]
  have HL := Lib.hid (fun w => length_any l hl w)
  have HT := Lib.hid (fun w => text_any l hl w)
  have HC := Lib.hid (fun w => checksum_any ⟨l.toArray⟩ w (by simp [ByteArray.size, hl]))
  have HM := Lib.hid isMartian_any
  unfold fltN at hz
  have h15 := and15 (g1 l 0) (g1_lt l 0)
  have hck := ck_lt l
  have e0 := hc_at hl (show 0 < 20 by decide)
  have e12 := hc_at hl (show 12 < 20 by decide)
  have e16 := hc_at hl (show 16 < 20 by decide)
  have HCs := Lib.hid (show (hc l).size = 20 by rw [hc_size, hl])
  have hy : g2 l 2 < 65536 := by have := g1_lt l 2; have := g1_lt l (2 + 1); unfold g2; omega
  have hb0 := g1_lt l 0
  simp only [hv] at *
  generalize ck l = c at *
  generalize g2 l 2 = y at *
  generalize g1 l 0 = b0 at *
  generalize g1 l 12 = b12 at *
  generalize g1 l 16 = b16 at *
  generalize hc l = C at *
  have HV := Lib.hid (ldV (heap_alloc_last w (.cells C 98)) HCs.out)
  go_enter Try.func77, Try.ntmps77
  by_cases h1 : b0 / 16 = 4
  case neg =>
    rw [if_pos h1] at hz
    have q1 : ((b0 : Int) / 16 != 4) = true := by simp; omega
    subst hz
    go_wp2_with fail
    go_ret
    exact ⟨rfl, below1 _ _⟩
  rw [if_neg (by omega)] at hz
  have q1 : ((b0 : Int) / 16 != 4) = false := by simp; omega
  by_cases h2 : b0 % 16 = 5
  case neg =>
    rw [if_pos h2] at hz
    have q2 : ((b0 : Int) % 16 != 5) = true := by simp; omega
    subst hz
    go_wp2_with fail
    go_ret
    exact ⟨rfl, below1 _ _⟩
  rw [if_neg (by omega)] at hz
  have q2 : ((b0 : Int) % 16 != 5) = false := by simp; omega
  go_wp2_with ((with_reducible refine wpL_load ?_ HV.out ?_); exact rfl)
  refine (HL.out _).mono ?_
  rintro e w2 ⟨rfl, hw2⟩
  have HB2 := Lib.hid (show Below w.heap.size w w2 by rw [hw2]; exact (below1 _ _).trans ((below1 _ _).mono (by simp)))
  have HK2 := Lib.hid (show w2.heap[w.heap.size]? = some (.cells C 98) by rw [hw2, Below.heap_alloc _ _ _ (by simp)]; exact heap_alloc_last w _)
  clear hw2 HL HV e0
  by_cases h3 : y < 20 ∨ n < y
  case pos =>
    rw [if_pos h3] at hz
    subst hz
    by_cases h4 : y < 20
    case' pos => have q3 : (y : Int) < 20 := by omega
    case' neg =>
      have q3 : ¬ (y : Int) < 20 := by omega
      have q4 : (n : Int) < (y : Int) := by omega
    all_goals
      go_wp2_with fail
      go_ret
      exact ⟨rfl, HB2.out⟩
  rw [if_neg h3] at hz
  have q3 : ¬ (y : Int) < 20 := by omega
  have q4 : ¬ (n : Int) < (y : Int) := by omega
  have HV := Lib.hid (ldV HK2.out HCs.out)
  go_wp2_with ((with_reducible refine wpL_load ?_ HV.out ?_); exact rfl)
  refine (HT.out _).mono ?_
  rintro e w3 ⟨rfl, hw3⟩
  have HB3 := Lib.hid (show Below w.heap.size w w3 by rw [hw3]; exact HB2.out.trans ((below1 _ _).mono HB2.out.size))
  have hlt := (Array.getElem?_eq_some_iff.1 HK2.out).1
  have hk3 : w3.heap[w.heap.size]? = some (.cells C 98) := by rw [hw3, Below.heap_alloc _ _ _ hlt]; exact HK2.out
  have d12 := cl20 hk3 e12
  have d16 := cl20 hk3 e16
  clear hw3 HT HK2 HB2 hk3 e12 e16 hlt HV
  go_wp2_with fail
  refine (HC.out _).mono ?_
  rintro e w4 ⟨rfl, rfl⟩
  by_cases h5 : c = 0
  case neg =>
    rw [if_pos h5] at hz
    subst hz
    have q5 : ((c : Int) != 0) = true := by simp; omega
    go_wp2_with fail
    go_ret
    exact ⟨rfl, HB3.out⟩
  rw [if_neg (by omega)] at hz
  subst h5
  go_wp2_with fail
  refine (HM.out _ _).mono ?_
  rintro e w5 ⟨rfl, rfl⟩
  by_cases h6 : mart b12 = true
  case pos =>
    rw [if_pos h6] at hz
    subst hz
    rw [h6]
    go_wp2_with fail
    go_ret
    exact ⟨rfl, HB3.out⟩
  rw [if_neg h6] at hz
  rw [Bool.eq_false_iff.2 h6]
  go_wp2_with fail
  refine (HM.out _ _).mono ?_
  rintro e w6 ⟨rfl, rfl⟩
  by_cases h7 : mart b16 = true
  case pos =>
    rw [if_pos h7] at hz
    subst hz
    rw [h7]
    go_wp2_with fail
    go_ret
    exact ⟨rfl, HB3.out⟩
  rw [if_neg h7] at hz
  subst hz
  rw [Bool.eq_false_iff.2 h7]
  go_wp2_with fail
  go_ret
  exact ⟨rfl, HB3.out⟩
end Go.Proofs.Ytnfkgnjeamnhfab
