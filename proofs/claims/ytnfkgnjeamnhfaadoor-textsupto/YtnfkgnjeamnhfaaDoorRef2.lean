import Derived.Test.YtnfkgnjeamnhfaaDoorRef1
import Derived.Laws.Append
import Derived.Lib.ItoaMem
import Derived.OwnWalk
namespace Go.Proofs.YtnfkgnjeamnhfaaDoor
open Go.RowKit

/-- The bits of an address of V6. -/
def bits6 (hi lo : Nat) (j : Nat) : Nat := if j < 64 then bitN hi (63 - j) else bitN lo (127 - j)
theorem info3m : (Tryd.prog.info? 3).map (fun i => (i.size, i.bytes, i.zero)) = some (1, 8, some (.int .i64 0)) := by kernel_rfl
theorem info3 : ∃ i, Tryd.prog.info? 3 = some i ∧ i.size = 1 ∧ i.bytes = 8 ∧ i.zero = some (.int .i64 0) := by
  obtain ⟨i, hi, he⟩ := Option.map_eq_some_iff.1 info3m
  simp only [Prod.mk.injEq] at he
  exact ⟨i, hi, he.1, he.2.1, he.2.2⟩

set_option maxHeartbeats 1000000 in
theorem Bits4 (hi lo : Nat) (w : World) (hl : lo ≤ 18446744073709551615) :
    Calls Tryd.prog 18 #[addr 4 hi lo] w fun e w' => ∃ b, w.heap.size ≤ b ∧ b < w'.heap.size ∧ e = .returned (.slice (some ⟨b, 0, none⟩) 32 32) ∧ RowB w' b 32 (fun j => bitN lo (31 - j)) ∧ RowF w' b 32 ∧ Below w.heap.size w w' := by
  go_enter Tryd.func18, Tryd.ntmps18
  go_wp2_with (first | (go_at_call 31; refine (bits32 _ _ hl).mono ?_; rintro e w1 ⟨rfl, hz, hB, hF, hb⟩))
  have e1 : (w.alloc (.cells #[.int .i64 4, .int .u64 hi, .int .u64 lo] 24)).heap.size = w.heap.size + 1 := by simp
  rw [e1] at hz hB hF
  go_ret
  exact ⟨w.heap.size + 1, by omega, hz, rfl, hB, hF, ((Below.refl _ _).alloc (Nat.le_refl _) _).trans (hb.mono (by simp))⟩

/-- An append whose run is known. -/
theorem wpList_append_run {P : Program} {w w' : World} {v' : Value} {ops : Array Oper} {rest : List Oper} {o : Oper} {a : Act} {Q : Exit → Act → World → Prop} (hgd : o.guard = none) (s x : Operand) (t : TypeId)
    (ho : o.op = .call { callee := .builtin .append, args := #[s, x], argTypes := #[t, t] }) (v1 v2 : Value) (hs : a.eval s = v1) (hx : a.eval x = v2)
    (hr : (Builtin.append_ #[t, t] o.type #[v1, v2]).run P w = .ok v' w') (h : wpList P ops Q rest (a.put o.dst v') w') : wpList P ops Q (o :: rest) a w :=
  wpList_plain hgd fun _ hK => by
    unfold Oper.wp execOp
    simp only [ho, resolve, invoke, builtin, Sem.run_bind, Sem.run_pure, Result.andThen_ok, List.map_toArray, List.map_cons, List.map_nil, hs, hx, hr]
    exact hK _ _ h

/-- Two rows of 64 bits, appended. -/
theorem append64 (W : World) (b1 b2 : Nat) (f g : Nat → Nat) (h1 : RowB W b1 64 f) (h2 : RowB W b2 64 g) (ty : TypeId) :
    ∃ c cs, (Builtin.append_ #[46, 46] ty #[.slice (some ⟨b1, 0, none⟩) 64 64, .slice (some ⟨b2, 0, none⟩) 64 64]).run Tryd.prog W = .ok (.slice (some ⟨W.heap.size, 0, none⟩) 128 c) (W.drew.alloc (.cells cs 3)) ∧ (∀ j, j < 128 → cs[j]? = some (.int .i64 ((if j < 64 then f j else g (j - 64) : Nat) : Int))) ∧ 128 ≤ c := by
  obtain ⟨i, hi, hs, hby, hz⟩ := info3
  have r := run_append_grow (P := Tryd.prog) W 46 ty 3 i (.int .i64 0) Tryd.underlying46 hi hz ⟨b1, 0, none⟩ 64 64 ((List.range 64).map fun j => .int .i64 (f j : Int)) (by simp [hs]) (fun j v hv => by
      obtain ⟨hj, rfl⟩ : j < 64 ∧ Value.int .i64 (f j : Int) = v := by
        rw [List.getElem?_map] at hv
        by_cases hj : j < 64
        · simp [hj] at hv; exact ⟨hj, hv⟩
        · simp [hj] at hv
      rw [Lib.add_plain]
      simpa using h1 j hj) ⟨b2, 0, none⟩ 64 64 ((List.range 64).map fun j => .int .i64 (g j : Int)) (by simp [hs]) (fun j v hv => by
      obtain ⟨hj, rfl⟩ : j < 64 ∧ Value.int .i64 (g j : Int) = v := by
        rw [List.getElem?_map] at hv
        by_cases hj : j < 64
        · simp [hj] at hv; exact ⟨hj, hv⟩
        · simp [hj] at hv
      rw [Lib.add_plain]
      simpa using h2 j hj) (by decide) (by decide) (by rw [hby]; decide)
  refine ⟨_, _, r, ?_, grownCap_ge _ _ _ _⟩
  intro j hj
  by_cases h : j < 64
  · rw [Array.getElem?_append, if_pos (by simp; omega), Array.getElem?_append, if_pos (by simp; omega)]
    simp [h]
  · simp only [h, if_false]
    rw [Array.getElem?_append, if_pos (by simp; omega), Array.getElem?_append, if_neg (by simp; omega)]
    simp [show j - 64 < 64 by omega]

set_option maxHeartbeats 1000000 in
theorem Bits6 (f : Int) (hi lo : Nat) (w : World) (hh : hi ≤ 18446744073709551615) (hl : lo ≤ 18446744073709551615) (h4 : (f == 4) = false) :
    Calls Tryd.prog 18 #[addr f hi lo] w fun e w' => ∃ b c, 128 ≤ c ∧ w.heap.size ≤ b ∧ b < w'.heap.size ∧ e = .returned (.slice (some ⟨b, 0, none⟩) 128 c) ∧ RowB w' b 128 (bits6 hi lo) ∧ RowF w' b 128 ∧ Below w.heap.size w w' := by
  go_enter Tryd.func18, Tryd.ntmps18
  go_wp2_with fail
  refine (bits64 _ _ hh).mono ?_
  rintro e w1 ⟨rfl, hz1, hB1, hF1, hb1⟩
  have hsz1 : (w.alloc (.cells #[.int .i64 f, .int .u64 hi, .int .u64 lo] 24)).heap.size = w.heap.size + 1 := by simp
  have hz1' : w.heap.size + 1 < w1.heap.size := by rw [hsz1] at hz1; exact hz1
  have c2 : w1.cell? ⟨w.heap.size, 2, none⟩ = some (.int .u64 lo) := by rw [(bcell hb1).1 _ _ (by simp)]; simp
  have HB1 := Lib.hid hB1
  have HW1 := Lib.hid hb1
  clear hB1 hF1 hb1 hz1
  go_wp2_with fail
  refine (bits64 _ _ hl).mono ?_
  rintro e w2 ⟨rfl, hz2, hB2, hF2, hb2⟩
  have r1 := HB1.out.below hb2 (by simp; omega)
  obtain ⟨c, cs, hap, hcs, hcc⟩ := append64 w2 _ _ _ _ r1 hB2 46
  have HB2 := Lib.hid (((Below.refl w.heap.size w).alloc (Nat.le_refl _) (.cells #[.int .i64 f, .int .u64 hi, .int .u64 lo] 24)).trans ((HW1.out.mono (by simp)).trans (hb2.mono (by omega))))
  have HCS := Lib.hid hcs
  have hz3 : w.heap.size < w2.heap.size := by have := hb2.size; omega
  rw [hsz1] at hap
  have HAP := Lib.hid hap
  clear r1 hB2 hF2 hb2 hcs hsz1 c2 hz2 hap
  go_wp2_with (at_builtin; refine wpList_append_run rfl _ _ 46 rfl _ _ rfl rfl HAP.out ?_)
  go_ret
  refine ⟨w2.heap.size, c, hcc, by omega, by simp, rfl, ?_, ?_, HB2.out.drew.alloc (by simp; omega) _⟩
  · intro j hj
    have := HCS.out j hj
    rw [World.cell?_drew, World.cell?_alloc_new, this]
    unfold bits6
    by_cases h : j < 64
    · simp [h]
    · simp [h, show 63 - (j - 64) = 127 - j by omega]
  · intro j hj
    exact World.frozen?_alloc_new _ _ _ _
end Go.Proofs.YtnfkgnjeamnhfaaDoor
