import Derived.Test.YtnfkgnjeamnhfabKw
import Derived.ProofKit
import Derived.OpenShut
import Derived.SizedLaws
import Derived.Deep.Slices
import Derived.Test.YtnfkgnjeamnhfabRows
namespace Go.Proofs.Ytnfkgnjeamnhfab
open Go.ChangeShapes Go.WideShapes Go.ChangeAt Go.RowKit

namespace Q
theorem cInt : Try.prog.cellsOf 3 = 1 := by kernel_rfl
theorem cBool : Try.prog.cellsOf 4 = 1 := by kernel_rfl
theorem cU64 : Try.prog.cellsOf 23 = 1 := by kernel_rfl
theorem cInts : Try.prog.cellsOf 31 = 1 := by kernel_rfl
theorem cChs : Try.prog.cellsOf 75 = 1 := by kernel_rfl
theorem cAddr : Try.prog.cellsOf 25 = 3 := by kernel_rfl
theorem cPref : Try.prog.cellsOf 43 = 4 := by kernel_rfl
theorem cRoute : Try.prog.cellsOf 45 = 5 := by kernel_rfl
theorem cCh : Try.prog.cellsOf 112 = 6 := by kernel_rfl
theorem bInt : Try.prog.bytesOf 3 = 8 := by kernel_rfl
theorem bCh : Try.prog.bytesOf 112 = 48 := by kernel_rfl

theorem at_none {w : World} {a : Addr} {v : Value} (h : w.cell? a = some v) : ∃ b off, a = ⟨b, off, none⟩ := by
  obtain ⟨b, off, spot⟩ := a
  cases spot with
  | none => exact ⟨b, off, rfl⟩
  | some s =>
    unfold World.cell? at h
    split at h <;> simp at h
theorem weights_all {H : Type} {P : Program} {e : TypeId} {d : DataW H} : ∀ {ds : List (DataW H)}, d ∈ ds → ∀ n ∈ d.weights P e, n ∈ DataW.weightsAll P e ds
  | d0 :: ds, hd, n, hn => by
    simp only [DataW.weightsAll, List.mem_append]
    rcases List.mem_cons.1 hd with rfl | h
    · exact .inl hn
    · exact .inr (weights_all h n hn)
theorem cons_of {α : Type} {l : List α} {n : Nat} (h : l.length = n + 1) : ∃ a t, l = a :: t ∧ t.length = n := by
  cases l with
  | nil => simp at h
  | cons a t => exact ⟨a, t, rfl, by simpa using h⟩
theorem u64_nat {n : Int} (h : (Lit.int .u64 n).wf = true) : ∃ m : Nat, n = (m : Int) ∧ m ≤ 18446744073709551615 := by
  have h2 : (0 : Int) ≤ n ∧ n ≤ 18446744073709551615 := by
    simp only [Lit.wf, Bool.and_eq_true, decide_eq_true_eq] at h
    exact h
  exact ⟨n.toNat, by omega, by omega⟩
/-- An address, opened. -/
theorem open_adr {H : Type} {enc : TypeId × Value → H} {W : World} {n : Nat} {a0 a1 a2 : Value} {D : DataW H × List MemPlace} (h2 : DataW.trod enc Try.prog W 0 (fun _ => true) true n 25 [a0, a1, a2] = some D) :
    ∃ a : Ad, FitA a ∧ a0 = .int .i64 a.1 ∧ a1 = .int .u64 a.2.1 ∧ a2 = .int .u64 a.2.2 := by
  obtain ⟨us, n3, _, _, _, hul, hu⟩ := DataW.trod_struct Try.underlying25 h2
  have hul : us.length = 3 := hul
  obtain ⟨u0, g0⟩ : ∃ y, us[0]? = some y := ⟨_, List.getElem?_eq_getElem (by omega)⟩
  obtain ⟨u1, g1⟩ : ∃ y, us[1]? = some y := ⟨_, List.getElem?_eq_getElem (by omega)⟩
  obtain ⟨u2, g2⟩ : ∃ y, us[2]? = some y := ⟨_, List.getElem?_eq_getElem (by omega)⟩
  have k0 : DataW.trod enc Try.prog W 0 (fun _ => true) true n3 3 [a0] = some u0 := by have := (hu 0 _ rfl).trans g0; simpa [cInt] using this
  have k1 : DataW.trod enc Try.prog W 0 (fun _ => true) true n3 23 [a1] = some u1 := by have := (hu 1 _ rfl).trans g1; simpa [cU64] using this
  have k2 : DataW.trod enc Try.prog W 0 (fun _ => true) true n3 23 [a2] = some u2 := by have := (hu 2 _ rfl).trans g2; simpa [cU64] using this
  obtain ⟨x0, q0, -, -⟩ := DataW.trod_int Try.underlying3 k0
  obtain ⟨x1, q1, -, w1⟩ := DataW.trod_int Try.underlying23 k1
  obtain ⟨x2, q2, -, w2⟩ := DataW.trod_int Try.underlying23 k2
  simp only [List.cons.injEq, and_true] at q0 q1 q2
  obtain ⟨m1, rfl, l1⟩ := u64_nat w1
  obtain ⟨m2, rfl, l2⟩ := u64_nat w2
  exact ⟨(x0, m1, m2), ⟨l1, l2⟩, q0, q1, q2⟩
/-- A route, opened. -/
theorem open_route {H : Type} {enc : TypeId × Value → H} {W : World} {n : Nat} {a0 a1 a2 a3 a4 : Value} {D : DataW H × List MemPlace} (h : DataW.trod enc Try.prog W 0 (fun _ => true) true n 45 [a0, a1, a2, a3, a4] = some D) :
    ∃ r : Rt, Fit r ∧ a0 = .int .i64 r.f ∧ a1 = .int .u64 r.hi ∧ a2 = .int .u64 r.lo ∧ a3 = .int .i64 r.n ∧ a4 = .int .i64 r.g := by
  obtain ⟨ys, n1, _, _, _, hyl, hf⟩ := DataW.trod_struct Try.underlying45 h
  have hyl : ys.length = 2 := hyl
  obtain ⟨y0, e0⟩ : ∃ y, ys[0]? = some y := ⟨_, List.getElem?_eq_getElem (by omega)⟩
  obtain ⟨y1, e1⟩ : ∃ y, ys[1]? = some y := ⟨_, List.getElem?_eq_getElem (by omega)⟩
  have h0 : DataW.trod enc Try.prog W 0 (fun _ => true) true n1 43 [a0, a1, a2, a3] = some y0 := by have := (hf 0 _ rfl).trans e0; simpa [cPref] using this
  have h1 : DataW.trod enc Try.prog W 0 (fun _ => true) true n1 3 [a4] = some y1 := by have := (hf 1 _ rfl).trans e1; simpa [cInt] using this
  obtain ⟨zs, n2, _, _, _, hzl, hg⟩ := DataW.trod_struct Try.underlying43 h0
  have hzl : zs.length = 2 := hzl
  obtain ⟨z0, f0⟩ : ∃ y, zs[0]? = some y := ⟨_, List.getElem?_eq_getElem (by omega)⟩
  obtain ⟨z1, f1⟩ : ∃ y, zs[1]? = some y := ⟨_, List.getElem?_eq_getElem (by omega)⟩
  have h2 : DataW.trod enc Try.prog W 0 (fun _ => true) true n2 25 [a0, a1, a2] = some z0 := by have := (hg 0 _ rfl).trans f0; simpa [cAddr] using this
  have h3 : DataW.trod enc Try.prog W 0 (fun _ => true) true n2 3 [a3] = some z1 := by have := (hg 1 _ rfl).trans f1; simpa [cInt] using this
  obtain ⟨us, n3, _, _, _, hul, hu⟩ := DataW.trod_struct Try.underlying25 h2
  have hul : us.length = 3 := hul
  obtain ⟨u0, g0⟩ : ∃ y, us[0]? = some y := ⟨_, List.getElem?_eq_getElem (by omega)⟩
  obtain ⟨u1, g1⟩ : ∃ y, us[1]? = some y := ⟨_, List.getElem?_eq_getElem (by omega)⟩
  obtain ⟨u2, g2⟩ : ∃ y, us[2]? = some y := ⟨_, List.getElem?_eq_getElem (by omega)⟩
  have k0 : DataW.trod enc Try.prog W 0 (fun _ => true) true n3 3 [a0] = some u0 := by have := (hu 0 _ rfl).trans g0; simpa [cInt] using this
  have k1 : DataW.trod enc Try.prog W 0 (fun _ => true) true n3 23 [a1] = some u1 := by have := (hu 1 _ rfl).trans g1; simpa [cU64] using this
  have k2 : DataW.trod enc Try.prog W 0 (fun _ => true) true n3 23 [a2] = some u2 := by have := (hu 2 _ rfl).trans g2; simpa [cU64] using this
  obtain ⟨x0, q0, -, -⟩ := DataW.trod_int Try.underlying3 k0
  obtain ⟨x1, q1, -, w1⟩ := DataW.trod_int Try.underlying23 k1
  obtain ⟨x2, q2, -, w2⟩ := DataW.trod_int Try.underlying23 k2
  obtain ⟨x3, q3, -, -⟩ := DataW.trod_int Try.underlying3 h3
  obtain ⟨x4, q4, -, -⟩ := DataW.trod_int Try.underlying3 h1
  simp only [List.cons.injEq, and_true] at q0 q1 q2 q3 q4
  obtain ⟨m1, rfl, l1⟩ := u64_nat w1
  obtain ⟨m2, rfl, l2⟩ := u64_nat w2
  exact ⟨⟨x0, m1, m2, x3, x4⟩, ⟨l1, l2⟩, q0, q1, q2, q3, q4⟩
/-- A change, opened. -/
theorem open_chg {H : Type} {enc : TypeId × Value → H} {W : World} {n b off : Nat} {cs : List Value} {D : DataW H × List MemPlace} (hc : W.cells? 0 ⟨b, off, none⟩ 6 = some cs) (h : DataW.trod enc Try.prog W 0 (fun _ => true) true n 112 cs = some D) :
    ∃ c : Ch, Fit c.r ∧ ChAt W b off c := by
  obtain ⟨_, hlen, hcell⟩ := World.cells?_some hc
  obtain ⟨ys, n1, _, _, _, hyl, hf⟩ := DataW.trod_struct Try.underlying112 h
  obtain ⟨a0, t0, rfl, l0⟩ := cons_of hlen
  obtain ⟨a1, t1, rfl, l1⟩ := cons_of l0
  obtain ⟨a2, t2, rfl, l2⟩ := cons_of l1
  obtain ⟨a3, t3, rfl, l3⟩ := cons_of l2
  obtain ⟨a4, t4, rfl, l4⟩ := cons_of l3
  obtain ⟨a5, t5, rfl, l5⟩ := cons_of l4
  obtain rfl : t5 = [] := List.length_eq_zero_iff.1 l5
  have hyl : ys.length = 2 := hyl
  obtain ⟨y0, e0⟩ : ∃ y, ys[0]? = some y := ⟨_, List.getElem?_eq_getElem (by omega)⟩
  obtain ⟨y1, e1⟩ : ∃ y, ys[1]? = some y := ⟨_, List.getElem?_eq_getElem (by omega)⟩
  have h0 : DataW.trod enc Try.prog W 0 (fun _ => true) true n1 3 [a0] = some y0 := by have := (hf 0 _ rfl).trans e0; simpa [cInt] using this
  have h1 : DataW.trod enc Try.prog W 0 (fun _ => true) true n1 45 [a1, a2, a3, a4, a5] = some y1 := by have := (hf 1 _ rfl).trans e1; simpa [cRoute] using this
  obtain ⟨x0, q0, -, -⟩ := DataW.trod_int Try.underlying3 h0
  obtain ⟨r, hr, q1, q2, q3, q4, q5⟩ := open_route h1
  simp only [List.cons.injEq, and_true] at q0
  have hcells : ∀ j, j < 6 → W.cell? ⟨b, off + j, none⟩ = [a0, a1, a2, a3, a4, a5][j]? := fun j hj => by
    have := hcell j hj
    rwa [Lib.add_plain] at this
  subst q0 q1 q2 q3 q4 q5
  exact ⟨⟨x0, r⟩, hr, hcells 0 (by decide), hcells 1 (by decide), hcells 2 (by decide), hcells 3 (by decide), hcells 4 (by decide), hcells 5 (by decide)⟩
/-- A list of changes, opened. -/
theorem open_list {H : Type} {enc : TypeId × Value → H} {W : World} {n : Nat} {a : Value} {D : DataW H × List MemPlace} (h : DataW.trod enc Try.prog W 0 (fun _ => true) true n 75 [a] = some D) (hw : ∀ m ∈ D.1.weights Try.prog 75, m ≤ reachBytes) :
    ∃ co z cap ch, a = .slice co z cap ∧ RdC W co z ch ∧ (∀ c ∈ ch, Fit c.r) ∧ z ≤ 2932031007317 ∧ (0 < z → ∀ b off, co = some ⟨b, off, none⟩ → b < W.heap.size) := by
  rcases Deep.open_slice Try.underlying75 h with ⟨h1, _⟩ | ⟨q, len, cap, m, n', D', Pl, h1, _, hle, hcm, hm, hx, hall⟩
  · simp only [List.cons.injEq, and_true] at h1
    exact ⟨none, 0, 0, [], h1, ⟨rfl, .inl rfl⟩, by simp, by omega, fun h => by omega⟩
  · simp only [List.cons.injEq, and_true] at h1
    simp only [if_true] at hm
    have hm := hm.symm
    subst hm
    rw [cCh] at hall
    have hsz : cap * 48 ≤ reachBytes := by
      refine hw _ ?_
      rw [hx]
      simp only [DataW.weights, Try.underlying75, bCh]
      refine List.mem_cons.2 (.inl ?_)
      simp; omega
    have hsz' : cap * 48 ≤ 140737488351232 := hsz
    rcases Nat.eq_zero_or_pos len with hl | hl
    · subst hl
      exact ⟨some q, 0, cap, [], h1, ⟨rfl, .inl rfl⟩, by simp, by omega, fun h => by omega⟩
    · obtain ⟨cs0, c0, _⟩ := hall 0 (by omega)
      obtain ⟨_, hl0, hc0⟩ := World.cells?_some c0
      obtain ⟨v0, hv0⟩ : ∃ v, cs0[0]? = some v := ⟨_, List.getElem?_eq_getElem (by omega)⟩
      have hq := (hc0 0 (by decide)).trans hv0
      obtain ⟨b, off, rfl⟩ := at_none (a := q) (v := v0) (by simpa [Addr.add] using hq)
      have hb : b < W.heap.size := World.block_lt_of_cell? W _ hq
      haveI : Inhabited Ch := ⟨⟨0, ⟨0, 0, 0, 0, 0⟩⟩⟩
      obtain ⟨C, hC⟩ := Deep.choose_lt (α := Ch) (n := len) (p := fun i c => Fit c.r ∧ ChAt W b (off + i * 6) c) (fun i hi => by
        obtain ⟨cs, cq, tq⟩ := hall i (by omega)
        rw [Lib.add_plain] at cq
        exact open_chg cq tq)
      refine ⟨some ⟨b, off, none⟩, len, cap, (List.range len).map C, h1, ⟨by simp, .inr ⟨b, off, rfl, hb, fun j c hj => ?_⟩⟩, fun c hc => ?_, by omega, fun _ b' off' e => ?_⟩
      · rw [List.getElem?_map] at hj
        have hjl : j < len := by
          rcases Nat.lt_or_ge j len with h' | h'
          · exact h'
          · rw [List.getElem?_eq_none (by simpa using h')] at hj; cases hj
        rw [List.getElem?_range hjl] at hj
        obtain rfl : C j = c := by simpa using hj
        exact (hC j hjl).2
      · obtain ⟨i, hi, rfl⟩ := List.mem_map.1 hc
        exact (hC i (by simpa using hi)).1
      · obtain ⟨rfl, -⟩ : b = b' ∧ off = off' := by simpa using e
        exact hb
end Q
theorem Q.rg_of {a b : Int} (h1 : (Lit.int .u64 a).wf = true) (h2 : (Lit.int .u32 b).wf = true) : Rg a b := by
  have k1 : (0 : Int) ≤ a ∧ a ≤ 18446744073709551615 := by
    simp only [Lit.wf, Bool.and_eq_true, decide_eq_true_eq] at h1
    exact h1
  have k2 : (0 : Int) ≤ b ∧ b ≤ 4294967295 := by
    simp only [Lit.wf, Bool.and_eq_true, decide_eq_true_eq] at h2
    exact h2
  unfold Rg; omega
theorem Q.own : ownKnob Try.prog.godebug = none := by kernel_rfl
theorem Q.laidOut : laidOutB Try.prog = true := by kernel_rfl
/-- All that was there is as it was. -/
theorem Q.below_of_ev {w w' : World} {ρ' : Nat → Nat} (h : Ev (fun q => 1 ≤ q) (fun k => if k < w.heap.size then 0 else 14) w ρ' w') : Below w.heap.size w w' :=
  ⟨h.os, h.tape, h.output, h.size, fun k hk => h.block k hk (by simp [hk]) (by simp [hk])⟩

end Go.Proofs.Ytnfkgnjeamnhfab
