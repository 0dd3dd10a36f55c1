import Derived.Test.YtnfkgnjeamnhfabKc
import Derived.Test.YtnfkgnjeamnhfabKx
namespace Go.Proofs.Ytnfkgnjeamnhfab
open Go.RowKit Go.Sort

/-- A list that lies among the arguments. -/
def InN (N : Nat) (ao : Option Addr) (n : Nat) : Prop := 0 < n → ∀ b off, ao = some ⟨b, off, none⟩ → b < N
/-- A step of a script, as it lies in memory. -/
structure OpK (N : Nat) (w : World) (b off : Nat) (o : AOp) : Prop where
  bN : b < N
  c0 : w.cell? ⟨b, off, none⟩ = some (.int .i64 o.k)
  c1 : w.cell? ⟨b, off + 1, none⟩ = some (.int .i64 o.n)
  c2 : w.cell? ⟨b, off + 2, none⟩ = some (.int .i64 o.r.f)
  c3 : w.cell? ⟨b, off + 3, none⟩ = some (.int .u64 o.r.hi)
  c4 : w.cell? ⟨b, off + 4, none⟩ = some (.int .u64 o.r.lo)
  c5 : w.cell? ⟨b, off + 5, none⟩ = some (.int .i64 o.r.n)
  c6 : w.cell? ⟨b, off + 6, none⟩ = some (.int .i64 o.r.g)
  fit : Fit o.r
  hops : ∃ ao n cap, w.cell? ⟨b, off + 7, none⟩ = some (.slice ao n cap) ∧ Rd w ao n o.hops ∧ n ≤ maxLen ∧ InN N ao n
  list : ∃ co z cap, w.cell? ⟨b, off + 8, none⟩ = some (.slice co z cap) ∧ RdC w co z o.ch ∧ (∀ c ∈ o.ch, Fit c.r) ∧ z ≤ 2932031007317 ∧ InN N co z
/-- A script. -/
def ScrK (N : Nat) (w : World) (so : Option Addr) (ops : List AOp) : Prop := ∀ q o, ops[q]? = some o → ∃ b off, so = some ⟨b, off, none⟩ ∧ OpK N w b (off + q * 9) o
theorem Rd.evN {Q : Nat → Prop} {N : Nat} {ρ ρ' : Nat → Nat} {w w' : World} {ao : Option Addr} {n : Nat} {xs : List Int} (h : Rd w ao n xs) (he : Ev Q ρ w ρ' w') (hA : InN N ao n) (hρ : ∀ b, b < N → ρ b = 0) (hQ : ¬ Q 0) : Rd w' ao n xs := by
  rcases Nat.eq_zero_or_pos n with h0 | h0
  · exact ⟨h.1, .inl h0⟩
  · exact h.same fun b off e hlt => he.block b hlt (by rw [hρ b (hA h0 b off e)]; decide) (by rw [hρ b (hA h0 b off e)]; exact hQ)
theorem RdC.evN {Q : Nat → Prop} {N : Nat} {ρ ρ' : Nat → Nat} {w w' : World} {ao : Option Addr} {n : Nat} {cs : List Ch} (h : RdC w ao n cs) (he : Ev Q ρ w ρ' w') (hA : InN N ao n) (hρ : ∀ b, b < N → ρ b = 0) (hQ : ¬ Q 0) : RdC w' ao n cs := by
  refine ⟨h.1, ?_⟩
  rcases h.2 with h0 | ⟨b, off, rfl, hlt, hc⟩
  · exact .inl h0
  · rcases Nat.eq_zero_or_pos n with h0 | h0
    · exact .inl h0
    · have hb := hA h0 b off rfl
      exact .inr ⟨b, off, rfl, Nat.lt_of_lt_of_le hlt he.size, fun j c hj => (hc j c hj).same (he.block b hlt (by rw [hρ b hb]; decide) (by rw [hρ b hb]; exact hQ))⟩
theorem RdC.below {w w' : World} {ao : Option Addr} {n : Nat} {cs : List Ch} (h : RdC w ao n cs) (hb : Below w.heap.size w w') : RdC w' ao n cs := by
  refine ⟨h.1, ?_⟩
  rcases h.2 with h0 | ⟨b, off, rfl, hlt, hc⟩
  · exact .inl h0
  · exact .inr ⟨b, off, rfl, Nat.lt_of_lt_of_le hlt hb.size, fun j c hj => (hc j c hj).same (hb.block b hlt)⟩
theorem OpK.ev {Q : Nat → Prop} {N : Nat} {ρ ρ' : Nat → Nat} {w w' : World} {b off : Nat} {o : AOp} (h : OpK N w b off o) (hN : N ≤ w.heap.size) (he : Ev Q ρ w ρ' w') (hρ : ∀ b, b < N → ρ b = 0) (hQ : ¬ Q 0) : OpK N w' b off o := by
  have hc : ∀ j, w'.cell? ⟨b, j, none⟩ = w.cell? ⟨b, j, none⟩ := fun j => evc he j (Nat.lt_of_lt_of_le h.bN hN) (by rw [hρ b h.bN]; decide) (by rw [hρ b h.bN]; exact hQ)
  obtain ⟨ao, n, cap, a1, a2, a3, a4⟩ := h.hops
  obtain ⟨co, z, cap', b1, b2, b3, b4, b5⟩ := h.list
  exact ⟨h.bN, (hc _).trans h.c0, (hc _).trans h.c1, (hc _).trans h.c2, (hc _).trans h.c3, (hc _).trans h.c4, (hc _).trans h.c5, (hc _).trans h.c6, h.fit, ⟨ao, n, cap, (hc _).trans a1, a2.evN he a4 hρ hQ, a3, a4⟩, ⟨co, z, cap', (hc _).trans b1, b2.evN he b5 hρ hQ, b3, b4, b5⟩⟩
theorem ScrK.ev {Q : Nat → Prop} {N : Nat} {ρ ρ' : Nat → Nat} {w w' : World} {so : Option Addr} {ops : List AOp} (h : ScrK N w so ops) (hN : N ≤ w.heap.size) (he : Ev Q ρ w ρ' w') (hρ : ∀ b, b < N → ρ b = 0) (hQ : ¬ Q 0) : ScrK N w' so ops := fun q o ho => by
  obtain ⟨b, off, h1, h2⟩ := h q o ho
  exact ⟨b, off, h1, h2.ev hN he hρ hQ⟩
end Go.Proofs.Ytnfkgnjeamnhfab
namespace Go.Proofs.Ytnfkgnjeamnhfab
open Go.ChangeShapes Go.WideShapes Go.ChangeAt Go.RowKit

namespace Q
theorem cOpK : Try.prog.cellsOf 77 = 9 := by kernel_rfl
theorem bOpK : Try.prog.bytesOf 77 = 104 := by kernel_rfl
/-- A step of the script, opened. -/
theorem open_opK {H : Type} {enc : TypeId × Value → H} {W : World} {n b off : Nat} {cs : List Value} {D : DataW H × List MemPlace} (hc : W.cells? 0 ⟨b, off, none⟩ 9 = some cs) (h : DataW.trod enc Try.prog W 0 (fun _ => true) true n 77 cs = some D)
    (hw : ∀ m ∈ D.1.weights Try.prog 77, m ≤ reachBytes) : ∃ o, OpK W.heap.size W b off o := by
  obtain ⟨_, hlen, hcell⟩ := World.cells?_some hc
  obtain ⟨ys, n', _, hx, _, hyl, hf⟩ := DataW.trod_struct Try.underlying77 h
  obtain ⟨a0, t0, rfl, l0⟩ := cons_of hlen
  obtain ⟨a1, t1, rfl, l1⟩ := cons_of l0
  obtain ⟨a2, t2, rfl, l2⟩ := cons_of l1
  obtain ⟨a3, t3, rfl, l3⟩ := cons_of l2
  obtain ⟨a4, t4, rfl, l4⟩ := cons_of l3
  obtain ⟨a5, t5, rfl, l5⟩ := cons_of l4
  obtain ⟨a6, t6, rfl, l6⟩ := cons_of l5
  obtain ⟨a7, t7, rfl, l7⟩ := cons_of l6
  obtain ⟨a8, t8, rfl, l8⟩ := cons_of l7
  obtain rfl : t8 = [] := List.length_eq_zero_iff.1 l8
  have hyl : ys.length = 5 := hyl
  obtain ⟨y0, e0⟩ : ∃ y, ys[0]? = some y := ⟨_, List.getElem?_eq_getElem (by omega)⟩
  obtain ⟨y1, e1⟩ : ∃ y, ys[1]? = some y := ⟨_, List.getElem?_eq_getElem (by omega)⟩
  obtain ⟨y2, e2⟩ : ∃ y, ys[2]? = some y := ⟨_, List.getElem?_eq_getElem (by omega)⟩
  obtain ⟨y3, e3⟩ : ∃ y, ys[3]? = some y := ⟨_, List.getElem?_eq_getElem (by omega)⟩
  obtain ⟨y4, e4⟩ : ∃ y, ys[4]? = some y := ⟨_, List.getElem?_eq_getElem (by omega)⟩
  have h0 : DataW.trod enc Try.prog W 0 (fun _ => true) true n' 3 [a0] = some y0 := by have := (hf 0 _ rfl).trans e0; simpa [cInt] using this
  have h1 : DataW.trod enc Try.prog W 0 (fun _ => true) true n' 3 [a1] = some y1 := by have := (hf 1 _ rfl).trans e1; simpa [cInt] using this
  have h2 : DataW.trod enc Try.prog W 0 (fun _ => true) true n' 45 [a2, a3, a4, a5, a6] = some y2 := by have := (hf 2 _ rfl).trans e2; simpa [cRoute] using this
  have h3 : DataW.trod enc Try.prog W 0 (fun _ => true) true n' 31 [a7] = some y3 := by have := (hf 3 _ rfl).trans e3; simpa [cInts] using this
  have h4 : DataW.trod enc Try.prog W 0 (fun _ => true) true n' 75 [a8] = some y4 := by have := (hf 4 _ rfl).trans e4; simpa [cChs] using this
  obtain ⟨k, q0, -, -⟩ := DataW.trod_int Try.underlying3 h0
  obtain ⟨i, q1, -, -⟩ := DataW.trod_int Try.underlying3 h1
  have hD : D.1 = .agg (ys.map (·.1)) := by rw [hx]
  obtain ⟨r, hfit, r0, r1, r2, r3, r4⟩ := open_route h2
  obtain ⟨co, z, zcap, ch, hz1, hz2, hz3, hz4, hz5⟩ := open_list h4 (fun u hu => hw u (by
    rw [hD]
    simp only [DataW.weights, Try.underlying77]
    exact DataW.weights_mem_each (j := 4) (t := 75) (d := y4.1) rfl (by simp [e4]) _ hu))
  have hcells : ∀ j, j < 9 → W.cell? ⟨b, off + j, none⟩ = [a0, a1, a2, a3, a4, a5, a6, a7, a8][j]? := fun j hj => by
    have := hcell j hj
    rwa [Lib.add_plain] at this
  have hb : b < W.heap.size := World.block_lt_of_cell? W ⟨b, off + 0, none⟩ (hcells 0 (by decide))
  simp only [List.cons.injEq, and_true] at q0 q1
  subst q0 q1 r0 r1 r2 r3 r4 hz1
  rcases open_ints Try.underlying31 Try.underlying3 cInt h3 with ⟨q6, _⟩ | ⟨a, len, cap, zs, q6, _, hle, hcm, hzl, hy6, hzc, _⟩
  · simp only [List.cons.injEq, and_true] at q6
    subst q6
    exact ⟨⟨k, i, r, [], ch⟩, hb, hcells 0 (by decide), hcells 1 (by decide), hcells 2 (by decide), hcells 3 (by decide), hcells 4 (by decide), hcells 5 (by decide), hcells 6 (by decide), hfit, ⟨none, 0, 0, hcells 7 (by decide), ⟨rfl, .inl rfl⟩, by unfold maxLen; omega, fun h => by omega⟩, ⟨co, z, zcap, hcells 8 (by decide), hz2, hz3, hz4, hz5⟩⟩
  · simp only [List.cons.injEq, and_true] at q6
    simp only [if_true] at hzl
    subst q6
    have hsz : cap * 8 ≤ reachBytes := by
      refine hw _ ?_
      rw [hD]
      simp only [DataW.weights, Try.underlying77]
      refine DataW.weights_mem_each (j := 3) (t := 31) (d := y3.1) rfl (by simp [e3]) _ ?_
      rw [hy6]
      simp only [DataW.weights, Try.underlying31, bInt]
      refine List.mem_cons.2 (.inl ?_)
      simp [lits, hzl]; omega
    have hsz' : cap * 8 ≤ 140737488351232 := hsz
    refine ⟨⟨k, i, r, zs.take len, ch⟩, hb, hcells 0 (by decide), hcells 1 (by decide), hcells 2 (by decide), hcells 3 (by decide), hcells 4 (by decide), hcells 5 (by decide), hcells 6 (by decide), hfit, ⟨some a, len, cap, hcells 7 (by decide), ⟨by simp; omega, ?_⟩, by unfold maxLen; omega, fun hl b' off' e => ?_⟩, ⟨co, z, zcap, hcells 8 (by decide), hz2, hz3, hz4, hz5⟩⟩
    · rcases Nat.eq_zero_or_pos len with hl | hl
      · exact .inl hl
      · obtain ⟨b', off', rfl⟩ := at_none (hzc 0 (by omega))
        refine .inr ⟨b', off', rfl, fun j z hz => ?_⟩
        have hj : j < len := by have := (List.getElem?_eq_some_iff.1 hz).1; simp at this; omega
        have := hzc j (by omega)
        rw [Lib.add_plain] at this
        rw [this]
        rw [List.getElem?_take_of_lt hj] at hz
        simp [List.getD, hz]
    · obtain rfl : a = ⟨b', off', none⟩ := by simpa using e
      have := hzc 0 (by omega)
      exact World.block_lt_of_cell? W _ this
/-- The script, opened. -/
theorem open_scrK {H : Type} {enc : TypeId × Value → H} {W : World} {a0 : Option Addr} {len cap : Nat} {d : DataW H} {p : List MemPlace} (h : DataW.Trod enc Try.prog W 0 (fun _ => true) true 22 (.slice a0 len cap) d p)
    (hw : ∀ m ∈ d.weights Try.prog 22, m ≤ reachBytes) : ∃ ops : List AOp, ops.length = len ∧ ScrK W.heap.size W a0 ops ∧ len ≤ 1400000000000 := by
  obtain ⟨fuel, hf⟩ := h
  rcases Deep.open_slice Try.underlying22 hf with ⟨h1, _⟩ | ⟨a, l, c, m, n, D, Pl, h1, _, hle, hcm, hm, hx, hall⟩
  · have : a0 = none ∧ len = 0 ∧ cap = 0 := by simpa [Value.cells] using h1
    obtain ⟨rfl, rfl, rfl⟩ := this
    exact ⟨[], rfl, fun q o hq => by simp at hq, by omega⟩
  · have : a0 = some a ∧ len = l ∧ cap = c := by simpa [Value.cells] using h1
    obtain ⟨rfl, rfl, rfl⟩ := this
    simp only [if_true] at hm
    subst hm
    obtain ⟨rfl, -⟩ := Prod.ext_iff.1 hx
    rw [cOpK] at hall
    simp only [DataW.weights, Try.underlying22, bOpK] at hw
    have hlen : len ≤ 1400000000000 := by
      have := hw _ (List.mem_cons.2 (.inl rfl))
      simp only [List.length_map, List.length_range] at this
      rw [show reachBytes = 140737488351232 from rfl] at this
      omega
    rcases Nat.eq_zero_or_pos len with hl | hl
    · subst hl
      exact ⟨[], rfl, fun q o hq => by simp at hq, by omega⟩
    · obtain ⟨cs0, c0, _⟩ := hall 0 (by omega)
      obtain ⟨_, hl0, hc0⟩ := World.cells?_some c0
      obtain ⟨v0, hv0⟩ : ∃ v, cs0[0]? = some v := ⟨_, List.getElem?_eq_getElem (by omega)⟩
      have := (hc0 0 (by decide)).trans hv0
      obtain ⟨b, off, rfl⟩ := at_none (a := a) (v := v0) (by simpa [Addr.add] using this)
      haveI : Inhabited AOp := ⟨⟨0, 0, ⟨0, 0, 0, 0, 0⟩, [], []⟩⟩
      obtain ⟨C, hC⟩ := Deep.choose_lt (α := AOp) (n := len) (p := fun i o => OpK W.heap.size W b (off + i * 9) o) (fun q hq => by
        obtain ⟨cs, cq, tq⟩ := hall q (by omega)
        rw [Lib.add_plain] at cq
        exact open_opK cq tq (fun u hu => hw u (List.mem_cons.2 (.inr (List.mem_append_left _ (weights_all (List.mem_map.2 ⟨q, by simpa using hq, rfl⟩) u hu))))))
      refine ⟨(List.range len).map C, by simp, fun q o hq => ?_, hlen⟩
      rw [List.getElem?_map] at hq
      have hql : q < len := by
        rcases Nat.lt_or_ge q len with h' | h'
        · exact h'
        · rw [List.getElem?_eq_none (by simpa using h')] at hq; cases hq
      rw [List.getElem?_range hql] at hq
      obtain rfl : C q = o := by simpa using hq
      exact ⟨b, off, rfl, hC q hql⟩
end Q
end Go.Proofs.Ytnfkgnjeamnhfab
