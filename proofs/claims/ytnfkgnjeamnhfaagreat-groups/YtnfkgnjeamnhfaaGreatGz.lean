import Derived.Test.YtnfkgnjeamnhfaaGreatRows
import Derived.Test.YtnfkgnjeamnhfaaGreatGy
import Derived.ProofKit
import Derived.OpenShut
import Derived.SizedLaws
import Derived.Deep.Slices
namespace Go.Proofs.YtnfkgnjeamnhfaaGreat
open Go.ChangeShapes Go.WideShapes Go.ChangeAt Go.RowKit

theorem Tryz.own : ownKnob Tryz.prog.godebug = none := by kernel_rfl
theorem Tryz.laidOut : laidOutB Tryz.prog = true := by kernel_rfl
theorem cells39 : Tryz.prog.cellsOf 39 = 16 := by kernel_rfl
theorem cells3 : Tryz.prog.cellsOf 3 = 1 := by kernel_rfl
theorem cells4 : Tryz.prog.cellsOf 4 = 1 := by kernel_rfl
theorem cells36 : Tryz.prog.cellsOf 36 = 1 := by kernel_rfl
theorem bytes3 : Tryz.prog.bytesOf 3 = 8 := by kernel_rfl
theorem bytes39 : Tryz.prog.bytesOf 39 = 168 := by kernel_rfl

theorem at_none {w : World} {a : Addr} {v : Value} (h : w.cell? a = some v) : ∃ b off, a = ⟨b, off, none⟩ := by
  obtain ⟨b, off, spot⟩ := a
  cases spot with
  | none => exact ⟨b, off, rfl⟩
  | some s =>
    unfold World.cell? at h
    split at h <;> simp at h
theorem weights_all {H : Type} {P : Program} {e : TypeId} {d : DataW H} : ∀ {ds : List (DataW H)}, d ∈ ds → ∀ n ∈ d.weights P e, n ∈ DataW.weightsAll P e ds
  | d0 :: ds, hd, n, hn => by
    simp only [DataW.weightsAll, List.mem_append]
    rcases List.mem_cons.1 hd with rfl | h
    · exact .inl hn
    · exact .inr (weights_all h n hn)
theorem cons_of {α : Type} {l : List α} {n : Nat} (h : l.length = n + 1) : ∃ a t, l = a :: t ∧ t.length = n := by
  cases l with
  | nil => simp at h
  | cons a t => exact ⟨a, t, rfl, by simpa using h⟩
/-- A step of the script, opened. -/
theorem open_op {H : Type} {enc : TypeId × Value → H} {W : World} {n b off : Nat} {cs : List Value} {D : DataW H × List MemPlace} (hc : W.cells? 0 ⟨b, off, none⟩ 16 = some cs) (h : DataW.trod enc Tryz.prog W 0 (fun _ => true) true n 39 cs = some D)
    (hw : ∀ m ∈ D.1.weights Tryz.prog 39, m ≤ reachBytes) : ∃ k i x ao n cap m xs, OpAt W.heap.size W b off k i x ao n cap m xs := by
  obtain ⟨_, hlen, hcell⟩ := World.cells?_some hc
  obtain ⟨ys, n', _, hx, _, hyl, hf⟩ := DataW.trod_struct Tryz.underlying39 h
  obtain ⟨a0, t0, rfl, l0⟩ := cons_of hlen
  obtain ⟨a1, t1, rfl, l1⟩ := cons_of l0
  obtain ⟨a2, t2, rfl, l2⟩ := cons_of l1
  obtain ⟨a3, t3, rfl, l3⟩ := cons_of l2
  obtain ⟨a4, t4, rfl, l4⟩ := cons_of l3
  obtain ⟨a5, t5, rfl, l5⟩ := cons_of l4
  obtain ⟨a6, t6, rfl, l6⟩ := cons_of l5
  obtain ⟨a7, t7, rfl, l7⟩ := cons_of l6
  obtain ⟨a8, t8, rfl, l8⟩ := cons_of l7
  obtain ⟨a9, t9, rfl, l9⟩ := cons_of l8
  obtain ⟨a10, t10, rfl, l10⟩ := cons_of l9
  obtain ⟨a11, t11, rfl, l11⟩ := cons_of l10
  obtain ⟨a12, t12, rfl, l12⟩ := cons_of l11
  obtain ⟨a13, t13, rfl, l13⟩ := cons_of l12
  obtain ⟨a14, t14, rfl, l14⟩ := cons_of l13
  obtain ⟨a15, t15, rfl, l15⟩ := cons_of l14
  obtain rfl : t15 = [] := List.length_eq_zero_iff.1 l15
  have hyl : ys.length = 10 := hyl
  obtain ⟨y0, e0⟩ : ∃ y, ys[0]? = some y := ⟨_, List.getElem?_eq_getElem (by omega)⟩
  obtain ⟨y1, e1⟩ : ∃ y, ys[1]? = some y := ⟨_, List.getElem?_eq_getElem (by omega)⟩
  obtain ⟨y6, e6⟩ : ∃ y, ys[6]? = some y := ⟨_, List.getElem?_eq_getElem (by omega)⟩
  obtain ⟨y9, e9⟩ : ∃ y, ys[9]? = some y := ⟨_, List.getElem?_eq_getElem (by omega)⟩
  have h0 : DataW.trod enc Tryz.prog W 0 (fun _ => true) true n' 3 [a0] = some y0 := by have := (hf 0 _ rfl).trans e0; simpa [cells3] using this
  have h1 : DataW.trod enc Tryz.prog W 0 (fun _ => true) true n' 3 [a1] = some y1 := by have := (hf 1 _ rfl).trans e1; simpa [cells3] using this
  have h6 : DataW.trod enc Tryz.prog W 0 (fun _ => true) true n' 36 [a12] = some y6 := by have := (hf 6 _ rfl).trans e6; simpa [cells36] using this
  have h9 : DataW.trod enc Tryz.prog W 0 (fun _ => true) true n' 4 [a15] = some y9 := by have := (hf 9 _ rfl).trans e9; simpa [cells4] using this
  obtain ⟨k, q0, -, -⟩ := DataW.trod_int Tryz.underlying3 h0
  obtain ⟨i, q1, -, -⟩ := DataW.trod_int Tryz.underlying3 h1
  obtain ⟨m, q9, -⟩ := DataW.trod_bool Tryz.underlying4 h9
  have hcells : ∀ j, j < 16 → W.cell? ⟨b, off + j, none⟩ = [a0, a1, a2, a3, a4, a5, a6, a7, a8, a9, a10, a11, a12, a13, a14, a15][j]? := fun j hj => by
    have := hcell j hj
    rwa [Lib.add_plain] at this
  have hb : b < W.heap.size := World.block_lt_of_cell? W ⟨b, off + 0, none⟩ (hcells 0 (by decide))
  simp only [List.cons.injEq, and_true] at q0 q1 q9
  subst q0 q1 q9
  have fin : ∀ ao z cap, a12 = .slice ao z cap → ∀ j, j < 16 → W.cell? ⟨b, off + j, none⟩ = some ((opA k i (fun j => [Value.int .i64 k, .int .i64 i, a2, a3, a4, a5, a6, a7, a8, a9, a10, a11, a12, a13, a14, .bool m].getD j undef) (.slice ao z cap) m).getD j undef) := by
    intro ao z cap e j hj
    rw [hcells j hj, ← e]
    iterate 16 (rcases j with _ | j; · rfl)
    omega
  rcases open_ints Tryz.underlying36 Tryz.underlying3 cells3 h6 with ⟨q6, _⟩ | ⟨a, len, cap, zs, q6, _, hle, hcm, hzl, hy6, hzc, _⟩
  · simp only [List.cons.injEq, and_true] at q6
    exact ⟨k, i, _, none, 0, 0, m, [], hb, fin none 0 0 q6, ⟨rfl, .inl rfl⟩, by omega, fun h => by omega⟩
  · simp only [List.cons.injEq, and_true] at q6
    simp only [if_true] at hzl
    have hsz : cap * 8 ≤ reachBytes := by
      refine hw _ ?_
      have : D.1 = .agg (ys.map (·.1)) := by rw [hx]
      rw [this]
      simp only [DataW.weights, Tryz.underlying39]
      refine DataW.weights_mem_each (j := 6) (t := 36) (d := y6.1) rfl (by simp [e6]) _ ?_
      rw [hy6]
      simp only [DataW.weights, Tryz.underlying36, bytes3]
      refine List.mem_cons.2 (.inl ?_)
      simp [lits, hzl]; omega
    have hsz' : cap * 8 ≤ 140737488351232 := hsz
    refine ⟨k, i, _, some a, len, cap, m, zs.take len, hb, fin (some a) len cap q6, ⟨by simp; omega, ?_⟩, by omega, fun hl b' off' e => ?_⟩
    · rcases Nat.eq_zero_or_pos len with hl | hl
      · exact .inl hl
      · obtain ⟨b', off', rfl⟩ := at_none (hzc 0 (by omega))
        refine .inr ⟨b', off', rfl, fun j z hz => ?_⟩
        have hj : j < len := by have := (List.getElem?_eq_some_iff.1 hz).1; simp at this; omega
        have := hzc j (by omega)
        rw [Lib.add_plain] at this
        rw [this]
        rw [List.getElem?_take_of_lt hj] at hz
        simp [List.getD, hz]
    · obtain rfl : a = ⟨b', off', none⟩ := by simpa using e
      have := hzc 0 (by omega)
      exact World.block_lt_of_cell? W _ this
/-- The script, opened. -/
theorem open_script {H : Type} {enc : TypeId × Value → H} {W : World} {a0 : Option Addr} {len cap : Nat} {d : DataW H} {p : List MemPlace} (h : DataW.Trod enc Tryz.prog W 0 (fun _ => true) true 24 (.slice a0 len cap) d p)
    (hw : ∀ m ∈ d.weights Tryz.prog 24, m ≤ reachBytes) : Script W.heap.size W a0 len ∧ len ≤ 837728385445 := by
  obtain ⟨fuel, hf⟩ := h
  rcases Deep.open_slice Tryz.underlying24 hf with ⟨h1, _⟩ | ⟨a, l, c, m, n, D, Pl, h1, _, hle, hcm, hm, hx, hall⟩
  · have : a0 = none ∧ len = 0 ∧ cap = 0 := by simpa [Value.cells] using h1
    obtain ⟨rfl, rfl, rfl⟩ := this
    exact ⟨fun q hq => by omega, by omega⟩
  · have : a0 = some a ∧ len = l ∧ cap = c := by simpa [Value.cells] using h1
    obtain ⟨rfl, rfl, rfl⟩ := this
    simp only [if_true] at hm
    subst hm
    obtain ⟨rfl, -⟩ := Prod.ext_iff.1 hx
    rw [cells39] at hall
    simp only [DataW.weights, Tryz.underlying24, bytes39] at hw
    refine ⟨fun q hq => ?_, ?_⟩
    · obtain ⟨cs0, c0, _⟩ := hall 0 (by omega)
      obtain ⟨_, hl0, hc0⟩ := World.cells?_some c0
      obtain ⟨v0, hv0⟩ : ∃ v, cs0[0]? = some v := ⟨_, List.getElem?_eq_getElem (by omega)⟩
      have := (hc0 0 (by decide)).trans hv0
      obtain ⟨b, off, rfl⟩ := at_none (a := a) (v := v0) (by simpa [Addr.add] using this)
      obtain ⟨cs, cq, tq⟩ := hall q (by omega)
      rw [Lib.add_plain] at cq
      obtain ⟨k, i, x, ao, n, c, m, xs, ho⟩ := open_op cq tq (fun u hu => hw u (List.mem_cons.2 (.inr (List.mem_append_left _ (weights_all (List.mem_map.2 ⟨q, by simpa using hq, rfl⟩) u hu)))))
      exact ⟨b, off, k, i, x, ao, n, c, m, xs, rfl, ho⟩
    · have := hw _ (List.mem_cons.2 (.inl rfl))
      simp only [List.length_map, List.length_range] at this
      rw [show reachBytes = 140737488351232 from rfl] at this
      omega
/-- All that was there is as it was. -/
theorem below_of_ev {w w' : World} {ρ' : Nat → Nat} (h : Ev (fun q => 1 ≤ q) (fun k => if k < w.heap.size then 0 else 14) w ρ' w') : Below w.heap.size w w' :=
  ⟨h.os, h.tape, h.output, h.size, fun k hk => h.block k hk (by simp [hk]) (by simp [hk])⟩

set_option maxRecDepth 100000 in
theorem groups_lifted (os : Os) (started : os.Started) (H : Type) (enc : TypeId × Value → H) :
    ReturnsInHanded {} Tryz.checked os 3 .any (Rows.groupsSpec.pre6 enc Tryz.prog Tryz.f3 Rows.groupsRow.domain false) (Rows.groupsSpec.post enc Tryz.prog Tryz.f3 false true false false) := by
  refine returnsInHanded_of_change_sized (C := Tryz.checked) Tryz.own started (by kernel_rfl) Tryz.func3
    (ChangeSpec.witness6 (enc := enc) (C := Tryz.checked) false ⟨#[], #[.int .i64 0, .int .u64 0, .int .u32 0, .slice none 0 0], []⟩ 8 (by kernel_rfl) (by kernel_rfl) (by kernel_rfl) (by kernel_rfl)) ?_
  intro W base args ds gs before hval0 hW _ hsz0 _
  have hsz : (DataW.weightsEach Tryz.prog (Tryz.f3.params.toList ++ Rows.groupsSpec.plain.varTypes Tryz.prog) (ds ++ gs)).all (· ≤ reachBytes) = true := hsz0
  clear hsz0
  have hval : ∀ (j : Nat) t v, Tryz.f3.params[j]? = some t → args[j]? = some v → Value.okWide Tryz.prog W .any base t v := hval0
  have hW' := hW
  obtain ⟨p, q, hA0, hV, rfl, _, _⟩ := hW
  have hA : DataW.TrodAll enc Tryz.prog W 0 (fun _ => true) true Tryz.f3.params.toList args.toList ds p := hA0
  rw [Tryz.params3] at hA hval hsz
  obtain ⟨v0, v1, v2, v3, d0, d1, d2, d3, p0, p1, p2, p3, rfl, rfl, rfl, h0, h1, h2, h3⟩ := trodAll_four hA
  obtain ⟨rfl, rfl⟩ := trodVars_none hV
  obtain ⟨limit, rfl, rfl, rfl, w0⟩ := open_int Tryz.underlying3 (hval 0 3 v0 rfl rfl) h0
  obtain ⟨seed, rfl, rfl, rfl, w1⟩ := open_int Tryz.underlying22 (hval 1 22 v1 rfl rfl) h1
  obtain ⟨own, rfl, rfl, rfl, w2⟩ := open_int Tryz.underlying23 (hval 2 23 v2 rfl rfl) h2
  obtain ⟨so, z, cap, rfl⟩ := okWide_slice Tryz.underlying24 (hval 3 24 v3 rfl rfl)
  have hlt : ∀ x ∈ p3, x.block < W.heap.size := fun x hx => hW'.lt x (by simpa using hx)
  clear hA0 hval0
  simp only [List.append_nil, List.nil_append] at hW'
  obtain ⟨hS, hz⟩ := open_script h3 (fun m hm => by
    have := List.all_eq_true.1 hsz _ (DataW.weights_mem_each (j := 3) (t := 24) (d := d3) rfl rfl m hm)
    simpa using this)
  refine (groups_law W.heap.size (fun k => if k < W.heap.size then 0 else 14) limit seed own so z cap W (Nat.le_refl _) (fun k hk => if_neg (by omega)) (fun k => by split <;> decide) (fun b hb => if_pos hb) hS hz).mono fun e W' ⟨he, ρ', hev⟩ => ?_
  have hb := below_of_ev hev
  subst he
  refine ⟨_, rfl, _, _, _, [], [] ++ ([] ++ ([] ++ p3)), [], hW', ?_, ?_, rfl, hb.frame _, fun h => by cases h⟩
  · exact trodAll_cons_mk (shut_bool Tryz.underlying4 _) trodAll_mk0
  · exact trodAll_mk4 (shut_int Tryz.underlying3 w0) (shut_int Tryz.underlying22 w1) (shut_int Tryz.underlying23 w2) (Below.trod Tryz.laidOut (by kernel_rfl) (of_decide_eq_true (by kernel_rfl)) h3 hb hlt)

theorem groups_holds : Rows.GroupsSaid :=
  OpenClaim.holds_of_wide 3 Tryz.f3 rfl rfl rfl rfl rfl rfl rfl ⟨rfl, rfl, rfl, rfl, rfl⟩ rfl rfl rfl rfl rfl (by kernel_rfl) Tryz.func3 (by kernel_rfl)
    (of_decide_eq_true (by kernel_rfl)) (by unfold Func.isWrapper; first | (rw [if_pos (by decide +kernel)]; kernel_rfl) | (rw [if_neg (by decide +kernel)]; exact ⟨rfl, rfl⟩))
    (fun os started H enc _ => groups_lifted os started H enc)
end Go.Proofs.YtnfkgnjeamnhfaaGreat
