import Derived.Test.YtnfkgnjeamnhfabKng
import Derived.Test.YtnfkgnjeamnhfabKd
import Derived.Test.YtnfkgnjeamnhfabRows
import Derived.Test.YtnfkgnjeamnhfabKta
namespace Go.Proofs.Ytnfkgnjeamnhfab
open Go.ChangeShapes Go.WideShapes Go.ChangeAt Go.RowKit

namespace Q
theorem cPk : Try.prog.cellsOf 58 = 9 := by kernel_rfl
theorem cU8 : Try.prog.cellsOf 5 = 1 := by kernel_rfl
theorem cU16 : Try.prog.cellsOf 56 = 1 := by kernel_rfl
theorem cU32 : Try.prog.cellsOf 29 = 1 := by kernel_rfl
theorem cS : Try.prog.cellsOf 9 = 1 := by kernel_rfl
theorem u8_nat {n : Int} (h : (Lit.int .u8 n).wf = true) : ∃ b : UInt8, n = ((b.toNat : Nat) : Int) := by
  have h2 : (0 : Int) ≤ n ∧ n ≤ 255 := by
    simp only [Lit.wf, Bool.and_eq_true, decide_eq_true_eq] at h
    exact h
  refine ⟨UInt8.ofNat n.toNat, ?_⟩
  simp
  omega
theorem u16_nat {n : Int} (h : (Lit.int .u16 n).wf = true) : ∃ m : Nat, n = (m : Int) ∧ m < 65536 := by
  have h2 : (0 : Int) ≤ n ∧ n ≤ 65535 := by
    simp only [Lit.wf, Bool.and_eq_true, decide_eq_true_eq] at h
    exact h
  exact ⟨n.toNat, by omega, by omega⟩
theorem u32_nat {n : Int} (h : (Lit.int .u32 n).wf = true) : ∃ m : Nat, n = (m : Int) ∧ m < 4294967296 := by
  have h2 : (0 : Int) ≤ n ∧ n ≤ 4294967295 := by
    simp only [Lit.wf, Bool.and_eq_true, decide_eq_true_eq] at h
    exact h
  exact ⟨n.toNat, by omega, by omega⟩
set_option maxRecDepth 100000 in
/-- A packet in raw, opened. -/
theorem open_pk {H : Type} {enc : TypeId × Value → H} {W : World} {b0 : Nat} {v : Value} {d : DataW H} {pl : List MemPlace} (hv : Value.okWide Try.prog W .any b0 58 v) (h : DataW.Trod enc Try.prog W 0 (fun _ => true) true 58 v d pl) (hw : ∀ m ∈ d.weights Try.prog 58, m ≤ reachBytes) :
    ∃ p : Pk, PkFit p ∧ v = pkV p := by
  obtain ⟨cs, rfl, hsz⟩ := okWide_struct Try.underlying58 hv
  obtain ⟨a0, a1, a2, a3, a4, a5, a6, a7, a8, rfl⟩ : ∃ a0 a1 a2 a3 a4 a5 a6 a7 a8, cs = #[a0, a1, a2, a3, a4, a5, a6, a7, a8] := by
    have := hsz.trans cPk
    obtain ⟨l⟩ := cs
    match l, this with
    | [a, b, c, d, e, f, g, h, i], _ => exact ⟨a, b, c, d, e, f, g, h, i, rfl⟩
  obtain ⟨fuel, hf⟩ := h
  have hf' : DataW.trod enc Try.prog W 0 (fun _ => true) true fuel 58 [a0, a1, a2, a3, a4, a5, a6, a7, a8] = some (d, pl) := by simpa [Value.cells] using hf
  obtain ⟨ys, n1, _, hx, _, hyl, hg⟩ := DataW.trod_struct Try.underlying58 hf'
  have hyl : ys.length = 9 := hyl
  obtain ⟨y0, e0⟩ : ∃ y, ys[0]? = some y := ⟨_, List.getElem?_eq_getElem (by omega)⟩
  obtain ⟨y1, e1⟩ : ∃ y, ys[1]? = some y := ⟨_, List.getElem?_eq_getElem (by omega)⟩
  obtain ⟨y2, e2⟩ : ∃ y, ys[2]? = some y := ⟨_, List.getElem?_eq_getElem (by omega)⟩
  obtain ⟨y3, e3⟩ : ∃ y, ys[3]? = some y := ⟨_, List.getElem?_eq_getElem (by omega)⟩
  obtain ⟨y4, e4⟩ : ∃ y, ys[4]? = some y := ⟨_, List.getElem?_eq_getElem (by omega)⟩
  obtain ⟨y5, e5⟩ : ∃ y, ys[5]? = some y := ⟨_, List.getElem?_eq_getElem (by omega)⟩
  obtain ⟨y6, e6⟩ : ∃ y, ys[6]? = some y := ⟨_, List.getElem?_eq_getElem (by omega)⟩
  obtain ⟨y7, e7⟩ : ∃ y, ys[7]? = some y := ⟨_, List.getElem?_eq_getElem (by omega)⟩
  obtain ⟨y8, e8⟩ : ∃ y, ys[8]? = some y := ⟨_, List.getElem?_eq_getElem (by omega)⟩
  have k0 : DataW.trod enc Try.prog W 0 (fun _ => true) true n1 5 [a0] = some y0 := by have := (hg 0 _ rfl).trans e0; simpa [cU8] using this
  have k1 : DataW.trod enc Try.prog W 0 (fun _ => true) true n1 5 [a1] = some y1 := by have := (hg 1 _ rfl).trans e1; simpa [cU8] using this
  have k2 : DataW.trod enc Try.prog W 0 (fun _ => true) true n1 5 [a2] = some y2 := by have := (hg 2 _ rfl).trans e2; simpa [cU8] using this
  have k3 : DataW.trod enc Try.prog W 0 (fun _ => true) true n1 56 [a3] = some y3 := by have := (hg 3 _ rfl).trans e3; simpa [cU16] using this
  have k4 : DataW.trod enc Try.prog W 0 (fun _ => true) true n1 56 [a4] = some y4 := by have := (hg 4 _ rfl).trans e4; simpa [cU16] using this
  have k5 : DataW.trod enc Try.prog W 0 (fun _ => true) true n1 29 [a5] = some y5 := by have := (hg 5 _ rfl).trans e5; simpa [cU32] using this
  have k6 : DataW.trod enc Try.prog W 0 (fun _ => true) true n1 29 [a6] = some y6 := by have := (hg 6 _ rfl).trans e6; simpa [cU32] using this
  have k7 : DataW.trod enc Try.prog W 0 (fun _ => true) true n1 9 [a7] = some y7 := by have := (hg 7 _ rfl).trans e7; simpa [cS] using this
  have k8 : DataW.trod enc Try.prog W 0 (fun _ => true) true n1 9 [a8] = some y8 := by have := (hg 8 _ rfl).trans e8; simpa [cS] using this
  obtain ⟨x0, q0, -, w0⟩ := DataW.trod_int Try.underlying5 k0
  obtain ⟨x1, q1, -, w1⟩ := DataW.trod_int Try.underlying5 k1
  obtain ⟨x2, q2, -, w2⟩ := DataW.trod_int Try.underlying5 k2
  obtain ⟨x3, q3, -, w3⟩ := DataW.trod_int Try.underlying56 k3
  obtain ⟨x4, q4, -, w4⟩ := DataW.trod_int Try.underlying56 k4
  obtain ⟨x5, q5, -, w5⟩ := DataW.trod_int Try.underlying29 k5
  obtain ⟨x6, q6, -, w6⟩ := DataW.trod_int Try.underlying29 k6
  obtain ⟨s7, q7, -, -⟩ := DataW.trod_string Try.underlying9 k7
  obtain ⟨s8, q8, r8, -⟩ := DataW.trod_string Try.underlying9 k8
  simp only [List.cons.injEq, and_true] at q0 q1 q2 q3 q4 q5 q6 q7 q8
  obtain ⟨b0, rfl⟩ := u8_nat w0
  obtain ⟨b1, rfl⟩ := u8_nat w1
  obtain ⟨b2, rfl⟩ := u8_nat w2
  obtain ⟨m3, rfl, l3⟩ := u16_nat w3
  obtain ⟨m4, rfl, l4⟩ := u16_nat w4
  obtain ⟨m5, rfl, l5⟩ := u32_nat w5
  obtain ⟨m6, rfl, l6⟩ := u32_nat w6
  have hD : d = .agg (ys.map (·.1)) := congrArg Prod.fst hx
  have hs8 : s8.size ≤ reachBytes := by
    refine hw _ ?_
    rw [hD]
    simp only [DataW.weights, Try.underlying58]
    refine DataW.weights_mem_each (j := 8) (t := 9) (d := y8.1) rfl (by simp [e8]) _ ?_
    rw [r8]
    simp [DataW.weights]
  subst q0 q1 q2 q3 q4 q5 q6 q7 q8
  exact ⟨⟨b0, b1, b2, m3, m4, m5, m6, s7, s8⟩, ⟨l3, l4, l5, l6, hs8⟩, rfl⟩
end Q
end Go.Proofs.Ytnfkgnjeamnhfab
namespace Go.Proofs.Ytnfkgnjeamnhfab
open Go.ChangeShapes Go.WideShapes Go.ChangeAt Go.RowKit

set_option maxRecDepth 100000 in
theorem answers_lifted (os : Os) (started : os.Started) (H : Type) (enc : TypeId × Value → H) :
    ReturnsInHanded {} Try.checked os 7 .any (Rows.answersSpec.pre6 enc Try.prog Try.f7 Rows.answersRow.domain false) (Rows.answersSpec.post enc Try.prog Try.f7 false true false false) := by
  refine returnsInHanded_of_change_sized (C := Try.checked) Q.own started (by kernel_rfl) Try.func7
    (ChangeSpec.witness6 (enc := enc) (C := Try.checked) false ⟨#[], #[.int .i64 0, .int .u64 0, .int .u32 0, .slice none 0 0, .agg #[.int .u8 0, .int .u8 0, .int .u8 0, .int .u16 0, .int .u16 0, .int .u32 0, .int .u32 0, .string ⟨#[]⟩, .string ⟨#[]⟩]], []⟩ 8 (by kernel_rfl) (by kernel_rfl) (by kernel_rfl) (by kernel_rfl)) ?_
  intro W base args ds gs before hval0 hW _ hsz0 _
  have hsz : (DataW.weightsEach Try.prog (Try.f7.params.toList ++ Rows.answersSpec.plain.varTypes Try.prog) (ds ++ gs)).all (· ≤ reachBytes) = true := hsz0
  clear hsz0
  have hval : ∀ (j : Nat) t v, Try.f7.params[j]? = some t → args[j]? = some v → Value.okWide Try.prog W .any base t v := hval0
  have hW' := hW
  obtain ⟨p, q, hA0, hV, rfl, _, _⟩ := hW
  have hA : DataW.TrodAll enc Try.prog W 0 (fun _ => true) true Try.f7.params.toList args.toList ds p := hA0
  rw [Try.params7] at hA hval hsz
  obtain ⟨v0, vs0, d0, ds0, p0, q0, hargs, rfl, rfl, h0, r0⟩ := trodAll_cons hA
  obtain ⟨v1, vs1, d1, ds1, p1, q1, rfl, rfl, rfl, h1, r1⟩ := trodAll_cons r0
  obtain ⟨v2, vs2, d2, ds2, p2, q2, rfl, rfl, rfl, h2, r2⟩ := trodAll_cons r1
  obtain ⟨v3, vs3, d3, ds3, p3, q3, rfl, rfl, rfl, h3, r3⟩ := trodAll_cons r2
  obtain ⟨v4, vs4, d4, ds4, p4, q4, rfl, rfl, rfl, h4, r4⟩ := trodAll_cons r3
  obtain ⟨rfl, rfl, rfl⟩ := trodAll_nil r4
  obtain rfl : args = #[v0, v1, v2, v3, v4] := by cases args; simp_all
  obtain ⟨rfl, rfl⟩ := trodVars_none hV
  obtain ⟨limit, rfl, rfl, rfl, w0⟩ := open_int Try.underlying3 (hval 0 3 v0 rfl rfl) h0
  obtain ⟨seed, rfl, rfl, rfl, w1⟩ := open_int Try.underlying23 (hval 1 23 v1 rfl rfl) h1
  obtain ⟨own, rfl, rfl, rfl, w2⟩ := open_int Try.underlying29 (hval 2 29 v2 rfl rfl) h2
  obtain ⟨so, z, cap, rfl⟩ := okWide_slice Try.underlying22 (hval 3 22 v3 rfl rfl)
  obtain ⟨pk, hfit, rfl⟩ := Q.open_pk (hval 4 58 v4 rfl rfl) h4 (fun m hm => by
    have := List.all_eq_true.1 hsz _ (DataW.weights_mem_each (j := 4) (t := 58) (d := d4) rfl rfl m hm)
    simpa using this)
  clear hA0 hval0
  simp only [List.append_nil, List.nil_append] at hW'
  have hlt3 : ∀ x ∈ p3, x.block < W.heap.size := fun x hx => hW'.lt x (by simp [hx])
  have hlt4 : ∀ x ∈ p4, x.block < W.heap.size := fun x hx => hW'.lt x (by simp [hx])
  obtain ⟨ops, hz, hS, hz2⟩ := Q.open_scrK h3 (fun m hm => by
    have := List.all_eq_true.1 hsz _ (DataW.weights_mem_each (j := 3) (t := 22) (d := d3) rfl rfl m hm)
    simpa using this)
  refine (answers_law limit seed own so z cap ops pk hfit W (Q.rg_of w1 w2) hz hz2 hS).mono fun e W' ⟨he, hb⟩ => ?_
  subst he
  refine ⟨_, rfl, _, _, _, [], [] ++ ([] ++ ([] ++ (p3 ++ (p4 ++ [])))), [], hW', ?_, ?_, rfl, hb.frame _, fun h => by cases h⟩
  · exact trodAll_cons_mk (shut_bool Try.underlying4 _) trodAll_mk0
  · exact trodAll_cons_mk (shut_int Try.underlying3 w0) (trodAll_cons_mk (shut_int Try.underlying23 w1) (trodAll_cons_mk (shut_int Try.underlying29 w2) (trodAll_cons_mk (Below.trod Q.laidOut (by kernel_rfl) (of_decide_eq_true (by kernel_rfl)) h3 hb hlt3) (trodAll_cons_mk (Below.trod Q.laidOut (by kernel_rfl) (of_decide_eq_true (by kernel_rfl)) h4 hb hlt4) trodAll_mk0))))

theorem answers_holds : Rows.AnswersSaid :=
  OpenClaim.holds_of_wide 7 Try.f7 rfl rfl rfl rfl rfl rfl rfl ⟨rfl, rfl, rfl, rfl, rfl⟩ rfl rfl rfl rfl rfl (by kernel_rfl) Try.func7 (by kernel_rfl)
    (of_decide_eq_true (by kernel_rfl)) (by unfold Func.isWrapper; first | (rw [if_pos (by decide +kernel)]; kernel_rfl) | (rw [if_neg (by decide +kernel)]; exact ⟨rfl, rfl⟩))
    (fun os started H enc _ => answers_lifted os started H enc)
end Go.Proofs.Ytnfkgnjeamnhfab
