import Derived.Test.YtnfkgnjeamnhfaaDoorCards
import Derived.Test.YtnfkgnjeamnhfaaDoorTie
import Derived.Test.YtnfkgnjeamnhfaaDoorRrAll
import Derived.WalkKit
import Derived.ProofKit
import Derived.OpenShut
import Derived.Deep.DeepHandedRow
import Derived.Deep.Strs
import Derived.Lib.LaidTab
import Derived.Lib.SmallJoins
import Derived.Stop.LaidErr
namespace Go.Proofs.YtnfkgnjeamnhfaaDoor.Rr
open Go.ChangeShapes Go.WideShapes Go.ChangeAt Go.RowKit
open Go.ChangeMaps (open_string shut_string)

theorem own : ownKnob Tryd.prog.godebug = none := by kernel_rfl
theorem g2 : Tryd.prog.globalNamed "math/bits.deBruijn64tab" = some 2 := by kernel_rfl
theorem g2t : (Tryd.prog.globals[2]?).map (·.type) = some 90 := by kernel_rfl
theorem g0t : (Tryd.prog.globals[0]?).map (·.type) = some 83 := by kernel_rfl
theorem c88 : Tryd.prog.cellsOf 90 = 64 := by kernel_rfl
theorem c81 : Tryd.prog.cellsOf 83 = 20 := by kernel_rfl
theorem c5 : Tryd.prog.cellsOf 5 = 1 := by kernel_rfl
theorem c22 : Tryd.prog.cellsOf 22 = 1 := by kernel_rfl
theorem c26 : Tryd.prog.cellsOf 26 = 4 := by kernel_rfl
theorem c24 : Tryd.prog.cellsOf 24 = 3 := by kernel_rfl
theorem c3 : Tryd.prog.cellsOf 3 = 1 := by kernel_rfl

def bru64 : List Int := [0, 1, 56, 2, 57, 49, 28, 3, 61, 58, 42, 50, 38, 29, 17, 4, 62, 47, 59, 36, 45, 43, 51, 22, 53, 39, 33, 30, 24, 18, 12, 5, 63, 55, 48, 27, 60, 41, 37, 16, 46, 35, 44, 21, 52, 32, 23, 11, 54, 26, 40, 15, 34, 20, 31, 10, 25, 14, 19, 9, 13, 8, 7, 6]
/-- WHAT THE ROW's LIST GIVES. -/
theorem tabs {W : World} (h : laidMetH Tryd.prog Rows.rereadRow.laid W) : Tabs W := by
  rw [MakeChecks.laidMetH_plain _ _ _ (by kernel_rfl)] at h
  have t1 := laidMet.tail h
  have t2 := laidMet.tail t1
  have b : Lib.TabIs Tryd.prog W "math/bits.deBruijn64tab" .u8 bru64 := Lib.tabIs_of_head g2 g2t Tryd.underlying90 Tryd.underlying5 c5 c88 t1
  have p : Lib.TabIs Tryd.prog W "internal/strconv.uint64pow10" .u64 Lib.pow10Tab := Lib.tabIs_of_head gpow g0t Tryd.underlying83 Tryd.underlying22 c22 c81 t2
  have hc : W.cell? ⟨2, 15, none⟩ = some (.int .u8 4) := b.cell g2 15 (by decide)
  exact ⟨p, hc, block_lt_of_cell hc⟩

theorem bounds_u64 {x : Int} (h : (Lit.int .u64 x).wf = true) : 0 ≤ x ∧ x ≤ 18446744073709551615 := by
  have e1 : IntKind.u64.min = 0 := rfl
  have e2 : IntKind.u64.max = 18446744073709551615 := rfl
  simp [Lit.wf, e1, e2] at h
  omega

/-- A PREFIX BY VALUE, OPENED. -/
theorem open_pref {H : Type} {enc : TypeId × Value → H} {W : World} {base : Nat} {sp : Nat → Bool} {held : Bool} {r : Reach} {b0 : Nat} {v : Value} {d : DataW H} {p : List MemPlace}
    (hv : Value.okWide Tryd.prog W r b0 26 v) (h : DataW.Trod enc Tryd.prog W base sp held 26 v d p) :
    ∃ (f : Int) (hi lo : Nat) (n : Int), v = pref f hi lo n ∧ d = .agg [.agg [.lit (.int .i64 f), .lit (.int .u64 hi), .lit (.int .u64 lo)], .lit (.int .i64 n)] ∧ p = [] ∧ (Lit.int .i64 f).wf = true ∧ hi ≤ 18446744073709551615 ∧ lo ≤ 18446744073709551615 ∧ (Lit.int .i64 n).wf = true := by
  obtain ⟨cs, rfl, hsz⟩ := okWide_struct Tryd.underlying26 hv
  obtain ⟨v0, v1, v2, v3, rfl⟩ : ∃ v0 v1 v2 v3, cs = #[v0, v1, v2, v3] := by
    have := hsz.trans c26
    obtain ⟨l⟩ := cs
    match l, this with
    | [a, b, c, d], _ => exact ⟨a, b, c, d, rfl⟩
  obtain ⟨fuel, hf⟩ := h
  obtain ⟨y0, y1, m, hx, _, h0, h1⟩ := trod_struct2 Tryd.underlying26 hf
  have h0' : DataW.trod enc Tryd.prog W base sp held m 24 [v0, v1, v2] = some y0 := by simpa [Value.cells, c24] using h0
  have h1' : DataW.trod enc Tryd.prog W base sp held m 3 [v3] = some y1 := by simpa [Value.cells, c3] using h1
  obtain ⟨z0, z1, z2, k, hy, _, j0, j1, j2⟩ := Deep.trod_struct3 Tryd.underlying24 h0'
  have j0' : DataW.trod enc Tryd.prog W base sp held k 3 [v0] = some z0 := by simpa [c3] using j0
  have j1' : DataW.trod enc Tryd.prog W base sp held k 22 [v1] = some z1 := by simpa [c22] using j1
  have j2' : DataW.trod enc Tryd.prog W base sp held k 22 [v2] = some z2 := by simpa [c22] using j2
  obtain ⟨f, e0, rfl, w0⟩ := DataW.trod_int Tryd.underlying3 j0'
  obtain ⟨a, e1, rfl, w1⟩ := DataW.trod_int Tryd.underlying22 j1'
  obtain ⟨b, e2, rfl, w2⟩ := DataW.trod_int Tryd.underlying22 j2'
  obtain ⟨n, e3, rfl, w3⟩ := DataW.trod_int Tryd.underlying3 h1'
  simp at e0 e1 e2 e3
  subst e0 e1 e2 e3
  obtain ⟨ba, bb⟩ := bounds_u64 w1
  obtain ⟨bc, bd⟩ := bounds_u64 w2
  obtain ⟨hi, rfl⟩ : ∃ hi : Nat, a = hi := ⟨a.toNat, by omega⟩
  obtain ⟨lo, rfl⟩ : ∃ lo : Nat, b = lo := ⟨b.toNat, by omega⟩
  subst hy
  simp only [Prod.mk.injEq] at hx
  exact ⟨f, hi, lo, n, rfl, hx.1, by simpa using hx.2, w0, by omega, by omega, w3⟩
/-- AND SHUT AGAIN. -/
theorem shut_pref {H : Type} {enc : TypeId × Value → H} {W : World} {base : Nat} {sp : Nat → Bool} {held : Bool} {f n : Int} {hi lo : Nat} (wf : (Lit.int .i64 f).wf = true) (hh : hi ≤ 18446744073709551615) (hl : lo ≤ 18446744073709551615) (wn : (Lit.int .i64 n).wf = true) :
    DataW.Trod enc Tryd.prog W base sp held 26 (pref f hi lo n) (.agg [.agg [.lit (.int .i64 f), .lit (.int .u64 hi), .lit (.int .u64 lo)], .lit (.int .i64 n)]) [] := by
  have wu : ∀ x : Nat, x ≤ 18446744073709551615 → (Lit.int .u64 x).wf = true := by
    intro x hx
    have e1 : IntKind.u64.min = 0 := rfl
    have e2 : IntKind.u64.max = 18446744073709551615 := rfl
    simp [Lit.wf, e1, e2]; omega
  have h3 : DataW.trod enc Tryd.prog W base sp held 2 24 [.int .i64 f, .int .u64 hi, .int .u64 lo] = some (.agg [.lit (.int .i64 f), .lit (.int .u64 hi), .lit (.int .u64 lo)], []) := by
    have := Deep.trod_struct3_mk (enc := enc) (w := W) (base := base) (spare := sp) (held := held) (n := 1) (cs := [.int .i64 f, .int .u64 hi, .int .u64 lo]) (y0 := (.lit (.int .i64 f), [])) (y1 := (.lit (.int .u64 hi), [])) (y2 := (.lit (.int .u64 lo), [])) Tryd.underlying24 (by rw [c24]; rfl)
      (by simpa [c3] using trod_int_mk 0 Tryd.underlying3 wf) (by simpa [c22] using trod_int_mk 0 Tryd.underlying22 (wu hi hh)) (by simpa [c22] using trod_int_mk 0 Tryd.underlying22 (wu lo hl))
    simpa using this
  refine ⟨3, ?_⟩
  have := trod_struct2_mk (enc := enc) (w := W) (base := base) (spare := sp) (held := held) (n := 2) (cs := [.int .i64 f, .int .u64 hi, .int .u64 lo, .int .i64 n]) (y0 := (.agg [.lit (.int .i64 f), .lit (.int .u64 hi), .lit (.int .u64 lo)], [])) (y1 := (.lit (.int .i64 n), [])) Tryd.underlying26 (by rw [c26]; rfl)
    (by simpa [c24] using h3) (by simpa [c3] using trod_int_mk 1 Tryd.underlying3 wn)
  simpa [Value.cells] using this

/-- WHAT THE WALK GIVES, FOR EVERY ARGUMENT AND EVERY WORLD THAT HOLDS THE TABLES. -/
theorem contract (H : Type) (enc : TypeId × Value → H) (W : World) (base : Nat) (args : Array Value) (ds gs : List (DataW H)) (before : List MemPlace)
    (hval : ∀ (j : Nat) t v, Tryd.f4.params[j]? = some t → args[j]? = some v → Value.okWide Tryd.prog W .any base t v)
    (hW : DataW.Whole enc Tryd.prog Tryd.f4.params.toList Rows.rereadSpec.vars false W args.toList ds gs before) (hL : laidMetH Tryd.prog Rows.rereadRow.laid W) :
    Calls Tryd.prog 4 args W fun e W' => ∃ v, e = .returned v ∧ Rows.rereadSpec.post enc Tryd.prog Tryd.f4 false true false false W args v W' := by
  have hW' := hW
  obtain ⟨p, q, hA0, hV, rfl, hfz, hnd⟩ := hW
  have hA : DataW.TrodAll enc Tryd.prog W 0 (fun _ => true) true Tryd.f4.params.toList args.toList ds p := hA0
  rw [Tryd.params4] at hA hval
  obtain ⟨v0, vs0, d0, ds0, p0, q0, hargs, rfl, rfl, h0, r0⟩ := trodAll_cons hA
  obtain ⟨v1, vs1, d1, ds1, p1, q1, rfl, rfl, rfl, h1, r1⟩ := trodAll_cons r0
  obtain ⟨rfl, rfl, rfl⟩ := trodAll_nil r1
  obtain rfl : args = #[v0, v1] := by cases args; simp_all
  obtain ⟨rfl, rfl⟩ := trodVars_none hV
  obtain ⟨f, hi, lo, n, rfl, rfl, rfl, wf, hh, hl, wn⟩ := open_pref (hval 0 26 v0 rfl rfl) h0
  obtain ⟨s, rfl, rfl, rfl, hs⟩ := open_string Tryd.underlying9 (hval 1 9 v1 rfl rfl) h1
  clear hA0
  simp only [List.append_nil] at hW'
  refine (reread_all f hi lo n s W hh hl hs (tabs hL)).mono fun e W' ⟨he, hb⟩ => ?_
  subst he
  refine ⟨_, rfl, _, _, _, [], [], [], hW', ?_, ?_, rfl, hb.frame _, fun h => by cases h⟩
  · exact trodAll_cons_mk (shut_bool Tryd.underlying4 _) trodAll_mk0
  · exact trodAll_cons_mk (shut_pref wf hh hl wn) (trodAll_cons_mk (shut_string Tryd.underlying9 hs) trodAll_mk0)

/-- A block's cells laid anew. -/
def relay (cs : Array Value) : Obj → Obj
  | .cells _ t frozen => .cells cs t frozen
  | o => o
/-- A WORLD FOR THE WITNESS: the settled one, each table holding what its initialiser lays. -/
def laidWorldOf (P : Program) (os : Os) : World :=
  { World.holding P os ⟨#[], #[], []⟩ with heap := (((World.holding P os ⟨#[], #[], []⟩).heap.modify 0 (relay #[.int .u64 1, .int .u64 10, .int .u64 100, .int .u64 1000, .int .u64 10000, .int .u64 100000, .int .u64 1000000, .int .u64 10000000, .int .u64 100000000, .int .u64 1000000000, .int .u64 10000000000, .int .u64 100000000000, .int .u64 1000000000000, .int .u64 10000000000000, .int .u64 100000000000000, .int .u64 1000000000000000, .int .u64 10000000000000000, .int .u64 100000000000000000, .int .u64 1000000000000000000, .int .u64 10000000000000000000])).modify 1 (relay #[.int .u8 0, .int .u8 1, .int .u8 28, .int .u8 2, .int .u8 29, .int .u8 14, .int .u8 24, .int .u8 3, .int .u8 30, .int .u8 22, .int .u8 20, .int .u8 15, .int .u8 25, .int .u8 17, .int .u8 4, .int .u8 8, .int .u8 31, .int .u8 27, .int .u8 13, .int .u8 23, .int .u8 21, .int .u8 19, .int .u8 16, .int .u8 7, .int .u8 26, .int .u8 12, .int .u8 18, .int .u8 6, .int .u8 11, .int .u8 5, .int .u8 10, .int .u8 9])).modify 2 (relay #[.int .u8 0, .int .u8 1, .int .u8 56, .int .u8 2, .int .u8 57, .int .u8 49, .int .u8 28, .int .u8 3, .int .u8 61, .int .u8 58, .int .u8 42, .int .u8 50, .int .u8 38, .int .u8 29, .int .u8 17, .int .u8 4, .int .u8 62, .int .u8 47, .int .u8 59, .int .u8 36, .int .u8 45, .int .u8 43, .int .u8 51, .int .u8 22, .int .u8 53, .int .u8 39, .int .u8 33, .int .u8 30, .int .u8 24, .int .u8 18, .int .u8 12, .int .u8 5, .int .u8 63, .int .u8 55, .int .u8 48, .int .u8 27, .int .u8 60, .int .u8 41, .int .u8 37, .int .u8 16, .int .u8 46, .int .u8 35, .int .u8 44, .int .u8 21, .int .u8 52, .int .u8 32, .int .u8 23, .int .u8 11, .int .u8 54, .int .u8 26, .int .u8 40, .int .u8 15, .int .u8 34, .int .u8 20, .int .u8 31, .int .u8 10, .int .u8 25, .int .u8 14, .int .u8 19, .int .u8 9, .int .u8 13, .int .u8 8, .int .u8 7, .int .u8 6]) }
abbrev wargs : Array Value := #[.agg #[.int .i64 0, .int .u64 0, .int .u64 0, .int .i64 0], .string ⟨#[]⟩]
theorem laid_met (os : Os) : laidMet Tryd.prog Rows.rereadRow.laid ((laidWorldOf Tryd.prog os).forCall (fun _ _ => 0) ⟨#[], wargs, []⟩).memory :=
  laidMet_of_run' 8 (by kernel_rfl) (by kernel_rfl)
theorem reads (os : Os) {H : Type} (enc : TypeId × Value → H) : ∃ places, DataW.whole enc Tryd.prog ((laidWorldOf Tryd.prog os).forCall (fun _ _ => 0) ⟨#[], wargs, []⟩).memory Tryd.f4.params.toList Rows.rereadSpec.vars false wargs.toList 8 = some ([.agg [.agg [.lit (.int .i64 0), .lit (.int .u64 0), .lit (.int .u64 0)], .lit (.int .i64 0)], .lit (.string [])], [], places) :=
  ⟨[], by kernel_rfl⟩

set_option maxRecDepth 100000 in
theorem lifted (os : Os) (started : os.Started) (H : Type) (enc : TypeId × Value → H) (F : Stop.Interp) :
    ReturnsInHanded {} Tryd.checked os 4 .any ((OpenSpec.ofChange Rows.rereadSpec).preRow enc Tryd.prog Tryd.f4 Rows.rereadRow.domain false Rows.rereadRow.laid) (((OpenSpec.ofChange Rows.rereadSpec).at F).post enc Tryd.prog Tryd.f4 false true false false) := by
  obtain ⟨places, hx⟩ := reads os enc
  refine returnsInHanded_of_row (C := Tryd.checked) (s := OpenSpec.ofChange Rows.rereadSpec) own started (by kernel_rfl) Tryd.func4
    (witness_row_at (enc := enc) (C := Tryd.checked) false (laidWorldOf Tryd.prog os) wargs rfl (by kernel_rfl) (by kernel_rfl) (by kernel_rfl)
      (OpenSpec.preRow_of_cond 8 hx (by kernel_rfl) (fun k hk => by cases hk) (by kernel_rfl) (laid_met os))) ?_
  intro W base args ds gs before hval hW _ _ _ hL _ _
  exact contract H enc W base args ds gs before hval hW hL

theorem said : Rows.RereadSaid :=
  OpenClaim.holds_of_cond 4 Tryd.f4 rfl rfl rfl rfl rfl rfl rfl ⟨rfl, rfl, rfl, rfl, rfl⟩ rfl rfl rfl rfl rfl (by kernel_rfl) Tryd.func4 (by kernel_rfl)
    (of_decide_eq_true (by kernel_rfl)) (by unfold Func.isWrapper; first | (rw [if_pos (by decide +kernel)]; kernel_rfl) | (rw [if_neg (by decide +kernel)]; exact ⟨rfl, rfl⟩))
    (fun os started H enc _ F => by rw [OpenClaim.pre_eq_preRow]; exact lifted os started H enc F)

/-- No parameter wants a stand-in; the program's own looks are off. -/
theorem plain (f : FuncId) (fn : Func) (hf : Tryd.pinned.checked.prog.funcNamed "waymark/waymarkkeep.Reread" = some f) (hfn : Tryd.pinned.checked.prog.funcs[f]? = some fn) :
    false = Tryd.pinned.checked.prog.looks [] ∧ ∀ (j : Nat) t, fn.params[j]? = some t → Tryd.pinned.checked.prog.wantsStandIn t = false := by
  obtain rfl : f = 4 := Option.some.inj ((show Tryd.prog.funcNamed "waymark/waymarkkeep.Reread" = some 4 by kernel_rfl).symm.trans hf) |>.symm
  obtain rfl : fn = Tryd.f4 := (Option.some.inj (Tryd.func4.symm.trans hfn)).symm
  refine ⟨by kernel_rfl, fun j t ht => ?_⟩
  rw [Tryd.params4] at ht
  have hm : t ∈ [26, 9] := by simpa using Array.mem_of_getElem? ht
  have hall : ([26, 9].all fun u => !Tryd.prog.wantsStandIn u) = true := by kernel_rfl
  exact (show Tryd.prog.wantsStandIn t = false by simpa using List.all_eq_true.1 hall t hm)
end Go.Proofs.YtnfkgnjeamnhfaaDoor.Rr

namespace Go.Proofs.YtnfkgnjeamnhfaaDoor
/-- THE CARD. -/
theorem reread_card : Rows.RereadCardSaid :=
  Claim7.holds_tied_plain_at .later [] _ _ _ _ Rr.said (fun _ h => by cases h) (by kernel_rfl) (fun _ h => by cases h) reread_row_tie rfl ⟨rfl, rfl⟩ (by kernel_rfl) rfl Rr.plain (by kernel_rfl)
end Go.Proofs.YtnfkgnjeamnhfaaDoor
