import Derived.Test.YtnfkgnjeamnhfabKnf
import Derived.Test.YtnfkgnjeamnhfabKni
import Derived.Deep.DeepCutAuto
import Derived.BigQuiet
namespace Go.Proofs.Ytnfkgnjeamnhfab
open Go.RowKit

/-- PlainR, guards apart. -/
structure PlainG (ops : Array Oper) (n : Nat) : Prop where
  dst : ∀ (i : Nat) (o : Oper), ops[i]? = some o → ∃ d, o.dst = some d ∧ d < n
  apart : ∀ i j d, dOf ops i = some d → dOf ops j = some d → i = j
  lex : ∀ (i : Nat) (o : Oper), ops[i]? = some o → ∀ e ∈ o.after, Region.binds .any e = true → e.on < i
theorem all_listedG {ops : Array Oper} {n : Nat} (hp : PlainG ops n) {listed : Array Bool} (hs : listed.size = ops.size) (h : Region.ready .any ops listed = []) : ∀ j, j < ops.size → listed.getD j false = true := by
  intro j
  induction j using Nat.strongRecOn with
  | _ j ih =>
    intro hj
    have ho : ops[j]? = some ops[j] := Array.getElem?_eq_getElem hj
    by_cases hl : listed.getD j true = false
    · have := ready_in ho hl (fun e he hb => ih _ (hp.lex _ _ ho e he hb) (Nat.lt_trans (hp.lex _ _ ho e he hb) hj))
      rw [h] at this
      cases this
    · have hj' : j < listed.size := by omega
      rw [Array.getD_eq_getD_getElem?, Array.getElem?_eq_getElem hj'] at hl ⊢
      simpa using hl
/-- wp_region_rely, with guards: each operation is shown to be wanted. -/
theorem wp_region_relyG {P : Program} {id : Nat} {ops : Array Oper} {Q : Exit → Act → World → Prop} {a0 : Act} {w0 : World} (R : World → World → Prop) (A : Nat → Value → World → Prop)
    (hm : P.follows .mixedOrders = true) (hp : PlainG ops a0.tmps.size) (ht : ∀ a b c, R a b → R b c → R a c) (h0 : R w0 { w0 with drawn := w0.drawn + 1 }) (hA : ∀ j v w w', A j v w → R w w' → A j v w')
    (hop : ∀ (i : Nat) (o : Oper), ops[i]? = some o → ∀ a w, R w0 w → FitR ops a0 a → (∀ e ∈ o.after, Region.binds .any e = true → A e.on (dVal a (dOf ops e.on)) w) → Region.wanted o (yielded ops a.tmps) = true ∧ o.wp P a w (fun a' w' => ∃ v, a' = a.put o.dst v ∧ R w w' ∧ A i v w') Q)
    (hend : ∀ a w, R w0 w → FitR ops a0 a → (∀ j, j < ops.size → A j (dVal a (dOf ops j)) w) → Q .normal a w) : (Code.region id ops true).wp P Q a0 w0 := by
  have key : ∀ (fuel : Nat) (listed : Array Bool) (a : Act) (w : World), listed.toList.countP (· == false) ≤ fuel → listed.size = ops.size → R w0 w → FitR ops a0 a → (∀ j, listed.getD j false = true → A j (dVal a (dOf ops j)) w) → wpAny P .any ops Q fuel listed a w := by
    intro fuel
    induction fuel with
    | zero =>
      intro listed a w hc hs hR hF hI
      have hall : ∀ b ∈ listed.toList, b = true := fun b hb => by
        have := List.countP_eq_zero.1 (Nat.le_zero.1 hc) b hb
        cases b
        · exact absurd rfl this
        · rfl
      have hnil : Region.ready .any ops listed = [] := by
        rw [List.eq_nil_iff_forall_not_mem]
        intro i hi
        obtain ⟨o, ho, hl, -⟩ := ready_mem hi
        have hi' : i < listed.size := by rw [hs]; exact (Array.getElem?_eq_some_iff.1 ho).1
        rw [Array.getD_eq_getD_getElem?, Array.getElem?_eq_getElem hi'] at hl
        have := hall listed[i] (by simp)
        rw [Option.getD_some, this] at hl
        cases hl
      exact ⟨hnil, hend a w hR hF fun j hj => hI j (all_listedG hp hs hnil j hj)⟩
    | succ fuel ih =>
      intro listed a w hc hs hR hF hI
      refine ⟨fun hnil => hend a w hR hF fun j hj => hI j (all_listedG hp hs hnil j hj), fun i hi => ?_⟩
      obtain ⟨o, ho, hl, hd⟩ := ready_mem hi
      have hi' : i < listed.size := by rw [hs]; exact (Array.getElem?_eq_some_iff.1 ho).1
      have hli : listed[i] = false := by
        rw [Array.getD_eq_getD_getElem?, Array.getElem?_eq_getElem hi'] at hl
        simpa using hl
      obtain ⟨d, hdo, hdl⟩ := hp.dst i o ho
      have hdi : dOf ops i = some d := by unfold dOf; rw [ho]; exact hdo
      unfold wpOp
      rw [ho]
      show if Region.wanted o (yielded ops a.tmps) = true then _ else _
      obtain ⟨hwa, hwp⟩ := hop i o ho a w hR hF fun e he hb => hI _ (hd e he hb)
      rw [if_pos hwa]
      refine .inl (Oper.wp_mono ?_ hwp)
      rintro a' w' ⟨v, rfl, hR', hv⟩
      rw [hdo]
      refine ih _ _ _ ?_ (by simpa using hs) (ht _ _ _ hR hR') ⟨hF.defers, ?_, fun t h => ?_⟩ fun j hj => ?_
      · have hlt : i < listed.toList.length := by simpa using hi'
        have e1 : listed.toList[i] = false := by simpa using hli
        have hpos : 0 < listed.toList.countP (· == false) := List.countP_pos_iff.2 ⟨false, by rw [← e1]; exact List.getElem_mem _, rfl⟩
        rw [Array.toList_setIfInBounds, List.countP_set hlt, e1]
        have e2 : (true == false) = false := rfl
        rw [e2]
        show listed.toList.countP (· == false) - 1 + 0 ≤ fuel
        omega
      · show (a.tmps.setIfInBounds d v).size = _
        rw [Array.size_setIfInBounds, hF.size]
      · have hne : d ≠ t := fun e => h i (by rw [hdi, e])
        show (a.tmps.setIfInBounds d v).getD t undef = _
        rw [← hF.out t h, Array.getD_eq_getD_getElem?, Array.getElem?_setIfInBounds_ne hne, ← Array.getD_eq_getD_getElem?]
      · by_cases hji : j = i
        · subst hji
          rw [hdi]
          have e2 : dVal (a.put (some d) v) (some d) = v := by
            show (a.tmps.setIfInBounds d v).getD d undef = v
            rw [Array.getD_eq_getD_getElem?, Array.getElem?_setIfInBounds_self_of_lt (by rw [hF.size]; exact hdl)]
            rfl
          rw [e2]
          exact hv
        · have hjl : listed.getD j false = true := by
            rw [Array.getD_eq_getD_getElem?, Array.getElem?_setIfInBounds_ne (fun e => hji e.symm), ← Array.getD_eq_getD_getElem?] at hj
            exact hj
          have h1 := hA _ _ _ _ (hI j hjl) hR'
          have e3 : dVal (a.put (some d) v) (dOf ops j) = dVal a (dOf ops j) := by
            cases hdj : dOf ops j with
            | none => rfl
            | some t =>
              have hne : d ≠ t := fun e => hji (hp.apart j i t hdj (by rw [hdi, e]))
              show (a.tmps.setIfInBounds d v).getD t undef = a.tmps.getD t undef
              rw [Array.getD_eq_getD_getElem?, Array.getElem?_setIfInBounds_ne hne, ← Array.getD_eq_getD_getElem?]
          rw [e3]
          exact h1
  refine wp_region_any hm (key _ _ _ _ ?_ (by simp) h0 ⟨rfl, rfl, fun _ _ => rfl⟩ fun j hj => ?_)
  · have := List.countP_le_length (p := (· == false)) (l := (Array.replicate ops.size false).toList)
    simpa using this
  · rw [Array.getD_eq_getD_getElem?, Array.getElem?_replicate] at hj
    split at hj <;> cases hj
def plainGB (ops : Array Oper) (n : Nat) : Bool :=
  (List.range ops.size).all fun i => match ops[i]? with
    | none => true
    | some o => (match o.dst with
        | none => false
        | some d => decide (d < n) && (List.range ops.size).all fun j => j == i || dOf ops j != some d) && o.after.all (fun e => !Region.binds .any e || decide (e.on < i))
theorem plainG_of {ops : Array Oper} {n : Nat} (h : plainGB ops n = true) : PlainG ops n := by
  have key : ∀ (i : Nat) (o : Oper), ops[i]? = some o → (∃ d, o.dst = some d ∧ d < n ∧ ∀ j, j < ops.size → j = i ∨ dOf ops j ≠ some d) ∧ ∀ e ∈ o.after, Region.binds .any e = true → e.on < i := by
    intro i o ho
    have h1 := List.all_eq_true.1 h i (List.mem_range.2 (Array.getElem?_eq_some_iff.1 ho).1)
    simp only [ho, Bool.and_eq_true] at h1
    obtain ⟨h3, h4⟩ := h1
    refine ⟨?_, fun e he hb => ?_⟩
    · cases hd : o.dst with
      | none => rw [hd] at h3; cases h3
      | some d =>
        rw [hd] at h3
        simp only [Bool.and_eq_true, decide_eq_true_eq] at h3
        refine ⟨d, rfl, h3.1, fun j hj => ?_⟩
        have := List.all_eq_true.1 h3.2 j (List.mem_range.2 hj)
        simpa using this
    · have := Array.all_eq_true'.1 h4 e he
      rw [hb] at this
      simpa using this
  refine ⟨fun i o ho => ?_, fun i j d h1 h2 => ?_, fun i o ho => (key i o ho).2⟩
  · obtain ⟨d, e1, e2, -⟩ := (key i o ho).1
    exact ⟨d, e1, e2⟩
  · have hi := dOf_lt h1
    have ho : ops[i]? = some ops[i] := Array.getElem?_eq_getElem hi
    obtain ⟨d', e1, -, e3⟩ := (key i _ ho).1
    have e4 : some d' = some d := by
      rw [← h1, ← e1]; unfold dOf; rw [ho]; rfl
    rw [e4] at e3
    rcases e3 j (dOf_lt h2) with h | h
    · exact h.symm
    · exact absurd h2 h
theorem wp_region_relyG' {P : Program} {id : Nat} {ops : Array Oper} {Q : Exit → Act → World → Prop} {a0 : Act} {w0 : World} (R : World → World → Prop) (A : Nat → Value → World → Prop) (D : List Tmp)
    (hm : P.follows .mixedOrders = true) (hp : PlainG ops a0.tmps.size) (hD : (List.range ops.size).map (dOf ops) = D.map some) (ht : ∀ a b c, R a b → R b c → R a c) (h0 : R w0 { w0 with drawn := w0.drawn + 1 }) (hA : ∀ j v w w', A j v w → R w w' → A j v w')
    (hop : ∀ (i : Nat) (o : Oper), ops[i]? = some o → ∀ a w, R w0 w → FitR ops a0 a → (∀ e ∈ o.after, Region.binds .any e = true → A e.on (dVal a (dOf ops e.on)) w) → Region.wanted o (yielded ops a.tmps) = true ∧ o.wp P a w (fun a' w' => ∃ v, a' = a.put o.dst v ∧ R w w' ∧ A i v w') Q)
    (hend : ∀ X w, R w0 w → (∀ j, j < ops.size → A j (X j) w) → Q .normal (putAll D 0 X a0) w) : (Code.region id ops true).wp P Q a0 w0 := by
  refine wp_region_relyG R A hm hp ht h0 hA hop fun a w hR hF hall => ?_
  have hk : ∀ k d, D[k]? = some d → dOf ops k = some d := fun k d h => by
    have h1 : (D.map some)[k]? = some (some d) := by rw [List.getElem?_map, h]; rfl
    rw [← hD, List.getElem?_map] at h1
    cases hr : (List.range ops.size)[k]? with
    | none => rw [hr] at h1; cases h1
    | some x =>
      have h2 := (List.getElem?_eq_some_iff.1 hr)
      obtain ⟨hl, he⟩ := h2
      rw [List.getElem_range] at he
      rw [hr, ← he] at h1
      simpa using h1
  have e := putAll_eq (a := a) D 0 (fun j => dVal a (dOf ops j)) a0 hF.defers.symm hF.size.symm (fun t ht' => (hF.out t fun j hj => ht' ?_).symm) (fun k d h => by rw [Nat.zero_add, hk k d h]; rfl)
  · rw [← e]
    exact hend _ w hR hall
  · have hjl := dOf_lt hj
    have : some t ∈ D.map some := by
      rw [← hD]
      exact List.mem_map.2 ⟨j, List.mem_range.2 hjl, hj⟩
    simpa using this
theorem yld {ops : Array Oper} {a : Act} {j : Nat} {t : Tmp} {b : Bool} (hj : dOf ops j = some t) (h : a.eval (.tmp t) = .bool b) : yielded ops a.tmps j = some b := by
  have h : a.tmps.getD t undef = .bool b := h
  unfold yielded
  have : (ops[j]?).bind (·.dst) = some t := hj
  rw [this]
  rw [Array.getD_eq_getD_getElem?] at h
  cases hx : a.tmps[t]? with
  | none => rw [hx] at h; cases h
  | some v =>
    rw [hx] at h
    have h : v = .bool b := h
    subst h
    show (match a.tmps[t]? with | some (.bool b) => some b | _ => none) = some b
    rw [hx]
theorem want_no {o : Oper} {f : Nat → Option Bool} (h : o.guard = none) : Region.wanted o f = true := by unfold Region.wanted; rw [h]
theorem want_at {o : Oper} {f : Nat → Option Bool} {j : Nat} {b : Bool} (h : o.guard = some (j, b)) (hf : f j = some b) : Region.wanted o f = true := by unfold Region.wanted; rw [h]; simp [hf]
end Go.Proofs.Ytnfkgnjeamnhfab
namespace Go.Proofs.Ytnfkgnjeamnhfab
open Go.RowKit Go.Sort

/-! ### What an answer holds. -/
def n8 (p : Pk) : Nat := min (nP p) 28
def noteP (p : Pk) (r : Int) : List UInt8 := noteL (kindB r) (sealL (hdL p) ++ (bdL p).take 8)
def outA (p : Pk) (own : Nat) (r : Int) : List UInt8 := sealL (ansZ (sealL (hdL p)) own (noteP p r).length) ++ noteP p r
theorem ansV_yes (p : Pk) (own : Nat) (r : Int) (h : mayB (sealL (hdL p)) (bdL p) = true) : ansV (sealL (hdL p)) (bdL p) own r = ⟨3, r, 0, outA p own r⟩ := by
  unfold ansV; rw [if_pos h]; rfl
theorem ansV_no (p : Pk) (own : Nat) (r : Int) (h : mayB (sealL (hdL p)) (bdL p) = false) : ansV (sealL (hdL p)) (bdL p) own r = ⟨0, r, 0, []⟩ := by
  unfold ansV; rw [h]; rfl
theorem n8_le (p : Pk) : 20 ≤ n8 p ∧ n8 p ≤ 28 ∧ n8 p ≤ nP p := by
  have := (pt_len p).2
  unfold n8; omega
theorem note_len (p : Pk) (r : Int) : (noteP p r).length = 8 + n8 p := by
  unfold noteP noteL n8 nP
  rw [List.length_append, List.length_append, hs_len, List.length_take]
  show 8 + _ = _
  omega
theorem ansZ_len (l : List UInt8) (own n : Nat) : (ansZ l own n).length = 20 := rfl
theorem hA_len (p : Pk) (own : Nat) (r : Int) : (sealL (ansZ (sealL (hdL p)) own (noteP p r).length)).length = 20 := by rw [sealL_len, ansZ_len]
theorem out_len (p : Pk) (own : Nat) (r : Int) : (outA p own r).length = 28 + n8 p := by
  unfold outA
  rw [List.length_append, hA_len, note_len]; omega
theorem cs_mid2 (p q : List UInt8) (x y : UInt8) (hp : p.length = 2) : cs 0 (p ++ x :: y :: q) = cs 0 p + (x.toNat * 256 + (y.toNat + cs 4 q)) := by
  rw [cs_append, hp]
  rfl
theorem note_cs (k : UInt8) (q : List UInt8) : fold (cs 0 (noteL k q)) = 65535 := by
  have hk := ck_lt (noteZ k q)
  have e1 : cs 0 (noteL k q) = cs 0 (noteZ k q) + ck (noteZ k q) := by
    have ez : noteZ k q = [k, 0] ++ 0 :: 0 :: ([0, 0, 0, 0] ++ q) := rfl
    have es : noteL k q = [k, 0] ++ UInt8.ofNat (ck (noteZ k q) / 256) :: UInt8.ofNat (ck (noteZ k q) % 256) :: ([0, 0, 0, 0] ++ q) := rfl
    rw [es, cs_mid2 _ _ _ _ rfl]
    generalize ck (noteZ k q) = c at *
    rw [ez, cs_mid2 _ _ _ _ rfl]
    rw [u8_of (by omega), u8_of (by omega), show (0 : UInt8).toNat = 0 from rfl]
    omega
  rw [e1]
  unfold ck
  exact fold_whole _
theorem out_head (p : Pk) (own : Nat) (r : Int) : (outA p own r).take 20 = sealL (ansZ (sealL (hdL p)) own (noteP p r).length) := by
  unfold outA
  exact List.take_left' (hA_len p own r)
theorem out_rest (p : Pk) (own : Nat) (r : Int) : (outA p own r).drop 20 = noteP p r := by
  unfold outA
  exact List.drop_left' (hA_len p own r)
theorem out_sum (p : Pk) (own : Nat) (r : Int) : fold (cs 0 ((outA p own r).take 20)) = 65535 := by
  rw [out_head]; exact seal_sum (ansZ_len _ _ _)
theorem rest_sum (p : Pk) (own : Nat) (r : Int) : fold (cs 0 ((outA p own r).drop 20)) = 65535 := by
  rw [out_rest]; exact note_cs _ _
theorem seal_10 {l : List UInt8} (hl : l.length = 20) (b : List UInt8) : (sealL l ++ b).take 10 = l.take 10 := by
  rw [List.take_append_of_le_length (by rw [sealL_len, hl]; decide)]
  obtain ⟨b0, b1, b2, b3, b4, b5, b6, b7, b8, b9, b10, b11, b12, b13, b14, b15, b16, b17, b18, b19, rfl⟩ := list20 hl
  unfold sealL
  generalize ck (zs [b0, b1, b2, b3, b4, b5, b6, b7, b8, b9, b10, b11, b12, b13, b14, b15, b16, b17, b18, b19]) = c
  rfl
theorem seal_12 {l : List UInt8} (hl : l.length = 20) (b : List UInt8) : ((sealL l ++ b).take 20).drop 12 = l.drop 12 := by
  rw [List.take_left' (by rw [sealL_len, hl])]
  obtain ⟨b0, b1, b2, b3, b4, b5, b6, b7, b8, b9, b10, b11, b12, b13, b14, b15, b16, b17, b18, b19, rfl⟩ := list20 hl
  unfold sealL
  generalize ck (zs [b0, b1, b2, b3, b4, b5, b6, b7, b8, b9, b10, b11, b12, b13, b14, b15, b16, b17, b18, b19]) = c
  rfl
theorem out_fixed (p : Pk) (own : Nat) (r : Int) : (outA p own r).take 10 = [69, 0] ++ tw (28 + n8 p) ++ [0, 0, 0, 0, 64, 1] := by
  unfold outA
  rw [seal_10 (ansZ_len _ _ _), note_len, show 28 + n8 p = 20 + (8 + n8 p) by omega]
  rfl
theorem tw4 (v : Nat) : tw (v / 65536) ++ tw (v % 65536) = [UInt8.ofNat (v / 16777216), UInt8.ofNat (v / 65536 % 256), UInt8.ofNat (v / 256 % 256), UInt8.ofNat (v % 256)] := by
  show [UInt8.ofNat (v / 65536 / 256), UInt8.ofNat (v / 65536 % 256), UInt8.ofNat (v % 65536 / 256), UInt8.ofNat (v % 65536 % 256)] = _
  rw [show v / 65536 / 256 = v / 16777216 by omega, show v % 65536 / 256 = v / 256 % 256 by omega, show v % 65536 % 256 = v % 256 by omega]
theorem out_ends (p : Pk) (own : Nat) (r : Int) : ((outA p own r).take 20).drop 12 = (tw (own / 65536) ++ tw (own % 65536)) ++ (tw (p.src / 65536) ++ tw (p.src % 65536)) := by
  unfold outA
  rw [seal_12 (ansZ_len _ _ _), tw4 own]
  rfl
theorem out_zero (p : Pk) (own : Nat) (r : Int) : ((outA p own r).take 28).drop 24 = [0, 0, 0, 0] := by
  have e : (outA p own r).drop 20 = _ := out_rest p own r
  rw [List.drop_take, show (24 : Nat) = 20 + 4 from rfl, ← List.drop_drop, e]
  rfl
theorem g1_drop (l : List UInt8) (i j : Nat) : g1 l (i + j) = g1 (l.drop i) j := by
  unfold g1
  rw [List.getD_eq_getElem?_getD, List.getD_eq_getElem?_getD, List.getElem?_drop]
theorem out_20 (p : Pk) (own : Nat) (r : Int) : g1 (outA p own r) 20 = (kindB r).toNat := by
  rw [show (20 : Nat) = 20 + 0 from rfl, g1_drop, out_rest]; rfl
theorem out_21 (p : Pk) (own : Nat) (r : Int) : g1 (outA p own r) 21 = 0 := by
  rw [show (21 : Nat) = 20 + 1 from rfl, g1_drop, out_rest]; rfl
theorem pt_n8 (p : Pk) : (pt p).take (n8 p) = sealL (hdL p) ++ (bdL p).take 8 := by
  have h := n8_le p
  rw [show (pt p).take (n8 p) = ((pt p).take (nP p)).take (n8 p) by rw [List.take_take, Nat.min_eq_left h.2.2], pt_whole, List.take_append, hs_len, List.take_of_length_le (by rw [hs_len]; omega)]
  congr 1
  unfold n8 nP
  by_cases hb : (bdL p).length ≤ 8
  · rw [List.take_of_length_le (by omega), List.take_of_length_le hb]
  · rw [show min (20 + (bdL p).length) 28 - 20 = 8 by omega]
theorem out_28 (p : Pk) (own : Nat) (r : Int) : (outA p own r).drop 28 = (pt p).take (n8 p) := by
  rw [show (28 : Nat) = 20 + 8 from rfl, ← List.drop_drop, out_rest, pt_n8]
  rfl
/-- Is it not to be answered? -/
def quB (p : Pk) : Bool := if p.part % 8192 = 0 then (if p.proto.toNat = 1 ∧ 20 < nP p then (if g1 (pt p) 20 = 0 ∨ g1 (pt p) 20 = 8 then false else true) else false) else true
theorem quB_eq {p : Pk} (hp : PkFit p) : mayB (sealL (hdL p)) (bdL p) = !quB p := by
  unfold mayB quB
  rw [hs_part hp, hs_9]
  by_cases h1 : p.part % 8192 = 0
  · rw [if_pos h1, if_pos h1]
    by_cases h2 : p.proto.toNat = 1
    · by_cases h3 : (bdL p).length = 0
      · rw [if_pos (.inr h3), if_neg (by unfold nP; omega)]; rfl
      · rw [if_neg (by rintro (h | h); exact h h2; exact h3 h), if_pos ⟨h2, by unfold nP; omega⟩]
        have e : g1 (pt p) 20 = g1 (bdL p) 0 := by
          rw [show (20 : Nat) = 20 + 0 from rfl, g1_drop]
          unfold pt
          rw [List.append_assoc, List.drop_left' (hs_len p)]
          unfold g1
          rw [List.getD_eq_getElem?_getD, List.getD_eq_getElem?_getD, List.getElem?_append_left (by omega)]
        rw [e]
        by_cases h4 : g1 (bdL p) 0 = 0 ∨ g1 (bdL p) 0 = 8
        · rw [if_pos h4, decide_eq_true h4]; rfl
        · rw [if_neg h4, decide_eq_false h4]; rfl
    · rw [if_pos (.inl h2), if_neg (fun h => h2 h.1)]; rfl
  · rw [if_neg h1, if_neg h1]; rfl
end Go.Proofs.Ytnfkgnjeamnhfab
namespace Go.Proofs.Ytnfkgnjeamnhfab
open Go.RowKit Go.Sort

theorem ba_ext {a b : ByteArray} (h : a.data.toList = b.data.toList) : a = b := ByteArray.ext (Array.toList_inj.1 h)
theorem bx64 (a b : Int) : 0 ≤ bits .xor .u64 a b ∧ bits .xor .u64 a b < 18446744073709551616 := by
  show 0 ≤ IntKind.u64.wrap _ ∧ IntKind.u64.wrap _ < _
  rw [IntKind.wrap_u64]
  exact ⟨Int.emod_nonneg _ (by decide), Int.emod_lt_of_pos _ (by decide)⟩
theorem bx32 (a b : Int) : 0 ≤ bits .xor .u32 a b ∧ bits .xor .u32 a b < 4294967296 := by
  have h : ∀ x, IntKind.u32.wrap x = x % 4294967296 := fun x => by simp [IntKind.wrap, IntKind.bits, IntKind.signed]
  show 0 ≤ IntKind.u32.wrap _ ∧ IntKind.u32.wrap _ < _
  rw [h]
  exact ⟨Int.emod_nonneg _ (by decide), Int.emod_lt_of_pos _ (by decide)⟩
set_option maxRecDepth 4000 in
set_option maxHeartbeats 4000000 in
theorem ans_other (limit seed : Int) (own : Nat) (so : Option Addr) (z scap : Nat) (ops : List AOp) (p : Pk) (hp : PkFit p) (w : World) (hsn : Rg seed own) (h1 : ¬ limit < 1) (h2 : ¬ 256 < limit) (hz : ops.length = z) (hz2 : z ≤ 1400000000000) (hS : ScrK w.heap.size w so ops) (gs : Nat → List Int) (rs : List Rt) (hpl : playA limit (gz seed own) [] ops gs rs) (kd re ho : Int) (hkd : kd ≠ 3) (hr7 : re ≠ 7) (hr8 : re ≠ 8) (ol : List UInt8) (hV : fwdV (ownN gs) (pt p) (fun tg => pkE rs (4, 0, tg)) (fun tg fl => pkH gs rs (4, 0, tg) fl) = ⟨kd, re, ho, ol⟩) :
    Calls Try.prog 7 #[.int .i64 limit, .int .u64 seed, .int .u32 (own : Nat), .slice so z scap, pkV p] w fun e w' => e = .returned (.bool true) ∧ Below w.heap.size w w' := by
  obtain ⟨w0, hw0⟩ : ∃ w0, w0 = w.alloc (.cells #[.int .u8 (p.tos.toNat : Nat), .int .u8 (p.life.toNat : Nat), .int .u8 (p.proto.toNat : Nat), .int .u16 (p.id : Nat), .int .u16 (p.part : Nat), .int .u32 (p.src : Nat), .int .u32 (p.dst : Nat), .string p.c, .string p.m] 58) := ⟨_, rfl⟩
  obtain ⟨bx, hbx⟩ : ∃ bx, bx = w.heap.size := ⟨_, rfl⟩
  have hb0 : Below w.heap.size w w0 := by rw [hw0]; exact below1 w _
  have hg0 : w0.heap[bx]? = some (.cells #[.int .u8 (p.tos.toNat : Nat), .int .u8 (p.life.toNat : Nat), .int .u8 (p.proto.toNat : Nat), .int .u16 (p.id : Nat), .int .u16 (p.part : Nat), .int .u32 (p.src : Nat), .int .u32 (p.dst : Nat), .string p.c, .string p.m] 58) := by rw [hw0, hbx]; exact heap_alloc_last w _
  have HR := Lib.hid (ready_fix limit seed own so z scap ops w0 hsn h1 h2 hz hz2 (hS.grow hb0) gs rs hpl)
  obtain ⟨seed2, hs2⟩ : ∃ x, x = bits .xor .u64 IntKind.u64.max seed := ⟨_, rfl⟩
  obtain ⟨own2, ho2⟩ : ∃ x, x = bits .xor .u32 IntKind.u32.max (own : Nat) := ⟨_, rfl⟩
  have hsn2 : Rg seed2 own2 := by rw [hs2, ho2]; exact ⟨bx64 _ _, bx32 _ _⟩
  have HR2 := Lib.hid (fun (w3 : World) (hb : Below w.heap.size w w3) => ready_tab limit seed2 own2 so z scap ops w3 hsn2 h1 h2 hz hz2 (hS.grow hb))
  have Hs2 := Lib.hid hs2
  have Ho2 := Lib.hid ho2
  have HB := Lib.hid (fun w => show Calls Try.prog 23 #[.agg #[.int .u8 (p.tos.toNat : Nat), .int .u8 (p.life.toNat : Nat), .int .u8 (p.proto.toNat : Nat), .int .u16 (p.id : Nat), .int .u16 (p.part : Nat), .int .u32 (p.src : Nat), .int .u32 (p.dst : Nat), .string p.c, .string p.m]] w _ from built_any p hp w)
  have HV := Lib.hid hV
  have HOwn := Lib.hid (show (0 : Int) ≤ seed ∧ seed ≤ 18446744073709551615 ∧ own < 4294967296 by unfold Rg at hsn; omega)
  have Hg0 := Lib.hid hg0
  have Hb0 := Lib.hid hb0
  have Hw0 := Lib.hid hw0
  have Hbx := Lib.hid hbx
  have Hp := Lib.hid hp
  clear hs2 ho2 hw0 hbx hb0 hg0 hsn hsn2 h1 h2 hz hz2 hS hpl hV hp
  unfold pkV
  go_enter Try.func7, Try.ntmps7
  go_wp2_with fail
  rw [← Hw0.out, ← Hbx.out]
  refine HR.out.mono ?_
  rintro e w1 ⟨T, rfl, hb1, hT⟩
  have Hb1 := Lib.hid (Hb0.out.trans (hb1.mono Hb0.out.size))
  have hg1 := row_below hb1 Hg0.out (Array.getElem?_eq_some_iff.1 Hg0.out).1
  have HT := Lib.hid hT
  have Hg1 := Lib.hid hg1
  have k0 := cl20 hg1 (j := 0) rfl
  have k1 := cl20 hg1 (j := 1) rfl
  have k2 := cl20 hg1 (j := 2) rfl
  have k3 := cl20 hg1 (j := 3) rfl
  have k4 := cl20 hg1 (j := 4) rfl
  have k5 := cl20 hg1 (j := 5) rfl
  have k6 := cl20 hg1 (j := 6) rfl
  have k7 := cl20 hg1 (j := 7) rfl
  have k8 := cl20 hg1 (j := 8) rfl
  clear hb1 hT hg1 HR Hg0 Hb0
  go_wp2_with fail
  refine (HB.out _).mono ?_
  rintro e w2 ⟨S, rfl, hSl, hb2⟩
  have hg2 := row_below hb2 Hg1.out (Array.getElem?_eq_some_iff.1 Hg1.out).1
  have HT2 := Lib.hid (HT.out.grow hb2)
  have Hg2 := Lib.hid hg2
  have Hb2 := Lib.hid (Hb1.out.trans (hb2.mono Hb1.out.size))
  have HSl := Lib.hid (show S.data.toList = pt p from hSl)
  clear k0 k1 k2 k3 k4 k5 k6 k7 k8 hb2 hSl HB HT Hg1 Hb1 hg2
  go_wp2_with fail
  rw [← Hs2.out, ← Ho2.out]
  refine (HR2.out w2 Hb2.out).mono ?_
  rintro e w3 ⟨U, rfl, hb3, gs', rs', -, -, hU⟩
  have HU := Lib.hid (hU.fw w3 (Below.refl _ _) S)
  have HT3 := Lib.hid (HT2.out.grow hb3)
  have hg3 := row_below hb3 Hg2.out (Array.getElem?_eq_some_iff.1 Hg2.out).1
  have Hg3 := Lib.hid hg3
  have Hb3 := Lib.hid (Hb2.out.trans (hb3.mono Hb2.out.size))
  clear hb3 hU hg3 HR2 HT2 Hg2 Hb2 Hs2 Ho2
  obtain ⟨VU, hVU⟩ : ∃ v, v = vV (fwdV (ownN gs') S.data.toList (fun tg => pkE rs' (4, 0, tg)) (fun tg fl => pkH gs' rs' (4, 0, tg) fl)) := ⟨_, rfl⟩
  rw [← hVU] at HU
  clear hVU
  go_wp2_with fail
  refine HU.out.mono ?_
  rintro e w4 ⟨rfl, hb4⟩
  have HT4 := Lib.hid (HT3.out.grow hb4)
  have hg4 := row_below hb4 Hg3.out (Array.getElem?_eq_some_iff.1 Hg3.out).1
  have Hg4 := Lib.hid hg4
  have Hb4 := Lib.hid (Hb3.out.trans (hb4.mono Hb3.out.size))
  have hF := HT4.out.fw w4 (Below.refl _ _) S
  rw [HSl.out, HV.out] at hF
  have HF := Lib.hid hF
  clear hb4 hg4 hF HU HT3 Hg3 Hb3 HV HT4
  unfold vV at HF
  obtain ⟨ou, hou⟩ : ∃ ou : ByteArray, ou = ⟨ol.toArray⟩ := ⟨_, rfl⟩
  have Hou := Lib.hid (show ou.data.toList = ol by rw [hou])
  simp only [← hou] at HF
  clear hou
  go_wp2_with fail
  refine HF.out.mono ?_
  rintro e w5 ⟨rfl, hb5⟩
  have hg5 := row_below hb5 Hg4.out (Array.getElem?_eq_some_iff.1 Hg4.out).1
  have Hg5 := Lib.hid hg5
  have Hb5 := Lib.hid (Hb4.out.trans (hb5.mono Hb4.out.size))
  clear hb5 hg5 HF Hg4 Hb4
  go_upto_region 10 with fail
  obtain ⟨w6, hw6⟩ : ∃ w6, w6 = w5.alloc (.cells #[.int .i64 kd, .int .i64 re, .int .i64 ho, .string ou] 63) := ⟨_, rfl⟩
  obtain ⟨bv, hbv⟩ : ∃ bv, bv = w5.heap.size := ⟨_, rfl⟩
  rw [← hw6, ← hbv]
  have hgv : w6.heap[bv]? = some (.cells #[.int .i64 kd, .int .i64 re, .int .i64 ho, .string ou] 63) := by rw [hw6, hbv]; exact heap_alloc_last w5 _
  have hb6 : Below w5.heap.size w5 w6 := by rw [hw6]; exact below1 w5 _
  have hg6 := row_below hb6 Hg5.out (Array.getElem?_eq_some_iff.1 Hg5.out).1
  have Hgv := Lib.hid hgv
  have Hg6 := Lib.hid hg6
  have Hb6 := Lib.hid (Hb5.out.trans (hb6.mono Hb5.out.size))
  clear hb6 hw6 hbv Hg5 Hb5
  have k2 := cl20 hg6 (j := 2) rfl
  have k4 := cl20 hg6 (j := 4) rfl
  have k5 := cl20 hg6 (j := 5) rfl
  have v0 := cl20 hgv (j := 0) rfl
  have v1 := cl20 hgv (j := 1) rfl
  have v2 := cl20 hgv (j := 2) rfl
  have v3 := cl20 hgv (j := 3) rfl
  clear hg6 hgv
  obtain ⟨nn, hnn⟩ : ∃ nn, nn = nP p := ⟨_, rfl⟩
  have Hnn := Lib.hid hnn
  rw [← hnn]
  clear hnn
  obtain ⟨qb, hqb⟩ : ∃ qb, qb = quB p := ⟨_, rfl⟩
  have Hqb := Lib.hid hqb
  clear hqb
  go_cut [18] (fun v wx => v = .bool qb ∧ wx = w6)
  case first =>
    have HO2 := Lib.hid (fun w => show Calls Try.prog 28 #[.string S, .int .i64 20] w _ from octet_any S 20 w)
    have hqb := Hqb.out
    rw [HSl.out] at HO2
    unfold quB at hqb
    rw [← Hnn.out] at hqb
    have hpl := Hp.out.part
    have d1 : IntKind.u16.wrap ((p.part : Int).tmod 8192) = ((p.part % 8192 : Nat) : Int) := by
      rw [Int.tmod_eq_emod_of_nonneg (by omega)]; simp [IntKind.wrap, IntKind.bits, IntKind.signed]; omega
    have hoc := g1_lt (pt p) 20
    generalize g1 (pt p) 20 = oc at *
    by_cases c1 : p.part % 8192 = 0
    · rw [if_pos c1] at hqb
      have d2 : (((p.part % 8192 : Nat) : Int) != 0) = false := by rw [c1]; rfl
      by_cases c2 : p.proto.toNat = 1
      · have d3 : ((p.proto.toNat : Int) == 1) = true := by simp; omega
        by_cases c3 : 20 < nn
        · rw [if_pos ⟨c2, c3⟩] at hqb
          clear c2
          have d4 : (20 : Int) < (nn : Int) := by omega
          go_wp2_with fail
          refine (HO2.out _).mono ?_
          rintro e wx ⟨rfl, hwx⟩
          rw [hwx]
          clear hwx wx
          by_cases c4 : oc = 0
          · rw [if_pos (.inl c4)] at hqb
            subst hqb
            have d5 : ((oc : Int) != 0) = false := by rw [c4]; rfl
            clear c4
            go_wp2_with fail
            go_meet
            exact ⟨rfl, rfl⟩
          · have d5 : ((oc : Int) != 0) = true := by simp; omega
            go_wp2_with fail
            refine (HO2.out _).mono ?_
            rintro e wx ⟨rfl, hwx⟩
            rw [hwx]
            clear hwx wx
            by_cases c5 : oc = 8
            · rw [if_pos (.inr c5)] at hqb
              subst hqb
              have d6 : ((oc : Int) != 8) = false := by rw [c5]; rfl
              clear c5
              go_wp2_with fail
              go_meet
              exact ⟨rfl, rfl⟩
            · rw [if_neg (by omega)] at hqb
              subst hqb
              have d6 : ((oc : Int) != 8) = true := by simp; omega
              go_wp2_with fail
              go_meet
              exact ⟨rfl, rfl⟩
        · rw [if_neg (fun h => c3 h.2)] at hqb
          subst hqb
          clear c2
          have d4 : ¬ (20 : Int) < (nn : Int) := by omega
          go_wp2_with fail
          go_meet
          exact ⟨rfl, rfl⟩
      · rw [if_neg (fun h => c2 h.1)] at hqb
        subst hqb
        have d3 : ((p.proto.toNat : Int) == 1) = false := by simp; omega
        clear c2
        go_wp2_with fail
        go_meet
        exact ⟨rfl, rfl⟩
    · rw [if_neg c1] at hqb
      subst hqb
      have d2 : (((p.part % 8192 : Nat) : Int) != 0) = true := by simp; omega
      go_wp2_with fail
      go_meet
      exact ⟨rfl, rfl⟩
  case rest =>
  obtain ⟨rfl, rfl⟩ := hcut
  have d0 : (kd != 3) = true := by simp [hkd]
  have d1 : (re == 7) = false := ine_beq hr7
  have d2 : (re == 8) = false := ine_beq hr8
  go_wp2
  go_ret
  exact ⟨rfl, Hb6.out⟩
end Go.Proofs.Ytnfkgnjeamnhfab
namespace Go.Proofs.Ytnfkgnjeamnhfab
open Go.RowKit Go.Sort

set_option maxRecDepth 4000 in
set_option maxHeartbeats 4000000 in
theorem ans_still (limit seed : Int) (own : Nat) (so : Option Addr) (z scap : Nat) (ops : List AOp) (p : Pk) (hp : PkFit p) (w : World) (hsn : Rg seed own) (h1 : ¬ limit < 1) (h2 : ¬ 256 < limit) (hz : ops.length = z) (hz2 : z ≤ 1400000000000) (hS : ScrK w.heap.size w so ops) (gs : Nat → List Int) (rs : List Rt) (hpl : playA limit (gz seed own) [] ops gs rs) (re : Int) (hre : re = 7 ∨ re = 8) (hq : quB p = true) (ol : List UInt8) (hol : ol = []) (hV : fwdV (ownN gs) (pt p) (fun tg => pkE rs (4, 0, tg)) (fun tg fl => pkH gs rs (4, 0, tg) fl) = ⟨0, re, 0, ol⟩) :
    Calls Try.prog 7 #[.int .i64 limit, .int .u64 seed, .int .u32 (own : Nat), .slice so z scap, pkV p] w fun e w' => e = .returned (.bool true) ∧ Below w.heap.size w w' := by
  obtain ⟨w0, hw0⟩ : ∃ w0, w0 = w.alloc (.cells #[.int .u8 (p.tos.toNat : Nat), .int .u8 (p.life.toNat : Nat), .int .u8 (p.proto.toNat : Nat), .int .u16 (p.id : Nat), .int .u16 (p.part : Nat), .int .u32 (p.src : Nat), .int .u32 (p.dst : Nat), .string p.c, .string p.m] 58) := ⟨_, rfl⟩
  obtain ⟨bx, hbx⟩ : ∃ bx, bx = w.heap.size := ⟨_, rfl⟩
  have hb0 : Below w.heap.size w w0 := by rw [hw0]; exact below1 w _
  have hg0 : w0.heap[bx]? = some (.cells #[.int .u8 (p.tos.toNat : Nat), .int .u8 (p.life.toNat : Nat), .int .u8 (p.proto.toNat : Nat), .int .u16 (p.id : Nat), .int .u16 (p.part : Nat), .int .u32 (p.src : Nat), .int .u32 (p.dst : Nat), .string p.c, .string p.m] 58) := by rw [hw0, hbx]; exact heap_alloc_last w _
  have HR := Lib.hid (ready_fix limit seed own so z scap ops w0 hsn h1 h2 hz hz2 (hS.grow hb0) gs rs hpl)
  obtain ⟨seed2, hs2⟩ : ∃ x, x = bits .xor .u64 IntKind.u64.max seed := ⟨_, rfl⟩
  obtain ⟨own2, ho2⟩ : ∃ x, x = bits .xor .u32 IntKind.u32.max (own : Nat) := ⟨_, rfl⟩
  have hsn2 : Rg seed2 own2 := by rw [hs2, ho2]; exact ⟨bx64 _ _, bx32 _ _⟩
  have HR2 := Lib.hid (fun (w3 : World) (hb : Below w.heap.size w w3) => ready_tab limit seed2 own2 so z scap ops w3 hsn2 h1 h2 hz hz2 (hS.grow hb))
  have Hs2 := Lib.hid hs2
  have Ho2 := Lib.hid ho2
  have HB := Lib.hid (fun w => show Calls Try.prog 23 #[.agg #[.int .u8 (p.tos.toNat : Nat), .int .u8 (p.life.toNat : Nat), .int .u8 (p.proto.toNat : Nat), .int .u16 (p.id : Nat), .int .u16 (p.part : Nat), .int .u32 (p.src : Nat), .int .u32 (p.dst : Nat), .string p.c, .string p.m]] w _ from built_any p hp w)
  have HV := Lib.hid hV
  have HOwn := Lib.hid (show (0 : Int) ≤ seed ∧ seed ≤ 18446744073709551615 ∧ own < 4294967296 by unfold Rg at hsn; omega)
  have Hg0 := Lib.hid hg0
  have Hb0 := Lib.hid hb0
  have Hw0 := Lib.hid hw0
  have Hbx := Lib.hid hbx
  have Hp := Lib.hid hp
  clear hs2 ho2 hw0 hbx hb0 hg0 hsn hsn2 h1 h2 hz hz2 hS hpl hV hp
  unfold pkV
  go_enter Try.func7, Try.ntmps7
  go_wp2_with fail
  rw [← Hw0.out, ← Hbx.out]
  refine HR.out.mono ?_
  rintro e w1 ⟨T, rfl, hb1, hT⟩
  have Hb1 := Lib.hid (Hb0.out.trans (hb1.mono Hb0.out.size))
  have hg1 := row_below hb1 Hg0.out (Array.getElem?_eq_some_iff.1 Hg0.out).1
  have HT := Lib.hid hT
  have Hg1 := Lib.hid hg1
  have k0 := cl20 hg1 (j := 0) rfl
  have k1 := cl20 hg1 (j := 1) rfl
  have k2 := cl20 hg1 (j := 2) rfl
  have k3 := cl20 hg1 (j := 3) rfl
  have k4 := cl20 hg1 (j := 4) rfl
  have k5 := cl20 hg1 (j := 5) rfl
  have k6 := cl20 hg1 (j := 6) rfl
  have k7 := cl20 hg1 (j := 7) rfl
  have k8 := cl20 hg1 (j := 8) rfl
  clear hb1 hT hg1 HR Hg0 Hb0
  go_wp2_with fail
  refine (HB.out _).mono ?_
  rintro e w2 ⟨S, rfl, hSl, hb2⟩
  have hg2 := row_below hb2 Hg1.out (Array.getElem?_eq_some_iff.1 Hg1.out).1
  have HT2 := Lib.hid (HT.out.grow hb2)
  have Hg2 := Lib.hid hg2
  have Hb2 := Lib.hid (Hb1.out.trans (hb2.mono Hb1.out.size))
  have HSl := Lib.hid (show S.data.toList = pt p from hSl)
  clear k0 k1 k2 k3 k4 k5 k6 k7 k8 hb2 hSl HB HT Hg1 Hb1 hg2
  go_wp2_with fail
  rw [← Hs2.out, ← Ho2.out]
  refine (HR2.out w2 Hb2.out).mono ?_
  rintro e w3 ⟨U, rfl, hb3, gs', rs', -, -, hU⟩
  have HU := Lib.hid (hU.fw w3 (Below.refl _ _) S)
  have HT3 := Lib.hid (HT2.out.grow hb3)
  have hg3 := row_below hb3 Hg2.out (Array.getElem?_eq_some_iff.1 Hg2.out).1
  have Hg3 := Lib.hid hg3
  have Hb3 := Lib.hid (Hb2.out.trans (hb3.mono Hb2.out.size))
  clear hb3 hU hg3 HR2 HT2 Hg2 Hb2 Hs2 Ho2
  obtain ⟨VU, hVU⟩ : ∃ v, v = vV (fwdV (ownN gs') S.data.toList (fun tg => pkE rs' (4, 0, tg)) (fun tg fl => pkH gs' rs' (4, 0, tg) fl)) := ⟨_, rfl⟩
  rw [← hVU] at HU
  clear hVU
  go_wp2_with fail
  refine HU.out.mono ?_
  rintro e w4 ⟨rfl, hb4⟩
  have HT4 := Lib.hid (HT3.out.grow hb4)
  have hg4 := row_below hb4 Hg3.out (Array.getElem?_eq_some_iff.1 Hg3.out).1
  have Hg4 := Lib.hid hg4
  have Hb4 := Lib.hid (Hb3.out.trans (hb4.mono Hb3.out.size))
  have hF := HT4.out.fw w4 (Below.refl _ _) S
  rw [HSl.out, HV.out] at hF
  have HF := Lib.hid hF
  clear hb4 hg4 hF HU HT3 Hg3 Hb3 HV HT4
  unfold vV at HF
  obtain ⟨ou, hou⟩ : ∃ ou : ByteArray, ou = ⟨ol.toArray⟩ := ⟨_, rfl⟩
  have Hou := Lib.hid (show ou.data.toList = ol by rw [hou])
  simp only [← hou] at HF
  clear hou
  go_wp2_with fail
  refine HF.out.mono ?_
  rintro e w5 ⟨rfl, hb5⟩
  have hg5 := row_below hb5 Hg4.out (Array.getElem?_eq_some_iff.1 Hg4.out).1
  have Hg5 := Lib.hid hg5
  have Hb5 := Lib.hid (Hb4.out.trans (hb5.mono Hb4.out.size))
  clear hb5 hg5 HF Hg4 Hb4
  go_upto_region 10 with fail
  obtain ⟨w6, hw6⟩ : ∃ w6, w6 = w5.alloc (.cells #[.int .i64 0, .int .i64 re, .int .i64 0, .string ou] 63) := ⟨_, rfl⟩
  obtain ⟨bv, hbv⟩ : ∃ bv, bv = w5.heap.size := ⟨_, rfl⟩
  rw [← hw6, ← hbv]
  have hgv : w6.heap[bv]? = some (.cells #[.int .i64 0, .int .i64 re, .int .i64 0, .string ou] 63) := by rw [hw6, hbv]; exact heap_alloc_last w5 _
  have hb6 : Below w5.heap.size w5 w6 := by rw [hw6]; exact below1 w5 _
  have hg6 := row_below hb6 Hg5.out (Array.getElem?_eq_some_iff.1 Hg5.out).1
  have Hgv := Lib.hid hgv
  have Hg6 := Lib.hid hg6
  have Hb6 := Lib.hid (Hb5.out.trans (hb6.mono Hb5.out.size))
  clear hb6 hw6 hbv Hg5 Hb5
  have k2 := cl20 hg6 (j := 2) rfl
  have k4 := cl20 hg6 (j := 4) rfl
  have k5 := cl20 hg6 (j := 5) rfl
  have v0 := cl20 hgv (j := 0) rfl
  have v1 := cl20 hgv (j := 1) rfl
  have v2 := cl20 hgv (j := 2) rfl
  have v3 := cl20 hgv (j := 3) rfl
  clear hg6 hgv
  obtain ⟨nn, hnn⟩ : ∃ nn, nn = nP p := ⟨_, rfl⟩
  have Hnn := Lib.hid hnn
  rw [← hnn]
  clear hnn
  obtain ⟨qb, hqb⟩ : ∃ qb, qb = quB p := ⟨_, rfl⟩
  have Hqb := Lib.hid hqb
  clear hqb
  go_cut [18] (fun v wx => v = .bool qb ∧ wx = w6)
  case first =>
    have HO2 := Lib.hid (fun w => show Calls Try.prog 28 #[.string S, .int .i64 20] w _ from octet_any S 20 w)
    have hqb := Hqb.out
    rw [HSl.out] at HO2
    unfold quB at hqb
    rw [← Hnn.out] at hqb
    have hpl := Hp.out.part
    have d1 : IntKind.u16.wrap ((p.part : Int).tmod 8192) = ((p.part % 8192 : Nat) : Int) := by
      rw [Int.tmod_eq_emod_of_nonneg (by omega)]; simp [IntKind.wrap, IntKind.bits, IntKind.signed]; omega
    have hoc := g1_lt (pt p) 20
    generalize g1 (pt p) 20 = oc at *
    by_cases c1 : p.part % 8192 = 0
    · rw [if_pos c1] at hqb
      have d2 : (((p.part % 8192 : Nat) : Int) != 0) = false := by rw [c1]; rfl
      by_cases c2 : p.proto.toNat = 1
      · have d3 : ((p.proto.toNat : Int) == 1) = true := by simp; omega
        by_cases c3 : 20 < nn
        · rw [if_pos ⟨c2, c3⟩] at hqb
          clear c2
          have d4 : (20 : Int) < (nn : Int) := by omega
          go_wp2_with fail
          refine (HO2.out _).mono ?_
          rintro e wx ⟨rfl, hwx⟩
          rw [hwx]
          clear hwx wx
          by_cases c4 : oc = 0
          · rw [if_pos (.inl c4)] at hqb
            subst hqb
            have d5 : ((oc : Int) != 0) = false := by rw [c4]; rfl
            clear c4
            go_wp2_with fail
            go_meet
            exact ⟨rfl, rfl⟩
          · have d5 : ((oc : Int) != 0) = true := by simp; omega
            go_wp2_with fail
            refine (HO2.out _).mono ?_
            rintro e wx ⟨rfl, hwx⟩
            rw [hwx]
            clear hwx wx
            by_cases c5 : oc = 8
            · rw [if_pos (.inr c5)] at hqb
              subst hqb
              have d6 : ((oc : Int) != 8) = false := by rw [c5]; rfl
              clear c5
              go_wp2_with fail
              go_meet
              exact ⟨rfl, rfl⟩
            · rw [if_neg (by omega)] at hqb
              subst hqb
              have d6 : ((oc : Int) != 8) = true := by simp; omega
              go_wp2_with fail
              go_meet
              exact ⟨rfl, rfl⟩
        · rw [if_neg (fun h => c3 h.2)] at hqb
          subst hqb
          clear c2
          have d4 : ¬ (20 : Int) < (nn : Int) := by omega
          go_wp2_with fail
          go_meet
          exact ⟨rfl, rfl⟩
      · rw [if_neg (fun h => c2 h.1)] at hqb
        subst hqb
        have d3 : ((p.proto.toNat : Int) == 1) = false := by simp; omega
        clear c2
        go_wp2_with fail
        go_meet
        exact ⟨rfl, rfl⟩
    · rw [if_neg c1] at hqb
      subst hqb
      have d2 : (((p.part % 8192 : Nat) : Int) != 0) = true := by simp; omega
      go_wp2_with fail
      go_meet
      exact ⟨rfl, rfl⟩
  case rest =>
  obtain ⟨rfl, rfl⟩ := hcut
  obtain rfl : qb = true := Hqb.out.trans hq
  obtain rfl : ou = ⟨#[]⟩ := ba_ext (by rw [Hou.out, hol])
  rcases hre with rfl | rfl
  all_goals
    go_wp2
    go_ret
    exact ⟨rfl, Hb6.out⟩
end Go.Proofs.Ytnfkgnjeamnhfab
namespace Go.Proofs.Ytnfkgnjeamnhfab
open Go.RowKit Go.Sort

set_option maxRecDepth 4000 in
set_option maxHeartbeats 4000000 in
theorem ans_yes7b (limit seed : Int) (own : Nat) (so : Option Addr) (z scap : Nat) (ops : List AOp) (p : Pk) (hp : PkFit p) (w : World) (hsn : Rg seed own) (h1 : ¬ limit < 1) (h2 : ¬ 256 < limit) (hz : ops.length = z) (hz2 : z ≤ 1400000000000) (hS : ScrK w.heap.size w so ops) (gs : Nat → List Int) (rs : List Rt) (hpl : playA limit (gz seed own) [] ops gs rs) (hbig : 28 < nP p) (hq : quB p = false) (ol : List UInt8) (hol : ol = outA p own 7) (hV : fwdV (ownN gs) (pt p) (fun tg => pkE rs (4, 0, tg)) (fun tg fl => pkH gs rs (4, 0, tg) fl) = ⟨3, 7, 0, ol⟩) :
    Calls Try.prog 7 #[.int .i64 limit, .int .u64 seed, .int .u32 (own : Nat), .slice so z scap, pkV p] w fun e w' => e = .returned (.bool true) ∧ Below w.heap.size w w' := by
  obtain ⟨w0, hw0⟩ : ∃ w0, w0 = w.alloc (.cells #[.int .u8 (p.tos.toNat : Nat), .int .u8 (p.life.toNat : Nat), .int .u8 (p.proto.toNat : Nat), .int .u16 (p.id : Nat), .int .u16 (p.part : Nat), .int .u32 (p.src : Nat), .int .u32 (p.dst : Nat), .string p.c, .string p.m] 58) := ⟨_, rfl⟩
  obtain ⟨bx, hbx⟩ : ∃ bx, bx = w.heap.size := ⟨_, rfl⟩
  have hb0 : Below w.heap.size w w0 := by rw [hw0]; exact below1 w _
  have hg0 : w0.heap[bx]? = some (.cells #[.int .u8 (p.tos.toNat : Nat), .int .u8 (p.life.toNat : Nat), .int .u8 (p.proto.toNat : Nat), .int .u16 (p.id : Nat), .int .u16 (p.part : Nat), .int .u32 (p.src : Nat), .int .u32 (p.dst : Nat), .string p.c, .string p.m] 58) := by rw [hw0, hbx]; exact heap_alloc_last w _
  have HR := Lib.hid (ready_fix limit seed own so z scap ops w0 hsn h1 h2 hz hz2 (hS.grow hb0) gs rs hpl)
  obtain ⟨seed2, hs2⟩ : ∃ x, x = bits .xor .u64 IntKind.u64.max seed := ⟨_, rfl⟩
  obtain ⟨own2, ho2⟩ : ∃ x, x = bits .xor .u32 IntKind.u32.max (own : Nat) := ⟨_, rfl⟩
  have hsn2 : Rg seed2 own2 := by rw [hs2, ho2]; exact ⟨bx64 _ _, bx32 _ _⟩
  have HR2 := Lib.hid (fun (w3 : World) (hb : Below w.heap.size w w3) => ready_tab limit seed2 own2 so z scap ops w3 hsn2 h1 h2 hz hz2 (hS.grow hb))
  have Hs2 := Lib.hid hs2
  have Ho2 := Lib.hid ho2
  have HB := Lib.hid (fun w => show Calls Try.prog 23 #[.agg #[.int .u8 (p.tos.toNat : Nat), .int .u8 (p.life.toNat : Nat), .int .u8 (p.proto.toNat : Nat), .int .u16 (p.id : Nat), .int .u16 (p.part : Nat), .int .u32 (p.src : Nat), .int .u32 (p.dst : Nat), .string p.c, .string p.m]] w _ from built_any p hp w)
  have HV := Lib.hid hV
  have HOwn := Lib.hid (show (0 : Int) ≤ seed ∧ seed ≤ 18446744073709551615 ∧ own < 4294967296 by unfold Rg at hsn; omega)
  have Hg0 := Lib.hid hg0
  have Hb0 := Lib.hid hb0
  have Hw0 := Lib.hid hw0
  have Hbx := Lib.hid hbx
  have Hp := Lib.hid hp
  clear hs2 ho2 hw0 hbx hb0 hg0 hsn hsn2 h1 h2 hz hz2 hS hpl hV hp
  unfold pkV
  go_enter Try.func7, Try.ntmps7
  go_wp2_with fail
  rw [← Hw0.out, ← Hbx.out]
  refine HR.out.mono ?_
  rintro e w1 ⟨T, rfl, hb1, hT⟩
  have Hb1 := Lib.hid (Hb0.out.trans (hb1.mono Hb0.out.size))
  have hg1 := row_below hb1 Hg0.out (Array.getElem?_eq_some_iff.1 Hg0.out).1
  have HT := Lib.hid hT
  have Hg1 := Lib.hid hg1
  have k0 := cl20 hg1 (j := 0) rfl
  have k1 := cl20 hg1 (j := 1) rfl
  have k2 := cl20 hg1 (j := 2) rfl
  have k3 := cl20 hg1 (j := 3) rfl
  have k4 := cl20 hg1 (j := 4) rfl
  have k5 := cl20 hg1 (j := 5) rfl
  have k6 := cl20 hg1 (j := 6) rfl
  have k7 := cl20 hg1 (j := 7) rfl
  have k8 := cl20 hg1 (j := 8) rfl
  clear hb1 hT hg1 HR Hg0 Hb0
  go_wp2_with fail
  refine (HB.out _).mono ?_
  rintro e w2 ⟨S, rfl, hSl, hb2⟩
  have hg2 := row_below hb2 Hg1.out (Array.getElem?_eq_some_iff.1 Hg1.out).1
  have HT2 := Lib.hid (HT.out.grow hb2)
  have Hg2 := Lib.hid hg2
  have Hb2 := Lib.hid (Hb1.out.trans (hb2.mono Hb1.out.size))
  have HSl := Lib.hid (show S.data.toList = pt p from hSl)
  clear k0 k1 k2 k3 k4 k5 k6 k7 k8 hb2 hSl HB HT Hg1 Hb1 hg2
  go_wp2_with fail
  rw [← Hs2.out, ← Ho2.out]
  refine (HR2.out w2 Hb2.out).mono ?_
  rintro e w3 ⟨U, rfl, hb3, gs', rs', -, -, hU⟩
  have HU := Lib.hid (hU.fw w3 (Below.refl _ _) S)
  have HT3 := Lib.hid (HT2.out.grow hb3)
  have hg3 := row_below hb3 Hg2.out (Array.getElem?_eq_some_iff.1 Hg2.out).1
  have Hg3 := Lib.hid hg3
  have Hb3 := Lib.hid (Hb2.out.trans (hb3.mono Hb2.out.size))
  clear hb3 hU hg3 HR2 HT2 Hg2 Hb2 Hs2 Ho2
  obtain ⟨VU, hVU⟩ : ∃ v, v = vV (fwdV (ownN gs') S.data.toList (fun tg => pkE rs' (4, 0, tg)) (fun tg fl => pkH gs' rs' (4, 0, tg) fl)) := ⟨_, rfl⟩
  rw [← hVU] at HU
  clear hVU
  go_wp2_with fail
  refine HU.out.mono ?_
  rintro e w4 ⟨rfl, hb4⟩
  have HT4 := Lib.hid (HT3.out.grow hb4)
  have hg4 := row_below hb4 Hg3.out (Array.getElem?_eq_some_iff.1 Hg3.out).1
  have Hg4 := Lib.hid hg4
  have Hb4 := Lib.hid (Hb3.out.trans (hb4.mono Hb3.out.size))
  have hF := HT4.out.fw w4 (Below.refl _ _) S
  rw [HSl.out, HV.out] at hF
  have HF := Lib.hid hF
  clear hb4 hg4 hF HU HT3 Hg3 Hb3 HV HT4
  unfold vV at HF
  obtain ⟨ou, hou⟩ : ∃ ou : ByteArray, ou = ⟨ol.toArray⟩ := ⟨_, rfl⟩
  have Hou := Lib.hid (show ou.data.toList = ol by rw [hou])
  simp only [← hou] at HF
  clear hou
  go_wp2_with fail
  refine HF.out.mono ?_
  rintro e w5 ⟨rfl, hb5⟩
  have hg5 := row_below hb5 Hg4.out (Array.getElem?_eq_some_iff.1 Hg4.out).1
  have Hg5 := Lib.hid hg5
  have Hb5 := Lib.hid (Hb4.out.trans (hb5.mono Hb4.out.size))
  clear hb5 hg5 HF Hg4 Hb4
  go_upto_region 10 with fail
  obtain ⟨w6, hw6⟩ : ∃ w6, w6 = w5.alloc (.cells #[.int .i64 3, .int .i64 7, .int .i64 0, .string ou] 63) := ⟨_, rfl⟩
  obtain ⟨bv, hbv⟩ : ∃ bv, bv = w5.heap.size := ⟨_, rfl⟩
  rw [← hw6, ← hbv]
  have hgv : w6.heap[bv]? = some (.cells #[.int .i64 3, .int .i64 7, .int .i64 0, .string ou] 63) := by rw [hw6, hbv]; exact heap_alloc_last w5 _
  have hb6 : Below w5.heap.size w5 w6 := by rw [hw6]; exact below1 w5 _
  have hg6 := row_below hb6 Hg5.out (Array.getElem?_eq_some_iff.1 Hg5.out).1
  have Hgv := Lib.hid hgv
  have Hg6 := Lib.hid hg6
  have Hb6 := Lib.hid (Hb5.out.trans (hb6.mono Hb5.out.size))
  clear hb6 hw6 hbv Hg5 Hb5
  have k2 := cl20 hg6 (j := 2) rfl
  have k4 := cl20 hg6 (j := 4) rfl
  have k5 := cl20 hg6 (j := 5) rfl
  have v0 := cl20 hgv (j := 0) rfl
  have v1 := cl20 hgv (j := 1) rfl
  have v2 := cl20 hgv (j := 2) rfl
  have v3 := cl20 hgv (j := 3) rfl
  clear hg6 hgv
  obtain ⟨nn, hnn⟩ : ∃ nn, nn = nP p := ⟨_, rfl⟩
  have Hnn := Lib.hid hnn
  rw [← hnn]
  clear hnn
  obtain ⟨qb, hqb⟩ : ∃ qb, qb = quB p := ⟨_, rfl⟩
  have Hqb := Lib.hid hqb
  clear hqb
  go_cut [18] (fun v wx => v = .bool qb ∧ wx = w6)
  case first =>
    have HO2 := Lib.hid (fun w => show Calls Try.prog 28 #[.string S, .int .i64 20] w _ from octet_any S 20 w)
    have hqb := Hqb.out
    rw [HSl.out] at HO2
    unfold quB at hqb
    rw [← Hnn.out] at hqb
    have hpl := Hp.out.part
    have d1 : IntKind.u16.wrap ((p.part : Int).tmod 8192) = ((p.part % 8192 : Nat) : Int) := by
      rw [Int.tmod_eq_emod_of_nonneg (by omega)]; simp [IntKind.wrap, IntKind.bits, IntKind.signed]; omega
    have hoc := g1_lt (pt p) 20
    generalize g1 (pt p) 20 = oc at *
    by_cases c1 : p.part % 8192 = 0
    · rw [if_pos c1] at hqb
      have d2 : (((p.part % 8192 : Nat) : Int) != 0) = false := by rw [c1]; rfl
      by_cases c2 : p.proto.toNat = 1
      · have d3 : ((p.proto.toNat : Int) == 1) = true := by simp; omega
        by_cases c3 : 20 < nn
        · rw [if_pos ⟨c2, c3⟩] at hqb
          clear c2
          have d4 : (20 : Int) < (nn : Int) := by omega
          go_wp2_with fail
          refine (HO2.out _).mono ?_
          rintro e wx ⟨rfl, hwx⟩
          rw [hwx]
          clear hwx wx
          by_cases c4 : oc = 0
          · rw [if_pos (.inl c4)] at hqb
            subst hqb
            have d5 : ((oc : Int) != 0) = false := by rw [c4]; rfl
            clear c4
            go_wp2_with fail
            go_meet
            exact ⟨rfl, rfl⟩
          · have d5 : ((oc : Int) != 0) = true := by simp; omega
            go_wp2_with fail
            refine (HO2.out _).mono ?_
            rintro e wx ⟨rfl, hwx⟩
            rw [hwx]
            clear hwx wx
            by_cases c5 : oc = 8
            · rw [if_pos (.inr c5)] at hqb
              subst hqb
              have d6 : ((oc : Int) != 8) = false := by rw [c5]; rfl
              clear c5
              go_wp2_with fail
              go_meet
              exact ⟨rfl, rfl⟩
            · rw [if_neg (by omega)] at hqb
              subst hqb
              have d6 : ((oc : Int) != 8) = true := by simp; omega
              go_wp2_with fail
              go_meet
              exact ⟨rfl, rfl⟩
        · rw [if_neg (fun h => c3 h.2)] at hqb
          subst hqb
          clear c2
          have d4 : ¬ (20 : Int) < (nn : Int) := by omega
          go_wp2_with fail
          go_meet
          exact ⟨rfl, rfl⟩
      · rw [if_neg (fun h => c2 h.1)] at hqb
        subst hqb
        have d3 : ((p.proto.toNat : Int) == 1) = false := by simp; omega
        clear c2
        go_wp2_with fail
        go_meet
        exact ⟨rfl, rfl⟩
    · rw [if_neg c1] at hqb
      subst hqb
      have d2 : (((p.part % 8192 : Nat) : Int) != 0) = true := by simp; omega
      go_wp2_with fail
      go_meet
      exact ⟨rfl, rfl⟩
  case rest =>
  obtain ⟨rfl, rfl⟩ := hcut
  obtain rfl : qb = false := Hqb.out.trans hq
  have hn8 : n8 p = 28 := by unfold n8; rw [← Hnn.out] at hbig ⊢; omega
  have hle := n8_le p
  have hnp := nP_le p
  rw [hn8, ← Hnn.out] at hle
  rw [← Hnn.out] at hnp hbig
  have hdl : ou.data.toList = outA p own 7 := by rw [Hou.out, hol]
  have hos : ou.size = 28 + 28 := by rw [← blen, hdl, out_len, hn8]
  obtain ⟨o20, ho20⟩ : ∃ o, o = ou.extract 0 20 := ⟨_, rfl⟩
  have d20 : o20.data.toList = (outA p own 7).take 20 := by rw [ho20, ext_list, hdl, List.drop_zero]
  obtain ⟨oR, hoR⟩ : ∃ o, o = ou.extract 20 ou.size := ⟨_, rfl⟩
  have dR : oR.data.toList = (outA p own 7).drop 20 := by rw [hoR, ext_list, hdl, List.take_of_length_le (by rw [out_len, hn8, hos]; exact Nat.le_refl _)]
  have HS1 := Lib.hid (fun w => ksum_any o20 (by rw [← blen, d20, List.length_take]; omega) w)
  rw [d20, out_sum] at HS1
  have HS2 := Lib.hid (fun w => ksum_any oR (by rw [← blen, dR, List.length_drop, out_len, hn8]; omega) w)
  rw [dR, rest_sum] at HS2
  have HT2 := Lib.hid (fun w => two_any (28 + 28) (by omega) w)
  rw [show ((28 + 28 : Nat) : Int) = (56 : Int) by omega] at HT2
  obtain ⟨tt, htt⟩ : ∃ s : ByteArray, s = ⟨(tw (28 + 28)).toArray⟩ := ⟨_, rfl⟩
  rw [← htt] at HT2
  have ytt : tt.size = 2 := by rw [htt]; rfl
  obtain ⟨fx, hfx⟩ : ∃ s : ByteArray, s = (⟨#[69, 0]⟩ : ByteArray) ++ tt ++ ⟨#[0, 0, 0, 0, 64, 1]⟩ := ⟨_, rfl⟩
  have x10 : ou.extract 0 10 = fx := ba_ext (by rw [ext_list, hdl, List.drop_zero, out_fixed, hfx, bapp, bapp, htt, hn8])
  have x24 : ou.extract 24 28 = ⟨#[0, 0, 0, 0]⟩ := ba_ext (by rw [ext_list, hdl, out_zero])
  have x28 : ou.extract 28 ou.size = S.extract 0 28 := ba_ext (by rw [ext_list, ext_list, hdl, HSl.out, List.drop_zero, List.take_of_length_le (by rw [out_len, hn8, hos]; exact Nat.le_refl _), out_28, hn8])
  have H4 := Lib.hid (fun w => four_any own HOwn.out.2.2 w)
  have H5 := Lib.hid (fun w => four_any p.src Hp.out.src w)
  obtain ⟨t2, f2⟩ : ∃ s : ByteArray, s = ⟨(tw (own / 65536) ++ tw (own % 65536)).toArray⟩ := ⟨_, rfl⟩
  obtain ⟨t5, f5⟩ : ∃ s : ByteArray, s = ⟨(tw (p.src / 65536) ++ tw (p.src % 65536)).toArray⟩ := ⟨_, rfl⟩
  rw [← f2] at H4
  rw [← f5] at H5
  have y2 : t2.size = 4 := by rw [f2]; rfl
  have y5 : t5.size = 4 := by rw [f5]; rfl
  obtain ⟨o12, ho12⟩ : ∃ o, o = t2 ++ t5 := ⟨_, rfl⟩
  have x12 : ou.extract 12 20 = o12 := ba_ext (by rw [ext_list, hdl, out_ends, ho12, bapp, f2, f5])
  have F6 := Lib.hid ho12
  have l20 : 20 < ou.size := by omega
  have l21 : 21 < ou.size := by omega
  have g20 : (ou[20]'l20).toNat = 3 := by rw [← g1_b l20, hdl, out_20]; rfl
  have g21 : (ou[21]'l21).toNat = 0 := by rw [← g1_b l21, hdl, out_21]
  have hns : 28 ≤ S.size := by have h := (pt_len p).1; rw [← blen, HSl.out]; rw [← Hnn.out] at h; omega
  have q20 : (20 : Int) ≤ (ou.size : Int) := by omega
  have q10 : (10 : Int) ≤ (ou.size : Int) := by omega
  have q28 : (28 : Int) ≤ (ou.size : Int) := by omega
  have q21 : (20 : Int) < (ou.size : Int) := by omega
  have q22 : (21 : Int) < (ou.size : Int) := by omega
  have hne : ((ou.size : Int) != (56 : Int)) = false := by rw [bne_eq_false_iff_eq]; omega
  have qs : (28 : Int) ≤ (S.size : Int) := by omega
  have qz : (0 : Int) ≤ (28 : Int) := by omega
  have hb28 : (28 : Int) < (nn : Int) := by omega
  have Hfx := Lib.hid hfx
  have Ho20 := Lib.hid ho20
  have HoR := Lib.hid hoR
  have Hnp := Lib.hid hnp
  have Hx28 := Lib.hid x28
  have Hx12 := Lib.hid x12
  have Hx10 := Lib.hid x10
  have Hx24 := Lib.hid x24
  have Hg20 := Lib.hid g20
  have Hg21 := Lib.hid g21
  have Hy2 := Lib.hid y2
  have Hy5 := Lib.hid y5
  clear hfx ho20 hoR hnp hn8 hle hbig hdl hos d20 dR htt f2 f5 ho12 hns hol hq Hou HSl Hqb Hnn x28 x12 x10 x24 g20 g21 y2 y5 k2 k4 HOwn Hp
  go_wp2_with fail
  rw [← Ho20.out]
  refine (HS1.out _).mono ?_
  rintro e w8 ⟨rfl, hw8⟩
  rw [hw8]
  clear hw8 w8
  go_wp2_with fail
  rw [← HoR.out]
  refine (HS2.out _).mono ?_
  rintro e w8 ⟨rfl, hw8⟩
  rw [hw8]
  clear hw8 w8
  go_wp2_with fail
  refine (HT2.out _).mono ?_
  rintro e w8 ⟨rfl, hb8⟩
  have Hgv8 := Lib.hid (row_below hb8 Hgv.out (Array.getElem?_eq_some_iff.1 Hgv.out).1)
  have Hg8 := Lib.hid (row_below hb8 Hg6.out (Array.getElem?_eq_some_iff.1 Hg6.out).1)
  have Hb8 := Lib.hid (Hb6.out.trans (hb8.mono Hb6.out.size))
  clear hb8 v0 v1 v2 v3 k5 Hgv Hg6 Hb6 hne q22
  go_wp2_with fail
  rw [← Hfx.out]
  refine wp_region_relyG' (fun w w' => Below w.heap.size w w') (vA [.pointer (some ⟨bv, 3, none⟩), .string ou, .string o12, .int .u32 (own : Nat), .string t2, .pointer (some ⟨bx, 5, none⟩), .int .u32 (p.src : Nat), .string t5, .string o12, .bool true, .bool true, .pointer (some ⟨bv, 3, none⟩), .string ou, .string fx, .string fx, .bool true, .bool true, .bool true, .pointer (some ⟨bv, 3, none⟩), .string ou, .string ⟨#[0, 0, 0, 0]⟩, .bool true, .bool true, .bool true]) [148, 149, 150, 151, 152, 153, 154, 155, 156, 157, 158, 159, 160, 161, 162, 163, 164, 165, 166, 167, 168, 169, 170, 24] (by kernel_rfl) (plainG_of (by kernel_rfl)) (by kernel_rfl) (fun a b c h1 h2 => h1.trans (h2.mono h1.size)) ⟨rfl, rfl, rfl, Nat.le_refl _, fun _ _ => rfl⟩ (fun _ _ _ _ h _ => h) ?hop ?hend
  case hop =>
    intro i o ho a w9 hR hF hd
    have e9 := ev_get (show a.eval (.tmp 9) = .pointer (some ⟨bx, 0, none⟩) from hF.ev 9 (by kernel_rfl))
    have e17 := ev_get (show a.eval (.tmp 17) = .pointer (some ⟨bv, 0, none⟩) from hF.ev 17 (by kernel_rfl))
    have e2 := ev_get (show a.eval (.tmp 2) = .int .u32 (own : Nat) from hF.ev 2 (by kernel_rfl))
    have e23 := ev_get (show a.eval (.tmp 23) = .string fx from hF.ev 23 (by kernel_rfl))
    have v3 := cl20 (row_below hR Hgv8.out (Array.getElem?_eq_some_iff.1 Hgv8.out).1) (j := 3) rfl
    have k5 := cl20 (row_below hR Hg8.out (Array.getElem?_eq_some_iff.1 Hg8.out).1) (j := 5) rfl
    have x12 := Hx12.out
    have x10 := Hx10.out
    have x24 := Hx24.out
    have y2 := Hy2.out
    have y5 := Hy5.out
    rcases i with _ | i
    · obtain rfl := Option.some.inj ho
      refine ⟨want_no rfl, ?_⟩
      exact op_value (v := .pointer (some ⟨bv, 3, none⟩)) (by simp [go_sem, execOp, e17]) ⟨_, rfl, Below.refl _ _, rfl⟩
    rcases i with _ | i
    · obtain rfl := Option.some.inj ho
      refine ⟨want_no rfl, ?_⟩
      have e148 := ev_get (show a.eval (.tmp 148) = .pointer (some ⟨bv, 3, none⟩) from dep_of hd 0 (by kernel_rfl))
      exact op_value (v := .string ou) (by simp [go_sem, execOp, e148, v3]) ⟨_, rfl, Below.refl _ _, rfl⟩
    rcases i with _ | i
    · obtain rfl := Option.some.inj ho
      refine ⟨want_no rfl, ?_⟩
      have e149 := ev_get (show a.eval (.tmp 149) = .string ou from dep_of hd 1 (by kernel_rfl))
      exact op_value (v := .string o12) (by simp [go_sem, execOp, e149, x12, q20]) ⟨_, rfl, Below.refl _ _, rfl⟩
    rcases i with _ | i
    · obtain rfl := Option.some.inj ho
      refine ⟨want_no rfl, ?_⟩
      exact op_value (v := .int .u32 (own : Nat)) (by simp [go_sem, execOp, e2]) ⟨_, rfl, Below.refl _ _, rfl⟩
    rcases i with _ | i
    · obtain rfl := Option.some.inj ho
      refine ⟨want_no rfl, ?_⟩
      have e151 := ev_get (show a.eval (.tmp 151) = .int .u32 (own : Nat) from dep_of hd 3 (by kernel_rfl))
      exact op_enter (f := 30) (args := #[.int .u32 (own : Nat)]) (by simp [go_sem, execOp, e151]) ((H4.out w9).mono fun e w10 ⟨he, hb⟩ => ⟨_, he, _, rfl, hb, rfl⟩)
    rcases i with _ | i
    · obtain rfl := Option.some.inj ho
      refine ⟨want_no rfl, ?_⟩
      exact op_value (v := .pointer (some ⟨bx, 5, none⟩)) (by simp [go_sem, execOp, e9]) ⟨_, rfl, Below.refl _ _, rfl⟩
    rcases i with _ | i
    · obtain rfl := Option.some.inj ho
      refine ⟨want_no rfl, ?_⟩
      have e153 := ev_get (show a.eval (.tmp 153) = .pointer (some ⟨bx, 5, none⟩) from dep_of hd 5 (by kernel_rfl))
      exact op_value (v := .int .u32 (p.src : Nat)) (by simp [go_sem, execOp, e153, k5]) ⟨_, rfl, Below.refl _ _, rfl⟩
    rcases i with _ | i
    · obtain rfl := Option.some.inj ho
      refine ⟨want_no rfl, ?_⟩
      have e154 := ev_get (show a.eval (.tmp 154) = .int .u32 (p.src : Nat) from dep_of hd 6 (by kernel_rfl))
      exact op_enter (f := 30) (args := #[.int .u32 (p.src : Nat)]) (by simp [go_sem, execOp, e154]) ((H5.out w9).mono fun e w10 ⟨he, hb⟩ => ⟨_, he, _, rfl, hb, rfl⟩)
    rcases i with _ | i
    · obtain rfl := Option.some.inj ho
      refine ⟨want_no rfl, ?_⟩
      have e152 := ev_get (show a.eval (.tmp 152) = .string t2 from dep_of hd 4 (by kernel_rfl))
      have e155 := ev_get (show a.eval (.tmp 155) = .string t5 from dep_of hd 7 (by kernel_rfl))
      exact op_value (v := .string o12) (by rw [F6.out]; simp [go_sem, execOp, e152, e155, y2, y5]) ⟨_, rfl, Below.refl _ _, rfl⟩
    rcases i with _ | i
    · obtain rfl := Option.some.inj ho
      refine ⟨want_no rfl, ?_⟩
      have e150 := ev_get (show a.eval (.tmp 150) = .string o12 from dep_of hd 2 (by kernel_rfl))
      have e156 := ev_get (show a.eval (.tmp 156) = .string o12 from dep_of hd 8 (by kernel_rfl))
      exact op_value (v := .bool true) (by simp [go_sem, execOp, e150, e156]) ⟨_, rfl, Below.refl _ _, rfl⟩
    rcases i with _ | i
    · obtain rfl := Option.some.inj ho
      refine ⟨want_no rfl, ?_⟩
      have e157 := ev_get (show a.eval (.tmp 157) = .bool true from dep_of hd 9 (by kernel_rfl))
      exact op_value (v := .bool true) (by simp [go_sem, execOp, e157]) ⟨_, rfl, Below.refl _ _, rfl⟩
    rcases i with _ | i
    · obtain rfl := Option.some.inj ho
      refine ⟨want_at rfl (yld (j := 10) (t := 158) (by kernel_rfl) (show a.eval (.tmp 158) = .bool true from dep_of hd 10 (by kernel_rfl))), ?_⟩
      exact op_value (v := .pointer (some ⟨bv, 3, none⟩)) (by simp [go_sem, execOp, e17]) ⟨_, rfl, Below.refl _ _, rfl⟩
    rcases i with _ | i
    · obtain rfl := Option.some.inj ho
      refine ⟨want_at rfl (yld (j := 10) (t := 158) (by kernel_rfl) (show a.eval (.tmp 158) = .bool true from dep_of hd 10 (by kernel_rfl))), ?_⟩
      have e159 := ev_get (show a.eval (.tmp 159) = .pointer (some ⟨bv, 3, none⟩) from dep_of hd 11 (by kernel_rfl))
      exact op_value (v := .string ou) (by simp [go_sem, execOp, e159, v3]) ⟨_, rfl, Below.refl _ _, rfl⟩
    rcases i with _ | i
    · obtain rfl := Option.some.inj ho
      refine ⟨want_at rfl (yld (j := 10) (t := 158) (by kernel_rfl) (show a.eval (.tmp 158) = .bool true from dep_of hd 10 (by kernel_rfl))), ?_⟩
      have e160 := ev_get (show a.eval (.tmp 160) = .string ou from dep_of hd 12 (by kernel_rfl))
      exact op_value (v := .string fx) (by simp [go_sem, execOp, e160, x10, q10]) ⟨_, rfl, Below.refl _ _, rfl⟩
    rcases i with _ | i
    · obtain rfl := Option.some.inj ho
      refine ⟨want_at rfl (yld (j := 10) (t := 158) (by kernel_rfl) (show a.eval (.tmp 158) = .bool true from dep_of hd 10 (by kernel_rfl))), ?_⟩
      exact op_value (v := .string fx) (by simp [go_sem, execOp, e23]) ⟨_, rfl, Below.refl _ _, rfl⟩
    rcases i with _ | i
    · obtain rfl := Option.some.inj ho
      refine ⟨want_at rfl (yld (j := 10) (t := 158) (by kernel_rfl) (show a.eval (.tmp 158) = .bool true from dep_of hd 10 (by kernel_rfl))), ?_⟩
      have e161 := ev_get (show a.eval (.tmp 161) = .string fx from dep_of hd 13 (by kernel_rfl))
      have e162 := ev_get (show a.eval (.tmp 162) = .string fx from dep_of hd 14 (by kernel_rfl))
      exact op_value (v := .bool true) (by simp [go_sem, execOp, e161, e162]) ⟨_, rfl, Below.refl _ _, rfl⟩
    rcases i with _ | i
    · obtain rfl := Option.some.inj ho
      refine ⟨want_no rfl, ?_⟩
      have e158 := ev_get (show a.eval (.tmp 158) = .bool true from dep_of hd 10 (by kernel_rfl))
      have e163 := ev_get (show a.eval (.tmp 163) = .bool true from dep_of hd 15 (by kernel_rfl))
      exact op_value (v := .bool true) (by simp [go_sem, execOp, e158, e163]) ⟨_, rfl, Below.refl _ _, rfl⟩
    rcases i with _ | i
    · obtain rfl := Option.some.inj ho
      refine ⟨want_no rfl, ?_⟩
      have e164 := ev_get (show a.eval (.tmp 164) = .bool true from dep_of hd 16 (by kernel_rfl))
      exact op_value (v := .bool true) (by simp [go_sem, execOp, e164]) ⟨_, rfl, Below.refl _ _, rfl⟩
    rcases i with _ | i
    · obtain rfl := Option.some.inj ho
      refine ⟨want_at rfl (yld (j := 17) (t := 165) (by kernel_rfl) (show a.eval (.tmp 165) = .bool true from dep_of hd 17 (by kernel_rfl))), ?_⟩
      exact op_value (v := .pointer (some ⟨bv, 3, none⟩)) (by simp [go_sem, execOp, e17]) ⟨_, rfl, Below.refl _ _, rfl⟩
    rcases i with _ | i
    · obtain rfl := Option.some.inj ho
      refine ⟨want_at rfl (yld (j := 17) (t := 165) (by kernel_rfl) (show a.eval (.tmp 165) = .bool true from dep_of hd 17 (by kernel_rfl))), ?_⟩
      have e166 := ev_get (show a.eval (.tmp 166) = .pointer (some ⟨bv, 3, none⟩) from dep_of hd 18 (by kernel_rfl))
      exact op_value (v := .string ou) (by simp [go_sem, execOp, e166, v3]) ⟨_, rfl, Below.refl _ _, rfl⟩
    rcases i with _ | i
    · obtain rfl := Option.some.inj ho
      refine ⟨want_at rfl (yld (j := 17) (t := 165) (by kernel_rfl) (show a.eval (.tmp 165) = .bool true from dep_of hd 17 (by kernel_rfl))), ?_⟩
      have e167 := ev_get (show a.eval (.tmp 167) = .string ou from dep_of hd 19 (by kernel_rfl))
      exact op_value (v := .string ⟨#[0, 0, 0, 0]⟩) (by simp [go_sem, execOp, e167, x24, q28]) ⟨_, rfl, Below.refl _ _, rfl⟩
    rcases i with _ | i
    · obtain rfl := Option.some.inj ho
      refine ⟨want_at rfl (yld (j := 17) (t := 165) (by kernel_rfl) (show a.eval (.tmp 165) = .bool true from dep_of hd 17 (by kernel_rfl))), ?_⟩
      have e168 := ev_get (show a.eval (.tmp 168) = .string ⟨#[0, 0, 0, 0]⟩ from dep_of hd 20 (by kernel_rfl))
      exact op_value (v := .bool true) (by simp [go_sem, execOp, e168]) ⟨_, rfl, Below.refl _ _, rfl⟩
    rcases i with _ | i
    · obtain rfl := Option.some.inj ho
      refine ⟨want_no rfl, ?_⟩
      have e165 := ev_get (show a.eval (.tmp 165) = .bool true from dep_of hd 17 (by kernel_rfl))
      have e169 := ev_get (show a.eval (.tmp 169) = .bool true from dep_of hd 21 (by kernel_rfl))
      exact op_value (v := .bool true) (by simp [go_sem, execOp, e165, e169]) ⟨_, rfl, Below.refl _ _, rfl⟩
    rcases i with _ | i
    · obtain rfl := Option.some.inj ho
      refine ⟨want_no rfl, ?_⟩
      have e170 := ev_get (show a.eval (.tmp 170) = .bool true from dep_of hd 22 (by kernel_rfl))
      exact op_value (v := .bool true) (by simp [go_sem, execOp, e170]) ⟨_, rfl, Below.refl _ _, rfl⟩
    · exact absurd (Array.getElem?_eq_some_iff.1 ho).1 (by simp)
  case hend =>
  intro X w9 hR hall
  have x23 : X 23 = .bool true := hall 23 (by simp)
  have hgv9 := row_below hR Hgv8.out (Array.getElem?_eq_some_iff.1 Hgv8.out).1
  have v3 := cl20 hgv9 (j := 3) rfl
  have Hb9 := Lib.hid (Hb8.out.trans (hR.mono Hb8.out.size))
  simp only [putAll, Act.put, List.setIfInBounds_toArray, List.set_cons_zero, List.set_cons_succ, x23, Nat.zero_add, Nat.reduceAdd]
  have x28 := Hx28.out
  have g20 := Hg20.out
  have g21 := Hg21.out
  have q22 : (21 : Int) < (ou.size : Int) := by omega
  clear x23 hR hall hgv9 Hgv8 Hg8 Hb8 H4 H5
  go_wp2_with fail
  go_big_quiet (fail)
  go_wp2
  go_ret
  exact ⟨rfl, Hb9.out.os, Hb9.out.tape, Hb9.out.output, Hb9.out.size, Hb9.out.block⟩
set_option maxRecDepth 4000 in
set_option maxHeartbeats 4000000 in
theorem ans_yes7s (limit seed : Int) (own : Nat) (so : Option Addr) (z scap : Nat) (ops : List AOp) (p : Pk) (hp : PkFit p) (w : World) (hsn : Rg seed own) (h1 : ¬ limit < 1) (h2 : ¬ 256 < limit) (hz : ops.length = z) (hz2 : z ≤ 1400000000000) (hS : ScrK w.heap.size w so ops) (gs : Nat → List Int) (rs : List Rt) (hpl : playA limit (gz seed own) [] ops gs rs) (hbig : ¬ 28 < nP p) (hq : quB p = false) (ol : List UInt8) (hol : ol = outA p own 7) (hV : fwdV (ownN gs) (pt p) (fun tg => pkE rs (4, 0, tg)) (fun tg fl => pkH gs rs (4, 0, tg) fl) = ⟨3, 7, 0, ol⟩) :
    Calls Try.prog 7 #[.int .i64 limit, .int .u64 seed, .int .u32 (own : Nat), .slice so z scap, pkV p] w fun e w' => e = .returned (.bool true) ∧ Below w.heap.size w w' := by
  obtain ⟨w0, hw0⟩ : ∃ w0, w0 = w.alloc (.cells #[.int .u8 (p.tos.toNat : Nat), .int .u8 (p.life.toNat : Nat), .int .u8 (p.proto.toNat : Nat), .int .u16 (p.id : Nat), .int .u16 (p.part : Nat), .int .u32 (p.src : Nat), .int .u32 (p.dst : Nat), .string p.c, .string p.m] 58) := ⟨_, rfl⟩
  obtain ⟨bx, hbx⟩ : ∃ bx, bx = w.heap.size := ⟨_, rfl⟩
  have hb0 : Below w.heap.size w w0 := by rw [hw0]; exact below1 w _
  have hg0 : w0.heap[bx]? = some (.cells #[.int .u8 (p.tos.toNat : Nat), .int .u8 (p.life.toNat : Nat), .int .u8 (p.proto.toNat : Nat), .int .u16 (p.id : Nat), .int .u16 (p.part : Nat), .int .u32 (p.src : Nat), .int .u32 (p.dst : Nat), .string p.c, .string p.m] 58) := by rw [hw0, hbx]; exact heap_alloc_last w _
  have HR := Lib.hid (ready_fix limit seed own so z scap ops w0 hsn h1 h2 hz hz2 (hS.grow hb0) gs rs hpl)
  obtain ⟨seed2, hs2⟩ : ∃ x, x = bits .xor .u64 IntKind.u64.max seed := ⟨_, rfl⟩
  obtain ⟨own2, ho2⟩ : ∃ x, x = bits .xor .u32 IntKind.u32.max (own : Nat) := ⟨_, rfl⟩
  have hsn2 : Rg seed2 own2 := by rw [hs2, ho2]; exact ⟨bx64 _ _, bx32 _ _⟩
  have HR2 := Lib.hid (fun (w3 : World) (hb : Below w.heap.size w w3) => ready_tab limit seed2 own2 so z scap ops w3 hsn2 h1 h2 hz hz2 (hS.grow hb))
  have Hs2 := Lib.hid hs2
  have Ho2 := Lib.hid ho2
  have HB := Lib.hid (fun w => show Calls Try.prog 23 #[.agg #[.int .u8 (p.tos.toNat : Nat), .int .u8 (p.life.toNat : Nat), .int .u8 (p.proto.toNat : Nat), .int .u16 (p.id : Nat), .int .u16 (p.part : Nat), .int .u32 (p.src : Nat), .int .u32 (p.dst : Nat), .string p.c, .string p.m]] w _ from built_any p hp w)
  have HV := Lib.hid hV
  have HOwn := Lib.hid (show (0 : Int) ≤ seed ∧ seed ≤ 18446744073709551615 ∧ own < 4294967296 by unfold Rg at hsn; omega)
  have Hg0 := Lib.hid hg0
  have Hb0 := Lib.hid hb0
  have Hw0 := Lib.hid hw0
  have Hbx := Lib.hid hbx
  have Hp := Lib.hid hp
  clear hs2 ho2 hw0 hbx hb0 hg0 hsn hsn2 h1 h2 hz hz2 hS hpl hV hp
  unfold pkV
  go_enter Try.func7, Try.ntmps7
  go_wp2_with fail
  rw [← Hw0.out, ← Hbx.out]
  refine HR.out.mono ?_
  rintro e w1 ⟨T, rfl, hb1, hT⟩
  have Hb1 := Lib.hid (Hb0.out.trans (hb1.mono Hb0.out.size))
  have hg1 := row_below hb1 Hg0.out (Array.getElem?_eq_some_iff.1 Hg0.out).1
  have HT := Lib.hid hT
  have Hg1 := Lib.hid hg1
  have k0 := cl20 hg1 (j := 0) rfl
  have k1 := cl20 hg1 (j := 1) rfl
  have k2 := cl20 hg1 (j := 2) rfl
  have k3 := cl20 hg1 (j := 3) rfl
  have k4 := cl20 hg1 (j := 4) rfl
  have k5 := cl20 hg1 (j := 5) rfl
  have k6 := cl20 hg1 (j := 6) rfl
  have k7 := cl20 hg1 (j := 7) rfl
  have k8 := cl20 hg1 (j := 8) rfl
  clear hb1 hT hg1 HR Hg0 Hb0
  go_wp2_with fail
  refine (HB.out _).mono ?_
  rintro e w2 ⟨S, rfl, hSl, hb2⟩
  have hg2 := row_below hb2 Hg1.out (Array.getElem?_eq_some_iff.1 Hg1.out).1
  have HT2 := Lib.hid (HT.out.grow hb2)
  have Hg2 := Lib.hid hg2
  have Hb2 := Lib.hid (Hb1.out.trans (hb2.mono Hb1.out.size))
  have HSl := Lib.hid (show S.data.toList = pt p from hSl)
  clear k0 k1 k2 k3 k4 k5 k6 k7 k8 hb2 hSl HB HT Hg1 Hb1 hg2
  go_wp2_with fail
  rw [← Hs2.out, ← Ho2.out]
  refine (HR2.out w2 Hb2.out).mono ?_
  rintro e w3 ⟨U, rfl, hb3, gs', rs', -, -, hU⟩
  have HU := Lib.hid (hU.fw w3 (Below.refl _ _) S)
  have HT3 := Lib.hid (HT2.out.grow hb3)
  have hg3 := row_below hb3 Hg2.out (Array.getElem?_eq_some_iff.1 Hg2.out).1
  have Hg3 := Lib.hid hg3
  have Hb3 := Lib.hid (Hb2.out.trans (hb3.mono Hb2.out.size))
  clear hb3 hU hg3 HR2 HT2 Hg2 Hb2 Hs2 Ho2
  obtain ⟨VU, hVU⟩ : ∃ v, v = vV (fwdV (ownN gs') S.data.toList (fun tg => pkE rs' (4, 0, tg)) (fun tg fl => pkH gs' rs' (4, 0, tg) fl)) := ⟨_, rfl⟩
  rw [← hVU] at HU
  clear hVU
  go_wp2_with fail
  refine HU.out.mono ?_
  rintro e w4 ⟨rfl, hb4⟩
  have HT4 := Lib.hid (HT3.out.grow hb4)
  have hg4 := row_below hb4 Hg3.out (Array.getElem?_eq_some_iff.1 Hg3.out).1
  have Hg4 := Lib.hid hg4
  have Hb4 := Lib.hid (Hb3.out.trans (hb4.mono Hb3.out.size))
  have hF := HT4.out.fw w4 (Below.refl _ _) S
  rw [HSl.out, HV.out] at hF
  have HF := Lib.hid hF
  clear hb4 hg4 hF HU HT3 Hg3 Hb3 HV HT4
  unfold vV at HF
  obtain ⟨ou, hou⟩ : ∃ ou : ByteArray, ou = ⟨ol.toArray⟩ := ⟨_, rfl⟩
  have Hou := Lib.hid (show ou.data.toList = ol by rw [hou])
  simp only [← hou] at HF
  clear hou
  go_wp2_with fail
  refine HF.out.mono ?_
  rintro e w5 ⟨rfl, hb5⟩
  have hg5 := row_below hb5 Hg4.out (Array.getElem?_eq_some_iff.1 Hg4.out).1
  have Hg5 := Lib.hid hg5
  have Hb5 := Lib.hid (Hb4.out.trans (hb5.mono Hb4.out.size))
  clear hb5 hg5 HF Hg4 Hb4
  go_upto_region 10 with fail
  obtain ⟨w6, hw6⟩ : ∃ w6, w6 = w5.alloc (.cells #[.int .i64 3, .int .i64 7, .int .i64 0, .string ou] 63) := ⟨_, rfl⟩
  obtain ⟨bv, hbv⟩ : ∃ bv, bv = w5.heap.size := ⟨_, rfl⟩
  rw [← hw6, ← hbv]
  have hgv : w6.heap[bv]? = some (.cells #[.int .i64 3, .int .i64 7, .int .i64 0, .string ou] 63) := by rw [hw6, hbv]; exact heap_alloc_last w5 _
  have hb6 : Below w5.heap.size w5 w6 := by rw [hw6]; exact below1 w5 _
  have hg6 := row_below hb6 Hg5.out (Array.getElem?_eq_some_iff.1 Hg5.out).1
  have Hgv := Lib.hid hgv
  have Hg6 := Lib.hid hg6
  have Hb6 := Lib.hid (Hb5.out.trans (hb6.mono Hb5.out.size))
  clear hb6 hw6 hbv Hg5 Hb5
  have k2 := cl20 hg6 (j := 2) rfl
  have k4 := cl20 hg6 (j := 4) rfl
  have k5 := cl20 hg6 (j := 5) rfl
  have v0 := cl20 hgv (j := 0) rfl
  have v1 := cl20 hgv (j := 1) rfl
  have v2 := cl20 hgv (j := 2) rfl
  have v3 := cl20 hgv (j := 3) rfl
  clear hg6 hgv
  obtain ⟨nn, hnn⟩ : ∃ nn, nn = nP p := ⟨_, rfl⟩
  have Hnn := Lib.hid hnn
  rw [← hnn]
  clear hnn
  obtain ⟨qb, hqb⟩ : ∃ qb, qb = quB p := ⟨_, rfl⟩
  have Hqb := Lib.hid hqb
  clear hqb
  go_cut [18] (fun v wx => v = .bool qb ∧ wx = w6)
  case first =>
    have HO2 := Lib.hid (fun w => show Calls Try.prog 28 #[.string S, .int .i64 20] w _ from octet_any S 20 w)
    have hqb := Hqb.out
    rw [HSl.out] at HO2
    unfold quB at hqb
    rw [← Hnn.out] at hqb
    have hpl := Hp.out.part
    have d1 : IntKind.u16.wrap ((p.part : Int).tmod 8192) = ((p.part % 8192 : Nat) : Int) := by
      rw [Int.tmod_eq_emod_of_nonneg (by omega)]; simp [IntKind.wrap, IntKind.bits, IntKind.signed]; omega
    have hoc := g1_lt (pt p) 20
    generalize g1 (pt p) 20 = oc at *
    by_cases c1 : p.part % 8192 = 0
    · rw [if_pos c1] at hqb
      have d2 : (((p.part % 8192 : Nat) : Int) != 0) = false := by rw [c1]; rfl
      by_cases c2 : p.proto.toNat = 1
      · have d3 : ((p.proto.toNat : Int) == 1) = true := by simp; omega
        by_cases c3 : 20 < nn
        · rw [if_pos ⟨c2, c3⟩] at hqb
          clear c2
          have d4 : (20 : Int) < (nn : Int) := by omega
          go_wp2_with fail
          refine (HO2.out _).mono ?_
          rintro e wx ⟨rfl, hwx⟩
          rw [hwx]
          clear hwx wx
          by_cases c4 : oc = 0
          · rw [if_pos (.inl c4)] at hqb
            subst hqb
            have d5 : ((oc : Int) != 0) = false := by rw [c4]; rfl
            clear c4
            go_wp2_with fail
            go_meet
            exact ⟨rfl, rfl⟩
          · have d5 : ((oc : Int) != 0) = true := by simp; omega
            go_wp2_with fail
            refine (HO2.out _).mono ?_
            rintro e wx ⟨rfl, hwx⟩
            rw [hwx]
            clear hwx wx
            by_cases c5 : oc = 8
            · rw [if_pos (.inr c5)] at hqb
              subst hqb
              have d6 : ((oc : Int) != 8) = false := by rw [c5]; rfl
              clear c5
              go_wp2_with fail
              go_meet
              exact ⟨rfl, rfl⟩
            · rw [if_neg (by omega)] at hqb
              subst hqb
              have d6 : ((oc : Int) != 8) = true := by simp; omega
              go_wp2_with fail
              go_meet
              exact ⟨rfl, rfl⟩
        · rw [if_neg (fun h => c3 h.2)] at hqb
          subst hqb
          clear c2
          have d4 : ¬ (20 : Int) < (nn : Int) := by omega
          go_wp2_with fail
          go_meet
          exact ⟨rfl, rfl⟩
      · rw [if_neg (fun h => c2 h.1)] at hqb
        subst hqb
        have d3 : ((p.proto.toNat : Int) == 1) = false := by simp; omega
        clear c2
        go_wp2_with fail
        go_meet
        exact ⟨rfl, rfl⟩
    · rw [if_neg c1] at hqb
      subst hqb
      have d2 : (((p.part % 8192 : Nat) : Int) != 0) = true := by simp; omega
      go_wp2_with fail
      go_meet
      exact ⟨rfl, rfl⟩
  case rest =>
  obtain ⟨rfl, rfl⟩ := hcut
  obtain rfl : qb = false := Hqb.out.trans hq
  have hn8 : n8 p = nn := by unfold n8; rw [← Hnn.out] at hbig ⊢; omega
  have hle := n8_le p
  have hnp := nP_le p
  rw [hn8, ← Hnn.out] at hle
  rw [← Hnn.out] at hnp hbig
  have hdl : ou.data.toList = outA p own 7 := by rw [Hou.out, hol]
  have hos : ou.size = 28 + nn := by rw [← blen, hdl, out_len, hn8]
  obtain ⟨o20, ho20⟩ : ∃ o, o = ou.extract 0 20 := ⟨_, rfl⟩
  have d20 : o20.data.toList = (outA p own 7).take 20 := by rw [ho20, ext_list, hdl, List.drop_zero]
  obtain ⟨oR, hoR⟩ : ∃ o, o = ou.extract 20 ou.size := ⟨_, rfl⟩
  have dR : oR.data.toList = (outA p own 7).drop 20 := by rw [hoR, ext_list, hdl, List.take_of_length_le (by rw [out_len, hn8, hos]; exact Nat.le_refl _)]
  have HS1 := Lib.hid (fun w => ksum_any o20 (by rw [← blen, d20, List.length_take]; omega) w)
  rw [d20, out_sum] at HS1
  have HS2 := Lib.hid (fun w => ksum_any oR (by rw [← blen, dR, List.length_drop, out_len, hn8]; omega) w)
  rw [dR, rest_sum] at HS2
  have HT2 := Lib.hid (fun w => two_any (28 + nn) (by omega) w)
  rw [show ((28 + nn : Nat) : Int) = (28 : Int) + (nn : Int) by omega] at HT2
  obtain ⟨tt, htt⟩ : ∃ s : ByteArray, s = ⟨(tw (28 + nn)).toArray⟩ := ⟨_, rfl⟩
  rw [← htt] at HT2
  have ytt : tt.size = 2 := by rw [htt]; rfl
  obtain ⟨fx, hfx⟩ : ∃ s : ByteArray, s = (⟨#[69, 0]⟩ : ByteArray) ++ tt ++ ⟨#[0, 0, 0, 0, 64, 1]⟩ := ⟨_, rfl⟩
  have x10 : ou.extract 0 10 = fx := ba_ext (by rw [ext_list, hdl, List.drop_zero, out_fixed, hfx, bapp, bapp, htt, hn8])
  have x24 : ou.extract 24 28 = ⟨#[0, 0, 0, 0]⟩ := ba_ext (by rw [ext_list, hdl, out_zero])
  have x28 : ou.extract 28 ou.size = S.extract 0 nn := ba_ext (by rw [ext_list, ext_list, hdl, HSl.out, List.drop_zero, List.take_of_length_le (by rw [out_len, hn8, hos]; exact Nat.le_refl _), out_28, hn8])
  have H4 := Lib.hid (fun w => four_any own HOwn.out.2.2 w)
  have H5 := Lib.hid (fun w => four_any p.src Hp.out.src w)
  obtain ⟨t2, f2⟩ : ∃ s : ByteArray, s = ⟨(tw (own / 65536) ++ tw (own % 65536)).toArray⟩ := ⟨_, rfl⟩
  obtain ⟨t5, f5⟩ : ∃ s : ByteArray, s = ⟨(tw (p.src / 65536) ++ tw (p.src % 65536)).toArray⟩ := ⟨_, rfl⟩
  rw [← f2] at H4
  rw [← f5] at H5
  have y2 : t2.size = 4 := by rw [f2]; rfl
  have y5 : t5.size = 4 := by rw [f5]; rfl
  obtain ⟨o12, ho12⟩ : ∃ o, o = t2 ++ t5 := ⟨_, rfl⟩
  have x12 : ou.extract 12 20 = o12 := ba_ext (by rw [ext_list, hdl, out_ends, ho12, bapp, f2, f5])
  have F6 := Lib.hid ho12
  have l20 : 20 < ou.size := by omega
  have l21 : 21 < ou.size := by omega
  have g20 : (ou[20]'l20).toNat = 3 := by rw [← g1_b l20, hdl, out_20]; rfl
  have g21 : (ou[21]'l21).toNat = 0 := by rw [← g1_b l21, hdl, out_21]
  have hns : nn ≤ S.size := by have h := (pt_len p).1; rw [← blen, HSl.out]; rw [← Hnn.out] at h; omega
  have q20 : (20 : Int) ≤ (ou.size : Int) := by omega
  have q10 : (10 : Int) ≤ (ou.size : Int) := by omega
  have q28 : (28 : Int) ≤ (ou.size : Int) := by omega
  have q21 : (20 : Int) < (ou.size : Int) := by omega
  have q22 : (21 : Int) < (ou.size : Int) := by omega
  have hne : ((ou.size : Int) != (28 : Int) + (nn : Int)) = false := by rw [bne_eq_false_iff_eq]; omega
  have qs : (nn : Int) ≤ (S.size : Int) := by omega
  have qz : (0 : Int) ≤ (nn : Int) := by omega
  have hb28 : ¬ (28 : Int) < (nn : Int) := by omega
  have Hfx := Lib.hid hfx
  have Ho20 := Lib.hid ho20
  have HoR := Lib.hid hoR
  have Hnp := Lib.hid hnp
  have Hx28 := Lib.hid x28
  have Hx12 := Lib.hid x12
  have Hx10 := Lib.hid x10
  have Hx24 := Lib.hid x24
  have Hg20 := Lib.hid g20
  have Hg21 := Lib.hid g21
  have Hy2 := Lib.hid y2
  have Hy5 := Lib.hid y5
  clear hfx ho20 hoR hnp hn8 hle hbig hdl hos d20 dR htt f2 f5 ho12 hns hol hq Hou HSl Hqb Hnn x28 x12 x10 x24 g20 g21 y2 y5 k2 k4 HOwn Hp
  go_wp2_with fail
  rw [← Ho20.out]
  refine (HS1.out _).mono ?_
  rintro e w8 ⟨rfl, hw8⟩
  rw [hw8]
  clear hw8 w8
  go_wp2_with fail
  rw [← HoR.out]
  refine (HS2.out _).mono ?_
  rintro e w8 ⟨rfl, hw8⟩
  rw [hw8]
  clear hw8 w8
  go_wp2_with fail
  refine (HT2.out _).mono ?_
  rintro e w8 ⟨rfl, hb8⟩
  have Hgv8 := Lib.hid (row_below hb8 Hgv.out (Array.getElem?_eq_some_iff.1 Hgv.out).1)
  have Hg8 := Lib.hid (row_below hb8 Hg6.out (Array.getElem?_eq_some_iff.1 Hg6.out).1)
  have Hb8 := Lib.hid (Hb6.out.trans (hb8.mono Hb6.out.size))
  clear hb8 v0 v1 v2 v3 k5 Hgv Hg6 Hb6 hne q22
  go_wp2_with fail
  rw [← Hfx.out]
  refine wp_region_relyG' (fun w w' => Below w.heap.size w w') (vA [.pointer (some ⟨bv, 3, none⟩), .string ou, .string o12, .int .u32 (own : Nat), .string t2, .pointer (some ⟨bx, 5, none⟩), .int .u32 (p.src : Nat), .string t5, .string o12, .bool true, .bool true, .pointer (some ⟨bv, 3, none⟩), .string ou, .string fx, .string fx, .bool true, .bool true, .bool true, .pointer (some ⟨bv, 3, none⟩), .string ou, .string ⟨#[0, 0, 0, 0]⟩, .bool true, .bool true, .bool true]) [148, 149, 150, 151, 152, 153, 154, 155, 156, 157, 158, 159, 160, 161, 162, 163, 164, 165, 166, 167, 168, 169, 170, 24] (by kernel_rfl) (plainG_of (by kernel_rfl)) (by kernel_rfl) (fun a b c h1 h2 => h1.trans (h2.mono h1.size)) ⟨rfl, rfl, rfl, Nat.le_refl _, fun _ _ => rfl⟩ (fun _ _ _ _ h _ => h) ?hop ?hend
  case hop =>
    intro i o ho a w9 hR hF hd
    have e9 := ev_get (show a.eval (.tmp 9) = .pointer (some ⟨bx, 0, none⟩) from hF.ev 9 (by kernel_rfl))
    have e17 := ev_get (show a.eval (.tmp 17) = .pointer (some ⟨bv, 0, none⟩) from hF.ev 17 (by kernel_rfl))
    have e2 := ev_get (show a.eval (.tmp 2) = .int .u32 (own : Nat) from hF.ev 2 (by kernel_rfl))
    have e23 := ev_get (show a.eval (.tmp 23) = .string fx from hF.ev 23 (by kernel_rfl))
    have v3 := cl20 (row_below hR Hgv8.out (Array.getElem?_eq_some_iff.1 Hgv8.out).1) (j := 3) rfl
    have k5 := cl20 (row_below hR Hg8.out (Array.getElem?_eq_some_iff.1 Hg8.out).1) (j := 5) rfl
    have x12 := Hx12.out
    have x10 := Hx10.out
    have x24 := Hx24.out
    have y2 := Hy2.out
    have y5 := Hy5.out
    rcases i with _ | i
    · obtain rfl := Option.some.inj ho
      refine ⟨want_no rfl, ?_⟩
      exact op_value (v := .pointer (some ⟨bv, 3, none⟩)) (by simp [go_sem, execOp, e17]) ⟨_, rfl, Below.refl _ _, rfl⟩
    rcases i with _ | i
    · obtain rfl := Option.some.inj ho
      refine ⟨want_no rfl, ?_⟩
      have e148 := ev_get (show a.eval (.tmp 148) = .pointer (some ⟨bv, 3, none⟩) from dep_of hd 0 (by kernel_rfl))
      exact op_value (v := .string ou) (by simp [go_sem, execOp, e148, v3]) ⟨_, rfl, Below.refl _ _, rfl⟩
    rcases i with _ | i
    · obtain rfl := Option.some.inj ho
      refine ⟨want_no rfl, ?_⟩
      have e149 := ev_get (show a.eval (.tmp 149) = .string ou from dep_of hd 1 (by kernel_rfl))
      exact op_value (v := .string o12) (by simp [go_sem, execOp, e149, x12, q20]) ⟨_, rfl, Below.refl _ _, rfl⟩
    rcases i with _ | i
    · obtain rfl := Option.some.inj ho
      refine ⟨want_no rfl, ?_⟩
      exact op_value (v := .int .u32 (own : Nat)) (by simp [go_sem, execOp, e2]) ⟨_, rfl, Below.refl _ _, rfl⟩
    rcases i with _ | i
    · obtain rfl := Option.some.inj ho
      refine ⟨want_no rfl, ?_⟩
      have e151 := ev_get (show a.eval (.tmp 151) = .int .u32 (own : Nat) from dep_of hd 3 (by kernel_rfl))
      exact op_enter (f := 30) (args := #[.int .u32 (own : Nat)]) (by simp [go_sem, execOp, e151]) ((H4.out w9).mono fun e w10 ⟨he, hb⟩ => ⟨_, he, _, rfl, hb, rfl⟩)
    rcases i with _ | i
    · obtain rfl := Option.some.inj ho
      refine ⟨want_no rfl, ?_⟩
      exact op_value (v := .pointer (some ⟨bx, 5, none⟩)) (by simp [go_sem, execOp, e9]) ⟨_, rfl, Below.refl _ _, rfl⟩
    rcases i with _ | i
    · obtain rfl := Option.some.inj ho
      refine ⟨want_no rfl, ?_⟩
      have e153 := ev_get (show a.eval (.tmp 153) = .pointer (some ⟨bx, 5, none⟩) from dep_of hd 5 (by kernel_rfl))
      exact op_value (v := .int .u32 (p.src : Nat)) (by simp [go_sem, execOp, e153, k5]) ⟨_, rfl, Below.refl _ _, rfl⟩
    rcases i with _ | i
    · obtain rfl := Option.some.inj ho
      refine ⟨want_no rfl, ?_⟩
      have e154 := ev_get (show a.eval (.tmp 154) = .int .u32 (p.src : Nat) from dep_of hd 6 (by kernel_rfl))
      exact op_enter (f := 30) (args := #[.int .u32 (p.src : Nat)]) (by simp [go_sem, execOp, e154]) ((H5.out w9).mono fun e w10 ⟨he, hb⟩ => ⟨_, he, _, rfl, hb, rfl⟩)
    rcases i with _ | i
    · obtain rfl := Option.some.inj ho
      refine ⟨want_no rfl, ?_⟩
      have e152 := ev_get (show a.eval (.tmp 152) = .string t2 from dep_of hd 4 (by kernel_rfl))
      have e155 := ev_get (show a.eval (.tmp 155) = .string t5 from dep_of hd 7 (by kernel_rfl))
      exact op_value (v := .string o12) (by rw [F6.out]; simp [go_sem, execOp, e152, e155, y2, y5]) ⟨_, rfl, Below.refl _ _, rfl⟩
    rcases i with _ | i
    · obtain rfl := Option.some.inj ho
      refine ⟨want_no rfl, ?_⟩
      have e150 := ev_get (show a.eval (.tmp 150) = .string o12 from dep_of hd 2 (by kernel_rfl))
      have e156 := ev_get (show a.eval (.tmp 156) = .string o12 from dep_of hd 8 (by kernel_rfl))
      exact op_value (v := .bool true) (by simp [go_sem, execOp, e150, e156]) ⟨_, rfl, Below.refl _ _, rfl⟩
    rcases i with _ | i
    · obtain rfl := Option.some.inj ho
      refine ⟨want_no rfl, ?_⟩
      have e157 := ev_get (show a.eval (.tmp 157) = .bool true from dep_of hd 9 (by kernel_rfl))
      exact op_value (v := .bool true) (by simp [go_sem, execOp, e157]) ⟨_, rfl, Below.refl _ _, rfl⟩
    rcases i with _ | i
    · obtain rfl := Option.some.inj ho
      refine ⟨want_at rfl (yld (j := 10) (t := 158) (by kernel_rfl) (show a.eval (.tmp 158) = .bool true from dep_of hd 10 (by kernel_rfl))), ?_⟩
      exact op_value (v := .pointer (some ⟨bv, 3, none⟩)) (by simp [go_sem, execOp, e17]) ⟨_, rfl, Below.refl _ _, rfl⟩
    rcases i with _ | i
    · obtain rfl := Option.some.inj ho
      refine ⟨want_at rfl (yld (j := 10) (t := 158) (by kernel_rfl) (show a.eval (.tmp 158) = .bool true from dep_of hd 10 (by kernel_rfl))), ?_⟩
      have e159 := ev_get (show a.eval (.tmp 159) = .pointer (some ⟨bv, 3, none⟩) from dep_of hd 11 (by kernel_rfl))
      exact op_value (v := .string ou) (by simp [go_sem, execOp, e159, v3]) ⟨_, rfl, Below.refl _ _, rfl⟩
    rcases i with _ | i
    · obtain rfl := Option.some.inj ho
      refine ⟨want_at rfl (yld (j := 10) (t := 158) (by kernel_rfl) (show a.eval (.tmp 158) = .bool true from dep_of hd 10 (by kernel_rfl))), ?_⟩
      have e160 := ev_get (show a.eval (.tmp 160) = .string ou from dep_of hd 12 (by kernel_rfl))
      exact op_value (v := .string fx) (by simp [go_sem, execOp, e160, x10, q10]) ⟨_, rfl, Below.refl _ _, rfl⟩
    rcases i with _ | i
    · obtain rfl := Option.some.inj ho
      refine ⟨want_at rfl (yld (j := 10) (t := 158) (by kernel_rfl) (show a.eval (.tmp 158) = .bool true from dep_of hd 10 (by kernel_rfl))), ?_⟩
      exact op_value (v := .string fx) (by simp [go_sem, execOp, e23]) ⟨_, rfl, Below.refl _ _, rfl⟩
    rcases i with _ | i
    · obtain rfl := Option.some.inj ho
      refine ⟨want_at rfl (yld (j := 10) (t := 158) (by kernel_rfl) (show a.eval (.tmp 158) = .bool true from dep_of hd 10 (by kernel_rfl))), ?_⟩
      have e161 := ev_get (show a.eval (.tmp 161) = .string fx from dep_of hd 13 (by kernel_rfl))
      have e162 := ev_get (show a.eval (.tmp 162) = .string fx from dep_of hd 14 (by kernel_rfl))
      exact op_value (v := .bool true) (by simp [go_sem, execOp, e161, e162]) ⟨_, rfl, Below.refl _ _, rfl⟩
    rcases i with _ | i
    · obtain rfl := Option.some.inj ho
      refine ⟨want_no rfl, ?_⟩
      have e158 := ev_get (show a.eval (.tmp 158) = .bool true from dep_of hd 10 (by kernel_rfl))
      have e163 := ev_get (show a.eval (.tmp 163) = .bool true from dep_of hd 15 (by kernel_rfl))
      exact op_value (v := .bool true) (by simp [go_sem, execOp, e158, e163]) ⟨_, rfl, Below.refl _ _, rfl⟩
    rcases i with _ | i
    · obtain rfl := Option.some.inj ho
      refine ⟨want_no rfl, ?_⟩
      have e164 := ev_get (show a.eval (.tmp 164) = .bool true from dep_of hd 16 (by kernel_rfl))
      exact op_value (v := .bool true) (by simp [go_sem, execOp, e164]) ⟨_, rfl, Below.refl _ _, rfl⟩
    rcases i with _ | i
    · obtain rfl := Option.some.inj ho
      refine ⟨want_at rfl (yld (j := 17) (t := 165) (by kernel_rfl) (show a.eval (.tmp 165) = .bool true from dep_of hd 17 (by kernel_rfl))), ?_⟩
      exact op_value (v := .pointer (some ⟨bv, 3, none⟩)) (by simp [go_sem, execOp, e17]) ⟨_, rfl, Below.refl _ _, rfl⟩
    rcases i with _ | i
    · obtain rfl := Option.some.inj ho
      refine ⟨want_at rfl (yld (j := 17) (t := 165) (by kernel_rfl) (show a.eval (.tmp 165) = .bool true from dep_of hd 17 (by kernel_rfl))), ?_⟩
      have e166 := ev_get (show a.eval (.tmp 166) = .pointer (some ⟨bv, 3, none⟩) from dep_of hd 18 (by kernel_rfl))
      exact op_value (v := .string ou) (by simp [go_sem, execOp, e166, v3]) ⟨_, rfl, Below.refl _ _, rfl⟩
    rcases i with _ | i
    · obtain rfl := Option.some.inj ho
      refine ⟨want_at rfl (yld (j := 17) (t := 165) (by kernel_rfl) (show a.eval (.tmp 165) = .bool true from dep_of hd 17 (by kernel_rfl))), ?_⟩
      have e167 := ev_get (show a.eval (.tmp 167) = .string ou from dep_of hd 19 (by kernel_rfl))
      exact op_value (v := .string ⟨#[0, 0, 0, 0]⟩) (by simp [go_sem, execOp, e167, x24, q28]) ⟨_, rfl, Below.refl _ _, rfl⟩
    rcases i with _ | i
    · obtain rfl := Option.some.inj ho
      refine ⟨want_at rfl (yld (j := 17) (t := 165) (by kernel_rfl) (show a.eval (.tmp 165) = .bool true from dep_of hd 17 (by kernel_rfl))), ?_⟩
      have e168 := ev_get (show a.eval (.tmp 168) = .string ⟨#[0, 0, 0, 0]⟩ from dep_of hd 20 (by kernel_rfl))
      exact op_value (v := .bool true) (by simp [go_sem, execOp, e168]) ⟨_, rfl, Below.refl _ _, rfl⟩
    rcases i with _ | i
    · obtain rfl := Option.some.inj ho
      refine ⟨want_no rfl, ?_⟩
      have e165 := ev_get (show a.eval (.tmp 165) = .bool true from dep_of hd 17 (by kernel_rfl))
      have e169 := ev_get (show a.eval (.tmp 169) = .bool true from dep_of hd 21 (by kernel_rfl))
      exact op_value (v := .bool true) (by simp [go_sem, execOp, e165, e169]) ⟨_, rfl, Below.refl _ _, rfl⟩
    rcases i with _ | i
    · obtain rfl := Option.some.inj ho
      refine ⟨want_no rfl, ?_⟩
      have e170 := ev_get (show a.eval (.tmp 170) = .bool true from dep_of hd 22 (by kernel_rfl))
      exact op_value (v := .bool true) (by simp [go_sem, execOp, e170]) ⟨_, rfl, Below.refl _ _, rfl⟩
    · exact absurd (Array.getElem?_eq_some_iff.1 ho).1 (by simp)
  case hend =>
  intro X w9 hR hall
  have x23 : X 23 = .bool true := hall 23 (by simp)
  have hgv9 := row_below hR Hgv8.out (Array.getElem?_eq_some_iff.1 Hgv8.out).1
  have v3 := cl20 hgv9 (j := 3) rfl
  have Hb9 := Lib.hid (Hb8.out.trans (hR.mono Hb8.out.size))
  simp only [putAll, Act.put, List.setIfInBounds_toArray, List.set_cons_zero, List.set_cons_succ, x23, Nat.zero_add, Nat.reduceAdd]
  have x28 := Hx28.out
  have g20 := Hg20.out
  have g21 := Hg21.out
  have q22 : (21 : Int) < (ou.size : Int) := by omega
  clear x23 hR hall hgv9 Hgv8 Hg8 Hb8 H4 H5
  go_wp2_with fail
  go_big_quiet (fail)
  go_wp2
  go_ret
  exact ⟨rfl, Hb9.out.os, Hb9.out.tape, Hb9.out.output, Hb9.out.size, Hb9.out.block⟩
end Go.Proofs.Ytnfkgnjeamnhfab
namespace Go.Proofs.Ytnfkgnjeamnhfab
open Go.RowKit Go.Sort

set_option maxRecDepth 4000 in
set_option maxHeartbeats 4000000 in
theorem ans_yes8b (limit seed : Int) (own : Nat) (so : Option Addr) (z scap : Nat) (ops : List AOp) (p : Pk) (hp : PkFit p) (w : World) (hsn : Rg seed own) (h1 : ¬ limit < 1) (h2 : ¬ 256 < limit) (hz : ops.length = z) (hz2 : z ≤ 1400000000000) (hS : ScrK w.heap.size w so ops) (gs : Nat → List Int) (rs : List Rt) (hpl : playA limit (gz seed own) [] ops gs rs) (hbig : 28 < nP p) (hq : quB p = false) (ol : List UInt8) (hol : ol = outA p own 8) (hV : fwdV (ownN gs) (pt p) (fun tg => pkE rs (4, 0, tg)) (fun tg fl => pkH gs rs (4, 0, tg) fl) = ⟨3, 8, 0, ol⟩) :
    Calls Try.prog 7 #[.int .i64 limit, .int .u64 seed, .int .u32 (own : Nat), .slice so z scap, pkV p] w fun e w' => e = .returned (.bool true) ∧ Below w.heap.size w w' := by
  obtain ⟨w0, hw0⟩ : ∃ w0, w0 = w.alloc (.cells #[.int .u8 (p.tos.toNat : Nat), .int .u8 (p.life.toNat : Nat), .int .u8 (p.proto.toNat : Nat), .int .u16 (p.id : Nat), .int .u16 (p.part : Nat), .int .u32 (p.src : Nat), .int .u32 (p.dst : Nat), .string p.c, .string p.m] 58) := ⟨_, rfl⟩
  obtain ⟨bx, hbx⟩ : ∃ bx, bx = w.heap.size := ⟨_, rfl⟩
  have hb0 : Below w.heap.size w w0 := by rw [hw0]; exact below1 w _
  have hg0 : w0.heap[bx]? = some (.cells #[.int .u8 (p.tos.toNat : Nat), .int .u8 (p.life.toNat : Nat), .int .u8 (p.proto.toNat : Nat), .int .u16 (p.id : Nat), .int .u16 (p.part : Nat), .int .u32 (p.src : Nat), .int .u32 (p.dst : Nat), .string p.c, .string p.m] 58) := by rw [hw0, hbx]; exact heap_alloc_last w _
  have HR := Lib.hid (ready_fix limit seed own so z scap ops w0 hsn h1 h2 hz hz2 (hS.grow hb0) gs rs hpl)
  obtain ⟨seed2, hs2⟩ : ∃ x, x = bits .xor .u64 IntKind.u64.max seed := ⟨_, rfl⟩
  obtain ⟨own2, ho2⟩ : ∃ x, x = bits .xor .u32 IntKind.u32.max (own : Nat) := ⟨_, rfl⟩
  have hsn2 : Rg seed2 own2 := by rw [hs2, ho2]; exact ⟨bx64 _ _, bx32 _ _⟩
  have HR2 := Lib.hid (fun (w3 : World) (hb : Below w.heap.size w w3) => ready_tab limit seed2 own2 so z scap ops w3 hsn2 h1 h2 hz hz2 (hS.grow hb))
  have Hs2 := Lib.hid hs2
  have Ho2 := Lib.hid ho2
  have HB := Lib.hid (fun w => show Calls Try.prog 23 #[.agg #[.int .u8 (p.tos.toNat : Nat), .int .u8 (p.life.toNat : Nat), .int .u8 (p.proto.toNat : Nat), .int .u16 (p.id : Nat), .int .u16 (p.part : Nat), .int .u32 (p.src : Nat), .int .u32 (p.dst : Nat), .string p.c, .string p.m]] w _ from built_any p hp w)
  have HV := Lib.hid hV
  have HOwn := Lib.hid (show (0 : Int) ≤ seed ∧ seed ≤ 18446744073709551615 ∧ own < 4294967296 by unfold Rg at hsn; omega)
  have Hg0 := Lib.hid hg0
  have Hb0 := Lib.hid hb0
  have Hw0 := Lib.hid hw0
  have Hbx := Lib.hid hbx
  have Hp := Lib.hid hp
  clear hs2 ho2 hw0 hbx hb0 hg0 hsn hsn2 h1 h2 hz hz2 hS hpl hV hp
  unfold pkV
  go_enter Try.func7, Try.ntmps7
  go_wp2_with fail
  rw [← Hw0.out, ← Hbx.out]
  refine HR.out.mono ?_
  rintro e w1 ⟨T, rfl, hb1, hT⟩
  have Hb1 := Lib.hid (Hb0.out.trans (hb1.mono Hb0.out.size))
  have hg1 := row_below hb1 Hg0.out (Array.getElem?_eq_some_iff.1 Hg0.out).1
  have HT := Lib.hid hT
  have Hg1 := Lib.hid hg1
  have k0 := cl20 hg1 (j := 0) rfl
  have k1 := cl20 hg1 (j := 1) rfl
  have k2 := cl20 hg1 (j := 2) rfl
  have k3 := cl20 hg1 (j := 3) rfl
  have k4 := cl20 hg1 (j := 4) rfl
  have k5 := cl20 hg1 (j := 5) rfl
  have k6 := cl20 hg1 (j := 6) rfl
  have k7 := cl20 hg1 (j := 7) rfl
  have k8 := cl20 hg1 (j := 8) rfl
  clear hb1 hT hg1 HR Hg0 Hb0
  go_wp2_with fail
  refine (HB.out _).mono ?_
  rintro e w2 ⟨S, rfl, hSl, hb2⟩
  have hg2 := row_below hb2 Hg1.out (Array.getElem?_eq_some_iff.1 Hg1.out).1
  have HT2 := Lib.hid (HT.out.grow hb2)
  have Hg2 := Lib.hid hg2
  have Hb2 := Lib.hid (Hb1.out.trans (hb2.mono Hb1.out.size))
  have HSl := Lib.hid (show S.data.toList = pt p from hSl)
  clear k0 k1 k2 k3 k4 k5 k6 k7 k8 hb2 hSl HB HT Hg1 Hb1 hg2
  go_wp2_with fail
  rw [← Hs2.out, ← Ho2.out]
  refine (HR2.out w2 Hb2.out).mono ?_
  rintro e w3 ⟨U, rfl, hb3, gs', rs', -, -, hU⟩
  have HU := Lib.hid (hU.fw w3 (Below.refl _ _) S)
  have HT3 := Lib.hid (HT2.out.grow hb3)
  have hg3 := row_below hb3 Hg2.out (Array.getElem?_eq_some_iff.1 Hg2.out).1
  have Hg3 := Lib.hid hg3
  have Hb3 := Lib.hid (Hb2.out.trans (hb3.mono Hb2.out.size))
  clear hb3 hU hg3 HR2 HT2 Hg2 Hb2 Hs2 Ho2
  obtain ⟨VU, hVU⟩ : ∃ v, v = vV (fwdV (ownN gs') S.data.toList (fun tg => pkE rs' (4, 0, tg)) (fun tg fl => pkH gs' rs' (4, 0, tg) fl)) := ⟨_, rfl⟩
  rw [← hVU] at HU
  clear hVU
  go_wp2_with fail
  refine HU.out.mono ?_
  rintro e w4 ⟨rfl, hb4⟩
  have HT4 := Lib.hid (HT3.out.grow hb4)
  have hg4 := row_below hb4 Hg3.out (Array.getElem?_eq_some_iff.1 Hg3.out).1
  have Hg4 := Lib.hid hg4
  have Hb4 := Lib.hid (Hb3.out.trans (hb4.mono Hb3.out.size))
  have hF := HT4.out.fw w4 (Below.refl _ _) S
  rw [HSl.out, HV.out] at hF
  have HF := Lib.hid hF
  clear hb4 hg4 hF HU HT3 Hg3 Hb3 HV HT4
  unfold vV at HF
  obtain ⟨ou, hou⟩ : ∃ ou : ByteArray, ou = ⟨ol.toArray⟩ := ⟨_, rfl⟩
  have Hou := Lib.hid (show ou.data.toList = ol by rw [hou])
  simp only [← hou] at HF
  clear hou
  go_wp2_with fail
  refine HF.out.mono ?_
  rintro e w5 ⟨rfl, hb5⟩
  have hg5 := row_below hb5 Hg4.out (Array.getElem?_eq_some_iff.1 Hg4.out).1
  have Hg5 := Lib.hid hg5
  have Hb5 := Lib.hid (Hb4.out.trans (hb5.mono Hb4.out.size))
  clear hb5 hg5 HF Hg4 Hb4
  go_upto_region 10 with fail
  obtain ⟨w6, hw6⟩ : ∃ w6, w6 = w5.alloc (.cells #[.int .i64 3, .int .i64 8, .int .i64 0, .string ou] 63) := ⟨_, rfl⟩
  obtain ⟨bv, hbv⟩ : ∃ bv, bv = w5.heap.size := ⟨_, rfl⟩
  rw [← hw6, ← hbv]
  have hgv : w6.heap[bv]? = some (.cells #[.int .i64 3, .int .i64 8, .int .i64 0, .string ou] 63) := by rw [hw6, hbv]; exact heap_alloc_last w5 _
  have hb6 : Below w5.heap.size w5 w6 := by rw [hw6]; exact below1 w5 _
  have hg6 := row_below hb6 Hg5.out (Array.getElem?_eq_some_iff.1 Hg5.out).1
  have Hgv := Lib.hid hgv
  have Hg6 := Lib.hid hg6
  have Hb6 := Lib.hid (Hb5.out.trans (hb6.mono Hb5.out.size))
  clear hb6 hw6 hbv Hg5 Hb5
  have k2 := cl20 hg6 (j := 2) rfl
  have k4 := cl20 hg6 (j := 4) rfl
  have k5 := cl20 hg6 (j := 5) rfl
  have v0 := cl20 hgv (j := 0) rfl
  have v1 := cl20 hgv (j := 1) rfl
  have v2 := cl20 hgv (j := 2) rfl
  have v3 := cl20 hgv (j := 3) rfl
  clear hg6 hgv
  obtain ⟨nn, hnn⟩ : ∃ nn, nn = nP p := ⟨_, rfl⟩
  have Hnn := Lib.hid hnn
  rw [← hnn]
  clear hnn
  obtain ⟨qb, hqb⟩ : ∃ qb, qb = quB p := ⟨_, rfl⟩
  have Hqb := Lib.hid hqb
  clear hqb
  go_cut [18] (fun v wx => v = .bool qb ∧ wx = w6)
  case first =>
    have HO2 := Lib.hid (fun w => show Calls Try.prog 28 #[.string S, .int .i64 20] w _ from octet_any S 20 w)
    have hqb := Hqb.out
    rw [HSl.out] at HO2
    unfold quB at hqb
    rw [← Hnn.out] at hqb
    have hpl := Hp.out.part
    have d1 : IntKind.u16.wrap ((p.part : Int).tmod 8192) = ((p.part % 8192 : Nat) : Int) := by
      rw [Int.tmod_eq_emod_of_nonneg (by omega)]; simp [IntKind.wrap, IntKind.bits, IntKind.signed]; omega
    have hoc := g1_lt (pt p) 20
    generalize g1 (pt p) 20 = oc at *
    by_cases c1 : p.part % 8192 = 0
    · rw [if_pos c1] at hqb
      have d2 : (((p.part % 8192 : Nat) : Int) != 0) = false := by rw [c1]; rfl
      by_cases c2 : p.proto.toNat = 1
      · have d3 : ((p.proto.toNat : Int) == 1) = true := by simp; omega
        by_cases c3 : 20 < nn
        · rw [if_pos ⟨c2, c3⟩] at hqb
          clear c2
          have d4 : (20 : Int) < (nn : Int) := by omega
          go_wp2_with fail
          refine (HO2.out _).mono ?_
          rintro e wx ⟨rfl, hwx⟩
          rw [hwx]
          clear hwx wx
          by_cases c4 : oc = 0
          · rw [if_pos (.inl c4)] at hqb
            subst hqb
            have d5 : ((oc : Int) != 0) = false := by rw [c4]; rfl
            clear c4
            go_wp2_with fail
            go_meet
            exact ⟨rfl, rfl⟩
          · have d5 : ((oc : Int) != 0) = true := by simp; omega
            go_wp2_with fail
            refine (HO2.out _).mono ?_
            rintro e wx ⟨rfl, hwx⟩
            rw [hwx]
            clear hwx wx
            by_cases c5 : oc = 8
            · rw [if_pos (.inr c5)] at hqb
              subst hqb
              have d6 : ((oc : Int) != 8) = false := by rw [c5]; rfl
              clear c5
              go_wp2_with fail
              go_meet
              exact ⟨rfl, rfl⟩
            · rw [if_neg (by omega)] at hqb
              subst hqb
              have d6 : ((oc : Int) != 8) = true := by simp; omega
              go_wp2_with fail
              go_meet
              exact ⟨rfl, rfl⟩
        · rw [if_neg (fun h => c3 h.2)] at hqb
          subst hqb
          clear c2
          have d4 : ¬ (20 : Int) < (nn : Int) := by omega
          go_wp2_with fail
          go_meet
          exact ⟨rfl, rfl⟩
      · rw [if_neg (fun h => c2 h.1)] at hqb
        subst hqb
        have d3 : ((p.proto.toNat : Int) == 1) = false := by simp; omega
        clear c2
        go_wp2_with fail
        go_meet
        exact ⟨rfl, rfl⟩
    · rw [if_neg c1] at hqb
      subst hqb
      have d2 : (((p.part % 8192 : Nat) : Int) != 0) = true := by simp; omega
      go_wp2_with fail
      go_meet
      exact ⟨rfl, rfl⟩
  case rest =>
  obtain ⟨rfl, rfl⟩ := hcut
  obtain rfl : qb = false := Hqb.out.trans hq
  have hn8 : n8 p = 28 := by unfold n8; rw [← Hnn.out] at hbig ⊢; omega
  have hle := n8_le p
  have hnp := nP_le p
  rw [hn8, ← Hnn.out] at hle
  rw [← Hnn.out] at hnp hbig
  have hdl : ou.data.toList = outA p own 8 := by rw [Hou.out, hol]
  have hos : ou.size = 28 + 28 := by rw [← blen, hdl, out_len, hn8]
  obtain ⟨o20, ho20⟩ : ∃ o, o = ou.extract 0 20 := ⟨_, rfl⟩
  have d20 : o20.data.toList = (outA p own 8).take 20 := by rw [ho20, ext_list, hdl, List.drop_zero]
  obtain ⟨oR, hoR⟩ : ∃ o, o = ou.extract 20 ou.size := ⟨_, rfl⟩
  have dR : oR.data.toList = (outA p own 8).drop 20 := by rw [hoR, ext_list, hdl, List.take_of_length_le (by rw [out_len, hn8, hos]; exact Nat.le_refl _)]
  have HS1 := Lib.hid (fun w => ksum_any o20 (by rw [← blen, d20, List.length_take]; omega) w)
  rw [d20, out_sum] at HS1
  have HS2 := Lib.hid (fun w => ksum_any oR (by rw [← blen, dR, List.length_drop, out_len, hn8]; omega) w)
  rw [dR, rest_sum] at HS2
  have HT2 := Lib.hid (fun w => two_any (28 + 28) (by omega) w)
  rw [show ((28 + 28 : Nat) : Int) = (56 : Int) by omega] at HT2
  obtain ⟨tt, htt⟩ : ∃ s : ByteArray, s = ⟨(tw (28 + 28)).toArray⟩ := ⟨_, rfl⟩
  rw [← htt] at HT2
  have ytt : tt.size = 2 := by rw [htt]; rfl
  obtain ⟨fx, hfx⟩ : ∃ s : ByteArray, s = (⟨#[69, 0]⟩ : ByteArray) ++ tt ++ ⟨#[0, 0, 0, 0, 64, 1]⟩ := ⟨_, rfl⟩
  have x10 : ou.extract 0 10 = fx := ba_ext (by rw [ext_list, hdl, List.drop_zero, out_fixed, hfx, bapp, bapp, htt, hn8])
  have x24 : ou.extract 24 28 = ⟨#[0, 0, 0, 0]⟩ := ba_ext (by rw [ext_list, hdl, out_zero])
  have x28 : ou.extract 28 ou.size = S.extract 0 28 := ba_ext (by rw [ext_list, ext_list, hdl, HSl.out, List.drop_zero, List.take_of_length_le (by rw [out_len, hn8, hos]; exact Nat.le_refl _), out_28, hn8])
  have H4 := Lib.hid (fun w => four_any own HOwn.out.2.2 w)
  have H5 := Lib.hid (fun w => four_any p.src Hp.out.src w)
  obtain ⟨t2, f2⟩ : ∃ s : ByteArray, s = ⟨(tw (own / 65536) ++ tw (own % 65536)).toArray⟩ := ⟨_, rfl⟩
  obtain ⟨t5, f5⟩ : ∃ s : ByteArray, s = ⟨(tw (p.src / 65536) ++ tw (p.src % 65536)).toArray⟩ := ⟨_, rfl⟩
  rw [← f2] at H4
  rw [← f5] at H5
  have y2 : t2.size = 4 := by rw [f2]; rfl
  have y5 : t5.size = 4 := by rw [f5]; rfl
  obtain ⟨o12, ho12⟩ : ∃ o, o = t2 ++ t5 := ⟨_, rfl⟩
  have x12 : ou.extract 12 20 = o12 := ba_ext (by rw [ext_list, hdl, out_ends, ho12, bapp, f2, f5])
  have F6 := Lib.hid ho12
  have l20 : 20 < ou.size := by omega
  have l21 : 21 < ou.size := by omega
  have g20 : (ou[20]'l20).toNat = 11 := by rw [← g1_b l20, hdl, out_20]; rfl
  have g21 : (ou[21]'l21).toNat = 0 := by rw [← g1_b l21, hdl, out_21]
  have hns : 28 ≤ S.size := by have h := (pt_len p).1; rw [← blen, HSl.out]; rw [← Hnn.out] at h; omega
  have q20 : (20 : Int) ≤ (ou.size : Int) := by omega
  have q10 : (10 : Int) ≤ (ou.size : Int) := by omega
  have q28 : (28 : Int) ≤ (ou.size : Int) := by omega
  have q21 : (20 : Int) < (ou.size : Int) := by omega
  have q22 : (21 : Int) < (ou.size : Int) := by omega
  have hne : ((ou.size : Int) != (56 : Int)) = false := by rw [bne_eq_false_iff_eq]; omega
  have qs : (28 : Int) ≤ (S.size : Int) := by omega
  have qz : (0 : Int) ≤ (28 : Int) := by omega
  have hb28 : (28 : Int) < (nn : Int) := by omega
  have Hfx := Lib.hid hfx
  have Ho20 := Lib.hid ho20
  have HoR := Lib.hid hoR
  have Hnp := Lib.hid hnp
  have Hx28 := Lib.hid x28
  have Hx12 := Lib.hid x12
  have Hx10 := Lib.hid x10
  have Hx24 := Lib.hid x24
  have Hg20 := Lib.hid g20
  have Hg21 := Lib.hid g21
  have Hy2 := Lib.hid y2
  have Hy5 := Lib.hid y5
  clear hfx ho20 hoR hnp hn8 hle hbig hdl hos d20 dR htt f2 f5 ho12 hns hol hq Hou HSl Hqb Hnn x28 x12 x10 x24 g20 g21 y2 y5 k2 k4 HOwn Hp
  go_wp2_with fail
  rw [← Ho20.out]
  refine (HS1.out _).mono ?_
  rintro e w8 ⟨rfl, hw8⟩
  rw [hw8]
  clear hw8 w8
  go_wp2_with fail
  rw [← HoR.out]
  refine (HS2.out _).mono ?_
  rintro e w8 ⟨rfl, hw8⟩
  rw [hw8]
  clear hw8 w8
  go_wp2_with fail
  refine (HT2.out _).mono ?_
  rintro e w8 ⟨rfl, hb8⟩
  have Hgv8 := Lib.hid (row_below hb8 Hgv.out (Array.getElem?_eq_some_iff.1 Hgv.out).1)
  have Hg8 := Lib.hid (row_below hb8 Hg6.out (Array.getElem?_eq_some_iff.1 Hg6.out).1)
  have Hb8 := Lib.hid (Hb6.out.trans (hb8.mono Hb6.out.size))
  clear hb8 v0 v1 v2 v3 k5 Hgv Hg6 Hb6 hne q22
  go_wp2_with fail
  rw [← Hfx.out]
  refine wp_region_relyG' (fun w w' => Below w.heap.size w w') (vA [.pointer (some ⟨bv, 3, none⟩), .string ou, .string o12, .int .u32 (own : Nat), .string t2, .pointer (some ⟨bx, 5, none⟩), .int .u32 (p.src : Nat), .string t5, .string o12, .bool true, .bool true, .pointer (some ⟨bv, 3, none⟩), .string ou, .string fx, .string fx, .bool true, .bool true, .bool true, .pointer (some ⟨bv, 3, none⟩), .string ou, .string ⟨#[0, 0, 0, 0]⟩, .bool true, .bool true, .bool true]) [148, 149, 150, 151, 152, 153, 154, 155, 156, 157, 158, 159, 160, 161, 162, 163, 164, 165, 166, 167, 168, 169, 170, 24] (by kernel_rfl) (plainG_of (by kernel_rfl)) (by kernel_rfl) (fun a b c h1 h2 => h1.trans (h2.mono h1.size)) ⟨rfl, rfl, rfl, Nat.le_refl _, fun _ _ => rfl⟩ (fun _ _ _ _ h _ => h) ?hop ?hend
  case hop =>
    intro i o ho a w9 hR hF hd
    have e9 := ev_get (show a.eval (.tmp 9) = .pointer (some ⟨bx, 0, none⟩) from hF.ev 9 (by kernel_rfl))
    have e17 := ev_get (show a.eval (.tmp 17) = .pointer (some ⟨bv, 0, none⟩) from hF.ev 17 (by kernel_rfl))
    have e2 := ev_get (show a.eval (.tmp 2) = .int .u32 (own : Nat) from hF.ev 2 (by kernel_rfl))
    have e23 := ev_get (show a.eval (.tmp 23) = .string fx from hF.ev 23 (by kernel_rfl))
    have v3 := cl20 (row_below hR Hgv8.out (Array.getElem?_eq_some_iff.1 Hgv8.out).1) (j := 3) rfl
    have k5 := cl20 (row_below hR Hg8.out (Array.getElem?_eq_some_iff.1 Hg8.out).1) (j := 5) rfl
    have x12 := Hx12.out
    have x10 := Hx10.out
    have x24 := Hx24.out
    have y2 := Hy2.out
    have y5 := Hy5.out
    rcases i with _ | i
    · obtain rfl := Option.some.inj ho
      refine ⟨want_no rfl, ?_⟩
      exact op_value (v := .pointer (some ⟨bv, 3, none⟩)) (by simp [go_sem, execOp, e17]) ⟨_, rfl, Below.refl _ _, rfl⟩
    rcases i with _ | i
    · obtain rfl := Option.some.inj ho
      refine ⟨want_no rfl, ?_⟩
      have e148 := ev_get (show a.eval (.tmp 148) = .pointer (some ⟨bv, 3, none⟩) from dep_of hd 0 (by kernel_rfl))
      exact op_value (v := .string ou) (by simp [go_sem, execOp, e148, v3]) ⟨_, rfl, Below.refl _ _, rfl⟩
    rcases i with _ | i
    · obtain rfl := Option.some.inj ho
      refine ⟨want_no rfl, ?_⟩
      have e149 := ev_get (show a.eval (.tmp 149) = .string ou from dep_of hd 1 (by kernel_rfl))
      exact op_value (v := .string o12) (by simp [go_sem, execOp, e149, x12, q20]) ⟨_, rfl, Below.refl _ _, rfl⟩
    rcases i with _ | i
    · obtain rfl := Option.some.inj ho
      refine ⟨want_no rfl, ?_⟩
      exact op_value (v := .int .u32 (own : Nat)) (by simp [go_sem, execOp, e2]) ⟨_, rfl, Below.refl _ _, rfl⟩
    rcases i with _ | i
    · obtain rfl := Option.some.inj ho
      refine ⟨want_no rfl, ?_⟩
      have e151 := ev_get (show a.eval (.tmp 151) = .int .u32 (own : Nat) from dep_of hd 3 (by kernel_rfl))
      exact op_enter (f := 30) (args := #[.int .u32 (own : Nat)]) (by simp [go_sem, execOp, e151]) ((H4.out w9).mono fun e w10 ⟨he, hb⟩ => ⟨_, he, _, rfl, hb, rfl⟩)
    rcases i with _ | i
    · obtain rfl := Option.some.inj ho
      refine ⟨want_no rfl, ?_⟩
      exact op_value (v := .pointer (some ⟨bx, 5, none⟩)) (by simp [go_sem, execOp, e9]) ⟨_, rfl, Below.refl _ _, rfl⟩
    rcases i with _ | i
    · obtain rfl := Option.some.inj ho
      refine ⟨want_no rfl, ?_⟩
      have e153 := ev_get (show a.eval (.tmp 153) = .pointer (some ⟨bx, 5, none⟩) from dep_of hd 5 (by kernel_rfl))
      exact op_value (v := .int .u32 (p.src : Nat)) (by simp [go_sem, execOp, e153, k5]) ⟨_, rfl, Below.refl _ _, rfl⟩
    rcases i with _ | i
    · obtain rfl := Option.some.inj ho
      refine ⟨want_no rfl, ?_⟩
      have e154 := ev_get (show a.eval (.tmp 154) = .int .u32 (p.src : Nat) from dep_of hd 6 (by kernel_rfl))
      exact op_enter (f := 30) (args := #[.int .u32 (p.src : Nat)]) (by simp [go_sem, execOp, e154]) ((H5.out w9).mono fun e w10 ⟨he, hb⟩ => ⟨_, he, _, rfl, hb, rfl⟩)
    rcases i with _ | i
    · obtain rfl := Option.some.inj ho
      refine ⟨want_no rfl, ?_⟩
      have e152 := ev_get (show a.eval (.tmp 152) = .string t2 from dep_of hd 4 (by kernel_rfl))
      have e155 := ev_get (show a.eval (.tmp 155) = .string t5 from dep_of hd 7 (by kernel_rfl))
      exact op_value (v := .string o12) (by rw [F6.out]; simp [go_sem, execOp, e152, e155, y2, y5]) ⟨_, rfl, Below.refl _ _, rfl⟩
    rcases i with _ | i
    · obtain rfl := Option.some.inj ho
      refine ⟨want_no rfl, ?_⟩
      have e150 := ev_get (show a.eval (.tmp 150) = .string o12 from dep_of hd 2 (by kernel_rfl))
      have e156 := ev_get (show a.eval (.tmp 156) = .string o12 from dep_of hd 8 (by kernel_rfl))
      exact op_value (v := .bool true) (by simp [go_sem, execOp, e150, e156]) ⟨_, rfl, Below.refl _ _, rfl⟩
    rcases i with _ | i
    · obtain rfl := Option.some.inj ho
      refine ⟨want_no rfl, ?_⟩
      have e157 := ev_get (show a.eval (.tmp 157) = .bool true from dep_of hd 9 (by kernel_rfl))
      exact op_value (v := .bool true) (by simp [go_sem, execOp, e157]) ⟨_, rfl, Below.refl _ _, rfl⟩
    rcases i with _ | i
    · obtain rfl := Option.some.inj ho
      refine ⟨want_at rfl (yld (j := 10) (t := 158) (by kernel_rfl) (show a.eval (.tmp 158) = .bool true from dep_of hd 10 (by kernel_rfl))), ?_⟩
      exact op_value (v := .pointer (some ⟨bv, 3, none⟩)) (by simp [go_sem, execOp, e17]) ⟨_, rfl, Below.refl _ _, rfl⟩
    rcases i with _ | i
    · obtain rfl := Option.some.inj ho
      refine ⟨want_at rfl (yld (j := 10) (t := 158) (by kernel_rfl) (show a.eval (.tmp 158) = .bool true from dep_of hd 10 (by kernel_rfl))), ?_⟩
      have e159 := ev_get (show a.eval (.tmp 159) = .pointer (some ⟨bv, 3, none⟩) from dep_of hd 11 (by kernel_rfl))
      exact op_value (v := .string ou) (by simp [go_sem, execOp, e159, v3]) ⟨_, rfl, Below.refl _ _, rfl⟩
    rcases i with _ | i
    · obtain rfl := Option.some.inj ho
      refine ⟨want_at rfl (yld (j := 10) (t := 158) (by kernel_rfl) (show a.eval (.tmp 158) = .bool true from dep_of hd 10 (by kernel_rfl))), ?_⟩
      have e160 := ev_get (show a.eval (.tmp 160) = .string ou from dep_of hd 12 (by kernel_rfl))
      exact op_value (v := .string fx) (by simp [go_sem, execOp, e160, x10, q10]) ⟨_, rfl, Below.refl _ _, rfl⟩
    rcases i with _ | i
    · obtain rfl := Option.some.inj ho
      refine ⟨want_at rfl (yld (j := 10) (t := 158) (by kernel_rfl) (show a.eval (.tmp 158) = .bool true from dep_of hd 10 (by kernel_rfl))), ?_⟩
      exact op_value (v := .string fx) (by simp [go_sem, execOp, e23]) ⟨_, rfl, Below.refl _ _, rfl⟩
    rcases i with _ | i
    · obtain rfl := Option.some.inj ho
      refine ⟨want_at rfl (yld (j := 10) (t := 158) (by kernel_rfl) (show a.eval (.tmp 158) = .bool true from dep_of hd 10 (by kernel_rfl))), ?_⟩
      have e161 := ev_get (show a.eval (.tmp 161) = .string fx from dep_of hd 13 (by kernel_rfl))
      have e162 := ev_get (show a.eval (.tmp 162) = .string fx from dep_of hd 14 (by kernel_rfl))
      exact op_value (v := .bool true) (by simp [go_sem, execOp, e161, e162]) ⟨_, rfl, Below.refl _ _, rfl⟩
    rcases i with _ | i
    · obtain rfl := Option.some.inj ho
      refine ⟨want_no rfl, ?_⟩
      have e158 := ev_get (show a.eval (.tmp 158) = .bool true from dep_of hd 10 (by kernel_rfl))
      have e163 := ev_get (show a.eval (.tmp 163) = .bool true from dep_of hd 15 (by kernel_rfl))
      exact op_value (v := .bool true) (by simp [go_sem, execOp, e158, e163]) ⟨_, rfl, Below.refl _ _, rfl⟩
    rcases i with _ | i
    · obtain rfl := Option.some.inj ho
      refine ⟨want_no rfl, ?_⟩
      have e164 := ev_get (show a.eval (.tmp 164) = .bool true from dep_of hd 16 (by kernel_rfl))
      exact op_value (v := .bool true) (by simp [go_sem, execOp, e164]) ⟨_, rfl, Below.refl _ _, rfl⟩
    rcases i with _ | i
    · obtain rfl := Option.some.inj ho
      refine ⟨want_at rfl (yld (j := 17) (t := 165) (by kernel_rfl) (show a.eval (.tmp 165) = .bool true from dep_of hd 17 (by kernel_rfl))), ?_⟩
      exact op_value (v := .pointer (some ⟨bv, 3, none⟩)) (by simp [go_sem, execOp, e17]) ⟨_, rfl, Below.refl _ _, rfl⟩
    rcases i with _ | i
    · obtain rfl := Option.some.inj ho
      refine ⟨want_at rfl (yld (j := 17) (t := 165) (by kernel_rfl) (show a.eval (.tmp 165) = .bool true from dep_of hd 17 (by kernel_rfl))), ?_⟩
      have e166 := ev_get (show a.eval (.tmp 166) = .pointer (some ⟨bv, 3, none⟩) from dep_of hd 18 (by kernel_rfl))
      exact op_value (v := .string ou) (by simp [go_sem, execOp, e166, v3]) ⟨_, rfl, Below.refl _ _, rfl⟩
    rcases i with _ | i
    · obtain rfl := Option.some.inj ho
      refine ⟨want_at rfl (yld (j := 17) (t := 165) (by kernel_rfl) (show a.eval (.tmp 165) = .bool true from dep_of hd 17 (by kernel_rfl))), ?_⟩
      have e167 := ev_get (show a.eval (.tmp 167) = .string ou from dep_of hd 19 (by kernel_rfl))
      exact op_value (v := .string ⟨#[0, 0, 0, 0]⟩) (by simp [go_sem, execOp, e167, x24, q28]) ⟨_, rfl, Below.refl _ _, rfl⟩
    rcases i with _ | i
    · obtain rfl := Option.some.inj ho
      refine ⟨want_at rfl (yld (j := 17) (t := 165) (by kernel_rfl) (show a.eval (.tmp 165) = .bool true from dep_of hd 17 (by kernel_rfl))), ?_⟩
      have e168 := ev_get (show a.eval (.tmp 168) = .string ⟨#[0, 0, 0, 0]⟩ from dep_of hd 20 (by kernel_rfl))
      exact op_value (v := .bool true) (by simp [go_sem, execOp, e168]) ⟨_, rfl, Below.refl _ _, rfl⟩
    rcases i with _ | i
    · obtain rfl := Option.some.inj ho
      refine ⟨want_no rfl, ?_⟩
      have e165 := ev_get (show a.eval (.tmp 165) = .bool true from dep_of hd 17 (by kernel_rfl))
      have e169 := ev_get (show a.eval (.tmp 169) = .bool true from dep_of hd 21 (by kernel_rfl))
      exact op_value (v := .bool true) (by simp [go_sem, execOp, e165, e169]) ⟨_, rfl, Below.refl _ _, rfl⟩
    rcases i with _ | i
    · obtain rfl := Option.some.inj ho
      refine ⟨want_no rfl, ?_⟩
      have e170 := ev_get (show a.eval (.tmp 170) = .bool true from dep_of hd 22 (by kernel_rfl))
      exact op_value (v := .bool true) (by simp [go_sem, execOp, e170]) ⟨_, rfl, Below.refl _ _, rfl⟩
    · exact absurd (Array.getElem?_eq_some_iff.1 ho).1 (by simp)
  case hend =>
  intro X w9 hR hall
  have x23 : X 23 = .bool true := hall 23 (by simp)
  have hgv9 := row_below hR Hgv8.out (Array.getElem?_eq_some_iff.1 Hgv8.out).1
  have v3 := cl20 hgv9 (j := 3) rfl
  have Hb9 := Lib.hid (Hb8.out.trans (hR.mono Hb8.out.size))
  simp only [putAll, Act.put, List.setIfInBounds_toArray, List.set_cons_zero, List.set_cons_succ, x23, Nat.zero_add, Nat.reduceAdd]
  have x28 := Hx28.out
  have g20 := Hg20.out
  have g21 := Hg21.out
  have q22 : (21 : Int) < (ou.size : Int) := by omega
  clear x23 hR hall hgv9 Hgv8 Hg8 Hb8 H4 H5
  go_wp2_with fail
  go_big_quiet (fail)
  go_wp2
  go_ret
  exact ⟨rfl, Hb9.out.os, Hb9.out.tape, Hb9.out.output, Hb9.out.size, Hb9.out.block⟩
set_option maxRecDepth 4000 in
set_option maxHeartbeats 4000000 in
theorem ans_yes8s (limit seed : Int) (own : Nat) (so : Option Addr) (z scap : Nat) (ops : List AOp) (p : Pk) (hp : PkFit p) (w : World) (hsn : Rg seed own) (h1 : ¬ limit < 1) (h2 : ¬ 256 < limit) (hz : ops.length = z) (hz2 : z ≤ 1400000000000) (hS : ScrK w.heap.size w so ops) (gs : Nat → List Int) (rs : List Rt) (hpl : playA limit (gz seed own) [] ops gs rs) (hbig : ¬ 28 < nP p) (hq : quB p = false) (ol : List UInt8) (hol : ol = outA p own 8) (hV : fwdV (ownN gs) (pt p) (fun tg => pkE rs (4, 0, tg)) (fun tg fl => pkH gs rs (4, 0, tg) fl) = ⟨3, 8, 0, ol⟩) :
    Calls Try.prog 7 #[.int .i64 limit, .int .u64 seed, .int .u32 (own : Nat), .slice so z scap, pkV p] w fun e w' => e = .returned (.bool true) ∧ Below w.heap.size w w' := by
  obtain ⟨w0, hw0⟩ : ∃ w0, w0 = w.alloc (.cells #[.int .u8 (p.tos.toNat : Nat), .int .u8 (p.life.toNat : Nat), .int .u8 (p.proto.toNat : Nat), .int .u16 (p.id : Nat), .int .u16 (p.part : Nat), .int .u32 (p.src : Nat), .int .u32 (p.dst : Nat), .string p.c, .string p.m] 58) := ⟨_, rfl⟩
  obtain ⟨bx, hbx⟩ : ∃ bx, bx = w.heap.size := ⟨_, rfl⟩
  have hb0 : Below w.heap.size w w0 := by rw [hw0]; exact below1 w _
  have hg0 : w0.heap[bx]? = some (.cells #[.int .u8 (p.tos.toNat : Nat), .int .u8 (p.life.toNat : Nat), .int .u8 (p.proto.toNat : Nat), .int .u16 (p.id : Nat), .int .u16 (p.part : Nat), .int .u32 (p.src : Nat), .int .u32 (p.dst : Nat), .string p.c, .string p.m] 58) := by rw [hw0, hbx]; exact heap_alloc_last w _
  have HR := Lib.hid (ready_fix limit seed own so z scap ops w0 hsn h1 h2 hz hz2 (hS.grow hb0) gs rs hpl)
  obtain ⟨seed2, hs2⟩ : ∃ x, x = bits .xor .u64 IntKind.u64.max seed := ⟨_, rfl⟩
  obtain ⟨own2, ho2⟩ : ∃ x, x = bits .xor .u32 IntKind.u32.max (own : Nat) := ⟨_, rfl⟩
  have hsn2 : Rg seed2 own2 := by rw [hs2, ho2]; exact ⟨bx64 _ _, bx32 _ _⟩
  have HR2 := Lib.hid (fun (w3 : World) (hb : Below w.heap.size w w3) => ready_tab limit seed2 own2 so z scap ops w3 hsn2 h1 h2 hz hz2 (hS.grow hb))
  have Hs2 := Lib.hid hs2
  have Ho2 := Lib.hid ho2
  have HB := Lib.hid (fun w => show Calls Try.prog 23 #[.agg #[.int .u8 (p.tos.toNat : Nat), .int .u8 (p.life.toNat : Nat), .int .u8 (p.proto.toNat : Nat), .int .u16 (p.id : Nat), .int .u16 (p.part : Nat), .int .u32 (p.src : Nat), .int .u32 (p.dst : Nat), .string p.c, .string p.m]] w _ from built_any p hp w)
  have HV := Lib.hid hV
  have HOwn := Lib.hid (show (0 : Int) ≤ seed ∧ seed ≤ 18446744073709551615 ∧ own < 4294967296 by unfold Rg at hsn; omega)
  have Hg0 := Lib.hid hg0
  have Hb0 := Lib.hid hb0
  have Hw0 := Lib.hid hw0
  have Hbx := Lib.hid hbx
  have Hp := Lib.hid hp
  clear hs2 ho2 hw0 hbx hb0 hg0 hsn hsn2 h1 h2 hz hz2 hS hpl hV hp
  unfold pkV
  go_enter Try.func7, Try.ntmps7
  go_wp2_with fail
  rw [← Hw0.out, ← Hbx.out]
  refine HR.out.mono ?_
  rintro e w1 ⟨T, rfl, hb1, hT⟩
  have Hb1 := Lib.hid (Hb0.out.trans (hb1.mono Hb0.out.size))
  have hg1 := row_below hb1 Hg0.out (Array.getElem?_eq_some_iff.1 Hg0.out).1
  have HT := Lib.hid hT
  have Hg1 := Lib.hid hg1
  have k0 := cl20 hg1 (j := 0) rfl
  have k1 := cl20 hg1 (j := 1) rfl
  have k2 := cl20 hg1 (j := 2) rfl
  have k3 := cl20 hg1 (j := 3) rfl
  have k4 := cl20 hg1 (j := 4) rfl
  have k5 := cl20 hg1 (j := 5) rfl
  have k6 := cl20 hg1 (j := 6) rfl
  have k7 := cl20 hg1 (j := 7) rfl
  have k8 := cl20 hg1 (j := 8) rfl
  clear hb1 hT hg1 HR Hg0 Hb0
  go_wp2_with fail
  refine (HB.out _).mono ?_
  rintro e w2 ⟨S, rfl, hSl, hb2⟩
  have hg2 := row_below hb2 Hg1.out (Array.getElem?_eq_some_iff.1 Hg1.out).1
  have HT2 := Lib.hid (HT.out.grow hb2)
  have Hg2 := Lib.hid hg2
  have Hb2 := Lib.hid (Hb1.out.trans (hb2.mono Hb1.out.size))
  have HSl := Lib.hid (show S.data.toList = pt p from hSl)
  clear k0 k1 k2 k3 k4 k5 k6 k7 k8 hb2 hSl HB HT Hg1 Hb1 hg2
  go_wp2_with fail
  rw [← Hs2.out, ← Ho2.out]
  refine (HR2.out w2 Hb2.out).mono ?_
  rintro e w3 ⟨U, rfl, hb3, gs', rs', -, -, hU⟩
  have HU := Lib.hid (hU.fw w3 (Below.refl _ _) S)
  have HT3 := Lib.hid (HT2.out.grow hb3)
  have hg3 := row_below hb3 Hg2.out (Array.getElem?_eq_some_iff.1 Hg2.out).1
  have Hg3 := Lib.hid hg3
  have Hb3 := Lib.hid (Hb2.out.trans (hb3.mono Hb2.out.size))
  clear hb3 hU hg3 HR2 HT2 Hg2 Hb2 Hs2 Ho2
  obtain ⟨VU, hVU⟩ : ∃ v, v = vV (fwdV (ownN gs') S.data.toList (fun tg => pkE rs' (4, 0, tg)) (fun tg fl => pkH gs' rs' (4, 0, tg) fl)) := ⟨_, rfl⟩
  rw [← hVU] at HU
  clear hVU
  go_wp2_with fail
  refine HU.out.mono ?_
  rintro e w4 ⟨rfl, hb4⟩
  have HT4 := Lib.hid (HT3.out.grow hb4)
  have hg4 := row_below hb4 Hg3.out (Array.getElem?_eq_some_iff.1 Hg3.out).1
  have Hg4 := Lib.hid hg4
  have Hb4 := Lib.hid (Hb3.out.trans (hb4.mono Hb3.out.size))
  have hF := HT4.out.fw w4 (Below.refl _ _) S
  rw [HSl.out, HV.out] at hF
  have HF := Lib.hid hF
  clear hb4 hg4 hF HU HT3 Hg3 Hb3 HV HT4
  unfold vV at HF
  obtain ⟨ou, hou⟩ : ∃ ou : ByteArray, ou = ⟨ol.toArray⟩ := ⟨_, rfl⟩
  have Hou := Lib.hid (show ou.data.toList = ol by rw [hou])
  simp only [← hou] at HF
  clear hou
  go_wp2_with fail
  refine HF.out.mono ?_
  rintro e w5 ⟨rfl, hb5⟩
  have hg5 := row_below hb5 Hg4.out (Array.getElem?_eq_some_iff.1 Hg4.out).1
  have Hg5 := Lib.hid hg5
  have Hb5 := Lib.hid (Hb4.out.trans (hb5.mono Hb4.out.size))
  clear hb5 hg5 HF Hg4 Hb4
  go_upto_region 10 with fail
  obtain ⟨w6, hw6⟩ : ∃ w6, w6 = w5.alloc (.cells #[.int .i64 3, .int .i64 8, .int .i64 0, .string ou] 63) := ⟨_, rfl⟩
  obtain ⟨bv, hbv⟩ : ∃ bv, bv = w5.heap.size := ⟨_, rfl⟩
  rw [← hw6, ← hbv]
  have hgv : w6.heap[bv]? = some (.cells #[.int .i64 3, .int .i64 8, .int .i64 0, .string ou] 63) := by rw [hw6, hbv]; exact heap_alloc_last w5 _
  have hb6 : Below w5.heap.size w5 w6 := by rw [hw6]; exact below1 w5 _
  have hg6 := row_below hb6 Hg5.out (Array.getElem?_eq_some_iff.1 Hg5.out).1
  have Hgv := Lib.hid hgv
  have Hg6 := Lib.hid hg6
  have Hb6 := Lib.hid (Hb5.out.trans (hb6.mono Hb5.out.size))
  clear hb6 hw6 hbv Hg5 Hb5
  have k2 := cl20 hg6 (j := 2) rfl
  have k4 := cl20 hg6 (j := 4) rfl
  have k5 := cl20 hg6 (j := 5) rfl
  have v0 := cl20 hgv (j := 0) rfl
  have v1 := cl20 hgv (j := 1) rfl
  have v2 := cl20 hgv (j := 2) rfl
  have v3 := cl20 hgv (j := 3) rfl
  clear hg6 hgv
  obtain ⟨nn, hnn⟩ : ∃ nn, nn = nP p := ⟨_, rfl⟩
  have Hnn := Lib.hid hnn
  rw [← hnn]
  clear hnn
  obtain ⟨qb, hqb⟩ : ∃ qb, qb = quB p := ⟨_, rfl⟩
  have Hqb := Lib.hid hqb
  clear hqb
  go_cut [18] (fun v wx => v = .bool qb ∧ wx = w6)
  case first =>
    have HO2 := Lib.hid (fun w => show Calls Try.prog 28 #[.string S, .int .i64 20] w _ from octet_any S 20 w)
    have hqb := Hqb.out
    rw [HSl.out] at HO2
    unfold quB at hqb
    rw [← Hnn.out] at hqb
    have hpl := Hp.out.part
    have d1 : IntKind.u16.wrap ((p.part : Int).tmod 8192) = ((p.part % 8192 : Nat) : Int) := by
      rw [Int.tmod_eq_emod_of_nonneg (by omega)]; simp [IntKind.wrap, IntKind.bits, IntKind.signed]; omega
    have hoc := g1_lt (pt p) 20
    generalize g1 (pt p) 20 = oc at *
    by_cases c1 : p.part % 8192 = 0
    · rw [if_pos c1] at hqb
      have d2 : (((p.part % 8192 : Nat) : Int) != 0) = false := by rw [c1]; rfl
      by_cases c2 : p.proto.toNat = 1
      · have d3 : ((p.proto.toNat : Int) == 1) = true := by simp; omega
        by_cases c3 : 20 < nn
        · rw [if_pos ⟨c2, c3⟩] at hqb
          clear c2
          have d4 : (20 : Int) < (nn : Int) := by omega
          go_wp2_with fail
          refine (HO2.out _).mono ?_
          rintro e wx ⟨rfl, hwx⟩
          rw [hwx]
          clear hwx wx
          by_cases c4 : oc = 0
          · rw [if_pos (.inl c4)] at hqb
            subst hqb
            have d5 : ((oc : Int) != 0) = false := by rw [c4]; rfl
            clear c4
            go_wp2_with fail
            go_meet
            exact ⟨rfl, rfl⟩
          · have d5 : ((oc : Int) != 0) = true := by simp; omega
            go_wp2_with fail
            refine (HO2.out _).mono ?_
            rintro e wx ⟨rfl, hwx⟩
            rw [hwx]
            clear hwx wx
            by_cases c5 : oc = 8
            · rw [if_pos (.inr c5)] at hqb
              subst hqb
              have d6 : ((oc : Int) != 8) = false := by rw [c5]; rfl
              clear c5
              go_wp2_with fail
              go_meet
              exact ⟨rfl, rfl⟩
            · rw [if_neg (by omega)] at hqb
              subst hqb
              have d6 : ((oc : Int) != 8) = true := by simp; omega
              go_wp2_with fail
              go_meet
              exact ⟨rfl, rfl⟩
        · rw [if_neg (fun h => c3 h.2)] at hqb
          subst hqb
          clear c2
          have d4 : ¬ (20 : Int) < (nn : Int) := by omega
          go_wp2_with fail
          go_meet
          exact ⟨rfl, rfl⟩
      · rw [if_neg (fun h => c2 h.1)] at hqb
        subst hqb
        have d3 : ((p.proto.toNat : Int) == 1) = false := by simp; omega
        clear c2
        go_wp2_with fail
        go_meet
        exact ⟨rfl, rfl⟩
    · rw [if_neg c1] at hqb
      subst hqb
      have d2 : (((p.part % 8192 : Nat) : Int) != 0) = true := by simp; omega
      go_wp2_with fail
      go_meet
      exact ⟨rfl, rfl⟩
  case rest =>
  obtain ⟨rfl, rfl⟩ := hcut
  obtain rfl : qb = false := Hqb.out.trans hq
  have hn8 : n8 p = nn := by unfold n8; rw [← Hnn.out] at hbig ⊢; omega
  have hle := n8_le p
  have hnp := nP_le p
  rw [hn8, ← Hnn.out] at hle
  rw [← Hnn.out] at hnp hbig
  have hdl : ou.data.toList = outA p own 8 := by rw [Hou.out, hol]
  have hos : ou.size = 28 + nn := by rw [← blen, hdl, out_len, hn8]
  obtain ⟨o20, ho20⟩ : ∃ o, o = ou.extract 0 20 := ⟨_, rfl⟩
  have d20 : o20.data.toList = (outA p own 8).take 20 := by rw [ho20, ext_list, hdl, List.drop_zero]
  obtain ⟨oR, hoR⟩ : ∃ o, o = ou.extract 20 ou.size := ⟨_, rfl⟩
  have dR : oR.data.toList = (outA p own 8).drop 20 := by rw [hoR, ext_list, hdl, List.take_of_length_le (by rw [out_len, hn8, hos]; exact Nat.le_refl _)]
  have HS1 := Lib.hid (fun w => ksum_any o20 (by rw [← blen, d20, List.length_take]; omega) w)
  rw [d20, out_sum] at HS1
  have HS2 := Lib.hid (fun w => ksum_any oR (by rw [← blen, dR, List.length_drop, out_len, hn8]; omega) w)
  rw [dR, rest_sum] at HS2
  have HT2 := Lib.hid (fun w => two_any (28 + nn) (by omega) w)
  rw [show ((28 + nn : Nat) : Int) = (28 : Int) + (nn : Int) by omega] at HT2
  obtain ⟨tt, htt⟩ : ∃ s : ByteArray, s = ⟨(tw (28 + nn)).toArray⟩ := ⟨_, rfl⟩
  rw [← htt] at HT2
  have ytt : tt.size = 2 := by rw [htt]; rfl
  obtain ⟨fx, hfx⟩ : ∃ s : ByteArray, s = (⟨#[69, 0]⟩ : ByteArray) ++ tt ++ ⟨#[0, 0, 0, 0, 64, 1]⟩ := ⟨_, rfl⟩
  have x10 : ou.extract 0 10 = fx := ba_ext (by rw [ext_list, hdl, List.drop_zero, out_fixed, hfx, bapp, bapp, htt, hn8])
  have x24 : ou.extract 24 28 = ⟨#[0, 0, 0, 0]⟩ := ba_ext (by rw [ext_list, hdl, out_zero])
  have x28 : ou.extract 28 ou.size = S.extract 0 nn := ba_ext (by rw [ext_list, ext_list, hdl, HSl.out, List.drop_zero, List.take_of_length_le (by rw [out_len, hn8, hos]; exact Nat.le_refl _), out_28, hn8])
  have H4 := Lib.hid (fun w => four_any own HOwn.out.2.2 w)
  have H5 := Lib.hid (fun w => four_any p.src Hp.out.src w)
  obtain ⟨t2, f2⟩ : ∃ s : ByteArray, s = ⟨(tw (own / 65536) ++ tw (own % 65536)).toArray⟩ := ⟨_, rfl⟩
  obtain ⟨t5, f5⟩ : ∃ s : ByteArray, s = ⟨(tw (p.src / 65536) ++ tw (p.src % 65536)).toArray⟩ := ⟨_, rfl⟩
  rw [← f2] at H4
  rw [← f5] at H5
  have y2 : t2.size = 4 := by rw [f2]; rfl
  have y5 : t5.size = 4 := by rw [f5]; rfl
  obtain ⟨o12, ho12⟩ : ∃ o, o = t2 ++ t5 := ⟨_, rfl⟩
  have x12 : ou.extract 12 20 = o12 := ba_ext (by rw [ext_list, hdl, out_ends, ho12, bapp, f2, f5])
  have F6 := Lib.hid ho12
  have l20 : 20 < ou.size := by omega
  have l21 : 21 < ou.size := by omega
  have g20 : (ou[20]'l20).toNat = 11 := by rw [← g1_b l20, hdl, out_20]; rfl
  have g21 : (ou[21]'l21).toNat = 0 := by rw [← g1_b l21, hdl, out_21]
  have hns : nn ≤ S.size := by have h := (pt_len p).1; rw [← blen, HSl.out]; rw [← Hnn.out] at h; omega
  have q20 : (20 : Int) ≤ (ou.size : Int) := by omega
  have q10 : (10 : Int) ≤ (ou.size : Int) := by omega
  have q28 : (28 : Int) ≤ (ou.size : Int) := by omega
  have q21 : (20 : Int) < (ou.size : Int) := by omega
  have q22 : (21 : Int) < (ou.size : Int) := by omega
  have hne : ((ou.size : Int) != (28 : Int) + (nn : Int)) = false := by rw [bne_eq_false_iff_eq]; omega
  have qs : (nn : Int) ≤ (S.size : Int) := by omega
  have qz : (0 : Int) ≤ (nn : Int) := by omega
  have hb28 : ¬ (28 : Int) < (nn : Int) := by omega
  have Hfx := Lib.hid hfx
  have Ho20 := Lib.hid ho20
  have HoR := Lib.hid hoR
  have Hnp := Lib.hid hnp
  have Hx28 := Lib.hid x28
  have Hx12 := Lib.hid x12
  have Hx10 := Lib.hid x10
  have Hx24 := Lib.hid x24
  have Hg20 := Lib.hid g20
  have Hg21 := Lib.hid g21
  have Hy2 := Lib.hid y2
  have Hy5 := Lib.hid y5
  clear hfx ho20 hoR hnp hn8 hle hbig hdl hos d20 dR htt f2 f5 ho12 hns hol hq Hou HSl Hqb Hnn x28 x12 x10 x24 g20 g21 y2 y5 k2 k4 HOwn Hp
  go_wp2_with fail
  rw [← Ho20.out]
  refine (HS1.out _).mono ?_
  rintro e w8 ⟨rfl, hw8⟩
  rw [hw8]
  clear hw8 w8
  go_wp2_with fail
  rw [← HoR.out]
  refine (HS2.out _).mono ?_
  rintro e w8 ⟨rfl, hw8⟩
  rw [hw8]
  clear hw8 w8
  go_wp2_with fail
  refine (HT2.out _).mono ?_
  rintro e w8 ⟨rfl, hb8⟩
  have Hgv8 := Lib.hid (row_below hb8 Hgv.out (Array.getElem?_eq_some_iff.1 Hgv.out).1)
  have Hg8 := Lib.hid (row_below hb8 Hg6.out (Array.getElem?_eq_some_iff.1 Hg6.out).1)
  have Hb8 := Lib.hid (Hb6.out.trans (hb8.mono Hb6.out.size))
  clear hb8 v0 v1 v2 v3 k5 Hgv Hg6 Hb6 hne q22
  go_wp2_with fail
  rw [← Hfx.out]
  refine wp_region_relyG' (fun w w' => Below w.heap.size w w') (vA [.pointer (some ⟨bv, 3, none⟩), .string ou, .string o12, .int .u32 (own : Nat), .string t2, .pointer (some ⟨bx, 5, none⟩), .int .u32 (p.src : Nat), .string t5, .string o12, .bool true, .bool true, .pointer (some ⟨bv, 3, none⟩), .string ou, .string fx, .string fx, .bool true, .bool true, .bool true, .pointer (some ⟨bv, 3, none⟩), .string ou, .string ⟨#[0, 0, 0, 0]⟩, .bool true, .bool true, .bool true]) [148, 149, 150, 151, 152, 153, 154, 155, 156, 157, 158, 159, 160, 161, 162, 163, 164, 165, 166, 167, 168, 169, 170, 24] (by kernel_rfl) (plainG_of (by kernel_rfl)) (by kernel_rfl) (fun a b c h1 h2 => h1.trans (h2.mono h1.size)) ⟨rfl, rfl, rfl, Nat.le_refl _, fun _ _ => rfl⟩ (fun _ _ _ _ h _ => h) ?hop ?hend
  case hop =>
    intro i o ho a w9 hR hF hd
    have e9 := ev_get (show a.eval (.tmp 9) = .pointer (some ⟨bx, 0, none⟩) from hF.ev 9 (by kernel_rfl))
    have e17 := ev_get (show a.eval (.tmp 17) = .pointer (some ⟨bv, 0, none⟩) from hF.ev 17 (by kernel_rfl))
    have e2 := ev_get (show a.eval (.tmp 2) = .int .u32 (own : Nat) from hF.ev 2 (by kernel_rfl))
    have e23 := ev_get (show a.eval (.tmp 23) = .string fx from hF.ev 23 (by kernel_rfl))
    have v3 := cl20 (row_below hR Hgv8.out (Array.getElem?_eq_some_iff.1 Hgv8.out).1) (j := 3) rfl
    have k5 := cl20 (row_below hR Hg8.out (Array.getElem?_eq_some_iff.1 Hg8.out).1) (j := 5) rfl
    have x12 := Hx12.out
    have x10 := Hx10.out
    have x24 := Hx24.out
    have y2 := Hy2.out
    have y5 := Hy5.out
    rcases i with _ | i
    · obtain rfl := Option.some.inj ho
      refine ⟨want_no rfl, ?_⟩
      exact op_value (v := .pointer (some ⟨bv, 3, none⟩)) (by simp [go_sem, execOp, e17]) ⟨_, rfl, Below.refl _ _, rfl⟩
    rcases i with _ | i
    · obtain rfl := Option.some.inj ho
      refine ⟨want_no rfl, ?_⟩
      have e148 := ev_get (show a.eval (.tmp 148) = .pointer (some ⟨bv, 3, none⟩) from dep_of hd 0 (by kernel_rfl))
      exact op_value (v := .string ou) (by simp [go_sem, execOp, e148, v3]) ⟨_, rfl, Below.refl _ _, rfl⟩
    rcases i with _ | i
    · obtain rfl := Option.some.inj ho
      refine ⟨want_no rfl, ?_⟩
      have e149 := ev_get (show a.eval (.tmp 149) = .string ou from dep_of hd 1 (by kernel_rfl))
      exact op_value (v := .string o12) (by simp [go_sem, execOp, e149, x12, q20]) ⟨_, rfl, Below.refl _ _, rfl⟩
    rcases i with _ | i
    · obtain rfl := Option.some.inj ho
      refine ⟨want_no rfl, ?_⟩
      exact op_value (v := .int .u32 (own : Nat)) (by simp [go_sem, execOp, e2]) ⟨_, rfl, Below.refl _ _, rfl⟩
    rcases i with _ | i
    · obtain rfl := Option.some.inj ho
      refine ⟨want_no rfl, ?_⟩
      have e151 := ev_get (show a.eval (.tmp 151) = .int .u32 (own : Nat) from dep_of hd 3 (by kernel_rfl))
      exact op_enter (f := 30) (args := #[.int .u32 (own : Nat)]) (by simp [go_sem, execOp, e151]) ((H4.out w9).mono fun e w10 ⟨he, hb⟩ => ⟨_, he, _, rfl, hb, rfl⟩)
    rcases i with _ | i
    · obtain rfl := Option.some.inj ho
      refine ⟨want_no rfl, ?_⟩
      exact op_value (v := .pointer (some ⟨bx, 5, none⟩)) (by simp [go_sem, execOp, e9]) ⟨_, rfl, Below.refl _ _, rfl⟩
    rcases i with _ | i
    · obtain rfl := Option.some.inj ho
      refine ⟨want_no rfl, ?_⟩
      have e153 := ev_get (show a.eval (.tmp 153) = .pointer (some ⟨bx, 5, none⟩) from dep_of hd 5 (by kernel_rfl))
      exact op_value (v := .int .u32 (p.src : Nat)) (by simp [go_sem, execOp, e153, k5]) ⟨_, rfl, Below.refl _ _, rfl⟩
    rcases i with _ | i
    · obtain rfl := Option.some.inj ho
      refine ⟨want_no rfl, ?_⟩
      have e154 := ev_get (show a.eval (.tmp 154) = .int .u32 (p.src : Nat) from dep_of hd 6 (by kernel_rfl))
      exact op_enter (f := 30) (args := #[.int .u32 (p.src : Nat)]) (by simp [go_sem, execOp, e154]) ((H5.out w9).mono fun e w10 ⟨he, hb⟩ => ⟨_, he, _, rfl, hb, rfl⟩)
    rcases i with _ | i
    · obtain rfl := Option.some.inj ho
      refine ⟨want_no rfl, ?_⟩
      have e152 := ev_get (show a.eval (.tmp 152) = .string t2 from dep_of hd 4 (by kernel_rfl))
      have e155 := ev_get (show a.eval (.tmp 155) = .string t5 from dep_of hd 7 (by kernel_rfl))
      exact op_value (v := .string o12) (by rw [F6.out]; simp [go_sem, execOp, e152, e155, y2, y5]) ⟨_, rfl, Below.refl _ _, rfl⟩
    rcases i with _ | i
    · obtain rfl := Option.some.inj ho
      refine ⟨want_no rfl, ?_⟩
      have e150 := ev_get (show a.eval (.tmp 150) = .string o12 from dep_of hd 2 (by kernel_rfl))
      have e156 := ev_get (show a.eval (.tmp 156) = .string o12 from dep_of hd 8 (by kernel_rfl))
      exact op_value (v := .bool true) (by simp [go_sem, execOp, e150, e156]) ⟨_, rfl, Below.refl _ _, rfl⟩
    rcases i with _ | i
    · obtain rfl := Option.some.inj ho
      refine ⟨want_no rfl, ?_⟩
      have e157 := ev_get (show a.eval (.tmp 157) = .bool true from dep_of hd 9 (by kernel_rfl))
      exact op_value (v := .bool true) (by simp [go_sem, execOp, e157]) ⟨_, rfl, Below.refl _ _, rfl⟩
    rcases i with _ | i
    · obtain rfl := Option.some.inj ho
      refine ⟨want_at rfl (yld (j := 10) (t := 158) (by kernel_rfl) (show a.eval (.tmp 158) = .bool true from dep_of hd 10 (by kernel_rfl))), ?_⟩
      exact op_value (v := .pointer (some ⟨bv, 3, none⟩)) (by simp [go_sem, execOp, e17]) ⟨_, rfl, Below.refl _ _, rfl⟩
    rcases i with _ | i
    · obtain rfl := Option.some.inj ho
      refine ⟨want_at rfl (yld (j := 10) (t := 158) (by kernel_rfl) (show a.eval (.tmp 158) = .bool true from dep_of hd 10 (by kernel_rfl))), ?_⟩
      have e159 := ev_get (show a.eval (.tmp 159) = .pointer (some ⟨bv, 3, none⟩) from dep_of hd 11 (by kernel_rfl))
      exact op_value (v := .string ou) (by simp [go_sem, execOp, e159, v3]) ⟨_, rfl, Below.refl _ _, rfl⟩
    rcases i with _ | i
    · obtain rfl := Option.some.inj ho
      refine ⟨want_at rfl (yld (j := 10) (t := 158) (by kernel_rfl) (show a.eval (.tmp 158) = .bool true from dep_of hd 10 (by kernel_rfl))), ?_⟩
      have e160 := ev_get (show a.eval (.tmp 160) = .string ou from dep_of hd 12 (by kernel_rfl))
      exact op_value (v := .string fx) (by simp [go_sem, execOp, e160, x10, q10]) ⟨_, rfl, Below.refl _ _, rfl⟩
    rcases i with _ | i
    · obtain rfl := Option.some.inj ho
      refine ⟨want_at rfl (yld (j := 10) (t := 158) (by kernel_rfl) (show a.eval (.tmp 158) = .bool true from dep_of hd 10 (by kernel_rfl))), ?_⟩
      exact op_value (v := .string fx) (by simp [go_sem, execOp, e23]) ⟨_, rfl, Below.refl _ _, rfl⟩
    rcases i with _ | i
    · obtain rfl := Option.some.inj ho
      refine ⟨want_at rfl (yld (j := 10) (t := 158) (by kernel_rfl) (show a.eval (.tmp 158) = .bool true from dep_of hd 10 (by kernel_rfl))), ?_⟩
      have e161 := ev_get (show a.eval (.tmp 161) = .string fx from dep_of hd 13 (by kernel_rfl))
      have e162 := ev_get (show a.eval (.tmp 162) = .string fx from dep_of hd 14 (by kernel_rfl))
      exact op_value (v := .bool true) (by simp [go_sem, execOp, e161, e162]) ⟨_, rfl, Below.refl _ _, rfl⟩
    rcases i with _ | i
    · obtain rfl := Option.some.inj ho
      refine ⟨want_no rfl, ?_⟩
      have e158 := ev_get (show a.eval (.tmp 158) = .bool true from dep_of hd 10 (by kernel_rfl))
      have e163 := ev_get (show a.eval (.tmp 163) = .bool true from dep_of hd 15 (by kernel_rfl))
      exact op_value (v := .bool true) (by simp [go_sem, execOp, e158, e163]) ⟨_, rfl, Below.refl _ _, rfl⟩
    rcases i with _ | i
    · obtain rfl := Option.some.inj ho
      refine ⟨want_no rfl, ?_⟩
      have e164 := ev_get (show a.eval (.tmp 164) = .bool true from dep_of hd 16 (by kernel_rfl))
      exact op_value (v := .bool true) (by simp [go_sem, execOp, e164]) ⟨_, rfl, Below.refl _ _, rfl⟩
    rcases i with _ | i
    · obtain rfl := Option.some.inj ho
      refine ⟨want_at rfl (yld (j := 17) (t := 165) (by kernel_rfl) (show a.eval (.tmp 165) = .bool true from dep_of hd 17 (by kernel_rfl))), ?_⟩
      exact op_value (v := .pointer (some ⟨bv, 3, none⟩)) (by simp [go_sem, execOp, e17]) ⟨_, rfl, Below.refl _ _, rfl⟩
    rcases i with _ | i
    · obtain rfl := Option.some.inj ho
      refine ⟨want_at rfl (yld (j := 17) (t := 165) (by kernel_rfl) (show a.eval (.tmp 165) = .bool true from dep_of hd 17 (by kernel_rfl))), ?_⟩
      have e166 := ev_get (show a.eval (.tmp 166) = .pointer (some ⟨bv, 3, none⟩) from dep_of hd 18 (by kernel_rfl))
      exact op_value (v := .string ou) (by simp [go_sem, execOp, e166, v3]) ⟨_, rfl, Below.refl _ _, rfl⟩
    rcases i with _ | i
    · obtain rfl := Option.some.inj ho
      refine ⟨want_at rfl (yld (j := 17) (t := 165) (by kernel_rfl) (show a.eval (.tmp 165) = .bool true from dep_of hd 17 (by kernel_rfl))), ?_⟩
      have e167 := ev_get (show a.eval (.tmp 167) = .string ou from dep_of hd 19 (by kernel_rfl))
      exact op_value (v := .string ⟨#[0, 0, 0, 0]⟩) (by simp [go_sem, execOp, e167, x24, q28]) ⟨_, rfl, Below.refl _ _, rfl⟩
    rcases i with _ | i
    · obtain rfl := Option.some.inj ho
      refine ⟨want_at rfl (yld (j := 17) (t := 165) (by kernel_rfl) (show a.eval (.tmp 165) = .bool true from dep_of hd 17 (by kernel_rfl))), ?_⟩
      have e168 := ev_get (show a.eval (.tmp 168) = .string ⟨#[0, 0, 0, 0]⟩ from dep_of hd 20 (by kernel_rfl))
      exact op_value (v := .bool true) (by simp [go_sem, execOp, e168]) ⟨_, rfl, Below.refl _ _, rfl⟩
    rcases i with _ | i
    · obtain rfl := Option.some.inj ho
      refine ⟨want_no rfl, ?_⟩
      have e165 := ev_get (show a.eval (.tmp 165) = .bool true from dep_of hd 17 (by kernel_rfl))
      have e169 := ev_get (show a.eval (.tmp 169) = .bool true from dep_of hd 21 (by kernel_rfl))
      exact op_value (v := .bool true) (by simp [go_sem, execOp, e165, e169]) ⟨_, rfl, Below.refl _ _, rfl⟩
    rcases i with _ | i
    · obtain rfl := Option.some.inj ho
      refine ⟨want_no rfl, ?_⟩
      have e170 := ev_get (show a.eval (.tmp 170) = .bool true from dep_of hd 22 (by kernel_rfl))
      exact op_value (v := .bool true) (by simp [go_sem, execOp, e170]) ⟨_, rfl, Below.refl _ _, rfl⟩
    · exact absurd (Array.getElem?_eq_some_iff.1 ho).1 (by simp)
  case hend =>
  intro X w9 hR hall
  have x23 : X 23 = .bool true := hall 23 (by simp)
  have hgv9 := row_below hR Hgv8.out (Array.getElem?_eq_some_iff.1 Hgv8.out).1
  have v3 := cl20 hgv9 (j := 3) rfl
  have Hb9 := Lib.hid (Hb8.out.trans (hR.mono Hb8.out.size))
  simp only [putAll, Act.put, List.setIfInBounds_toArray, List.set_cons_zero, List.set_cons_succ, x23, Nat.zero_add, Nat.reduceAdd]
  have x28 := Hx28.out
  have g20 := Hg20.out
  have g21 := Hg21.out
  have q22 : (21 : Int) < (ou.size : Int) := by omega
  clear x23 hR hall hgv9 Hgv8 Hg8 Hb8 H4 H5
  go_wp2_with fail
  go_big_quiet (fail)
  go_wp2
  go_ret
  exact ⟨rfl, Hb9.out.os, Hb9.out.tape, Hb9.out.output, Hb9.out.size, Hb9.out.block⟩
end Go.Proofs.Ytnfkgnjeamnhfab
namespace Go.Proofs.Ytnfkgnjeamnhfab
open Go.RowKit Go.Sort

set_option maxRecDepth 4000 in
set_option maxHeartbeats 2000000 in
theorem answers_no (limit seed own : Int) (so : Option Addr) (z scap : Nat) (p : Pk) (w : World) (h : limit < 1 ∨ 256 < limit) :
    Calls Try.prog 7 #[.int .i64 limit, .int .u64 seed, .int .u32 own, .slice so z scap, pkV p] w fun e w' => e = .returned (.bool true) ∧ Below w.heap.size w w' := by
  have H1 := Lib.hid (fun w => ready_no limit seed own so z scap w h)
  clear h
  unfold pkV
  go_enter Try.func7, Try.ntmps7
  go_wp2_with fail
  refine (H1.out _).mono ?_
  rintro e w1 ⟨rfl, hb⟩
  have HB := Lib.hid ((below1 w _).trans (hb.mono (below1 w _).size))
  clear hb
  go_wp2
  go_ret
  exact ⟨rfl, HB.out⟩
set_option maxRecDepth 4000 in
set_option maxHeartbeats 2000000 in
theorem answers_void (limit seed own : Int) (so : Option Addr) (z scap : Nat) (ops : List AOp) (p : Pk) (w : World) (hsn : Rg seed own) (h1 : ¬ limit < 1) (h2 : ¬ 256 < limit) (hz : ops.length = z) (hz2 : z ≤ 1400000000000) (hS : ScrK w.heap.size w so ops) (hex : ¬ ∃ gs rs, playA limit (gz seed own) [] ops gs rs ∧ Ok gs rs limit) :
    Calls Try.prog 7 #[.int .i64 limit, .int .u64 seed, .int .u32 own, .slice so z scap, pkV p] w fun e w' => e = .returned (.bool true) ∧ Below w.heap.size w w' := by
  have H1 := Lib.hid (fun (o : Obj) => ready_tab limit seed own so z scap ops (w.alloc o) hsn h1 h2 hz hz2 (hS.grow (below1 w o)))
  clear hsn h1 h2 hz hz2 hS
  unfold pkV
  go_enter Try.func7, Try.ntmps7
  go_wp2_with fail
  refine (H1.out _).mono ?_
  rintro e w1 ⟨T, rfl, -, gs, rs, k1, k2, -⟩
  exact absurd ⟨gs, rs, k1, k2⟩ hex
/-- Answers: the law. -/
theorem answers_law (limit seed own : Int) (so : Option Addr) (z scap : Nat) (ops : List AOp) (p : Pk) (hp : PkFit p) (w : World) (hsn : Rg seed own) (hz : ops.length = z) (hz2 : z ≤ 1400000000000) (hS : ScrK w.heap.size w so ops) :
    Calls Try.prog 7 #[.int .i64 limit, .int .u64 seed, .int .u32 own, .slice so z scap, pkV p] w fun e w' => e = .returned (.bool true) ∧ Below w.heap.size w w' := by
  obtain ⟨o, rfl⟩ : ∃ o : Nat, own = (o : Nat) := ⟨own.toNat, by unfold Rg at hsn; omega⟩
  by_cases hlim : limit < 1 ∨ 256 < limit
  · exact answers_no limit seed o so z scap p w hlim
  have h1 : ¬ limit < 1 := fun h => hlim (.inl h)
  have h2 : ¬ 256 < limit := fun h => hlim (.inr h)
  rcases Classical.em (∃ gs rs, playA limit (gz seed o) [] ops gs rs ∧ Ok gs rs limit) with ⟨gs, rs, hpl, hok⟩ | hex
  case' inr => exact answers_void limit seed o so z scap ops p w hsn h1 h2 hz hz2 hS hex
  have hown : ownN gs = o := by have := own_of hsn hpl; omega
  have hA : ∀ r : Int, r = 7 ∨ r = 8 → fwdV (ownN gs) (pt p) (fun tg => pkE rs (4, 0, tg)) (fun tg fl => pkH gs rs (4, 0, tg) fl) = ansV (sealL (hdL p)) (bdL p) (ownN gs) r →
      Calls Try.prog 7 #[.int .i64 limit, .int .u64 seed, .int .u32 (o : Nat), .slice so z scap, pkV p] w fun e w' => e = .returned (.bool true) ∧ Below w.heap.size w w' := by
    intro r hr hV
    cases hq : quB p with
    | true =>
      rw [ansV_no p _ r (by rw [quB_eq hp, hq]; rfl)] at hV
      exact ans_still limit seed o so z scap ops p hp w hsn h1 h2 hz hz2 hS gs rs hpl r hr hq _ rfl hV
    | false =>
      rw [ansV_yes p _ r (by rw [quB_eq hp, hq]; rfl)] at hV
      have ho : outA p (ownN gs) r = outA p o r := by rw [hown]
      rcases hr with rfl | rfl
      · by_cases hb : 28 < nP p
        · exact ans_yes7b limit seed o so z scap ops p hp w hsn h1 h2 hz hz2 hS gs rs hpl hb hq _ ho hV
        · exact ans_yes7s limit seed o so z scap ops p hp w hsn h1 h2 hz hz2 hS gs rs hpl hb hq _ ho hV
      · by_cases hb : 28 < nP p
        · exact ans_yes8b limit seed o so z scap ops p hp w hsn h1 h2 hz hz2 hS gs rs hpl hb hq _ ho hV
        · exact ans_yes8s limit seed o so z scap ops p hp w hsn h1 h2 hz hz2 hS gs rs hpl hb hq _ ho hV
  by_cases hm : mart (p.src / 16777216) = true ∨ mart (p.dst / 16777216) = true
  · exact ans_other limit seed o so z scap ops p hp w hsn h1 h2 hz hz2 hS gs rs hpl 0 6 0 (by decide) (by decide) (by decide) [] (fwd_mart hp _ _ _ hm)
  have hm1 : mart (p.src / 16777216) = false := by rw [Bool.eq_false_iff]; exact fun h => hm (.inl h)
  have hm2 : mart (p.dst / 16777216) = false := by rw [Bool.eq_false_iff]; exact fun h => hm (.inr h)
  have hV := fwd_good hp (ownN gs) (fun tg => pkE rs (4, 0, tg)) (fun tg fl => pkH gs rs (4, 0, tg) fl) hm1 hm2
  simp only [pkE_4 rs hp.dst, pkH_4 gs rs hp.dst] at hV
  by_cases hG1 : lookGT rs (4, 0, p.dst) = -1
  · rw [if_pos hG1, if_pos hG1] at hV
    unfold goV at hV
    rw [if_pos (by decide)] at hV
    exact hA 7 (.inl rfl) hV
  · rw [if_neg hG1, if_neg hG1] at hV
    generalize hopN gs (lookGT rs (4, 0, p.dst)) (mixN (flN (sealL (hdL p)) ^^^ sdN gs)) = ho at *
    unfold goV at hV
    rw [if_neg (by decide), hs_8] at hV
    by_cases h0 : ho = 0
    · rw [if_pos h0] at hV
      exact ans_other limit seed o so z scap ops p hp w hsn h1 h2 hz hz2 hS gs rs hpl 1 0 0 (by decide) (by decide) (by decide) _ hV
    · rw [if_neg h0] at hV
      by_cases hl : 1 < p.life.toNat
      · rw [if_pos hl] at hV
        exact ans_other limit seed o so z scap ops p hp w hsn h1 h2 hz hz2 hS gs rs hpl 2 0 ho (by decide) (by decide) (by decide) _ hV
      · rw [if_neg hl] at hV
        exact hA 8 (.inr rfl) hV
end Go.Proofs.Ytnfkgnjeamnhfab
