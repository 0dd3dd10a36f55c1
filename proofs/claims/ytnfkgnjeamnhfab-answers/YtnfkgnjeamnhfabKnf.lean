import Derived.Deep.RegionWith
import Derived.Lib.Hide
namespace Go.Proofs.Ytnfkgnjeamnhfab
open Go.RowKit

/-- Where an operation of a region leaves what it yields. -/
def dOf (ops : Array Oper) (j : Nat) : Option Tmp := (ops[j]?).bind (·.dst)
def dVal (a : Act) (d : Option Tmp) : Value := match d with
  | some t => a.tmps.getD t undef
  | none => undef
/-- Outside the region's own slots all is as it was. -/
structure FitR (ops : Array Oper) (a0 a : Act) : Prop where
  defers : a.defers = a0.defers
  size : a.tmps.size = a0.tmps.size
  out : ∀ t, (∀ j, dOf ops j ≠ some t) → a.tmps.getD t undef = a0.tmps.getD t undef
/-- Each operation has a slot of its own and no guard, and waits for earlier ones alone. -/
structure PlainR (ops : Array Oper) (n : Nat) : Prop where
  guard : ∀ (i : Nat) (o : Oper), ops[i]? = some o → o.guard = none
  dst : ∀ (i : Nat) (o : Oper), ops[i]? = some o → ∃ d, o.dst = some d ∧ d < n
  apart : ∀ i j d, dOf ops i = some d → dOf ops j = some d → i = j
  lex : ∀ (i : Nat) (o : Oper), ops[i]? = some o → ∀ e ∈ o.after, Region.binds .any e = true → e.on < i
theorem ready_mem {ops : Array Oper} {listed : Array Bool} {i : Nat} (h : i ∈ Region.ready .any ops listed) : ∃ o, ops[i]? = some o ∧ listed.getD i true = false ∧ ∀ e ∈ o.after, Region.binds .any e = true → listed.getD e.on false = true := by
  unfold Region.ready at h
  rw [List.mem_filter] at h
  obtain ⟨h1, h2⟩ := h
  rw [Bool.and_eq_true] at h2
  obtain ⟨h2, h3⟩ := h2
  cases ho : ops[i]? with
  | none => rw [ho] at h3; cases h3
  | some o =>
    rw [ho] at h3
    refine ⟨o, rfl, by simpa using h2, fun e he hb => ?_⟩
    have h3 : (o.after.all fun e => !Region.binds .any e || listed.getD e.on false) = true := h3
    have := Array.all_eq_true'.1 h3 e he
    rw [hb] at this
    simpa using this
theorem ready_in {ops : Array Oper} {listed : Array Bool} {i : Nat} {o : Oper} (ho : ops[i]? = some o) (hl : listed.getD i true = false) (hd : ∀ e ∈ o.after, Region.binds .any e = true → listed.getD e.on false = true) : i ∈ Region.ready .any ops listed := by
  unfold Region.ready
  rw [List.mem_filter]
  refine ⟨List.mem_range.2 (Array.getElem?_eq_some_iff.1 ho).1, ?_⟩
  rw [ho, hl]
  show (true && o.after.all fun e => !Region.binds .any e || listed.getD e.on false) = true
  rw [Bool.true_and]
  refine Array.all_eq_true'.2 fun e he => ?_
  cases hb : Region.binds .any e with
  | false => rfl
  | true => simpa using hd e he hb
theorem all_listed {ops : Array Oper} {n : Nat} (hp : PlainR ops n) {listed : Array Bool} (hs : listed.size = ops.size) (h : Region.ready .any ops listed = []) : ∀ j, j < ops.size → listed.getD j false = true := by
  intro j
  induction j using Nat.strongRecOn with
  | _ j ih =>
    intro hj
    have ho : ops[j]? = some ops[j] := Array.getElem?_eq_getElem hj
    by_cases hl : listed.getD j true = false
    · have := ready_in ho hl (fun e he hb => ih _ (hp.lex _ _ ho e he hb) (Nat.lt_trans (hp.lex _ _ ho e he hb) hj))
      rw [h] at this
      cases this
    · have hj' : j < listed.size := by omega
      rw [Array.getD_eq_getD_getElem?, Array.getElem?_eq_getElem hj'] at hl ⊢
      simpa using hl
/-- A region that draws its order, by what each operation's yield is known to be: R is how the world may go on meanwhile, A what holds of a yield and goes on to hold. -/
theorem wp_region_rely {P : Program} {id : Nat} {ops : Array Oper} {Q : Exit → Act → World → Prop} {a0 : Act} {w0 : World} (R : World → World → Prop) (A : Nat → Value → World → Prop)
    (hm : P.follows .mixedOrders = true) (hp : PlainR ops a0.tmps.size) (ht : ∀ a b c, R a b → R b c → R a c) (h0 : R w0 { w0 with drawn := w0.drawn + 1 }) (hA : ∀ j v w w', A j v w → R w w' → A j v w')
    (hop : ∀ (i : Nat) (o : Oper), ops[i]? = some o → ∀ a w, R w0 w → FitR ops a0 a → (∀ e ∈ o.after, Region.binds .any e = true → A e.on (dVal a (dOf ops e.on)) w) → o.wp P a w (fun a' w' => ∃ v, a' = a.put o.dst v ∧ R w w' ∧ A i v w') Q)
    (hend : ∀ a w, R w0 w → FitR ops a0 a → (∀ j, j < ops.size → A j (dVal a (dOf ops j)) w) → Q .normal a w) : (Code.region id ops true).wp P Q a0 w0 := by
  have key : ∀ (fuel : Nat) (listed : Array Bool) (a : Act) (w : World), listed.toList.countP (· == false) ≤ fuel → listed.size = ops.size → R w0 w → FitR ops a0 a → (∀ j, listed.getD j false = true → A j (dVal a (dOf ops j)) w) → wpAny P .any ops Q fuel listed a w := by
    intro fuel
    induction fuel with
    | zero =>
      intro listed a w hc hs hR hF hI
      have hall : ∀ b ∈ listed.toList, b = true := fun b hb => by
        have := List.countP_eq_zero.1 (Nat.le_zero.1 hc) b hb
        cases b
        · exact absurd rfl this
        · rfl
      have hnil : Region.ready .any ops listed = [] := by
        rw [List.eq_nil_iff_forall_not_mem]
        intro i hi
        obtain ⟨o, ho, hl, -⟩ := ready_mem hi
        have hi' : i < listed.size := by rw [hs]; exact (Array.getElem?_eq_some_iff.1 ho).1
        rw [Array.getD_eq_getD_getElem?, Array.getElem?_eq_getElem hi'] at hl
        have := hall listed[i] (by simp)
        rw [Option.getD_some, this] at hl
        cases hl
      exact ⟨hnil, hend a w hR hF fun j hj => hI j (all_listed hp hs hnil j hj)⟩
    | succ fuel ih =>
      intro listed a w hc hs hR hF hI
      refine ⟨fun hnil => hend a w hR hF fun j hj => hI j (all_listed hp hs hnil j hj), fun i hi => ?_⟩
      obtain ⟨o, ho, hl, hd⟩ := ready_mem hi
      have hi' : i < listed.size := by rw [hs]; exact (Array.getElem?_eq_some_iff.1 ho).1
      have hli : listed[i] = false := by
        rw [Array.getD_eq_getD_getElem?, Array.getElem?_eq_getElem hi'] at hl
        simpa using hl
      obtain ⟨d, hdo, hdl⟩ := hp.dst i o ho
      have hdi : dOf ops i = some d := by unfold dOf; rw [ho]; exact hdo
      unfold wpOp
      rw [ho]
      show if Region.wanted o (yielded ops a.tmps) = true then _ else _
      rw [if_pos (by unfold Region.wanted; rw [hp.guard i o ho])]
      refine .inl (Oper.wp_mono ?_ (hop i o ho a w hR hF fun e he hb => hI _ (hd e he hb)))
      rintro a' w' ⟨v, rfl, hR', hv⟩
      rw [hdo]
      refine ih _ _ _ ?_ (by simpa using hs) (ht _ _ _ hR hR') ⟨hF.defers, ?_, fun t h => ?_⟩ fun j hj => ?_
      · have hlt : i < listed.toList.length := by simpa using hi'
        have e1 : listed.toList[i] = false := by simpa using hli
        have hpos : 0 < listed.toList.countP (· == false) := List.countP_pos_iff.2 ⟨false, by rw [← e1]; exact List.getElem_mem _, rfl⟩
        rw [Array.toList_setIfInBounds, List.countP_set hlt, e1]
        have e2 : (true == false) = false := rfl
        rw [e2]
        show listed.toList.countP (· == false) - 1 + 0 ≤ fuel
        omega
      · show (a.tmps.setIfInBounds d v).size = _
        rw [Array.size_setIfInBounds, hF.size]
      · have hne : d ≠ t := fun e => h i (by rw [hdi, e])
        show (a.tmps.setIfInBounds d v).getD t undef = _
        rw [← hF.out t h, Array.getD_eq_getD_getElem?, Array.getElem?_setIfInBounds_ne hne, ← Array.getD_eq_getD_getElem?]
      · by_cases hji : j = i
        · subst hji
          rw [hdi]
          have e2 : dVal (a.put (some d) v) (some d) = v := by
            show (a.tmps.setIfInBounds d v).getD d undef = v
            rw [Array.getD_eq_getD_getElem?, Array.getElem?_setIfInBounds_self_of_lt (by rw [hF.size]; exact hdl)]
            rfl
          rw [e2]
          exact hv
        · have hjl : listed.getD j false = true := by
            rw [Array.getD_eq_getD_getElem?, Array.getElem?_setIfInBounds_ne (fun e => hji e.symm), ← Array.getD_eq_getD_getElem?] at hj
            exact hj
          have h1 := hA _ _ _ _ (hI j hjl) hR'
          have e3 : dVal (a.put (some d) v) (dOf ops j) = dVal a (dOf ops j) := by
            cases hdj : dOf ops j with
            | none => rfl
            | some t =>
              have hne : d ≠ t := fun e => hji (hp.apart j i t hdj (by rw [hdi, e]))
              show (a.tmps.setIfInBounds d v).getD t undef = a.tmps.getD t undef
              rw [Array.getD_eq_getD_getElem?, Array.getElem?_setIfInBounds_ne hne, ← Array.getD_eq_getD_getElem?]
          rw [e3]
          exact h1
  refine wp_region_any hm (key _ _ _ _ ?_ (by simp) h0 ⟨rfl, rfl, fun _ _ => rfl⟩ fun j hj => ?_)
  · have := List.countP_le_length (p := (· == false)) (l := (Array.replicate ops.size false).toList)
    simpa using this
  · rw [Array.getD_eq_getD_getElem?, Array.getElem?_replicate] at hj
    split at hj <;> cases hj
/-- PlainR, reckoned. -/
def plainB (ops : Array Oper) (n : Nat) : Bool :=
  (List.range ops.size).all fun i => match ops[i]? with
    | none => true
    | some o => o.guard.isNone && (match o.dst with
        | none => false
        | some d => decide (d < n) && (List.range ops.size).all fun j => j == i || dOf ops j != some d) && o.after.all (fun e => !Region.binds .any e || decide (e.on < i))
theorem dOf_lt {ops : Array Oper} {j d : Nat} (h : dOf ops j = some d) : j < ops.size := by
  unfold dOf at h
  rcases Nat.lt_or_ge j ops.size with h' | h'
  · exact h'
  · rw [Array.getElem?_eq_none h'] at h; cases h
theorem plain_of {ops : Array Oper} {n : Nat} (h : plainB ops n = true) : PlainR ops n := by
  have key : ∀ (i : Nat) (o : Oper), ops[i]? = some o → o.guard = none ∧ (∃ d, o.dst = some d ∧ d < n ∧ ∀ j, j < ops.size → j = i ∨ dOf ops j ≠ some d) ∧ ∀ e ∈ o.after, Region.binds .any e = true → e.on < i := by
    intro i o ho
    have h1 := List.all_eq_true.1 h i (List.mem_range.2 (Array.getElem?_eq_some_iff.1 ho).1)
    simp only [ho, Bool.and_eq_true] at h1
    obtain ⟨⟨h2, h3⟩, h4⟩ := h1
    refine ⟨by simpa using h2, ?_, fun e he hb => ?_⟩
    · cases hd : o.dst with
      | none => rw [hd] at h3; cases h3
      | some d =>
        rw [hd] at h3
        simp only [Bool.and_eq_true, decide_eq_true_eq] at h3
        refine ⟨d, rfl, h3.1, fun j hj => ?_⟩
        have := List.all_eq_true.1 h3.2 j (List.mem_range.2 hj)
        simpa using this
    · have := Array.all_eq_true'.1 h4 e he
      rw [hb] at this
      simpa using this
  refine ⟨fun i o ho => (key i o ho).1, fun i o ho => ?_, fun i j d h1 h2 => ?_, fun i o ho => (key i o ho).2.2⟩
  · obtain ⟨d, e1, e2, -⟩ := (key i o ho).2.1
    exact ⟨d, e1, e2⟩
  · have hi := dOf_lt h1
    have ho : ops[i]? = some ops[i] := Array.getElem?_eq_getElem hi
    obtain ⟨d', e1, -, e3⟩ := (key i _ ho).2.1
    have e4 : some d' = some d := by
      rw [← h1, ← e1]; unfold dOf; rw [ho]; rfl
    rw [e4] at e3
    rcases e3 j (dOf_lt h2) with h | h
    · exact h.symm
    · exact absurd h2 h
theorem out_of {ops : Array Oper} {t : Nat} (h : ((List.range ops.size).all fun j => dOf ops j != some t) = true) : ∀ j, dOf ops j ≠ some t := by
  intro j e
  have := List.all_eq_true.1 h j (List.mem_range.2 (dOf_lt e))
  rw [e] at this
  simp at this
theorem FitR.ev {ops : Array Oper} {a0 a : Act} (h : FitR ops a0 a) (t : Nat) (ht : ((List.range ops.size).all fun j => dOf ops j != some t) = true) : a.eval (.tmp t) = a0.eval (.tmp t) := h.out t (out_of ht)
theorem dep_of {ops : Array Oper} {o : Oper} {a : Act} {w : World} {A : Nat → Value → World → Prop} (hd : ∀ e ∈ o.after, Region.binds .any e = true → A e.on (dVal a (dOf ops e.on)) w) (j : Nat) (h : (o.after.any fun e => Region.binds .any e && e.on == j) = true) : A j (dVal a (dOf ops j)) w := by
  obtain ⟨e, he, h2⟩ := Array.any_eq_true'.1 h
  simp only [Bool.and_eq_true, beq_iff_eq] at h2
  have := hd e he h2.1
  rwa [h2.2] at this
/-- Yields that are known values. -/
def vA (l : List Value) : Nat → Value → World → Prop := fun j v _ => v = l.getD j undef
theorem ev_get {a : Act} {t : Tmp} {v : Value} (h : a.eval (.tmp t) = v) : a.tmps[t]?.getD undef = v := by
  rw [← h]; show _ = a.tmps.getD t undef; rw [Array.getD_eq_getD_getElem?]
theorem op_value {P : Program} {o : Oper} {a : Act} {w w' : World} {K : Act → World → Prop} {Q : Exit → Act → World → Prop} {v : Value} (h : (execOp a.eval o).run P w = .ok (.value v) w') (hk : K (a.put o.dst v) w') : o.wp P a w K Q := by
  unfold Oper.wp; rw [h]; exact hk
theorem op_enter {P : Program} {o : Oper} {a : Act} {w : World} {K : Act → World → Prop} {Q : Exit → Act → World → Prop} {f : FuncId} {args : Array Value} (h : (execOp a.eval o).run P w = .ok (.enter f args) w) (hc : Calls P f args w fun e w' => ∃ v, e = .returned v ∧ K (a.put o.dst v) w') : o.wp P a w K Q := by
  unfold Oper.wp; rw [h]
  exact hc.mono fun e w' ⟨v, he, hk⟩ => by subst he; exact hk
/-- What each operation of a region has yielded, put into its slot. -/
def putAll : List Tmp → Nat → (Nat → Value) → Act → Act
  | [], _, _, a => a
  | d :: D, j, X, a => putAll D (j + 1) X (a.put (some d) (X j))
theorem act_ext {a b : Act} (h1 : a.defers = b.defers) (h2 : a.tmps.size = b.tmps.size) (h3 : ∀ t, a.tmps.getD t undef = b.tmps.getD t undef) : a = b := by
  obtain ⟨ta, da⟩ := a
  obtain ⟨tb, db⟩ := b
  have h1 : da = db := h1
  subst h1
  have : ta = tb := by
    refine Array.ext h2 fun i hi hi' => ?_
    have := h3 i
    simp only [Array.getD_eq_getD_getElem?] at this
    rw [Array.getElem?_eq_getElem hi, Array.getElem?_eq_getElem hi'] at this
    simpa using this
  rw [this]
theorem putAll_eq {a : Act} : ∀ (D : List Tmp) (j : Nat) (X : Nat → Value) (b : Act), b.defers = a.defers → b.tmps.size = a.tmps.size → (∀ t, t ∉ D → b.tmps.getD t undef = a.tmps.getD t undef) → (∀ k d, D[k]? = some d → X (j + k) = a.tmps.getD d undef) → putAll D j X b = a
  | [], _, _, _, h1, h2, h3, _ => act_ext h1 h2 fun t => h3 t (by simp)
  | d :: D, j, X, b, h1, h2, h3, h4 => by
    refine putAll_eq D (j + 1) X _ h1 (by show (b.tmps.setIfInBounds d _).size = _; rw [Array.size_setIfInBounds, h2]) (fun t ht => ?_) (fun k d' hk => by rw [Nat.add_assoc, Nat.add_comm 1 k]; exact h4 (k + 1) d' (by simpa using hk))
    show (b.tmps.setIfInBounds d (X j)).getD t undef = _
    by_cases hd : d = t
    · subst hd
      by_cases hl : d < b.tmps.size
      · rw [Array.getD_eq_getD_getElem?, Array.getElem?_setIfInBounds_self_of_lt hl]
        exact h4 0 d (by simp)
      · simp only [Array.getD_eq_getD_getElem?]
        rw [Array.getElem?_eq_none (by rw [Array.size_setIfInBounds]; exact Nat.le_of_not_lt hl), Array.getElem?_eq_none (by rw [← h2]; exact Nat.le_of_not_lt hl)]
    · rw [Array.getD_eq_getD_getElem?, Array.getElem?_setIfInBounds_ne hd, ← Array.getD_eq_getD_getElem?]
      exact h3 t (by simp only [List.mem_cons, not_or]; exact ⟨fun e => hd e.symm, ht⟩)
/-- wp_region_rely, with the frame at the end written out; D: the slots in the operations' order. -/
theorem wp_region_rely' {P : Program} {id : Nat} {ops : Array Oper} {Q : Exit → Act → World → Prop} {a0 : Act} {w0 : World} (R : World → World → Prop) (A : Nat → Value → World → Prop) (D : List Tmp)
    (hm : P.follows .mixedOrders = true) (hp : PlainR ops a0.tmps.size) (hD : (List.range ops.size).map (dOf ops) = D.map some) (ht : ∀ a b c, R a b → R b c → R a c) (h0 : R w0 { w0 with drawn := w0.drawn + 1 }) (hA : ∀ j v w w', A j v w → R w w' → A j v w')
    (hop : ∀ (i : Nat) (o : Oper), ops[i]? = some o → ∀ a w, R w0 w → FitR ops a0 a → (∀ e ∈ o.after, Region.binds .any e = true → A e.on (dVal a (dOf ops e.on)) w) → o.wp P a w (fun a' w' => ∃ v, a' = a.put o.dst v ∧ R w w' ∧ A i v w') Q)
    (hend : ∀ X w, R w0 w → (∀ j, j < ops.size → A j (X j) w) → Q .normal (putAll D 0 X a0) w) : (Code.region id ops true).wp P Q a0 w0 := by
  refine wp_region_rely R A hm hp ht h0 hA hop fun a w hR hF hall => ?_
  have hk : ∀ k d, D[k]? = some d → dOf ops k = some d := fun k d h => by
    have h1 : (D.map some)[k]? = some (some d) := by rw [List.getElem?_map, h]; rfl
    rw [← hD, List.getElem?_map] at h1
    cases hr : (List.range ops.size)[k]? with
    | none => rw [hr] at h1; cases h1
    | some x =>
      have h2 := (List.getElem?_eq_some_iff.1 hr)
      obtain ⟨hl, he⟩ := h2
      rw [List.getElem_range] at he
      rw [hr, ← he] at h1
      simpa using h1
  have e := putAll_eq (a := a) D 0 (fun j => dVal a (dOf ops j)) a0 hF.defers.symm hF.size.symm (fun t ht' => (hF.out t fun j hj => ht' ?_).symm) (fun k d h => by rw [Nat.zero_add, hk k d h]; rfl)
  · rw [← e]
    exact hend _ w hR hall
  · have hjl := dOf_lt hj
    have : some t ∈ D.map some := by
      rw [← hD]
      exact List.mem_map.2 ⟨j, List.mem_range.2 hjl, hj⟩
    simpa using this
end Go.Proofs.Ytnfkgnjeamnhfab
