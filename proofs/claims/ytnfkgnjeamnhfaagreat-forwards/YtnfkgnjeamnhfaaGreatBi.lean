import Derived.Test.YtnfkgnjeamnhfaaGreatBg
import Derived.Test.YtnfkgnjeamnhfaaGreatBe
import Derived.Test.YtnfkgnjeamnhfaaGreatRv
namespace Go.Proofs.YtnfkgnjeamnhfaaGreat
open Go.RowKit

/-! ### copy of elements of several cells, as many as there are. -/
theorem run_copy_rowz {P : Program} (w : World) (dT sT ty elem : TypeId) (g o dLen dCap : Nat) (a : Addr) (sLen sCap sz : Nat) (cur : Array Value) (t : TypeId) (cs : List Value)
    (hu : P.underlying dT = some (.slice elem)) (hs : (P.info? elem).map (·.size) = some sz) (hg : w.heap[g]? = some (.cells cur t (0, 0))) (hn : cs.length = Nat.min sLen dLen * sz)
    (hsrc : ∀ j v, cs[j]? = some v → w.cell? (a.add j) = some v) (hfit : o + cs.length ≤ cur.size) (h1 : ∀ v ∈ cs, v.oneCell' = true) :
    (Builtin.copy_ #[dT, sT] ty #[.slice (some ⟨g, o, none⟩) dLen dCap, .slice (some a) sLen sCap]).run P w = .ok (goInt (Nat.min sLen dLen)) (w.setRow g (cur.toList.take o ++ (cs ++ cur.toList.drop (o + cs.length))).toArray) := by
  have hl := run_loadCells_list (P := P) w a cs hsrc
  have hst := run_storeCells_at (P := P) g o t cs 0 cur w hg (by simpa using hfit) h1
  cases hq : P.info? elem with
  | none => simp [hq] at hs
  | some i =>
    have hi : i.size = sz := by simpa [hq] using hs
    simp [Builtin.copy_, run_underlying hu, Builtin.lenOf, Builtin.firstCells, sizeOf, typeInfo, hq, hi, ← hn, hl, hst]
theorem run_copy_nonz {P : Program} (w : World) (dT sT ty elem : TypeId) (d a : Option Addr) (dLen dCap sCap sz : Nat) (hu : P.underlying dT = some (.slice elem)) (hs : (P.info? elem).map (·.size) = some sz) :
    (Builtin.copy_ #[dT, sT] ty #[.slice d dLen dCap, .slice a 0 sCap]).run P w = .ok (goInt 0) w := by
  cases hq : P.info? elem with
  | none => simp [hq] at hs
  | some i =>
    have hl : ∀ (x : Addr), (loadCells x 0).run P w = .ok #[] w := fun x => by simpa using run_loadCells_list (P := P) w x [] (by simp)
    cases d <;> cases a <;> simp [Builtin.copy_, run_underlying hu, Builtin.lenOf, Builtin.firstCells, sizeOf, typeInfo, hq, storeCells, hl]
theorem wpList_copy_rowz {P : Program} {w : World} {ops : Array Oper} {rest : List Oper} {o : Oper} {a : Act} {Q : Exit → Act → World → Prop} (hgd : o.guard = none) (d s : Operand) (dT sT : TypeId)
    (ho : o.op = .call { callee := .builtin .copy, args := #[d, s], argTypes := #[dT, sT] }) (elem : TypeId) (sz : Nat) (hu : P.underlying dT = some (.slice elem)) (hsz : (P.info? elem).map (·.size) = some sz)
    (g dLen dCap : Nat) (sp : Option Addr) (sLen sCap : Nat) (hd : a.eval d = .slice (some ⟨g, 0, none⟩) dLen dCap) (hs : a.eval s = .slice sp sLen sCap) (hle : sLen ≤ dLen)
    (cur : List Value) (t : TypeId) (hg : w.heap[g]? = some (.cells cur.toArray t (0, 0))) (cs : List Value) (hn : cs.length = sLen * sz)
    (hsp : 0 < sLen → ∃ ad, sp = some ad ∧ ∀ j v, cs[j]? = some v → w.cell? (ad.add j) = some v) (hfit : cs.length ≤ cur.length) (h1 : ∀ v ∈ cs, v.oneCell' = true) (B : Nat) (w0 : World) (hb : Below B w0 w) (hBg : B ≤ g)
    (h : ∀ w', Hid (w'.heap[g]? = some (.cells (cs ++ cur.drop cs.length).toArray t (0, 0))) → Below B w0 w' → wpList P ops Q rest (a.put o.dst (goInt sLen)) w') :
    wpList P ops Q (o :: rest) a w := by
  refine wpList_plain hgd fun K hK => ?_
  rcases Nat.eq_zero_or_pos sLen with h0 | h0
  · subst h0
    obtain rfl : cs = [] := List.eq_nil_of_length_eq_zero (by simpa using hn)
    have hrun := run_copy_nonz (P := P) w dT sT o.type elem (some ⟨g, 0, none⟩) sp dLen dCap sCap sz hu hsz
    unfold Oper.wp
    simp [execOp, ho, resolve, invoke, builtin, hd, hs, hrun, Result.andThen]
    exact hK _ _ (h w (show _ = _ by simpa using hg) hb)
  · obtain ⟨ad, rfl, hsrc⟩ := hsp h0
    have hmin : Nat.min sLen dLen = sLen := Nat.min_eq_left hle
    have hrun := run_copy_rowz (P := P) w dT sT o.type elem g 0 dLen dCap ad sLen sCap sz cur.toArray t cs hu hsz hg (by rw [hmin]; exact hn) hsrc (by simpa using hfit) h1
    rw [hmin] at hrun
    unfold Oper.wp
    simp only [ho, execOp, resolve, invoke, builtin, Sem.run_bind, Sem.run_pure, Result.andThen_ok, List.map_toArray, List.map_cons, List.map_nil, hd, hs, hrun]
    exact hK _ _ (h _ (show _ = _ by simpa using setRow_heap w g _ _ t _ hg) (below_setRow hb hBg _))

/-! ### Rows of changes. -/
abbrev cc (c : Ch) : List Value := [.int .i64 c.k, .int .i64 c.r.f, .int .u64 c.r.hi, .int .u64 c.r.lo, .int .i64 c.r.n, .int .i64 c.r.g]
def flatC (cs : List Ch) : List Value := cs.flatMap cc
theorem flatC_cons (c : Ch) (cs : List Ch) : flatC (c :: cs) = cc c ++ flatC cs := rfl
theorem flatC_append (a b : List Ch) : flatC (a ++ b) = flatC a ++ flatC b := by simp [flatC]
theorem flatC_len (cs : List Ch) : (flatC cs).length = cs.length * 6 := by
  induction cs with
  | nil => rfl
  | cons c cs ih => rw [flatC_cons, List.length_append, ih]; simp; omega
theorem cc_one (c : Ch) : ∀ u ∈ cc c, u.oneCell' = true := by
  intro u hu
  simp only [cc, List.mem_cons, List.not_mem_nil, or_false] at hu
  rcases hu with rfl | rfl | rfl | rfl | rfl | rfl <;> rfl
theorem flatC_one (cs : List Ch) : ∀ u ∈ flatC cs, u.oneCell' = true := by
  intro u hu
  obtain ⟨c, _, h⟩ := List.mem_flatMap.1 hu
  exact cc_one c u h
theorem flatC_get {cs : List Ch} {k : Nat} {c : Ch} (h : cs[k]? = some c) {i : Nat} (hi : i < 6) : (flatC cs)[k * 6 + i]? = (cc c)[i]? := by
  induction cs generalizing k with
  | nil => simp at h
  | cons a cs ih =>
    rw [flatC_cons]
    cases k with
    | zero =>
      simp at h; subst h
      rw [Nat.zero_mul, Nat.zero_add, List.getElem?_append_left (by simpa using hi)]
    | succ k =>
      simp at h
      rw [List.getElem?_append_right (by simp; omega)]
      have : (k + 1) * 6 + i - (cc a).length = k * 6 + i := by simp; omega
      rw [this]
      exact ih h
theorem RdC.news {w : World} {b off n : Nat} {cs : List Ch} (h : ∀ j c, cs[j]? = some c → ChAt w b (off + j * 6) c) (_hn : cs.length = n) : ∀ j u, (flatC cs)[j]? = some u → w.cell? ((⟨b, off, none⟩ : Addr).add j) = some u := by
  intro j u hu
  rw [Lib.add_plain]
  have hj := (List.getElem?_eq_some_iff.1 hu).1
  rw [flatC_len] at hj
  have hk : j / 6 < cs.length := by omega
  obtain ⟨c, hc⟩ : ∃ c, cs[j / 6]? = some c := ⟨_, List.getElem?_eq_getElem hk⟩
  have hi : j % 6 < 6 := Nat.mod_lt _ (by decide)
  have e : j = j / 6 * 6 + j % 6 := by omega
  rw [e, flatC_get hc hi] at hu
  have ha := h _ c hc
  rw [e, ← Nat.add_assoc]
  generalize j % 6 = i at hi hu
  rcases i with _ | _ | _ | _ | _ | _ | i
  · simp at hu; subst hu; exact ha.ck
  · simp at hu; subst hu; exact ha.c0
  · simp at hu; subst hu; exact ha.c1
  · simp at hu; subst hu; exact ha.c2
  · simp at hu; subst hu; exact ha.c3
  · simp at hu; subst hu; exact ha.c4
  · omega
/-- A row of changes of the call's own. -/
abbrev RwC (w : World) (N : Nat) (v : Value) (cs : List Ch) : Prop := w.ownsRow N 152 6 v cs.length (flatC cs)
theorem RwC.at {w : World} {N g n cap : Nat} {cs : List Ch} (h : RwC w N (.slice (some ⟨g, 0, none⟩) n cap) cs) {k : Nat} {c : Ch} (hk : cs[k]? = some c) : ChAt w g (k * 6) c ∧ (∀ j, w.frozen? ⟨g, j, none⟩ = false) ∧ g < w.heap.size := by
  have hlt := (List.getElem?_eq_some_iff.1 hk).1
  obtain ⟨g', cap', e, hN, hg⟩ := World.ownsRow.form h (by omega)
  obtain ⟨e1, e2, e3⟩ : g = g' ∧ n = cs.length ∧ cap = cap' := by simpa using e
  subst e1 e2 e3
  have hc : ∀ i, i < 6 → w.cell? ⟨g, k * 6 + i, none⟩ = (cc c)[i]? := fun i hi => by
    rw [World.ownsRow.cellAt h _ (by omega), flatC_get hk hi]
  exact ⟨⟨hc 0 (by decide), hc 1 (by decide), hc 2 (by decide), hc 3 (by decide), hc 4 (by decide), hc 5 (by decide)⟩, World.ownsRow.frozenAt h, hg⟩
theorem flatC_set {cs : List Ch} {k : Nat} (c : Ch) (hk : k < cs.length) :
    ((((((flatC cs).set (k * 6) (.int .i64 c.k)).set (k * 6 + 1) (.int .i64 c.r.f)).set (k * 6 + 2) (.int .u64 c.r.hi)).set (k * 6 + 3) (.int .u64 c.r.lo)).set (k * 6 + 4) (.int .i64 c.r.n)).set (k * 6 + 5) (.int .i64 c.r.g) = flatC (cs.set k c) := by
  have h0 : flatC cs = flatC (cs.take k) ++ (cc cs[k] ++ flatC (cs.drop (k + 1))) := by
    conv => lhs; rw [← List.take_append_drop k cs, List.drop_eq_getElem_cons hk, flatC_append, flatC_cons]
  have h1 : flatC (cs.set k c) = flatC (cs.take k) ++ (cc c ++ flatC (cs.drop (k + 1))) := by
    rw [List.set_eq_take_append_cons_drop, if_pos hk, flatC_append, flatC_cons]
  rw [h0, h1]
  have hl : (flatC (cs.take k)).length = k * 6 := by rw [flatC_len, List.length_take]; omega
  generalize flatC (cs.take k) = A at hl ⊢
  simp only [cc, List.cons_append, List.nil_append]
  rw [← hl]
  simp [List.set_append_right]
theorem RwC.set {w : World} {N g n cap : Nat} {cs : List Ch} (h : RwC w N (.slice (some ⟨g, 0, none⟩) n cap) cs) {k : Nat} (hk : k < cs.length) (c : Ch) :
    RwC ((((((w.setCell ⟨g, k * 6, none⟩ (.int .i64 c.k)).setCell ⟨g, k * 6 + 1, none⟩ (.int .i64 c.r.f)).setCell ⟨g, k * 6 + 2, none⟩ (.int .u64 c.r.hi)).setCell ⟨g, k * 6 + 3, none⟩ (.int .u64 c.r.lo)).setCell ⟨g, k * 6 + 4, none⟩ (.int .i64 c.r.n)).setCell ⟨g, k * 6 + 5, none⟩ (.int .i64 c.r.g)) N (.slice (some ⟨g, 0, none⟩) n cap) (cs.set k c) := by
  obtain ⟨g', cap', e, -⟩ := World.ownsRow.form h (by omega)
  obtain ⟨e1, e2, e3⟩ : g = g' ∧ n = cs.length ∧ cap = cap' := by simpa using e
  subst e1 e2 e3
  have h1 := ((((((h.stored (k * 6) (.int .i64 c.k)).1.stored (k * 6 + 1) (.int .i64 c.r.f)).1.stored (k * 6 + 2) (.int .u64 c.r.hi)).1.stored (k * 6 + 3) (.int .u64 c.r.lo)).1.stored (k * 6 + 4) (.int .i64 c.r.n)).1.stored (k * 6 + 5) (.int .i64 c.r.g)).1
  rw [flatC_set c hk] at h1
  rw [RwC, List.length_set]
  exact h1
end Go.Proofs.YtnfkgnjeamnhfaaGreat
namespace Go.Proofs.YtnfkgnjeamnhfaaGreat
open Go.RowKit

/-- A change that is marked. -/
def mkCh (m : Int) : Ch := ⟨m, ⟨0, 0, 0, 0, 0⟩⟩
theorem cc_mk (m : Int) : cc (mkCh m) = patC m := rfl
theorem flatC_rep (n : Nat) (c : Ch) : flatC (List.replicate n c) = rep n (cc c) := by
  unfold flatC rep
  induction n with
  | zero => rfl
  | succ n ih => rw [List.replicate_succ, List.flatMap_cons, ih, List.replicate_succ, List.flatten_cons]
theorem info44m : (Tryz.prog.info? 152).map (fun i => (i.size, i.bytes, i.zero)) = some (6, 48, some (.agg #[.int .i64 0, .int .i64 0, .int .u64 0, .int .u64 0, .int .i64 0, .int .i64 0])) := by kernel_rfl
theorem info44 : ∃ i, Tryz.prog.info? 152 = some i ∧ i.zero = some (.agg #[.int .i64 0, .int .i64 0, .int .u64 0, .int .u64 0, .int .i64 0, .int .i64 0]) ∧ i.size = 6 ∧ i.bytes = 48 := by
  obtain ⟨i, hi, he⟩ := Option.map_eq_some_iff.1 info44m
  simp only [Prod.mk.injEq] at he
  exact ⟨i, hi, he.2.2, he.1, he.2.1⟩
theorem info44s : (Tryz.prog.info? 152).map (·.size) = some 6 := by kernel_rfl
theorem own_fullz {w : World} {base e sz g n : Nat} {xs : List Value} (h : w.ownsRow base e sz (.slice (some ⟨g, 0, none⟩) n n) n xs) : w.heap[g]? = some (.cells xs.toArray e (0, 0)) ∧ base ≤ g := by
  rcases h.2 with ⟨h', _⟩ | ⟨g', cap, cur, hv, hb, hg, hnc, hcm, hcs, ht⟩
  · cases h'
  · simp only [Value.slice.injEq, Option.some.injEq, Addr.mk.injEq, and_true, true_and] at hv
    obtain ⟨rfl, rfl⟩ := hv
    rw [List.take_of_length_le (by simp; omega)] at ht
    refine ⟨?_, hb⟩
    rw [hg, ← ht]
theorem full_ownz {w : World} {base e sz g n : Nat} {xs : List Value} (h : w.heap[g]? = some (.cells xs.toArray e (0, 0))) (hb : base ≤ g) (hl : xs.length = n * sz) (hm : n ≤ maxLen) : w.ownsRow base e sz (.slice (some ⟨g, 0, none⟩) n n) n xs :=
  ⟨hl, .inr ⟨g, n, xs.toArray, rfl, hb, h, Nat.le_refl _, hm, by simp [hl], by rw [← hl]; exact List.take_of_length_le (by simp)⟩⟩
theorem six {l : List Value} (h : l.length = 6) : ∃ a b c d e f, l = [a, b, c, d, e, f] := by
  match l, h with
  | [a, b, c, d, e, f], _ => exact ⟨a, b, c, d, e, f, rfl⟩
theorem below_set6 {B : Nat} {w w1 : World} {g o : Nat} (h : Below B w w1) (hb : B ≤ g) (a b c d e f : Value) : Below B w ((((((w1.setCell ⟨g, o, none⟩ a).setCell ⟨g, o + 1, none⟩ b).setCell ⟨g, o + 2, none⟩ c).setCell ⟨g, o + 3, none⟩ d).setCell ⟨g, o + 4, none⟩ e).setCell ⟨g, o + 5, none⟩ f) :=
  below_set (below_set (below_set (below_set (below_set (below_set h hb a) hb b) hb c) hb d) hb e) hb f
theorem set_six {A : List Value} {o : Nat} (h : A.length = o) (a b c d e f a' b' c' d' e' f' : Value) :
    ((((((A ++ [a, b, c, d, e, f]).set o a').set (o + 1) b').set (o + 2) c').set (o + 3) d').set (o + 4) e').set (o + 5) f' = A ++ [a', b', c', d', e', f'] := by
  subst h; simp [List.set_append_right]

set_option maxHeartbeats 2000000 in
theorem handC_any (ao : Option Addr) (n cap : Nat) (cs : List Ch) (w : World) (hr : RdC w ao n cs) (hm : n ≤ 2932031007317) :
    Calls Tryz.prog 55 #[.slice ao n cap] w fun e w' => e = .returned (.slice (some ⟨w.heap.size, 0, none⟩) (n + 1) (n + 1)) ∧ RwC w' w.heap.size (.slice (some ⟨w.heap.size, 0, none⟩) (n + 1) (n + 1)) (cs ++ [mkCh (-7)]) ∧ Below w.heap.size w w' := by
  obtain ⟨i0, hi, hz0, hz1, hz2⟩ := info44
  have HR := Lib.hid hr
  have HL := Lib.hid hr.1
  clear hr
  go_enter Tryz.func55, Tryz.ntmps55
  go_wp2_with (at_make; refine wpList_make_full _ rfl _ _ 37 rfl w.heap.size 152 i0 _ 6 Tryz.underlying37 hi hz0 hz1 .i64 .i64 _ _ (n + 1) rfl rfl ?c1 ?c2 ?c3 ?c4 ?c5 ?_)
  case c1 => go_simp
  case c2 => go_simp
  case c3 => rw [hz2]; omega
  case c4 => unfold maxLen; omega
  case c5 => exact Nat.le_refl _
  intro w1 hown hgrow
  have HG := Lib.hid (own_fullz hown).1
  have hXl := hown.1
  have HB := Lib.hid (below_of_grown hgrow)
  have hz : w.heap.size < w1.heap.size := (Array.getElem?_eq_some_iff.1 (own_fullz hown).1).1
  obtain ⟨X, hX⟩ : ∃ X, X = (madeCells #[Value.int .i64 0, .int .i64 0, .int .u64 0, .int .u64 0, .int .i64 0, .int .i64 0] ((n + 1) * 6)).toList := ⟨_, rfl⟩
  rw [← hX] at HG hXl
  clear hown hgrow hX
  go_wp2_with (refine wpList_copy_rowz rfl _ _ 37 37 rfl 152 6 Tryz.underlying37 info44s w.heap.size _ _ _ _ _ rfl rfl ?c0 X 152 HG.out (flatC cs) ?c1 ?c2 ?c3 (flatC_one cs) w.heap.size w HB.out (Nat.le_refl _) ?_)
  case c0 => omega
  case c1 => rw [flatC_len, HL.out]
  case c2 =>
    intro hp
    rcases HR.out.2 with h0 | ⟨b, off, rfl, hlt, hc⟩
    · omega
    · exact ⟨_, rfl, RdC.news (fun j c hj => (hc j c hj).same (HB.out.block b hlt)) HL.out⟩
  case c3 => rw [flatC_len, HL.out, hXl]; omega
  intro w2 HG2 hb2
  obtain ⟨a0, a1, a2, a3, a4, a5, hrest⟩ := six (l := X.drop (flatC cs).length) (by rw [List.length_drop, flatC_len, HL.out, hXl]; omega)
  rw [hrest] at HG2
  have hAl : (flatC cs).length = n * 6 := by rw [flatC_len, HL.out]
  have HO := Lib.hid (full_ownz (base := w.heap.size) (sz := 6) (n := n + 1) HG2.out (Nat.le_refl _) (by rw [List.length_append, hAl]; simp; omega) (by unfold maxLen; omega))
  have hce : ∀ i, i < 6 → w2.cell? ⟨w.heap.size, n * 6 + i, none⟩ = [a0, a1, a2, a3, a4, a5][i]? := fun i hi => by
    rw [HO.out.cellAt _ (by omega), List.getElem?_append_right (by omega), hAl, Nat.add_sub_cancel_left]
  have e0 : w2.cell? ⟨w.heap.size, n * 6, none⟩ = some a0 := hce 0 (by decide)
  have e1 : w2.cell? ⟨w.heap.size, n * 6 + 1, none⟩ = some a1 := hce 1 (by decide)
  have e2 : w2.cell? ⟨w.heap.size, n * 6 + 2, none⟩ = some a2 := hce 2 (by decide)
  have e3 : w2.cell? ⟨w.heap.size, n * 6 + 3, none⟩ = some a3 := hce 3 (by decide)
  have e4 : w2.cell? ⟨w.heap.size, n * 6 + 4, none⟩ = some a4 := hce 4 (by decide)
  have e5 : w2.cell? ⟨w.heap.size, n * 6 + 5, none⟩ = some a5 := hce 5 (by decide)
  have f0 := HO.out.frozenAt (n * 6)
  have f1 := HO.out.frozenAt (n * 6 + 1)
  have f2 := HO.out.frozenAt (n * 6 + 2)
  have f3 := HO.out.frozenAt (n * 6 + 3)
  have f4 := HO.out.frozenAt (n * 6 + 4)
  have f5 := HO.out.frozenAt (n * 6 + 5)
  have HB2 := Lib.hid hb2
  have HAl := Lib.hid hAl
  have q : (n : Int) < (n : Int) + 1 := by omega
  clear hb2 HG HB hce hrest hXl hAl HG2
  go_wp2
  go_ret
  refine ⟨rfl, ?_, below_set6 HB2.out (Nat.le_refl _) _ _ _ _ _ _⟩
  have h1 := ((((((HO.out.stored (n * 6) (.int .i64 (-7))).1.stored (n * 6 + 1) (.int .i64 0)).1.stored (n * 6 + 2) (.int .u64 0)).1.stored (n * 6 + 3) (.int .u64 0)).1.stored (n * 6 + 4) (.int .i64 0)).1.stored (n * 6 + 5) (.int .i64 0)).1
  rw [set_six HAl.out] at h1
  unfold RwC
  rw [List.length_append, HL.out, flatC_append]
  exact h1
end Go.Proofs.YtnfkgnjeamnhfaaGreat
