import Derived.Test.YtnfkgnjeamnhfaaGreatRe
namespace Go.Proofs.YtnfkgnjeamnhfaaGreat
open Go.RowKit

/-- append onto a row of the call's own, the arms apart: there is room, in the row itself; or there is a new row, and all else stays. -/
theorem run_append_armz {P : Program} (w : World) (base : Nat) (t ty e : TypeId) (i : TypeInfo) (z : Value) (sz bytes : Nat) (ht : P.underlying t = some (.slice e)) (hi : P.info? e = some i) (hz : i.zero = some z)
    (hsize : i.size = sz) (hby : i.bytes = bytes) (hzs : z.cells.size = sz)
    (v : Value) (n : Nat) (xs : List Value) (hown : w.ownsRow base e sz v n xs)
    (a : Addr) (m c : Nat) (news : List Value) (hl : news.length = m * sz) (hnews : ∀ j u, news[j]? = some u → w.cell? (a.add j) = some u) (h1 : ∀ u ∈ news, u.oneCell' = true)
    (hm : 0 < m) (h63 : n + m ≤ maxLen) (hbytes : (n + m) * bytes ≤ 140737488355328) (hbase : base ≤ w.heap.size) :
    ∃ g cap w', (Builtin.append_ #[t, t] ty #[v, .slice (some a) m c]).run P w = .ok (.slice (some ⟨g, 0, none⟩) (n + m) cap) w' ∧ w'.ownsRow base e sz (.slice (some ⟨g, 0, none⟩) (n + m) cap) (n + m) (xs ++ news) ∧ g < w'.heap.size ∧
      ((v = .slice (some ⟨g, 0, none⟩) n cap ∧ w.grownBy w' (some g)) ∨ (g = w.heap.size ∧ w.grownBy w' none)) := by
  subst hby
  have hsmall : n + m ≤ 9223372036854775807 := by simp only [maxLen] at h63; omega
  have hlen : (xs ++ news).length = (n + m) * sz := by rw [List.length_append, hown.1, hl, Nat.add_mul]
  have grown : ∀ (old : Nat), old < n + m →
      (w.drew.alloc (.cells (xs.toArray ++ news.toArray ++ Builtin.zeroCells z.cells (grownCap w (n + m) old e - (n + m))) e)).ownsRow base e sz
        (.slice (some ⟨w.heap.size, 0, none⟩) (n + m) (grownCap w (n + m) old e)) (n + m) (xs ++ news) ∧
      w.grownBy (w.drew.alloc (.cells (xs.toArray ++ news.toArray ++ Builtin.zeroCells z.cells (grownCap w (n + m) old e - (n + m))) e)) none := by
    intro old ho
    have hge := grownCap_ge w (n + m) old e
    have hcm : grownCap w (n + m) old e ≤ maxLen := grownCap_le_maxLen w (n + m) old e h63
    refine ⟨⟨hlen, .inr ⟨w.heap.size, _, _, rfl, hbase, heap_alloc_new w.drew _, hge, hcm, ?_, ?_⟩⟩, ⟨rfl, rfl, rfl, by simp, fun k hk _ => Below.heap_alloc w.drew _ k hk⟩⟩
    · simp only [Array.size_append, List.size_toArray, size_zeroCells, hzs, hown.1, hl, ← Nat.add_mul]
      rw [Nat.add_sub_cancel' hge]
    · simp only [Array.toList_append, List.append_assoc]
      rw [← List.append_assoc, ← hlen]
      exact List.take_left
  rcases hown.2 with ⟨rfl, rfl⟩ | ⟨g, cap, cur, rfl, hbg, hg, hnc, hcm, hcs, htake⟩
  · have hx : xs = [] := List.eq_nil_of_length_eq_zero (by simpa using hown.1)
    subst hx
    have hr := run_append_nil (P := P) w t ty e i z ht hi hz a m c news (by rw [hsize]; exact hl) hnews (by omega) (by omega) (by have hb := hbytes; simp only [Nat.zero_add] at hb; omega)
    have hgr := grown 0 (by omega)
    simp only [Nat.zero_add, List.nil_append, Array.empty_append] at hgr ⊢
    exact ⟨_, _, _, hr, hgr.1, by simp, .inr ⟨rfl, hgr.2⟩⟩
  · by_cases hroom : n + m ≤ cap
    · have hfit : n * i.size + news.length ≤ cur.size := by rw [hl, hcs, hsize, ← Nat.add_mul]; exact Nat.mul_le_mul_right _ hroom
      have hr := run_append_room (P := P) w t ty e i ht hi g n cap cur hg a m c news (by rw [hsize]; exact hl) hnews h1 hroom hfit
      have hgl : g < w.heap.size := (Array.getElem?_eq_some_iff.1 hg).1
      refine ⟨g, cap, _, hr, ⟨hlen, .inr ⟨g, cap, _, rfl, hbg, setRow_heap w g cur _ e _ hg, hroom, hcm, ?_, ?_⟩⟩, by simpa [World.setRow] using hgl, .inl ⟨rfl, ⟨rfl, rfl, rfl, by simp, fun k _ hk => setRow_other w g k _ (fun e => hk (by rw [e]))⟩⟩⟩
      · rw [hsize] at hfit ⊢
        simp only [List.size_toArray, List.length_append, List.length_take, List.length_drop, Array.length_toList]
        rw [hcs] at hfit ⊢
        omega
      · rw [hsize, htake, ← hlen]
        exact List.take_left
    · have holds : ∀ j u, xs[j]? = some u → w.cell? ((⟨g, 0, none⟩ : Addr).add j) = some u := hown.cells (g := g) rfl
      have hr := run_append_grow (P := P) w t ty e i z ht hi hz ⟨g, 0, none⟩ n cap xs (by rw [hsize]; exact hown.1) holds a m c news (by rw [hsize]; exact hl) hnews (by omega) (by omega) (growslice_fits (by omega) hbytes)
      have hgr := grown cap (by omega)
      exact ⟨_, _, _, hr, hgr.1, by simp, .inr ⟨rfl, hgr.2⟩⟩

theorem wpList_append_armz {P : Program} (w : World) {ops : Array Oper} {rest : List Oper} {o : Oper} {a : Act} {Q : Exit → Act → World → Prop} (hgd : o.guard = none) (s x : Operand) (t : TypeId)
    (ho : o.op = .call { callee := .builtin .append, args := #[s, x], argTypes := #[t, t] })
    (base : Nat) (e : TypeId) (i : TypeInfo) (z : Value) (sz bytes : Nat) (ht : P.underlying t = some (.slice e)) (hi : P.info? e = some i) (hz : i.zero = some z)
    (hsize : i.size = sz) (hby : i.bytes = bytes) (hzs : z.cells.size = sz)
    (v : Value) (n : Nat) (xs : List Value) (hs : a.eval s = v) (hown : w.ownsRow base e sz v n xs)
    (ad : Addr) (m c : Nat) (news : List Value) (hx : a.eval x = .slice (some ad) m c) (hl : news.length = m * sz) (hnews : ∀ j u, news[j]? = some u → w.cell? (ad.add j) = some u) (h1 : ∀ u ∈ news, u.oneCell' = true)
    (hm : 0 < m) (h63 : n + m ≤ maxLen) (hbytes : (n + m) * bytes ≤ 140737488355328) (hbase : base ≤ w.heap.size)
    (h : ∀ g cap w', w'.ownsRow base e sz (.slice (some ⟨g, 0, none⟩) (n + m) cap) (n + m) (xs ++ news) → g < w'.heap.size → ((v = .slice (some ⟨g, 0, none⟩) n cap ∧ w.grownBy w' (some g)) ∨ (g = w.heap.size ∧ w.grownBy w' none)) → wpList P ops Q rest (a.put o.dst (.slice (some ⟨g, 0, none⟩) (n + m) cap)) w') : wpList P ops Q (o :: rest) a w :=
  wpList_plain hgd fun _ hK => by
    obtain ⟨g, cap, w', hr, h2, h3, h4⟩ := run_append_armz (P := P) w base t o.type e i z sz bytes ht hi hz hsize hby hzs v n xs hown ad m c news hl hnews h1 hm h63 hbytes hbase
    unfold Oper.wp execOp
    simp only [ho, resolve, invoke, builtin, Sem.run_bind, Sem.run_pure, Result.andThen_ok, List.map_toArray, List.map_cons, List.map_nil, hs, hx, hr]
    exact hK _ _ (h g cap w' h2 h3 h4)

/-- n times some cells. -/
def rep (n : Nat) (pt : List Value) : List Value := (List.replicate n pt).flatten
theorem rep_len (n : Nat) (pt : List Value) : (rep n pt).length = n * pt.length := by
  unfold rep; induction n with
  | zero => simp
  | succ n ih => rw [List.replicate_succ, List.flatten_cons, List.length_append, ih]; rw [Nat.add_mul, Nat.one_mul, Nat.add_comm]
theorem rep_add (n m : Nat) (pt : List Value) : rep (n + m) pt = rep n pt ++ rep m pt := by
  unfold rep; rw [← List.replicate_append_replicate, List.flatten_append]
theorem rep_one (pt : List Value) : rep 1 pt = pt := by simp [rep]
theorem rep_take {n k : Nat} {pt : List Value} (h : k ≤ n) : (rep n pt).take (k * pt.length) = rep k pt := by
  obtain ⟨d, rfl⟩ : ∃ d, n = k + d := ⟨n - k, by omega⟩
  rw [rep_add, List.take_left' (rep_len k pt)]
/-- A list that is full of its mark. -/
def Mz (N : Nat) (ρ : Nat → Nat) (w : World) (r e : Nat) (pt : List Value) (v : Value) : Prop := ∃ n, OwnZ N ρ w r e pt.length v n (rep n pt)
theorem Mz.ev {R : Nat → Prop} {N : Nat} {ρ ρ' : Nat → Nat} {w w' : World} {r e : Nat} {pt : List Value} {v : Value} (h : Mz N ρ w r e pt v) (he : Ev R ρ w ρ' w') (hr : ¬ R r) (h14 : r ≠ 14) : Mz N ρ' w' r e pt v := by
  obtain ⟨n, h1⟩ := h
  exact ⟨n, h1.ev he hr h14⟩
theorem own_prefz {w : World} {base e sz g n c k : Nat} {xs : List Value} (h : w.ownsRow base e sz (.slice (some ⟨g, 0, none⟩) n c) n xs) (hk : k ≤ n) : w.ownsRow base e sz (.slice (some ⟨g, 0, none⟩) k c) k (xs.take (k * sz)) := by
  rcases h.2 with ⟨h', _⟩ | ⟨g', cap, cur, hv, hb, hg, hnc, hcm, hcs, ht⟩
  · cases h'
  · simp only [Value.slice.injEq, Option.some.injEq, Addr.mk.injEq, and_true, true_and] at hv
    obtain ⟨rfl, rfl⟩ := hv
    have hl := h.1
    have hks : k * sz ≤ n * sz := Nat.mul_le_mul_right _ hk
    refine ⟨by rw [List.length_take, hl, Nat.min_eq_left hks], .inr ⟨g, c, cur, rfl, hb, hg, by omega, hcm, hcs, ?_⟩⟩
    rw [← ht, List.take_take, Nat.min_eq_left hks]
/-- A list in the making (role 15): what was noted of it: a head of it, or a list apart. -/
def Ntd (N : Nat) (ρ : Nat → Nat) (w : World) (e : Nat) (pt : List Value) (l : Value) (p : Value) : Prop :=
  (∃ g n c k, l = .slice (some ⟨g, 0, none⟩) n c ∧ p = .slice (some ⟨g, 0, none⟩) k c ∧ k ≤ n) ∨ (Mz N ρ w 15 e pt p ∧ ∀ g, p.ownBlock = some g → l.ownBlock ≠ some g)
/-- A mark more behind the list. -/
theorem Ntd.more {N : Nat} {ρ : Nat → Nat} {w w' : World} {e : Nat} {pt : List Value} {l : Value} {n : Nat} {p : Value} {g cap : Nat} (h : Ntd N ρ w e pt l p) (hl : OwnZ N ρ w 15 e pt.length l n (rep n pt))
    (ha : (l = .slice (some ⟨g, 0, none⟩) n cap ∧ w.grownBy w' (some g)) ∨ (g = w.heap.size ∧ w.grownBy w' none)) : Ntd N (rl ρ g 15) w' e pt (.slice (some ⟨g, 0, none⟩) (n + 1) cap) p := by
  rcases ha with ⟨rfl, hg⟩ | ⟨rfl, hg⟩
  · rcases h with ⟨g1, n1, c1, k, h1, h2, h3⟩ | ⟨⟨k, h1⟩, h3⟩
    · simp only [Value.slice.injEq, Option.some.injEq, Addr.mk.injEq, and_true] at h1
      obtain ⟨rfl, rfl, rfl⟩ := h1
      exact .inl ⟨g, n + 1, cap, k, rfl, h2, by omega⟩
    · refine .inr ⟨⟨k, ⟨h1.1.kept hg ?_, fun g1 hg1 => ?_⟩⟩, fun g1 hg1 => ?_⟩
      · cases hp : p.ownBlock with
        | none => exact .inl rfl
        | some g1 => exact .inr (fun e => h3 g1 hp (by simp [Value.ownBlock]; simpa using e.symm))
      · by_cases e : g1 = g
        · subst e; exact rl_same _ _ _
        · rw [rl_ne e]; exact h1.2 g1 hg1
      · have := h3 g1 hg1; simpa [Value.ownBlock] using this
  · have hsep : ∀ k, k < w.heap.size → (Value.slice (some ⟨w.heap.size, 0, none⟩) (n + 1) cap).ownBlock ≠ some k := by
      intro k hk e; simp [Value.ownBlock] at e; omega
    rcases h with ⟨g1, n1, c1, k, h1, h2, h3⟩ | ⟨⟨k, h1⟩, h3⟩
    · subst h1
      have hlt := hl.1.lt g1 rfl
      have hρ := hl.2 g1 rfl
      have hn1 : n1 = n := by
        rcases hl.1.2 with ⟨h', _⟩ | ⟨g', cap', cur, hv, _⟩
        · cases h'
        · simp at hv; exact hv.2.1
      subst hn1
      refine .inr ⟨⟨k, ⟨?_, fun g2 hg2 => ?_⟩⟩, fun g2 hg2 => ?_⟩
      · rw [h2, ← rep_take h3]; exact (own_prefz hl.1 h3).kept hg (.inr (by simp [Value.ownBlock]))
      · rw [h2] at hg2; simp [Value.ownBlock] at hg2; subst hg2; rw [rl_ne (by omega)]; exact hρ
      · rw [h2] at hg2; simp [Value.ownBlock] at hg2; subst hg2; exact hsep _ hlt.2
    · refine .inr ⟨⟨k, ⟨h1.1.kept hg ?_, fun g1 hg1 => ?_⟩⟩, fun g1 hg1 => hsep g1 (h1.1.lt g1 hg1).2⟩
      · cases hp : p.ownBlock with
        | none => exact .inl rfl
        | some g1 => exact .inr (by simp)
      · have := (h1.1.lt g1 hg1).2
        rw [rl_ne (by omega)]; exact h1.2 g1 hg1
theorem Ntd.ev {R : Nat → Prop} {N : Nat} {ρ ρ' : Nat → Nat} {w w' : World} {e : Nat} {pt : List Value} {l p : Value} (h : Ntd N ρ w e pt l p) (he : Ev R ρ w ρ' w') (hr : ¬ R 15) : Ntd N ρ' w' e pt l p :=
  h.imp id fun h2 => ⟨h2.1.ev he hr (by decide), h2.2⟩
theorem Ntd.self {N : Nat} {ρ : Nat → Nat} {w : World} {e : Nat} {pt : List Value} {l : Value} {n : Nat} (hl : OwnZ N ρ w 15 e pt.length l n (rep n pt)) : Ntd N ρ w e pt l l := by
  rcases hl.1.2 with ⟨rfl, _⟩ | ⟨g, cap, cur, rfl, _⟩
  · exact .inr ⟨⟨0, OwnZ.nil _ _ _ _ _ _⟩, fun g hg => by simp [Value.ownBlock] at hg⟩
  · exact .inl ⟨g, n, cap, n, rfl, rfl, Nat.le_refl _⟩
/-- All that was noted is full of the mark. -/
theorem Ntd.mk {N : Nat} {ρ : Nat → Nat} {w : World} {e : Nat} {pt : List Value} {l : Value} {n : Nat} {p : Value} (h : Ntd N ρ w e pt l p) (hl : OwnZ N ρ w 15 e pt.length l n (rep n pt)) : Mz N ρ w 15 e pt p := by
  rcases h with ⟨g1, n1, c1, k, rfl, h2, h3⟩ | ⟨h1, _⟩
  · have hn1 : n1 = n := by
      rcases hl.1.2 with ⟨h', _⟩ | ⟨g', cap', cur, hv, _⟩
      · cases h'
      · simp at hv; exact hv.2.1
    subst hn1
    refine ⟨k, ⟨by rw [h2, ← rep_take h3]; exact own_prefz hl.1 h3, fun g2 hg2 => ?_⟩⟩
    rw [h2] at hg2; simp [Value.ownBlock] at hg2; subst hg2; exact hl.2 g1 rfl
  · exact h1
end Go.Proofs.YtnfkgnjeamnhfaaGreat
namespace Go.Proofs.YtnfkgnjeamnhfaaGreat
open Go.RowKit

/-! ### The book: three shelves of marked lists, one of changes that were handed in, and the hops. -/
abbrev patI (m : Int) : List Value := [.int .i64 m]
abbrev patR (m : Int) : List Value := [.int .i64 0, .int .u64 0, .int .u64 0, .int .i64 0, .int .i64 m]
abbrev patE (m : Int) : List Value := [.int .i64 0, .int .u64 0, .int .u64 0, .int .i64 m, .int .i64 0, .int .i64 0]
abbrev patC (m : Int) : List Value := [.int .i64 m, .int .i64 0, .int .u64 0, .int .u64 0, .int .i64 0, .int .i64 0]
/-- A shelf: lists, each full of its mark, and the marks. -/
structure Sh (N : Nat) (ρ : Nat → Nat) (w : World) (rV rM rL eS e : Nat) (pat : Int → List Value) (vV vM : Value) (L : List (Value × Int)) : Prop where
  oV : Own N ρ w rV eS vV L.length (L.map (·.1))
  oM : Own N ρ w rM 3 vM L.length (L.map fun p => .int .i64 p.2)
  mks : ∀ p ∈ L, Mz N ρ w rL e (pat p.2) p.1
theorem Sh.nil (N : Nat) (ρ : Nat → Nat) (w : World) (rV rM rL eS e : Nat) (pat : Int → List Value) : Sh N ρ w rV rM rL eS e pat nilS nilS [] := ⟨Own.nil _ _ _ _ _, Own.nil _ _ _ _ _, fun p hp => by cases hp⟩
theorem Sh.ev {R : Nat → Prop} {N : Nat} {ρ ρ' : Nat → Nat} {w w' : World} {rV rM rL eS e : Nat} {pat : Int → List Value} {vV vM : Value} {L : List (Value × Int)} (h : Sh N ρ w rV rM rL eS e pat vV vM L) (he : Ev R ρ w ρ' w') (h1 : ¬ R rV) (h2 : ¬ R rM) (h3 : ¬ R rL) (k1 : rV ≠ 14) (k2 : rM ≠ 14) (k3 : rL ≠ 14) : Sh N ρ' w' rV rM rL eS e pat vV vM L :=
  ⟨h.oV.ev he h1 k1, h.oM.ev he h2 k2, fun p hp => (h.mks p hp).ev he h3 k3⟩
structure Bo (N : Nat) (ρ : Nat → Nat) (w : World) (B : Nat) (mark : Int) (F : Nat → Value) (LI LR LE LC : List (Value × Int)) (K : List (Value × Value)) : Prop where
  rB : ρ B = 1
  st : St w B 11 F
  mark0 : F 0 = .int .i64 mark
  sI : Sh N ρ w 2 3 6 36 3 patI (F 1) (F 2) LI
  sR : Sh N ρ w 20 21 24 85 35 patR (F 3) (F 4) LR
  sE : Sh N ρ w 26 27 29 65 88 patE (F 5) (F 6) LE
  oH : Own N ρ w 4 36 (F 7) K.length (K.map (·.1))
  oU : Own N ρ w 5 36 (F 8) K.length (K.map (·.2))
  cts : ∀ p ∈ K, Ct N ρ w p.1 p.2
  sC : Sh N ρ w 22 23 25 37 152 patC (F 9) (F 10) LC
/-- The book's roles. -/
def bookR (r : Nat) : Prop := (1 ≤ r ∧ r ≤ 7) ∨ (20 ≤ r ∧ r ≤ 29)
theorem Bo.ev {R : Nat → Prop} {N : Nat} {ρ ρ' : Nat → Nat} {w w' : World} {B : Nat} {mark : Int} {F : Nat → Value} {LI LR LE LC : List (Value × Int)} {K : List (Value × Value)} (h : Bo N ρ w B mark F LI LR LE LC K) (he : Ev R ρ w ρ' w') (hr : ∀ r, bookR r → ¬ R r) : Bo N ρ' w' B mark F LI LR LE LC K := by
  have hlt := h.st.lt (by decide)
  have q : ∀ r, (1 ≤ r ∧ r ≤ 7) ∨ (20 ≤ r ∧ r ≤ 29) → ¬ R r := hr
  exact ⟨by rw [he.role B hlt (by rw [h.rB]; decide), h.rB], h.st.ev (by decide) he (by rw [h.rB]; exact q 1 (by omega)) (by rw [h.rB]; decide), h.mark0,
    h.sI.ev he (q 2 (by omega)) (q 3 (by omega)) (q 6 (by omega)) (by decide) (by decide) (by decide), h.sR.ev he (q 20 (by omega)) (q 21 (by omega)) (q 24 (by omega)) (by decide) (by decide) (by decide), h.sE.ev he (q 26 (by omega)) (q 27 (by omega)) (q 29 (by omega)) (by decide) (by decide) (by decide),
    h.oH.ev he (q 4 (by omega)) (by decide), h.oU.ev he (q 5 (by omega)) (by decide), fun p hp => (h.cts p hp).ev he (q 7 (by omega)), h.sC.ev he (q 22 (by omega)) (q 23 (by omega)) (q 25 (by omega)) (by decide) (by decide) (by decide)⟩

/-- The list in the making is done: its blocks are the shelf's now. -/
def doneZ (r : Nat) (ρ : Nat → Nat) : Nat → Nat := fun k => if ρ k = 15 then r else ρ k
theorem Own.dz {N : Nat} {ρ : Nat → Nat} {w : World} {r e : Nat} {v : Value} {n : Nat} {xs : List Value} (h : Own N ρ w r e v n xs) (rL : Nat) (hr : r ≠ 15) : Own N (doneZ rL ρ) w r e v n xs :=
  ⟨h.1, fun g hg => by have := h.2 g hg; simp [doneZ, this, hr]⟩
theorem Mz.dz {N : Nat} {ρ : Nat → Nat} {w : World} {r e : Nat} {pt : List Value} {v : Value} (h : Mz N ρ w r e pt v) (rL : Nat) (hr : r ≠ 15) : Mz N (doneZ rL ρ) w r e pt v := by
  obtain ⟨n, h1, h2⟩ := h
  exact ⟨n, h1, fun g hg => by have := h2 g hg; simp [doneZ, this, hr]⟩
theorem Mz.dz15 {N : Nat} {ρ : Nat → Nat} {w : World} {e : Nat} {pt : List Value} {v : Value} (h : Mz N ρ w 15 e pt v) (rL : Nat) : Mz N (doneZ rL ρ) w rL e pt v := by
  obtain ⟨n, h1, h2⟩ := h
  exact ⟨n, h1, fun g hg => by have := h2 g hg; simp [doneZ, this]⟩
theorem Sh.dz {N : Nat} {ρ : Nat → Nat} {w : World} {rV rM rL eS e : Nat} {pat : Int → List Value} {vV vM : Value} {L : List (Value × Int)} (h : Sh N ρ w rV rM rL eS e pat vV vM L) (r : Nat) (h1 : rV ≠ 15) (h2 : rM ≠ 15) (h3 : rL ≠ 15) : Sh N (doneZ r ρ) w rV rM rL eS e pat vV vM L :=
  ⟨h.oV.dz r h1, h.oM.dz r h2, fun p hp => (h.mks p hp).dz r h3⟩
theorem Ct.dz {N : Nat} {ρ : Nat → Nat} {w : World} {v u : Value} (h : Ct N ρ w v u) (r : Nat) : Ct N (doneZ r ρ) w v u := by
  obtain ⟨xs, h1, h2⟩ := h
  exact ⟨xs, h1.dz r (by decide), h2.dz r (by decide)⟩

/-- In the second loop of a keep, k lists noted. -/
structure Mi (N : Nat) (ρ : Nat → Nat) (w : World) (B : Nat) (m : Int) (rV rM eS e cV cM : Nat) (pt : List Value) (F0 : Nat → Value) (L : List (Value × Int)) (n0 : Nat) (l : Value) (k : Nat) (ρ' : Nat → Nat) (wr : World) (F : Nat → Value) (L' : List (Value × Int)) (n : Nat) : Prop where
  ev : Ev (fun q => q = 1 ∨ q = rV ∨ q = rM ∨ q = 15) ρ w ρ' wr
  fr : Fr ρ' wr
  rB : ρ' B = 1
  st : St wr B 11 F
  same : ∀ j, j ≠ cV → j ≠ cM → F j = F0 j
  oV : Own N ρ' wr rV eS (F cV) (L ++ L').length ((L ++ L').map (·.1))
  oM : Own N ρ' wr rM 3 (F cM) (L ++ L').length ((L ++ L').map fun p => .int .i64 p.2)
  len : L'.length = k
  nt : ∀ p ∈ L', p.2 = m ∧ Ntd N ρ' wr e pt l p.1
  ol : OwnZ N ρ' wr 15 e pt.length l n (rep n pt)
  le : n ≤ n0 + k
/-- Roles of a shelf. -/
def Rs (rV rM : Nat) : Prop := rV ≠ 1 ∧ rM ≠ 1 ∧ rV ≠ rM ∧ rV ≠ 14 ∧ rM ≠ 14 ∧ rV ≠ 15 ∧ rM ≠ 15
theorem mi_next {N : Nat} {ρ : Nat → Nat} {w : World} {B : Nat} {m : Int} {rV rM eS e cV cM : Nat} {pt : List Value} {F0 : Nat → Value} {L : List (Value × Int)} {n0 : Nat} {l : Value} {q : Nat} {ρ2 ρ3 ρ4 : Nat → Nat} {wr w3 w5 w5' w6 : World} {F F' : Nat → Value} {L2 : List (Value × Int)} {n : Nat} {z : Nat} {xI xM : List Value} {g cap : Nat}
    (hR : Rs rV rM) (hM : Mi N ρ w B m rV rM eS e cV cM pt F0 L n0 l q ρ2 wr F L2 n) (hrB3 : ρ3 B = 1) (hE3 : Ev (fun q => q = 1 ∨ q = rV) ρ2 wr ρ3 w3) (hE4 : Ev (fun q => q = 1 ∨ q = rM) ρ3 w3 ρ4 w5) (hF4 : Fr ρ4 w5) (hS5 : St w5 B 11 F') (hsame : ∀ j, j ≠ cV → j ≠ cM → F' j = F0 j) (hBl : B < wr.heap.size)
    (hz : z = (L ++ L2).length) (hxI : xI = (L ++ L2).map (·.1)) (hxM : xM = (L ++ L2).map fun p => Value.int .i64 p.2)
    (hO3 : Own N ρ3 w3 rV eS (F' cV) (z + 1) (xI ++ [l])) (hO4 : Own N ρ4 w5 rM 3 (F' cM) (z + 1) (xM ++ [.int .i64 m])) (hal : Below w5.heap.size w5 w5')
    (hown : w6.ownsRow N e pt.length (.slice (some ⟨g, 0, none⟩) (n + 1) cap) (n + 1) (rep n pt ++ pt)) (hgz : g < w6.heap.size)
    (harm : (l = .slice (some ⟨g, 0, none⟩) n cap ∧ w5'.grownBy w6 (some g)) ∨ (g = w5'.heap.size ∧ w5'.grownBy w6 none)) :
    Mi N ρ w B m rV rM eS e cV cM pt F0 L n0 (.slice (some ⟨g, 0, none⟩) (n + 1) cap) (q + 1) (rl ρ4 g 15) w6 F' (L2 ++ [(l, m)]) (n + 1) := by
  obtain ⟨r1, r2, r3, r4, r5, r6, r7⟩ := hR
  have hol5 : OwnZ N ρ4 w5' 15 e pt.length l n (rep n pt) := ((hM.ol.ev hE3 (by omega) (by decide)).ev hE4 (by omega) (by decide)).ev (Ev.of_below (R := fun _ => False) ρ4 hal) (by simp) (by decide)
  have hgρ : ρ4 g = 14 ∨ ρ4 g = 15 := by
    rcases harm with ⟨rfl, _⟩ | ⟨rfl, _⟩
    · exact .inr (hol5.2 g rfl)
    · exact .inl (hF4 _ hal.size)
  have eA : Ev (fun q => q = 15) ρ4 w5 (rl ρ4 g 15) w6 := by
    rcases harm with ⟨h1, h2⟩ | ⟨h1, h2⟩
    · exact (Ev.of_below ρ4 hal).trans (Ev.trans (Ev.of_grown ρ4 h2 (fun g' hg' => by cases hg'; exact hgρ)) (Ev.rl w6 15 hgρ))
    · exact (Ev.of_below ρ4 hal).trans (Ev.trans (Ev.of_grown ρ4 h2 (fun g' hg' => by cases hg')) (Ev.rl w6 15 hgρ))
  have hrB4 : ρ4 B = 1 := by rw [hE4.role B (Nat.lt_of_lt_of_le hBl hE3.size) (by rw [hrB3]; decide)]; exact hrB3
  have hgB : B ≠ g := by rintro rfl; rcases hgρ with h | h <;> rw [hrB4] at h <;> omega
  refine ⟨((hM.ev.trans (hE3.mono ?_)).trans (hE4.mono ?_)).trans (eA.mono ?_), ?_, ?_, ?_, hsame, ?_, ?_, ?_, ?_, ⟨?_, ?_⟩, ?_⟩
  · intro r h; rcases h with h | h; exact .inl h; exact .inr (.inl h)
  · intro r h; rcases h with h | h; exact .inl h; exact .inr (.inr (.inl h))
  · intro r h; exact .inr (.inr (.inr h))
  · exact Fr.rl (hF4.grow eA.size) hgz 15
  · rw [rl_ne hgB]; exact hrB4
  · exact hS5.ev (by decide) eA (by rw [hrB4]; decide) (by rw [hrB4]; decide)
  · have := (hO3.ev hE4 (by omega) r4).ev eA r6 r4
    rw [hz, hxI] at this
    simpa [← List.append_assoc, Nat.add_assoc] using this
  · have := hO4.ev eA r7 r5
    rw [hz, hxM] at this
    simpa [← List.append_assoc, Nat.add_assoc] using this
  · simp [hM.len]
  · intro p hp
    rcases List.mem_append.1 hp with hp | hp
    · exact ⟨(hM.nt p hp).1, Ntd.more (((((hM.nt p hp).2.ev hE3 (by omega)).ev hE4 (by omega)).ev (Ev.of_below (R := fun _ => False) ρ4 hal) (by simp))) hol5 harm⟩
    · obtain rfl : p = (l, m) := by simpa using hp
      exact ⟨rfl, Ntd.more (Ntd.self hol5) hol5 harm⟩
  · rw [rep_add, rep_one]; exact hown
  · intro g' hg'; simp [Value.ownBlock] at hg'; subst hg'; exact rl_same _ _ _
  · have := hM.le; omega
/-- The shelf behind a keep. -/
theorem mi_done {N : Nat} {ρ : Nat → Nat} {w : World} {B : Nat} {m : Int} {rV rM rL eS e cV cM : Nat} {pat : Int → List Value} {F0 : Nat → Value} {vV vM : Value} {L : List (Value × Int)} {n0 : Nat} {l : Value} {ρ2 : Nat → Nat} {wr : World} {F : Nat → Value} {L2 : List (Value × Int)} {n : Nat}
    (hR : Rs rV rM) (hL : rL ≠ rV ∧ rL ≠ rM ∧ rL ≠ 1 ∧ rL ≠ 14 ∧ rL ≠ 15) (hs : Sh N ρ w rV rM rL eS e pat vV vM L) (h15 : ∀ k, ρ k ≠ 15) (hM : Mi N ρ w B m rV rM eS e cV cM (pat m) F0 L n0 l 4 ρ2 wr F L2 n) :
    Sh N (doneZ rL ρ2) wr rV rM rL eS e pat (F cV) (F cM) (L ++ L2) ∧ Fr (doneZ rL ρ2) wr ∧ (∀ k, doneZ rL ρ2 k ≠ 15) ∧ doneZ rL ρ2 B = 1 ∧ Ev (fun q => q = 1 ∨ q = rV ∨ q = rM) ρ w (doneZ rL ρ2) wr ∧ Ev (fun q => q = 1 ∨ q = rV ∨ q = rM) ρ w ρ2 wr := by
  obtain ⟨r1, r2, r3, r4, r5, r6, r7⟩ := hR
  have hev : Ev (fun q => q = 1 ∨ q = rV ∨ q = rM) ρ w ρ2 wr := Ev.drop15 (hM.ev.mono (fun r h => by rcases h with h | h | h | h; exact .inl (.inl h); exact .inl (.inr (.inl h)); exact .inl (.inr (.inr h)); exact .inr h)) h15
  refine ⟨⟨hM.oV.dz rL r6, hM.oM.dz rL r7, fun p hp => ?_⟩, ?_, ?_, ?_, ?_, hev⟩
  · rcases List.mem_append.1 hp with hp | hp
    · exact ((hs.mks p hp).ev hev (by omega) hL.2.2.2.1).dz rL hL.2.2.2.2
    · rw [(hM.nt p hp).1]
      exact ((hM.nt p hp).2.mk hM.ol).dz15 rL
  · intro k hk; simp [doneZ, hM.fr k hk]
  · intro k; unfold doneZ; split
    · exact hL.2.2.2.2
    · assumption
  · simp [doneZ, hM.rB]
  · refine ⟨hev.os, hev.tape, hev.output, hev.size, fun k hk h14 => ?_, hev.block⟩
    have := hev.role k hk h14
    unfold doneZ
    rw [this, if_neg (h15 k)]
end Go.Proofs.YtnfkgnjeamnhfaaGreat
