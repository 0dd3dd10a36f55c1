import Derived.Test.YteocfjiijmdjcaaGreatGg
namespace Go.Proofs.YteocfjiijmdjcaaGreat
open Go.RowKit

/-- append onto a row of the call's own, the arms apart: there is room, in the row itself; or there is a new row, and all else stays. -/
theorem run_append_arms {P : Program} (w : World) (base : Nat) (t ty e : TypeId) (i : TypeInfo) (z : Value) (bytes : Nat) (ht : P.underlying t = some (.slice e)) (hi : P.info? e = some i) (hz : i.zero = some z)
    (hsize : i.size = 1) (hby : i.bytes = bytes) (hzs : z.cells.size = 1)
    (v : Value) (n : Nat) (xs : List Value) (hown : w.ownsRow base e 1 v n xs)
    (a : Addr) (m c : Nat) (news : List Value) (hl : news.length = m * 1) (hnews : ∀ j u, news[j]? = some u → w.cell? (a.add j) = some u) (h1 : ∀ u ∈ news, u.oneCell' = true)
    (hm : 0 < m) (h63 : n + m ≤ maxLen) (hbytes : (n + m) * bytes ≤ 140737488355328) (hbase : base ≤ w.heap.size) :
    ∃ g cap w', (Builtin.append_ #[t, t] ty #[v, .slice (some a) m c]).run P w = .ok (.slice (some ⟨g, 0, none⟩) (n + m) cap) w' ∧ w'.ownsRow base e 1 (.slice (some ⟨g, 0, none⟩) (n + m) cap) (n + m) (xs ++ news) ∧ g < w'.heap.size ∧
      ((v = .slice (some ⟨g, 0, none⟩) n cap ∧ w.grownBy w' (some g)) ∨ (g = w.heap.size ∧ w.grownBy w' none)) := by
  subst hby
  have hsmall : n + m ≤ 9223372036854775807 := by simp only [maxLen] at h63; omega
  have hlen : (xs ++ news).length = (n + m) * 1 := by rw [List.length_append, hown.1, hl, Nat.add_mul]
  have grown : ∀ (old : Nat), old < n + m →
      (w.drew.alloc (.cells (xs.toArray ++ news.toArray ++ Builtin.zeroCells z.cells (grownCap w (n + m) old e - (n + m))) e)).ownsRow base e 1
        (.slice (some ⟨w.heap.size, 0, none⟩) (n + m) (grownCap w (n + m) old e)) (n + m) (xs ++ news) ∧
      w.grownBy (w.drew.alloc (.cells (xs.toArray ++ news.toArray ++ Builtin.zeroCells z.cells (grownCap w (n + m) old e - (n + m))) e)) none := by
    intro old ho
    have hge := grownCap_ge w (n + m) old e
    have hcm : grownCap w (n + m) old e ≤ maxLen := grownCap_le_maxLen w (n + m) old e h63
    refine ⟨⟨hlen, .inr ⟨w.heap.size, _, _, rfl, hbase, heap_alloc_new w.drew _, hge, hcm, ?_, ?_⟩⟩, ⟨rfl, rfl, rfl, by simp, fun k hk _ => Below.heap_alloc w.drew _ k hk⟩⟩
    · simp only [Array.size_append, List.size_toArray, size_zeroCells, hzs, hown.1, hl, ← Nat.add_mul]
      omega
    · simp only [Array.toList_append, List.append_assoc]
      rw [← List.append_assoc, ← hlen]
      exact List.take_left
  rcases hown.2 with ⟨rfl, rfl⟩ | ⟨g, cap, cur, rfl, hbg, hg, hnc, hcm, hcs, htake⟩
  · have hx : xs = [] := List.eq_nil_of_length_eq_zero (by simpa using hown.1)
    subst hx
    have hr := run_append_nil (P := P) w t ty e i z ht hi hz a m c news (by rw [hsize]; exact hl) hnews (by omega) (by omega) (by have hb := hbytes; simp only [Nat.zero_add] at hb; omega)
    have hgr := grown 0 (by omega)
    simp only [Nat.zero_add, List.nil_append, Array.empty_append] at hgr ⊢
    exact ⟨_, _, _, hr, hgr.1, by simp, .inr ⟨rfl, hgr.2⟩⟩
  · by_cases hroom : n + m ≤ cap
    · have hfit : n * i.size + news.length ≤ cur.size := by rw [hl, hcs, hsize]; omega
      have hr := run_append_room (P := P) w t ty e i ht hi g n cap cur hg a m c news (by rw [hsize]; exact hl) hnews h1 hroom hfit
      have hgl : g < w.heap.size := (Array.getElem?_eq_some_iff.1 hg).1
      refine ⟨g, cap, _, hr, ⟨hlen, .inr ⟨g, cap, _, rfl, hbg, setRow_heap w g cur _ e _ hg, hroom, hcm, ?_, ?_⟩⟩, by simpa [World.setRow] using hgl, .inl ⟨rfl, ⟨rfl, rfl, rfl, by simp, fun k _ hk => setRow_other w g k _ (fun e => hk (by rw [e]))⟩⟩⟩
      · rw [hsize]
        simp only [List.size_toArray, List.length_append, List.length_take, List.length_drop, Array.length_toList]
        omega
      · rw [hsize, htake, ← hlen]
        exact List.take_left
    · have holds : ∀ j u, xs[j]? = some u → w.cell? ((⟨g, 0, none⟩ : Addr).add j) = some u := hown.cells (g := g) rfl
      have hr := run_append_grow (P := P) w t ty e i z ht hi hz ⟨g, 0, none⟩ n cap xs (by rw [hsize]; exact hown.1) holds a m c news (by rw [hsize]; exact hl) hnews (by omega) (by omega) (growslice_fits (by omega) hbytes)
      have hgr := grown cap (by omega)
      exact ⟨_, _, _, hr, hgr.1, by simp, .inr ⟨rfl, hgr.2⟩⟩

theorem wpList_append_arms {P : Program} (w : World) {ops : Array Oper} {rest : List Oper} {o : Oper} {a : Act} {Q : Exit → Act → World → Prop} (hgd : o.guard = none) (s x : Operand) (t : TypeId)
    (ho : o.op = .call { callee := .builtin .append, args := #[s, x], argTypes := #[t, t] })
    (base : Nat) (e : TypeId) (i : TypeInfo) (z : Value) (bytes : Nat) (ht : P.underlying t = some (.slice e)) (hi : P.info? e = some i) (hz : i.zero = some z)
    (hsize : i.size = 1) (hby : i.bytes = bytes) (hzs : z.cells.size = 1)
    (v : Value) (n : Nat) (xs : List Value) (hs : a.eval s = v) (hown : w.ownsRow base e 1 v n xs)
    (ad : Addr) (m c : Nat) (news : List Value) (hx : a.eval x = .slice (some ad) m c) (hl : news.length = m * 1) (hnews : ∀ j u, news[j]? = some u → w.cell? (ad.add j) = some u) (h1 : ∀ u ∈ news, u.oneCell' = true)
    (hm : 0 < m) (h63 : n + m ≤ maxLen) (hbytes : (n + m) * bytes ≤ 140737488355328) (hbase : base ≤ w.heap.size)
    (h : ∀ g cap w', w'.ownsRow base e 1 (.slice (some ⟨g, 0, none⟩) (n + m) cap) (n + m) (xs ++ news) → g < w'.heap.size → ((v = .slice (some ⟨g, 0, none⟩) n cap ∧ w.grownBy w' (some g)) ∨ (g = w.heap.size ∧ w.grownBy w' none)) → wpList P ops Q rest (a.put o.dst (.slice (some ⟨g, 0, none⟩) (n + m) cap)) w') : wpList P ops Q (o :: rest) a w :=
  wpList_plain hgd fun _ hK => by
    obtain ⟨g, cap, w', hr, h2, h3, h4⟩ := run_append_arms (P := P) w base t o.type e i z bytes ht hi hz hsize hby hzs v n xs hown ad m c news hl hnews h1 hm h63 hbytes hbase
    unfold Oper.wp execOp
    simp only [ho, resolve, invoke, builtin, Sem.run_bind, Sem.run_pure, Result.andThen_ok, List.map_toArray, List.map_cons, List.map_nil, hs, hx, hr]
    exact hK _ _ (h g cap w' h2 h3 h4)

/-- What was laid into a new block, one cell. -/
theorem news_one (w : World) (u : Value) (t : TypeId) : ∀ j x, [u][j]? = some x → (w.alloc (.cells #[u] t)).cell? ((⟨w.heap.size, 0, none⟩ : Addr).add j) = some x := by
  intro j x hx
  rw [Lib.add_plain, World.cell?_alloc_new]
  cases j with
  | zero => simpa using hx
  | succ j => simp at hx

/-- A list in the making (role 15): it is full of the mark; what was noted of it: a head of it, or a list apart. -/
def Noted (N : Nat) (ρ : Nat → Nat) (w : World) (m : Int) (l : Value) (p : Value × Int) : Prop :=
  p.2 = m ∧ ((∃ g n c k, l = .slice (some ⟨g, 0, none⟩) n c ∧ p.1 = .slice (some ⟨g, 0, none⟩) k c ∧ k ≤ n) ∨ (Mk N ρ w 15 p.1 m ∧ ∀ g, p.1.ownBlock = some g → l.ownBlock ≠ some g))
theorem own_prefix {w : World} {base e g n c k : Nat} {xs : List Value} (h : w.ownsRow base e 1 (.slice (some ⟨g, 0, none⟩) n c) n xs) (hk : k ≤ n) : w.ownsRow base e 1 (.slice (some ⟨g, 0, none⟩) k c) k (xs.take k) := by
  rcases h.2 with ⟨h', _⟩ | ⟨g', cap, cur, hv, hb, hg, hnc, hcm, hcs, ht⟩
  · cases h'
  · simp only [Value.slice.injEq, Option.some.injEq, Addr.mk.injEq, and_true, true_and] at hv
    obtain ⟨rfl, rfl⟩ := hv
    have hl := h.1
    refine ⟨by simp; omega, .inr ⟨g, c, cur, rfl, hb, hg, by omega, hcm, hcs, ?_⟩⟩
    rw [← ht, List.take_take]
    congr 1
    omega
/-- A mark more behind the list. -/
theorem Noted.more {N : Nat} {ρ : Nat → Nat} {w w' : World} {m : Int} {l : Value} {n : Nat} {xs : List Value} {p : Value × Int} {g cap : Nat} (h : Noted N ρ w m l p) (hl : Own N ρ w 15 3 l n xs) (hx : ∀ x ∈ xs, x = .int .i64 m)
    (ha : (l = .slice (some ⟨g, 0, none⟩) n cap ∧ w.grownBy w' (some g)) ∨ (g = w.heap.size ∧ w.grownBy w' none)) : Noted N (rl ρ g 15) w' m (.slice (some ⟨g, 0, none⟩) (n + 1) cap) p := by
  refine ⟨h.1, ?_⟩
  rcases ha with ⟨rfl, hg⟩ | ⟨rfl, hg⟩
  · have hρ := hl.2 g rfl
    rcases h.2 with ⟨g1, n1, c1, k, h1, h2, h3⟩ | ⟨⟨k, zs, h1, h2⟩, h3⟩
    · simp only [Value.slice.injEq, Option.some.injEq, Addr.mk.injEq, and_true] at h1
      obtain ⟨rfl, rfl, rfl⟩ := h1
      exact .inl ⟨g, n + 1, cap, k, rfl, h2, by omega⟩
    · refine .inr ⟨⟨k, zs, ⟨h1.1.kept hg ?_, fun g1 hg1 => ?_⟩, h2⟩, fun g1 hg1 => ?_⟩
      · cases hp : p.1.ownBlock with
        | none => exact .inl rfl
        | some g1 => exact .inr (fun e => h3 g1 hp (by simp [Value.ownBlock]; simpa using e.symm))
      · by_cases e : g1 = g
        · subst e; exact rl_same _ _ _
        · rw [rl_ne e]; exact h1.2 g1 hg1
      · have := h3 g1 hg1; simpa [Value.ownBlock] using this
  · have hsep : ∀ k, k < w.heap.size → (Value.slice (some ⟨w.heap.size, 0, none⟩) (n + 1) cap).ownBlock ≠ some k := by
      intro k hk e; simp [Value.ownBlock] at e; omega
    rcases h.2 with ⟨g1, n1, c1, k, h1, h2, h3⟩ | ⟨⟨k, zs, h1, h2⟩, h3⟩
    · subst h1
      have hlt := hl.1.lt g1 rfl
      have hρ := hl.2 g1 rfl
      have hn1 : n1 = n := by
        rcases hl.1.2 with ⟨h', _⟩ | ⟨g', cap', cur, hv, _⟩
        · cases h'
        · simp at hv; exact hv.2.1
      subst hn1
      refine .inr ⟨⟨k, xs.take k, ⟨?_, fun g2 hg2 => ?_⟩, fun x hx' => hx x (List.mem_of_mem_take hx')⟩, fun g2 hg2 => ?_⟩
      · rw [h2]; exact (own_prefix hl.1 h3).kept hg (.inr (by simp [Value.ownBlock]))
      · rw [h2] at hg2; simp [Value.ownBlock] at hg2; subst hg2; rw [rl_ne (by omega)]; exact hρ
      · rw [h2] at hg2; simp [Value.ownBlock] at hg2; subst hg2; exact hsep _ hlt.2
    · refine .inr ⟨⟨k, zs, ⟨h1.1.kept hg ?_, fun g1 hg1 => ?_⟩, h2⟩, fun g1 hg1 => hsep g1 (h1.1.lt g1 hg1).2⟩
      · cases hp : p.1.ownBlock with
        | none => exact .inl rfl
        | some g1 => exact .inr (by simp)
      · have := (h1.1.lt g1 hg1).2
        rw [rl_ne (by omega)]; exact h1.2 g1 hg1
theorem Noted.ev {R : Nat → Prop} {N : Nat} {ρ ρ' : Nat → Nat} {w w' : World} {m : Int} {l : Value} {p : Value × Int} (h : Noted N ρ w m l p) (he : Ev R ρ w ρ' w') (hr : ¬ R 15) : Noted N ρ' w' m l p :=
  ⟨h.1, h.2.imp id fun h2 => ⟨h2.1.ev he hr (by decide), h2.2⟩⟩
theorem Noted.self {N : Nat} {ρ : Nat → Nat} {w : World} {m : Int} {l : Value} {n : Nat} {xs : List Value} (hl : Own N ρ w 15 3 l n xs) : Noted N ρ w m l (l, m) := by
  refine ⟨rfl, ?_⟩
  rcases hl.1.2 with ⟨rfl, _⟩ | ⟨g, cap, cur, rfl, _⟩
  · exact .inr ⟨⟨0, [], Own.nil _ _ _ _ _, fun x hx => by cases hx⟩, fun g hg => by simp [Value.ownBlock] at hg⟩
  · exact .inl ⟨g, n, cap, n, rfl, rfl, Nat.le_refl _⟩
/-- All that was noted is full of the mark. -/
theorem Noted.mk {N : Nat} {ρ : Nat → Nat} {w : World} {m : Int} {l : Value} {n : Nat} {xs : List Value} {p : Value × Int} (h : Noted N ρ w m l p) (hl : Own N ρ w 15 3 l n xs) (hx : ∀ x ∈ xs, x = .int .i64 m) : Mk N ρ w 15 p.1 p.2 := by
  rw [h.1]
  rcases h.2 with ⟨g1, n1, c1, k, rfl, h2, h3⟩ | ⟨h1, _⟩
  · have hn1 : n1 = n := by
      rcases hl.1.2 with ⟨h', _⟩ | ⟨g', cap', cur, hv, _⟩
      · cases h'
      · simp at hv; exact hv.2.1
    subst hn1
    refine ⟨k, xs.take k, ⟨by rw [h2]; exact own_prefix hl.1 h3, fun g2 hg2 => ?_⟩, fun x hx' => hx x (List.mem_of_mem_take hx')⟩
    rw [h2] at hg2; simp [Value.ownBlock] at hg2; subst hg2; exact hl.2 g1 rfl
  · exact h1
end Go.Proofs.YteocfjiijmdjcaaGreat
