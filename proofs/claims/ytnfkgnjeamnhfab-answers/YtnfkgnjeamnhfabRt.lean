import Derived.Test.YtnfkgnjeamnhfabRp
namespace Go.Proofs.Ytnfkgnjeamnhfab
open Go.RowKit Go.Sort

def sameA (p q : Rt) : Bool := p.f == q.f && p.hi == q.hi && p.lo == q.lo
def aheadA (p q : Rt) : Bool := decide (p.hi < q.hi) || (p.hi == q.hi && decide (p.lo < q.lo))
/-- The document's order. -/
def upD (r x : Rt) : Bool := aheadA r x || (sameA r x && decide (r.n < x.n))
theorem eql_addr (p q : Rt) (w : World) : Sem.run Try.prog (binOp BinOp.eql 25 (.agg #[.int .i64 p.f, .int .u64 p.hi, .int .u64 p.lo]) (.agg #[.int .i64 q.f, .int .u64 q.hi, .int .u64 q.lo])) w = .ok (.bool (sameA p q)) w := by
  unfold sameA
  simp [go_sem]
  by_cases h1 : p.f = q.f <;> by_cases h2 : p.hi = q.hi <;> by_cases h3 : p.lo = q.lo <;> simp [h1, h2, h3, cast_eq]
end Go.Proofs.Ytnfkgnjeamnhfab
namespace Go.Proofs.Ytnfkgnjeamnhfab
open Go.RowKit Go.Sort

/-- r is laid to its place in out. -/
def Laid (out : List Rt) (r : Rt) (out' : List Rt) : Prop := ∃ k, k ≤ out.length ∧ out' = out.take k ++ r :: out.drop k ∧ (∀ x ∈ out.drop k, upD r x = true) ∧ (∀ x, 0 < k → out[k - 1]? = some x → upD r x = false)
/-- The routes of a family, laid one after the other, the last at the head. -/
def LaysR (fam : Int) : List Rt → List Rt → Prop
  | [], out => out = []
  | r :: rs, out' => (LaysR fam rs out' ∧ (r.f == fam) = false) ∨ ∃ out, LaysR fam rs out ∧ (r.f == fam) = true ∧ Laid out r out'
/-- The routes of a family, laid one after the other. -/
def Lays (fam : Int) (rs out : List Rt) : Prop := LaysR fam rs.reverse out
theorem Lays.nil {fam : Int} : Lays fam [] [] := by simp [Lays, LaysR]
theorem Lays.skip {fam : Int} {rs out : List Rt} {r : Rt} (h : Lays fam rs out) (hf : (r.f == fam) = false) : Lays fam (rs ++ [r]) out := by
  unfold Lays at h ⊢
  rw [List.reverse_append]
  exact .inl ⟨h, hf⟩
theorem Lays.put {fam : Int} {rs out : List Rt} {r : Rt} {out' : List Rt} (h : Lays fam rs out) (hf : (r.f == fam) = true) (hl : Laid out r out') : Lays fam (rs ++ [r]) out' := by
  unfold Lays at h ⊢
  rw [List.reverse_append]
  exact .inr ⟨out, h, hf, hl⟩
theorem Lays.ind {fam : Int} {P : List Rt → List Rt → Prop} (h0 : P [] []) (h1 : ∀ rs out r, Lays fam rs out → (r.f == fam) = false → P rs out → P (rs ++ [r]) out)
    (h2 : ∀ rs out r out', Lays fam rs out → (r.f == fam) = true → Laid out r out' → P rs out → P (rs ++ [r]) out') : ∀ {rs out : List Rt}, Lays fam rs out → P rs out := by
  have key : ∀ (q : List Rt) (out : List Rt), LaysR fam q out → P q.reverse out := by
    intro q
    induction q with
    | nil => intro out h; have h : out = [] := h; subst h; exact h0
    | cons r q ih =>
      intro out h
      rw [List.reverse_cons]
      rcases h with ⟨h, hf⟩ | ⟨o, h, hf, hl⟩
      · exact h1 _ _ _ (by unfold Lays; rw [List.reverse_reverse]; exact h) hf (ih _ h)
      · exact h2 _ _ _ _ (by unfold Lays; rw [List.reverse_reverse]; exact h) hf hl (ih _ h)
  intro rs out h
  have := key _ _ h
  rwa [List.reverse_reverse] at this
theorem Lays.len {fam : Int} {rs out : List Rt} (h : Lays fam rs out) : out.length ≤ rs.length := by
  refine Lays.ind (P := fun rs out => out.length ≤ rs.length) (Nat.le_refl _) ?_ ?_ h
  · intro rs out r _ _ ih
    rw [List.length_append]; omega
  · intro rs out r out' _ _ hl ih
    obtain ⟨k, hk, rfl, -⟩ := hl
    rw [List.length_append, List.length_append, List.length_cons, List.length_take, List.length_drop, List.length_singleton]; omega
theorem take_snoc {rs : List Rt} {k : Nat} {r : Rt} (h : rs[k]? = some r) : rs.take (k + 1) = rs.take k ++ [r] := by rw [List.take_add_one, h]; rfl

theorem src_rt2 (w : World) (r : Rt) (o : Obj) (t : TypeId) : SrcR ((w.alloc o).alloc (.cells #[.int .i64 r.f, .int .u64 r.hi, .int .u64 r.lo, .int .i64 r.n, .int .i64 r.g] t)) (.slice (some ⟨w.heap.size + 1, 0, none⟩) 1 1) [r] := by
  have := src_rt (w.alloc o) r t
  rw [World.size_alloc] at this
  exact this
theorem grown_below {g : Nat} {w w1 w2 : World} (h : w.grownBy w1 (some g)) (hb : Below w1.heap.size w1 w2) : w.grownBy w2 (some g) :=
  ⟨hb.os.trans h.os, hb.tape.trans h.tape, hb.output.trans h.output, Nat.le_trans h.size hb.size, fun k hk hn => (hb.block k (Nat.lt_of_lt_of_le hk h.size)).trans (h.block k hk hn)⟩
theorem dump_step {w : World} {N g n cap : Nat} {out : List Rt} {j l : Nat} {r x : Rt} (hl : l = j + 1) (hx : out[j]? = some x) (h : RwO w N (.slice (some ⟨g, 0, none⟩) n cap) (out.take l ++ r :: out.drop l)) :
    RwO ((((((((((w.setCell ⟨g, l * 5, none⟩ (.int .i64 x.f)).setCell ⟨g, l * 5 + 1, none⟩ (.int .u64 x.hi)).setCell ⟨g, l * 5 + 2, none⟩ (.int .u64 x.lo)).setCell ⟨g, l * 5 + 3, none⟩ (.int .i64 x.n)).setCell ⟨g, l * 5 + 4, none⟩ (.int .i64 x.g)).setCell ⟨g, j * 5, none⟩ (.int .i64 r.f)).setCell ⟨g, j * 5 + 1, none⟩ (.int .u64 r.hi)).setCell ⟨g, j * 5 + 2, none⟩ (.int .u64 r.lo)).setCell ⟨g, j * 5 + 3, none⟩ (.int .i64 r.n)).setCell ⟨g, j * 5 + 4, none⟩ (.int .i64 r.g)) N (.slice (some ⟨g, 0, none⟩) n cap) (out.take j ++ r :: out.drop j) := by
  have hjl := (List.getElem?_eq_some_iff.1 hx).1
  have h1 := h.set (k := l) (by rw [List.length_append, List.length_cons, List.length_take, List.length_drop]; omega) x
  rw [set_app _ _ _ _ (by rw [List.length_take]; omega)] at h1
  have h2 := h1.set (k := j) (by rw [List.length_append, List.length_cons, List.length_take, List.length_drop]; omega) r
  have e : (out.take l ++ x :: out.drop l).set j r = out.take j ++ r :: out.drop j := by
    subst hl
    rw [take_snoc hx, List.append_assoc]
    have hd : out.drop j = x :: out.drop (j + 1) := by rw [List.drop_eq_getElem_cons hjl]; rw [List.getElem?_eq_getElem hjl] at hx; cases hx; rfl
    rw [hd]
    exact set_app _ _ _ _ (by rw [List.length_take]; omega) _
  rw [e] at h2
  exact h2
theorem drop_up {out : List Rt} {j l : Nat} {r x : Rt} (hl : l = j + 1) (hx : out[j]? = some x) (hu : upD r x = true) (h : ∀ y ∈ out.drop l, upD r y = true) : ∀ y ∈ out.drop j, upD r y = true := by
  have hjl := (List.getElem?_eq_some_iff.1 hx).1
  intro y hy
  rw [List.drop_eq_getElem_cons hjl] at hy
  rw [List.getElem?_eq_getElem hjl] at hx; cases hx
  rcases List.mem_cons.1 hy with rfl | h'
  · exact hu
  · subst hl; exact h y h'
theorem lays_put {rs out : List Rt} {fam : Int} {i k : Nat} {r : Rt} (hr : rs[i]? = some r) (h : Lays fam (rs.take i) out) (hf : (r.f == fam) = true) (hk : k ≤ out.length) (hu : ∀ x ∈ out.drop k, upD r x = true) (hn : ∀ x, 0 < k → out[k - 1]? = some x → upD r x = false) : Lays fam (rs.take (i + 1)) (out.take k ++ r :: out.drop k) := by
  rw [take_snoc hr]; exact .put h hf ⟨k, hk, rfl, hu, hn⟩
theorem below_row {B g : Nat} {w w1 w2 : World} (h : Below B w w1) (hg : w1.grownBy w2 (some g)) (hB : B ≤ g) (hs : B ≤ w1.heap.size) : Below B w w2 :=
  ⟨hg.os.trans h.os, hg.tape.trans h.tape, hg.output.trans h.output, Nat.le_trans h.size hg.size, fun k hk => (hg.block k (Nat.lt_of_lt_of_le hk hs) (fun e => by simp at e; omega)).trans (h.block k hk)⟩

end Go.Proofs.Ytnfkgnjeamnhfab
namespace Go.Proofs.Ytnfkgnjeamnhfab
open Go.RowKit Go.Sort

/-- Dump's error. -/
def famE (fam : Int) : Int := if fam = 4 ∨ fam = 6 then 0 else 2
/-- What the program's Dump tells. -/
def dumpT (rs : List Rt) (fam : Int) : List Rt := if fam = 4 ∨ fam = 6 then famF rs fam else []
/-- What the document's Dump tells. -/
def dumpR (rs : List Rt) (fam : Int) (out : List Rt) : Prop := if fam = 4 ∨ fam = 6 then Lays fam rs out else out = []

theorem width_fam (fam : Int) (w : World) (h : fam = 4 ∨ fam = 6) : ∃ x : Int, (x == 0) = false ∧ Calls Try.prog 38 #[.int .i64 fam] w fun e w' => e = .returned (.int .i64 x) ∧ w' = w := by
  rcases h with rfl | rfl
  · exact ⟨32, rfl, H.width_4 w⟩
  · exact ⟨128, rfl, H.width_6 w⟩

set_option maxHeartbeats 1000000 in
theorem tdump_any {N : Nat} {ρ : Nat → Nat} {w : World} {T rS rQ : Nat} {gs : Nat → List Int} {rs : List Rt} {lim : Int} {f : Nat → Value} (h : Tq N ρ w T rS rQ 3 35 gs rs lim f) (hlen : rs.length ≤ 1000) (fam : Int) :
    Calls Try.prog 12 #[.pointer (some ⟨T, 0, none⟩), .int .i64 fam] w fun e w' => ∃ ao n cap, e = .returned (.tuple #[.slice ao n cap, .int .i64 (famE fam)]) ∧ n = (dumpT rs fam).length ∧ RwO w' w.heap.size (.slice ao n cap) (dumpT rs fam) ∧ Below w.heap.size w w' := by
  unfold famE dumpT
  by_cases hf : fam = 4 ∨ fam = 6
  · rw [if_pos hf, if_pos hf]
    obtain ⟨x, hx, hw⟩ := width_fam fam w hf
    have HW := Lib.hid hw
    have HO := Lib.hid (of_any N T (f 35) rs fam w (h.rq.st 35 (by decide)).1 h.rq.row.1 hlen)
    clear h hw hf
    go_enter Try.func12, Try.ntmps12
    go_wp2_with (first | (go_at_call 38; refine HW.out.mono ?_; rintro e w1 ⟨rfl, rfl⟩) | (go_at_call 36; refine HO.out.mono ?_; rintro e w2 ⟨ao, n, cap, rfl, hn, hr, hb⟩; have Hn := Lib.hid hn; have Hr := Lib.hid hr; have Hb := Lib.hid hb; clear hn hr hb))
    go_ret2
    exact ⟨ao, n, cap, rfl, Hn.out, Hr.out, Hb.out⟩
  · rw [if_neg hf, if_neg hf]
    have HW := Lib.hid (H.width_no fam w (fun e => hf (.inl e)) (fun e => hf (.inr e)))
    clear h hf
    go_enter Try.func12, Try.ntmps12
    go_wp2_with (go_at_call 38; refine HW.out.mono ?_; rintro e w1 ⟨rfl, rfl⟩)
    go_ret2
    exact ⟨none, 0, 0, rfl, rfl, World.ownsRow_nil _ _ _ _, Below.refl _ _⟩

/-- Has a route of the family this length? -/
def hasL (rs : List Rt) (fam n : Int) : Bool := rs.any fun r => r.f == fam && r.n == n
/-- The lengths, as the document has them. -/
def lensF (rs : List Rt) (fam : Int) (k : Nat) : List Int := ((List.range k).filter fun n : Nat => hasL rs fam n).map fun n : Nat => (n : Int)
theorem hasL_succ {rs : List Rt} {fam n : Int} {k : Nat} {r : Rt} (h : rs[k]? = some r) : hasL (rs.take (k + 1)) fam n = (hasL (rs.take k) fam n || (r.f == fam && r.n == n)) := by
  unfold hasL; rw [take_snoc h, List.any_append]; simp
theorem lensF_yes {rs : List Rt} {fam : Int} {k : Nat} (h : hasL rs fam k = true) : lensF rs fam (k + 1) = lensF rs fam k ++ [(k : Int)] := by
  unfold lensF; rw [List.range_succ, List.filter_append, List.map_append]; simp [h]
theorem lensF_no {rs : List Rt} {fam : Int} {k : Nat} (h : hasL rs fam k = false) : lensF rs fam (k + 1) = lensF rs fam k := by
  unfold lensF; rw [List.range_succ, List.filter_append, List.map_append]; simp [h]
theorem lensF_le (rs : List Rt) (fam : Int) (k : Nat) : (lensF rs fam k).length ≤ k := by
  unfold lensF; rw [List.length_map]; have := List.length_filter_le (fun n : Nat => hasL rs fam n) (List.range k); rw [List.length_range] at this; exact this

end Go.Proofs.Ytnfkgnjeamnhfab
