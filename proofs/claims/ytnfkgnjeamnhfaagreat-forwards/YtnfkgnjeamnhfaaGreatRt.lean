import Derived.Test.YtnfkgnjeamnhfaaGreatRp
namespace Go.Proofs.YtnfkgnjeamnhfaaGreat
open Go.RowKit Go.Sort

def sameA (p q : Rt) : Bool := p.f == q.f && p.hi == q.hi && p.lo == q.lo
def aheadA (p q : Rt) : Bool := decide (p.hi < q.hi) || (p.hi == q.hi && decide (p.lo < q.lo))
/-- The document's order. -/
def upD (r x : Rt) : Bool := aheadA r x || (sameA r x && decide (r.n < x.n))
theorem eql_addr (p q : Rt) (w : World) : Sem.run Tryz.prog (binOp BinOp.eql 31 (.agg #[.int .i64 p.f, .int .u64 p.hi, .int .u64 p.lo]) (.agg #[.int .i64 q.f, .int .u64 q.hi, .int .u64 q.lo])) w = .ok (.bool (sameA p q)) w := by
  unfold sameA
  simp [go_sem]
  by_cases h1 : p.f = q.f <;> by_cases h2 : p.hi = q.hi <;> by_cases h3 : p.lo = q.lo <;> simp [h1, h2, h3, cast_eq]
set_option maxHeartbeats 1000000 in
theorem rahead_any (p q : Rt) (w : World) : Calls Tryz.prog 99 #[.agg #[.int .i64 p.f, .int .u64 p.hi, .int .u64 p.lo], .agg #[.int .i64 q.f, .int .u64 q.hi, .int .u64 q.lo]] w fun e w' => e = .returned (.bool (aheadA p q)) ∧ Below w.heap.size w w' := by
  unfold aheadA
  by_cases h1 : p.hi < q.hi
  · have q1 : (p.hi : Int) < (q.hi : Int) := by omega
    rw [decide_eq_true h1, Bool.true_or]
    go_enter Tryz.func99, Tryz.ntmps99
    go_wp2
    go_ret
    exact ⟨rfl, two_boxes _ _ _⟩
  · have q1 : ¬ (p.hi : Int) < (q.hi : Int) := by omega
    rw [decide_eq_false h1, Bool.false_or]
    by_cases h2 : p.hi = q.hi
    · have q2 : ((p.hi : Int) == (q.hi : Int)) = true := by rw [h2]; simp
      rw [show (p.hi == q.hi) = true by simp [h2], Bool.true_and]
      go_enter Tryz.func99, Tryz.ntmps99
      go_wp2
      go_ret
      exact ⟨by simp, two_boxes _ _ _⟩
    · have q2 : ((p.hi : Int) == (q.hi : Int)) = false := ne_beq h2
      rw [show (p.hi == q.hi) = false by simp [h2], Bool.false_and]
      go_enter Tryz.func99, Tryz.ntmps99
      go_wp2
      go_ret
      exact ⟨rfl, two_boxes _ _ _⟩

end Go.Proofs.YtnfkgnjeamnhfaaGreat
namespace Go.Proofs.YtnfkgnjeamnhfaaGreat
open Go.RowKit Go.Sort

/-- r is laid to its place in out. -/
def Laid (out : List Rt) (r : Rt) (out' : List Rt) : Prop := ∃ k, k ≤ out.length ∧ out' = out.take k ++ r :: out.drop k ∧ (∀ x ∈ out.drop k, upD r x = true) ∧ (∀ x, 0 < k → out[k - 1]? = some x → upD r x = false)
/-- The routes of a family, laid one after the other, the last at the head. -/
def LaysR (fam : Int) : List Rt → List Rt → Prop
  | [], out => out = []
  | r :: rs, out' => (LaysR fam rs out' ∧ (r.f == fam) = false) ∨ ∃ out, LaysR fam rs out ∧ (r.f == fam) = true ∧ Laid out r out'
/-- The routes of a family, laid one after the other. -/
def Lays (fam : Int) (rs out : List Rt) : Prop := LaysR fam rs.reverse out
theorem Lays.nil {fam : Int} : Lays fam [] [] := by simp [Lays, LaysR]
theorem Lays.skip {fam : Int} {rs out : List Rt} {r : Rt} (h : Lays fam rs out) (hf : (r.f == fam) = false) : Lays fam (rs ++ [r]) out := by
  unfold Lays at h ⊢
  rw [List.reverse_append]
  exact .inl ⟨h, hf⟩
theorem Lays.put {fam : Int} {rs out : List Rt} {r : Rt} {out' : List Rt} (h : Lays fam rs out) (hf : (r.f == fam) = true) (hl : Laid out r out') : Lays fam (rs ++ [r]) out' := by
  unfold Lays at h ⊢
  rw [List.reverse_append]
  exact .inr ⟨out, h, hf, hl⟩
theorem Lays.ind {fam : Int} {P : List Rt → List Rt → Prop} (h0 : P [] []) (h1 : ∀ rs out r, Lays fam rs out → (r.f == fam) = false → P rs out → P (rs ++ [r]) out)
    (h2 : ∀ rs out r out', Lays fam rs out → (r.f == fam) = true → Laid out r out' → P rs out → P (rs ++ [r]) out') : ∀ {rs out : List Rt}, Lays fam rs out → P rs out := by
  have key : ∀ (q : List Rt) (out : List Rt), LaysR fam q out → P q.reverse out := by
    intro q
    induction q with
    | nil => intro out h; have h : out = [] := h; subst h; exact h0
    | cons r q ih =>
      intro out h
      rw [List.reverse_cons]
      rcases h with ⟨h, hf⟩ | ⟨o, h, hf, hl⟩
      · exact h1 _ _ _ (by unfold Lays; rw [List.reverse_reverse]; exact h) hf (ih _ h)
      · exact h2 _ _ _ _ (by unfold Lays; rw [List.reverse_reverse]; exact h) hf hl (ih _ h)
  intro rs out h
  have := key _ _ h
  rwa [List.reverse_reverse] at this
theorem Lays.len {fam : Int} {rs out : List Rt} (h : Lays fam rs out) : out.length ≤ rs.length := by
  refine Lays.ind (P := fun rs out => out.length ≤ rs.length) (Nat.le_refl _) ?_ ?_ h
  · intro rs out r _ _ ih
    rw [List.length_append]; omega
  · intro rs out r out' _ _ hl ih
    obtain ⟨k, hk, rfl, -⟩ := hl
    rw [List.length_append, List.length_append, List.length_cons, List.length_take, List.length_drop, List.length_singleton]; omega
theorem take_snoc {rs : List Rt} {k : Nat} {r : Rt} (h : rs[k]? = some r) : rs.take (k + 1) = rs.take k ++ [r] := by rw [List.take_add_one, h]; rfl

theorem src_rt2 (w : World) (r : Rt) (o : Obj) (t : TypeId) : SrcR ((w.alloc o).alloc (.cells #[.int .i64 r.f, .int .u64 r.hi, .int .u64 r.lo, .int .i64 r.n, .int .i64 r.g] t)) (.slice (some ⟨w.heap.size + 1, 0, none⟩) 1 1) [r] := by
  have := src_rt (w.alloc o) r t
  rw [World.size_alloc] at this
  exact this
theorem grown_below {g : Nat} {w w1 w2 : World} (h : w.grownBy w1 (some g)) (hb : Below w1.heap.size w1 w2) : w.grownBy w2 (some g) :=
  ⟨hb.os.trans h.os, hb.tape.trans h.tape, hb.output.trans h.output, Nat.le_trans h.size hb.size, fun k hk hn => (hb.block k (Nat.lt_of_lt_of_le hk h.size)).trans (h.block k hk hn)⟩
theorem dump_step {w : World} {N g n cap : Nat} {out : List Rt} {j l : Nat} {r x : Rt} (hl : l = j + 1) (hx : out[j]? = some x) (h : RwO w N (.slice (some ⟨g, 0, none⟩) n cap) (out.take l ++ r :: out.drop l)) :
    RwO ((((((((((w.setCell ⟨g, l * 5, none⟩ (.int .i64 x.f)).setCell ⟨g, l * 5 + 1, none⟩ (.int .u64 x.hi)).setCell ⟨g, l * 5 + 2, none⟩ (.int .u64 x.lo)).setCell ⟨g, l * 5 + 3, none⟩ (.int .i64 x.n)).setCell ⟨g, l * 5 + 4, none⟩ (.int .i64 x.g)).setCell ⟨g, j * 5, none⟩ (.int .i64 r.f)).setCell ⟨g, j * 5 + 1, none⟩ (.int .u64 r.hi)).setCell ⟨g, j * 5 + 2, none⟩ (.int .u64 r.lo)).setCell ⟨g, j * 5 + 3, none⟩ (.int .i64 r.n)).setCell ⟨g, j * 5 + 4, none⟩ (.int .i64 r.g)) N (.slice (some ⟨g, 0, none⟩) n cap) (out.take j ++ r :: out.drop j) := by
  have hjl := (List.getElem?_eq_some_iff.1 hx).1
  have h1 := h.set (k := l) (by rw [List.length_append, List.length_cons, List.length_take, List.length_drop]; omega) x
  rw [set_app _ _ _ _ (by rw [List.length_take]; omega)] at h1
  have h2 := h1.set (k := j) (by rw [List.length_append, List.length_cons, List.length_take, List.length_drop]; omega) r
  have e : (out.take l ++ x :: out.drop l).set j r = out.take j ++ r :: out.drop j := by
    subst hl
    rw [take_snoc hx, List.append_assoc]
    have hd : out.drop j = x :: out.drop (j + 1) := by rw [List.drop_eq_getElem_cons hjl]; rw [List.getElem?_eq_getElem hjl] at hx; cases hx; rfl
    rw [hd]
    exact set_app _ _ _ _ (by rw [List.length_take]; omega) _
  rw [e] at h2
  exact h2
theorem drop_up {out : List Rt} {j l : Nat} {r x : Rt} (hl : l = j + 1) (hx : out[j]? = some x) (hu : upD r x = true) (h : ∀ y ∈ out.drop l, upD r y = true) : ∀ y ∈ out.drop j, upD r y = true := by
  have hjl := (List.getElem?_eq_some_iff.1 hx).1
  intro y hy
  rw [List.drop_eq_getElem_cons hjl] at hy
  rw [List.getElem?_eq_getElem hjl] at hx; cases hx
  rcases List.mem_cons.1 hy with rfl | h'
  · exact hu
  · subst hl; exact h y h'
theorem lays_put {rs out : List Rt} {fam : Int} {i k : Nat} {r : Rt} (hr : rs[i]? = some r) (h : Lays fam (rs.take i) out) (hf : (r.f == fam) = true) (hk : k ≤ out.length) (hu : ∀ x ∈ out.drop k, upD r x = true) (hn : ∀ x, 0 < k → out[k - 1]? = some x → upD r x = false) : Lays fam (rs.take (i + 1)) (out.take k ++ r :: out.drop k) := by
  rw [take_snoc hr]; exact .put h hf ⟨k, hk, rfl, hu, hn⟩
theorem below_row {B g : Nat} {w w1 w2 : World} (h : Below B w w1) (hg : w1.grownBy w2 (some g)) (hB : B ≤ g) (hs : B ≤ w1.heap.size) : Below B w w2 :=
  ⟨hg.os.trans h.os, hg.tape.trans h.tape, hg.output.trans h.output, Nat.le_trans h.size hg.size, fun k hk => (hg.block k (Nat.lt_of_lt_of_le hk hs) (fun e => by simp at e; omega)).trans (h.block k hk)⟩

set_option maxRecDepth 4000 in
set_option maxHeartbeats 4000000 in
theorem rdump_any (N T : Nat) (v : Value) (rs : List Rt) (fam : Int) (w : World) (hfam : fam = 4 ∨ fam = 6) (hc : w.cell? ⟨T, 3, none⟩ = some v) (hr : RwO w N v rs) (hlen : rs.length ≤ 1000) :
    Calls Tryz.prog 52 #[.pointer (some ⟨T, 0, none⟩), .int .i64 fam] w fun e w' => ∃ ao n cap out, e = .returned (.tuple #[.slice ao n cap, .int .i64 0]) ∧ Lays fam rs out ∧ n = out.length ∧ RwO w' w.heap.size (.slice ao n cap) out ∧ Below w.heap.size w w' := by
  obtain ⟨ao, cap, rfl, hm⟩ := RwO.form hr
  have hT : T < w.heap.size := World.block_lt_of_cell? w ⟨T, 3, none⟩ hc
  have HR := Lib.hid hr
  obtain ⟨z, hz⟩ : ∃ z, z = rs.length := ⟨_, rfl⟩
  rw [← hz] at hc hlen
  have Hz := Lib.hid hz
  have Hc := Lib.hid hc
  have HZ := Lib.hid (size_any fam w hfam)
  obtain ⟨m, hm0, hm1⟩ : ∃ m : Nat, ((m : Int) == 0) = false ∧ (if fam = 4 then 32 else 128 : Int) = m := by
    rcases hfam with rfl | rfl
    · exact ⟨32, rfl, rfl⟩
    · exact ⟨128, rfl, rfl⟩
  rw [hm1] at HZ
  clear hr hz hc hfam hm1
  go_enter Tryz.func52, Tryz.ntmps52
  go_wp2_with (go_at_call 62; refine HZ.out.mono ?_; rintro e w1 ⟨rfl, rfl⟩)
  go_loopw [7, 8] (fun lv i wr => ∃ (k m : Nat) (ao2 : Option Addr) (cap2 : Nat) (out : List Rt), k ≤ z ∧ i = .int .i64 k ∧ lv = .slice ao2 m cap2 ∧ Hid (Lays fam (rs.take k) out) ∧ Hid (RwO wr w1.heap.size (.slice ao2 m cap2) out) ∧ Hid (Below w1.heap.size w1 wr)) (fun _ i _ => z - (intOf i).toNat)
  case atStart => exact ⟨0, 0, none, 0, [], Nat.zero_le _, rfl, rfl, .nil, World.ownsRow_nil _ _ _ _, Below.refl _ _⟩
  case round =>
    obtain ⟨k, m2, ao2, cap2, out, hk, rfl, rfl, HY, HL, HB⟩ := hrel
    have cT := (HB.out.cell (p := ⟨T, 3, none⟩) hT).trans Hc.out
    have Hm2 : Hid (m2 = out.length) := by obtain ⟨_, _, e, _⟩ := RwO.form HL.out; simp at e; exact e.2.1
    have hol : out.length ≤ 1000 := by
      have h1 := HY.out.len
      rw [List.length_take] at h1
      omega
    by_cases hlt : k < z
    · obtain ⟨r, hrk⟩ : ∃ r, rs[k]? = some r := ⟨_, List.getElem?_eq_getElem (by rw [← Hz.out]; exact hlt)⟩
      obtain ⟨b, rfl, hat, -, -, hbl⟩ := RwO.at HR.out hrk
      have c0 := (HB.out.cell (p := ⟨b, k * 5, none⟩) hbl).trans hat.c0
      have c1 := (HB.out.cell (p := ⟨b, k * 5 + 1, none⟩) hbl).trans hat.c1
      have c2 := (HB.out.cell (p := ⟨b, k * 5 + 2, none⟩) hbl).trans hat.c2
      have c3 := (HB.out.cell (p := ⟨b, k * 5 + 3, none⟩) hbl).trans hat.c3
      have c4 := (HB.out.cell (p := ⟨b, k * 5 + 4, none⟩) hbl).trans hat.c4
      have Hrk := Lib.hid hrk
      have q1 : (k : Int) < (z : Int) := by omega
      clear hat hrk
      cases hq : (r.f == fam) with
      | false =>
        have Hq := Lib.hid hq
        go_wp2
        go_roundw
        case rel => exact ⟨k + 1, m2, ao2, cap2, out, by omega, by go_num, rfl, by show Lays _ _ _; rw [take_snoc Hrk.out]; exact .skip HY.out Hq.out, HL.out.alloc _, HB.out.trans (((Below.refl wr.heap.size wr).alloc (Nat.le_refl _) _).mono HB.out.size)⟩
        case measure => simp [intOf]; omega
      | true =>
        have Hq := Lib.hid hq
        have hwl : w1.heap.size ≤ wr.heap.size := HB.out.size
        have hfl : out.length + [r].length ≤ 100000 := by simp; omega
        go_wp2_with (at_builtin; refine wpList_append_rt rfl _ _ rfl w1.heap.size _ out rfl ?c0 _ [r] rfl ?c1 hfl ?c2 ?_)
        case c0 => exact (HL.out.alloc _).alloc _
        case c1 => exact src_rt2 wr r _ _
        case c2 => simp; omega
        intro ao3 m3 cap3 w3 hm3 hr3 hg3 hat3
        obtain ⟨g3, hao3, -, -, hgb, hgl⟩ := RwO.at hr3 (k := out.length) (r := r) (by simp)
        subst hao3
        obtain ⟨bx, hbx⟩ : ∃ bx, bx = wr.heap.size := ⟨_, rfl⟩
        have hown : ∀ b, (Value.slice ao2 m2 cap2).ownBlock = some b → b < bx := fun b hb => by rw [hbx]; exact (World.ownsRow.lt HL.out b hb).2
        have hgx : bx ≠ g3 := by
          intro e
          rcases hat3 with h | h
          · have := hown g3 (by rw [← h]; rfl); omega
          · simp [Value.ownBlock] at h; omega
        have hnx : ∀ o, some (⟨bx, o, none⟩ : Addr).block ≠ (Value.slice ao2 m2 cap2).ownBlock := fun o e => by have := hown bx e.symm; omega
        have e0 : w3.cell? ⟨bx, 0, none⟩ = some (.int .i64 r.f) := by rw [hg3.cell_far ⟨bx, 0, none⟩ (by simp; omega) (hnx 0), hbx]; simp
        have e1 : w3.cell? ⟨bx, 1, none⟩ = some (.int .u64 r.hi) := by rw [hg3.cell_far ⟨bx, 1, none⟩ (by simp; omega) (hnx 1), hbx]; simp
        have e2 : w3.cell? ⟨bx, 2, none⟩ = some (.int .u64 r.lo) := by rw [hg3.cell_far ⟨bx, 2, none⟩ (by simp; omega) (hnx 2), hbx]; simp
        have e3 : w3.cell? ⟨bx, 3, none⟩ = some (.int .i64 r.n) := by rw [hg3.cell_far ⟨bx, 3, none⟩ (by simp; omega) (hnx 3), hbx]; simp
        have e4 : w3.cell? ⟨bx, 4, none⟩ = some (.int .i64 r.g) := by rw [hg3.cell_far ⟨bx, 4, none⟩ (by simp; omega) (hnx 4), hbx]; simp
        have hb3 : bx < w3.heap.size := World.block_lt_of_cell? w3 ⟨bx, 0, none⟩ e0
        have HEb := Lib.hid (And.intro e0 (And.intro e1 (And.intro e2 (And.intro e3 e4))))
        have HB3 := Lib.hid (below_grown (HB.out.trans ((two_boxes wr _ _).mono hwl)) hg3 HL.out.base (by simp; omega))
        obtain ⟨z2, hz2⟩ : ∃ z2, z2 = out.length := ⟨_, rfl⟩
        have hm3' : m3 = z2 + 1 := by rw [hz2]; exact hm3
        clear hm3
        subst hm3'
        have HR3 := Lib.hid (show RwO w3 w1.heap.size (.slice (some ⟨g3, 0, none⟩) (z2 + 1) cap3) (out.take z2 ++ r :: out.drop z2) by rw [hz2, List.take_length, List.drop_length, ← hz2]; exact hr3)
        have Hz2 := Lib.hid hz2
        have Hgb := Lib.hid hgb
        have hz2l : z2 ≤ 1000 := by omega
        rw [← hbx]
        clear hr3 hg3 hat3 hown hnx e0 e1 e2 e3 e4 c0 c1 c2 c3 c4 cT hol hfl hbx hz2
        go_wp2
        go_loopw [10] (fun i wq => ∃ k : Nat, k ≤ z2 ∧ i = .int .i64 k ∧ Hid (RwO wq w1.heap.size (.slice (some ⟨g3, 0, none⟩) (z2 + 1) cap3) (out.take k ++ r :: out.drop k)) ∧ Hid (∀ x ∈ out.drop k, upD r x = true) ∧ Hid (w3.grownBy wq (some g3))) (fun i _ => (intOf i).toNat)
        case atStart => exact ⟨z2, Nat.le_refl _, by go_num, HR3, (show ∀ x ∈ out.drop z2, upD r x = true by intro x hx; rw [Hz2.out, List.drop_length] at hx; cases hx), ⟨rfl, rfl, rfl, Nat.le_refl _, fun _ _ _ => rfl⟩⟩
        case round =>
          obtain ⟨j, hj, rfl, HRj, HUj, HGj⟩ := hrel
          rcases j with _ | j
          · go_wp2
            go_roundw
            case rel => exact ⟨k + 1, z2 + 1, _, cap3, _, by omega, by go_num, rfl, lays_put Hrk.out HY.out Hq.out (Nat.zero_le _) HUj.out (fun x h => absurd h (Nat.lt_irrefl _)), HRj, below_row HB3.out HGj.out Hgb.out HB3.out.size⟩
            case measure => simp [intOf]; omega
          · obtain ⟨x, hx⟩ : ∃ x, out[j]? = some x := ⟨_, List.getElem?_eq_getElem (by rw [← Hz2.out]; omega)⟩
            have hx1 : (out.take (j + 1) ++ r :: out.drop (j + 1))[j]? = some x := by rw [List.getElem?_append_left (by rw [List.length_take, ← Hz2.out]; omega), List.getElem?_take, if_pos (by omega), hx]
            have hk1 : (out.take (j + 1) ++ r :: out.drop (j + 1))[j + 1]? = some r := by rw [List.getElem?_append_right (by rw [List.length_take]; omega), List.length_take, ← Hz2.out, Nat.min_eq_left hj, Nat.sub_self]; rfl
            obtain ⟨l, hl⟩ : ∃ l, l = j + 1 := ⟨_, rfl⟩
            rw [← hl] at hx1 hk1 HRj HUj hj ⊢
            obtain ⟨g5, hg5, hatj, hfz, -, hgq⟩ := RwO.at HRj.out hx1
            obtain ⟨g6, hg6, hatk, -, -, -⟩ := RwO.at HRj.out hk1
            obtain rfl : g3 = g5 := by simpa using hg5
            obtain rfl : g3 = g6 := by simpa using hg6
            have hb4 : bx < wr.heap.size := Nat.lt_of_lt_of_le hb3 HGj.out.size
            have d0 : wr.cell? ⟨bx, 0, none⟩ = some (.int .i64 r.f) := (HGj.out.cell_far ⟨bx, 0, none⟩ hb3 (fun e => hgx (by simpa using e))).trans HEb.out.1
            have d1 : wr.cell? ⟨bx, 1, none⟩ = some (.int .u64 r.hi) := (HGj.out.cell_far ⟨bx, 1, none⟩ hb3 (fun e => hgx (by simpa using e))).trans HEb.out.2.1
            have d2 : wr.cell? ⟨bx, 2, none⟩ = some (.int .u64 r.lo) := (HGj.out.cell_far ⟨bx, 2, none⟩ hb3 (fun e => hgx (by simpa using e))).trans HEb.out.2.2.1
            have d3 : wr.cell? ⟨bx, 3, none⟩ = some (.int .i64 r.n) := (HGj.out.cell_far ⟨bx, 3, none⟩ hb3 (fun e => hgx (by simpa using e))).trans HEb.out.2.2.2.1
            have d4 : wr.cell? ⟨bx, 4, none⟩ = some (.int .i64 r.g) := (HGj.out.cell_far ⟨bx, 4, none⟩ hb3 (fun e => hgx (by simpa using e))).trans HEb.out.2.2.2.2
            have j0 := hatj.c0
            have j1 := hatj.c1
            have j2 := hatj.c2
            have j3 := hatj.c3
            have j4 := hatj.c4
            have q5 : (l : Int) - 1 = (j : Int) := by omega
            have q6 : (0 : Int) < (l : Int) := by omega
            have q7 : (l : Int) < (z2 : Int) + 1 := by omega
            have q8 : (j : Int) < (z2 : Int) + 1 := by omega
            have HA := Lib.hid (fun (w : World) => rahead_any r x w)
            obtain ⟨wb, hwb⟩ : ∃ wb, wb = wr.alloc (.cells #[.int .i64 x.f, .int .u64 x.hi, .int .u64 x.lo, .int .i64 x.n] 33) := ⟨_, rfl⟩
            obtain ⟨px, hpx⟩ : ∃ px, px = wr.heap.size := ⟨_, rfl⟩
            have Hbb := Lib.hid (show Below wr.heap.size wr wb by rw [hwb]; exact (Below.refl _ _).alloc (Nat.le_refl _) _)
            have hpb : px < wb.heap.size := by rw [hwb, hpx]; simp
            have y0 : wb.cell? ⟨px, 0, none⟩ = some (.int .i64 x.f) := by rw [hwb, hpx]; simp
            have y1 : wb.cell? ⟨px, 1, none⟩ = some (.int .u64 x.hi) := by rw [hwb, hpx]; simp
            have y2 : wb.cell? ⟨px, 2, none⟩ = some (.int .u64 x.lo) := by rw [hwb, hpx]; simp
            have y3 : wb.cell? ⟨px, 3, none⟩ = some (.int .i64 x.n) := by rw [hwb, hpx]; simp
            have hpg : px ≠ g3 := by rw [hpx]; omega
            have Hwb := Lib.hid hwb
            have Hpx := Lib.hid hpx
            have Hx := Lib.hid hx
            have Hl := Lib.hid hl
            have Hatk := Lib.hid hatk
            have Hatj := Lib.hid hatj
            have Hfz := Lib.hid hfz
            have HD := Lib.hid (And.intro d0 (And.intro d1 (And.intro d2 (And.intro d3 d4))))
            clear hx1 hk1 hg5 hg6 hatj hatk hfz hx hl hwb hpx
            go_wp2_with fail
            rw [← Hwb.out, ← Hpx.out]
            refine (HA.out _).mono ?_
            rintro e w5 ⟨rfl, hb5⟩
            have hb6 : Below wr.heap.size wr w5 := Hbb.out.trans (hb5.mono Hbb.out.size)
            have HB6 := Lib.hid hb6
            clear d0 d1 d2 d3 d4 j0 j1 j2 j3 j4
            have d0 := (hb6.cell (p := ⟨bx, 0, none⟩) hb4).trans HD.out.1
            have d1 := (hb6.cell (p := ⟨bx, 1, none⟩) hb4).trans HD.out.2.1
            have d2 := (hb6.cell (p := ⟨bx, 2, none⟩) hb4).trans HD.out.2.2.1
            have d3 := (hb6.cell (p := ⟨bx, 3, none⟩) hb4).trans HD.out.2.2.2.1
            have d4 := (hb6.cell (p := ⟨bx, 4, none⟩) hb4).trans HD.out.2.2.2.2
            have p0 := (hb5.cell (p := ⟨px, 0, none⟩) hpb).trans y0
            have p1 := (hb5.cell (p := ⟨px, 1, none⟩) hpb).trans y1
            have p2 := (hb5.cell (p := ⟨px, 2, none⟩) hpb).trans y2
            have p3 := (hb5.cell (p := ⟨px, 3, none⟩) hpb).trans y3
            have j0 := (hb6.cell (p := ⟨g3, j * 5, none⟩) hgq).trans Hatj.out.c0
            have j1 := (hb6.cell (p := ⟨g3, j * 5 + 1, none⟩) hgq).trans Hatj.out.c1
            have j2 := (hb6.cell (p := ⟨g3, j * 5 + 2, none⟩) hgq).trans Hatj.out.c2
            have j3 := (hb6.cell (p := ⟨g3, j * 5 + 3, none⟩) hgq).trans Hatj.out.c3
            have j4 := (hb6.cell (p := ⟨g3, j * 5 + 4, none⟩) hgq).trans Hatj.out.c4
            have k0 := (hb6.cell (p := ⟨g3, l * 5, none⟩) hgq).trans Hatk.out.c0
            have k1 := (hb6.cell (p := ⟨g3, l * 5 + 1, none⟩) hgq).trans Hatk.out.c1
            have k2 := (hb6.cell (p := ⟨g3, l * 5 + 2, none⟩) hgq).trans Hatk.out.c2
            have k3 := (hb6.cell (p := ⟨g3, l * 5 + 3, none⟩) hgq).trans Hatk.out.c3
            have k4 := (hb6.cell (p := ⟨g3, l * 5 + 4, none⟩) hgq).trans Hatk.out.c4
            have m0 := (hb6.frozen (p := ⟨g3, l * 5, none⟩) hgq).trans (Hfz.out _)
            have m1 := (hb6.frozen (p := ⟨g3, l * 5 + 1, none⟩) hgq).trans (Hfz.out _)
            have m2' := (hb6.frozen (p := ⟨g3, l * 5 + 2, none⟩) hgq).trans (Hfz.out _)
            have m3 := (hb6.frozen (p := ⟨g3, l * 5 + 3, none⟩) hgq).trans (Hfz.out _)
            have m4 := (hb6.frozen (p := ⟨g3, l * 5 + 4, none⟩) hgq).trans (Hfz.out _)
            have n0 := (hb6.frozen (p := ⟨g3, j * 5, none⟩) hgq).trans (Hfz.out _)
            have n1 := (hb6.frozen (p := ⟨g3, j * 5 + 1, none⟩) hgq).trans (Hfz.out _)
            have n2 := (hb6.frozen (p := ⟨g3, j * 5 + 2, none⟩) hgq).trans (Hfz.out _)
            have n3 := (hb6.frozen (p := ⟨g3, j * 5 + 3, none⟩) hgq).trans (Hfz.out _)
            have n4 := (hb6.frozen (p := ⟨g3, j * 5 + 4, none⟩) hgq).trans (Hfz.out _)
            have HR6 := Lib.hid (HRj.out.far hb6 (fun b hb => by simp [Value.ownBlock] at hb; rw [← hb]; exact hgq))
            have HG6 := Lib.hid (grown_below HGj.out hb6)
            have hE := eql_addr r x
            clear hb5 hb6 y0 y1 y2 y3
            cases ha : aheadA r x with
            | true =>
              have Hup := Lib.hid (show upD r x = true by unfold upD; rw [ha, Bool.true_or])
              clear ha hE
              have hne : ∀ a b, a < 5 → b < 5 → ¬ j * 5 + a = l * 5 + b := fun a b ha hb => by have := Hl.out; omega
              go_wp2
              go_roundw
              case rel =>
                refine ⟨j, by have := Hl.out; omega, by go_num, ?_, ?_, ?_⟩
                · exact dump_step Hl.out Hx.out HR6.out
                · exact drop_up Hl.out Hx.out Hup.out HUj.out
                · exact grown_trans (grown_trans HG6.out (grown5 _ _ _ _ _ _ _ _)) (grown5 _ _ _ _ _ _ _ _)
              case measure => simp [intOf]; have := Hl.out; omega
            | false =>
              cases hs : sameA r x with
              | false =>
                have Hup := Lib.hid (show upD r x = false by unfold upD; rw [ha, hs, Bool.false_or, Bool.false_and])
                rw [hs] at hE
                clear ha hs
                go_wp2
                go_roundw
                case rel => exact ⟨k + 1, _, _, cap3, _, by omega, by go_num, rfl, lays_put Hrk.out HY.out Hq.out (by rw [← Hz2.out]; exact hj) HUj.out (fun y _ hy => by rw [show l - 1 = j by have := Hl.out; omega, Hx.out] at hy; cases hy; exact Hup.out), HR6, below_row HB3.out HG6.out Hgb.out HB3.out.size⟩
                case measure => simp [intOf]; omega
              | true =>
                rw [hs] at hE
                by_cases hn : r.n < x.n
                · have Hup := Lib.hid (show upD r x = true by unfold upD; rw [ha, hs, decide_eq_true hn]; rfl)
                  clear ha hs
                  have hne : ∀ a b, a < 5 → b < 5 → ¬ j * 5 + a = l * 5 + b := fun a b ha hb => by have := Hl.out; omega
                  go_wp2
                  go_roundw
                  case rel =>
                    refine ⟨j, by have := Hl.out; omega, by go_num, ?_, ?_, ?_⟩
                    · exact dump_step Hl.out Hx.out HR6.out
                    · exact drop_up Hl.out Hx.out Hup.out HUj.out
                    · exact grown_trans (grown_trans HG6.out (grown5 _ _ _ _ _ _ _ _)) (grown5 _ _ _ _ _ _ _ _)
                  case measure => simp [intOf]; have := Hl.out; omega
                · have Hup := Lib.hid (show upD r x = false by unfold upD; rw [ha, hs, decide_eq_false hn]; rfl)
                  have q10 : decide (r.n < x.n) = false := decide_eq_false hn
                  have q11 : x.n ≤ r.n := by omega
                  clear ha hs hn
                  go_wp2
                  go_roundw
                  case rel => exact ⟨k + 1, _, _, cap3, _, by omega, by go_num, rfl, lays_put Hrk.out HY.out Hq.out (by rw [← Hz2.out]; exact hj) HUj.out (fun y _ hy => by rw [show l - 1 = j by have := Hl.out; omega, Hx.out] at hy; cases hy; exact Hup.out), HR6, below_row HB3.out HG6.out Hgb.out HB3.out.size⟩
                  case measure => simp [intOf]; omega
    · obtain rfl : k = z := by omega
      go_wp2
      go_ret2
      have h := HY.out
      rw [Hz.out, List.take_length] at h
      exact ⟨ao2, m2, cap2, out, rfl, h, Hm2.out, HL.out, HB.out⟩
end Go.Proofs.YtnfkgnjeamnhfaaGreat
namespace Go.Proofs.YtnfkgnjeamnhfaaGreat
open Go.RowKit Go.Sort

/-- Dump's error. -/
def famE (fam : Int) : Int := if fam = 4 ∨ fam = 6 then 0 else 2
/-- What the program's Dump tells. -/
def dumpT (rs : List Rt) (fam : Int) : List Rt := if fam = 4 ∨ fam = 6 then famF rs fam else []
/-- What the document's Dump tells. -/
def dumpR (rs : List Rt) (fam : Int) (out : List Rt) : Prop := if fam = 4 ∨ fam = 6 then Lays fam rs out else out = []

theorem width_fam (fam : Int) (w : World) (h : fam = 4 ∨ fam = 6) : ∃ x : Int, (x == 0) = false ∧ Calls Tryz.prog 59 #[.int .i64 fam] w fun e w' => e = .returned (.int .i64 x) ∧ w' = w := by
  rcases h with rfl | rfl
  · exact ⟨32, rfl, H.width_4 w⟩
  · exact ⟨128, rfl, H.width_6 w⟩

set_option maxHeartbeats 1000000 in
theorem tdump_any {N : Nat} {ρ : Nat → Nat} {w : World} {T rS rQ : Nat} {gs : Nat → List Int} {rs : List Rt} {lim : Int} {f : Nat → Value} (h : Tq N ρ w T rS rQ 3 35 gs rs lim f) (hlen : rs.length ≤ 1000) (fam : Int) :
    Calls Tryz.prog 51 #[.pointer (some ⟨T, 0, none⟩), .int .i64 fam] w fun e w' => ∃ ao n cap, e = .returned (.tuple #[.slice ao n cap, .int .i64 (famE fam)]) ∧ n = (dumpT rs fam).length ∧ RwO w' w.heap.size (.slice ao n cap) (dumpT rs fam) ∧ Below w.heap.size w w' := by
  unfold famE dumpT
  by_cases hf : fam = 4 ∨ fam = 6
  · rw [if_pos hf, if_pos hf]
    obtain ⟨x, hx, hw⟩ := width_fam fam w hf
    have HW := Lib.hid hw
    have HO := Lib.hid (of_any N T (f 35) rs fam w (h.rq.st 35 (by decide)).1 h.rq.row.1 hlen)
    clear h hw hf
    go_enter Tryz.func51, Tryz.ntmps51
    go_wp2_with (first | (go_at_call 59; refine HW.out.mono ?_; rintro e w1 ⟨rfl, rfl⟩) | (go_at_call 60; refine HO.out.mono ?_; rintro e w2 ⟨ao, n, cap, rfl, hn, hr, hb⟩; have Hn := Lib.hid hn; have Hr := Lib.hid hr; have Hb := Lib.hid hb; clear hn hr hb))
    go_ret2
    exact ⟨ao, n, cap, rfl, Hn.out, Hr.out, Hb.out⟩
  · rw [if_neg hf, if_neg hf]
    have HW := Lib.hid (H.width_no fam w (fun e => hf (.inl e)) (fun e => hf (.inr e)))
    clear h hf
    go_enter Tryz.func51, Tryz.ntmps51
    go_wp2_with (go_at_call 59; refine HW.out.mono ?_; rintro e w1 ⟨rfl, rfl⟩)
    go_ret2
    exact ⟨none, 0, 0, rfl, rfl, World.ownsRow_nil _ _ _ _, Below.refl _ _⟩

set_option maxHeartbeats 1000000 in
theorem rdump_all {N : Nat} {ρ : Nat → Nat} {w : World} {T rS rQ : Nat} {gs : Nat → List Int} {rs : List Rt} {lim : Int} {f : Nat → Value} (h : Tq N ρ w T rS rQ 4 3 gs rs lim f) (hlen : rs.length ≤ 1000) (fam : Int) :
    Calls Tryz.prog 52 #[.pointer (some ⟨T, 0, none⟩), .int .i64 fam] w fun e w' => ∃ ao n cap out, e = .returned (.tuple #[.slice ao n cap, .int .i64 (famE fam)]) ∧ dumpR rs fam out ∧ n = out.length ∧ RwO w' w.heap.size (.slice ao n cap) out ∧ Below w.heap.size w w' := by
  unfold famE dumpR
  by_cases hf : fam = 4 ∨ fam = 6
  · simp only [if_pos hf]
    exact rdump_any N T (f 3) rs fam w hf (h.rq.st 3 (by decide)).1 h.rq.row.1 hlen
  · simp only [if_neg hf]
    have HW := Lib.hid (H.rsize_no fam w (fun e => hf (.inl e)) (fun e => hf (.inr e)))
    clear h hf
    go_enter Tryz.func52, Tryz.ntmps52
    go_wp2_with (go_at_call 62; refine HW.out.mono ?_; rintro e w1 ⟨rfl, rfl⟩)
    go_ret2
    exact ⟨none, 0, 0, [], rfl, rfl, rfl, World.ownsRow_nil _ _ _ _, Below.refl _ _⟩

/-- Has a route of the family this length? -/
def hasL (rs : List Rt) (fam n : Int) : Bool := rs.any fun r => r.f == fam && r.n == n
/-- The lengths, as the document has them. -/
def lensF (rs : List Rt) (fam : Int) (k : Nat) : List Int := ((List.range k).filter fun n : Nat => hasL rs fam n).map fun n : Nat => (n : Int)
theorem hasL_succ {rs : List Rt} {fam n : Int} {k : Nat} {r : Rt} (h : rs[k]? = some r) : hasL (rs.take (k + 1)) fam n = (hasL (rs.take k) fam n || (r.f == fam && r.n == n)) := by
  unfold hasL; rw [take_snoc h, List.any_append]; simp
theorem lensF_yes {rs : List Rt} {fam : Int} {k : Nat} (h : hasL rs fam k = true) : lensF rs fam (k + 1) = lensF rs fam k ++ [(k : Int)] := by
  unfold lensF; rw [List.range_succ, List.filter_append, List.map_append]; simp [h]
theorem lensF_no {rs : List Rt} {fam : Int} {k : Nat} (h : hasL rs fam k = false) : lensF rs fam (k + 1) = lensF rs fam k := by
  unfold lensF; rw [List.range_succ, List.filter_append, List.map_append]; simp [h]
theorem lensF_le (rs : List Rt) (fam : Int) (k : Nat) : (lensF rs fam k).length ≤ k := by
  unfold lensF; rw [List.length_map]; have := List.length_filter_le (fun n : Nat => hasL rs fam n) (List.range k); rw [List.length_range] at this; exact this

set_option maxRecDepth 4000 in
set_option maxHeartbeats 4000000 in
theorem lengths_any (N T : Nat) (v : Value) (rs : List Rt) (fam : Int) (w : World) (hfam : fam = 4 ∨ fam = 6) (m : Nat) (hm128 : m ≤ 128) (hmm : (if fam = 4 then 32 else 128 : Int) = m) (hc : w.cell? ⟨T, 3, none⟩ = some v) (hr : RwO w N v rs) (hlen : rs.length ≤ 1000) :
    Calls Tryz.prog 63 #[.pointer (some ⟨T, 0, none⟩), .int .i64 fam] w fun e w' => ∃ ao n cap, e = .returned (.slice ao n cap) ∧ n = (lensF rs fam (m + 1)).length ∧ w'.ownsRow w.heap.size 3 1 (.slice ao n cap) n (ints (lensF rs fam (m + 1))) ∧ Below w.heap.size w w' := by
  obtain ⟨ao, cap, rfl, -⟩ := RwO.form hr
  have hT : T < w.heap.size := World.block_lt_of_cell? w ⟨T, 3, none⟩ hc
  have HR := Lib.hid hr
  obtain ⟨z, hz⟩ : ∃ z, z = rs.length := ⟨_, rfl⟩
  rw [← hz] at hc hlen
  have Hz := Lib.hid hz
  have Hc := Lib.hid hc
  have HZ := Lib.hid (fun (w : World) => size_any fam w hfam)
  rw [hmm] at HZ
  obtain ⟨i0, hi0, hz0, hz1, hz2⟩ := info3
  clear hr hz hc hfam hmm
  go_enter Tryz.func63, Tryz.ntmps63
  go_wp2
  go_loopw [5, 6] (fun lv i wr => ∃ (k n2 : Nat) (ao2 : Option Addr) (cap2 : Nat), k ≤ m + 1 ∧ i = .int .i64 k ∧ lv = .slice ao2 n2 cap2 ∧ n2 ≤ k ∧ Hid (wr.ownsRow w.heap.size 3 1 (.slice ao2 n2 cap2) n2 (ints (lensF rs fam k))) ∧ Hid (n2 = (lensF rs fam k).length) ∧ Hid (Below w.heap.size w wr)) (fun _ i _ => m + 1 - (intOf i).toNat)
  case atStart => exact ⟨0, 0, none, 0, Nat.zero_le _, rfl, rfl, Nat.le_refl _, World.ownsRow_nil _ _ _ _, rfl, Below.refl _ _⟩
  case round =>
    obtain ⟨k, n2, ao2, cap2, hk, rfl, rfl, hn2, HL, HN, HB⟩ := hrel
    by_cases hlt : k ≤ m
    · have cT := (HB.out.cell (p := ⟨T, 3, none⟩) hT).trans Hc.out
      go_wp2_with (go_at_call 62; refine (HZ.out _).mono ?_; rintro e w1 ⟨rfl, rfl⟩)
      go_loop [7, 8] (fun b i => ∃ (j : Nat) (t : Bool), j ≤ z ∧ b = .bool t ∧ i = .int .i64 j ∧ Hid (t = hasL (rs.take j) fam k)) (fun _ i => z - (intOf i).toNat)
      case atStart => exact ⟨0, false, Nat.zero_le _, rfl, rfl, rfl⟩
      case round =>
        obtain ⟨j, t, hj, rfl, rfl, Ht⟩ := hrel
        by_cases hlt2 : j < z
        · obtain ⟨r, hrj⟩ : ∃ r, rs[j]? = some r := ⟨_, List.getElem?_eq_getElem (by rw [← Hz.out]; exact hlt2)⟩
          obtain ⟨b, rfl, hat, -, -, hbl⟩ := RwO.at HR.out hrj
          have c0 := (HB.out.cell (p := ⟨b, j * 5, none⟩) hbl).trans hat.c0
          have c3 := (HB.out.cell (p := ⟨b, j * 5 + 3, none⟩) hbl).trans hat.c3
          have Hrj := Lib.hid hrj
          have q1 : (j : Int) < (z : Int) := by omega
          clear hat hrj
          cases ht : t with
          | true =>
            subst ht
            go_wp2
            go_round
            case rel => exact ⟨j + 1, true, by omega, rfl, by go_num, by show true = _; rw [hasL_succ Hrj.out, ← Ht.out, Bool.true_or]⟩
            case measure => simp [intOf]; omega
          | false =>
            subst ht
            cases hq : (r.f == fam) with
            | true =>
              cases hq2 : (r.n == (k : Int)) with
              | true =>
                have Hq := Lib.hid (And.intro hq hq2)
                go_wp2
                go_round
                case rel => exact ⟨j + 1, true, by omega, rfl, by go_num, by show true = _; rw [hasL_succ Hrj.out, Hq.out.1, Hq.out.2, Bool.true_and, Bool.or_true]⟩
                case measure => simp [intOf]; omega
              | false =>
                have Hq := Lib.hid (And.intro hq hq2)
                go_wp2
                go_round
                case rel => exact ⟨j + 1, false, by omega, rfl, by go_num, by show false = _; rw [hasL_succ Hrj.out, ← Ht.out, Hq.out.1, Hq.out.2]; rfl⟩
                case measure => simp [intOf]; omega
            | false =>
              have Hq := Lib.hid hq
              go_wp2
              go_round
              case rel => exact ⟨j + 1, false, by omega, rfl, by go_num, by show false = _; rw [hasL_succ Hrj.out, ← Ht.out, Hq.out]; rfl⟩
              case measure => simp [intOf]; omega
        · obtain rfl : j = z := by omega
          have HtA : Hid (t = hasL rs fam k) := by show _ = _; rw [Ht.out, Hz.out, List.take_length]
          cases ht : t with
          | true =>
            rw [ht] at HtA
            subst ht
            have hwl : w.heap.size ≤ w1.heap.size := HB.out.size
            go_wp2_with (at_builtin; refine wpList_append_lies _ rfl _ _ 36 rfl w.heap.size 3 i0 (.int .i64 0) 1 8 Tryz.underlying36 hi0 hz0 hz1 hz2 rfl (by decide) _ n2 (ints (lensF rs fam k)) rfl (HL.out.alloc _) ⟨w1.heap.size, 0, none⟩ 1 1 [.int .i64 k] rfl rfl (news_one _ _ _) ?c2 (by decide) ?c4 ?c5 ?c6 _ rfl ?_)
            case c2 => rfl
            case c4 => unfold maxLen; omega
            case c5 => omega
            case c6 => omega
            intro g3 cap3 w3 hown3 hgrow3 hat3 hgz3
            have HB3 := Lib.hid (below_grown (HB.out.trans (((Below.refl w1.heap.size w1).alloc (Nat.le_refl _) _).mono hwl)) hgrow3 (fun b hb => (World.ownsRow.lt HL.out b hb).1) (by simp; omega))
            have HO3 := Lib.hid (show w3.ownsRow w.heap.size 3 1 (.slice (some ⟨g3, 0, none⟩) (n2 + 1) cap3) (n2 + 1) (ints (lensF rs fam (k + 1))) by rw [lensF_yes HtA.out.symm, ints, List.map_append]; exact hown3)
            clear hown3 hgrow3 hat3
            go_wp2
            go_roundw
            case rel => exact ⟨k + 1, n2 + 1, _, cap3, by omega, by go_num, rfl, by omega, HO3, by show _ = _; rw [lensF_yes HtA.out.symm, List.length_append, ← HN.out]; rfl, HB3⟩
            case measure => simp [intOf]; omega
          | false =>
            rw [ht] at HtA
            subst ht
            go_wp2
            go_roundw
            case rel => exact ⟨k + 1, n2, ao2, cap2, by omega, by go_num, rfl, by omega, by show World.ownsRow _ _ _ _ _ _ _; rw [lensF_no HtA.out.symm]; exact HL.out, by show _ = _; rw [lensF_no HtA.out.symm]; exact HN.out, HB⟩
            case measure => simp [intOf]; omega
    · go_wp2_with (go_at_call 62; refine (HZ.out _).mono ?_; rintro e w1 ⟨rfl, rfl⟩)
      obtain rfl : k = m + 1 := by omega
      go_ret
      exact ⟨ao2, n2, cap2, rfl, HN.out, HL.out, HB.out⟩

set_option maxHeartbeats 1000000 in
theorem Lengths_any {N : Nat} {ρ : Nat → Nat} {w : World} {T rS rQ : Nat} {gs : Nat → List Int} {rs : List Rt} {lim : Int} {f : Nat → Value} (h : Tq N ρ w T rS rQ 4 3 gs rs lim f) (hlen : rs.length ≤ 1000) (fam : Int) (hfam : fam = 4 ∨ fam = 6) :
    Calls Tryz.prog 20 #[.pointer (some ⟨T, 0, none⟩), .int .i64 fam] w fun e w' => ∃ ao n cap, e = .returned (.tuple #[.slice ao n cap, .int .i64 0]) ∧ n ≤ 129 ∧ n = (lensF rs fam (if fam = 4 then 33 else 129)).length ∧ w'.ownsRow w.heap.size 3 1 (.slice ao n cap) n (ints (lensF rs fam (if fam = 4 then 33 else 129))) ∧ Below w.heap.size w w' := by
  have HZ := Lib.hid (size_any fam w hfam)
  obtain ⟨m, hm0, hm128, hm1, hm2⟩ : ∃ m : Nat, ((m : Int) == 0) = false ∧ m ≤ 128 ∧ (if fam = 4 then 32 else 128 : Int) = m ∧ (if fam = 4 then 33 else 129 : Nat) = m + 1 := by
    rcases hfam with rfl | rfl
    · exact ⟨32, rfl, by decide, rfl, rfl⟩
    · exact ⟨128, rfl, by decide, rfl, rfl⟩
  have HL := Lib.hid (lengths_any N T (f 3) rs fam w hfam m hm128 hm1 (h.rq.st 3 (by decide)).1 h.rq.row.1 hlen)
  rw [hm1] at HZ
  rw [hm2]
  have Hm := Lib.hid hm128
  clear h hfam hm1 hm2 hm128
  go_enter Tryz.func20, Tryz.ntmps20
  go_wp2_with (first | (go_at_call 62; refine HZ.out.mono ?_; rintro e w1 ⟨rfl, rfl⟩) | (go_at_call 63; refine HL.out.mono ?_; rintro e w2 ⟨ao, n, cap, rfl, hn, hr, hb⟩; have Hn := Lib.hid hn; have Hr := Lib.hid hr; have Hb := Lib.hid hb; clear hn hr hb))
  go_ret2
  exact ⟨ao, n, cap, rfl, by rw [Hn.out]; have h1 := lensF_le rs fam (m + 1); have h2 := Hm.out; omega, Hn.out, Hr.out, Hb.out⟩
end Go.Proofs.YtnfkgnjeamnhfaaGreat
