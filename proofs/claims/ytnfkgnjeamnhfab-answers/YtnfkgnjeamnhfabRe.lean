import Derived.Test.YtnfkgnjeamnhfabGi
import Derived.Lib.QuietBelow
namespace Go.Proofs.Ytnfkgnjeamnhfab
open Go.RowKit

/-- A route. -/
structure Rt where
  f : Int
  hi : Nat
  lo : Nat
  n : Int
  g : Int
/-- Its cells. -/
abbrev rc (r : Rt) : List Value := [.int .i64 r.f, .int .u64 r.hi, .int .u64 r.lo, .int .i64 r.n, .int .i64 r.g]
def flat (rs : List Rt) : List Value := rs.flatMap rc
theorem flat_nil : flat [] = [] := rfl
theorem flat_cons (r : Rt) (rs : List Rt) : flat (r :: rs) = rc r ++ flat rs := rfl
theorem flat_append (a b : List Rt) : flat (a ++ b) = flat a ++ flat b := by simp [flat]
theorem flat_len (rs : List Rt) : (flat rs).length = rs.length * 5 := by
  induction rs with
  | nil => rfl
  | cons r rs ih => rw [flat_cons, List.length_append, ih]; simp; omega
theorem flat_get {rs : List Rt} {k : Nat} {r : Rt} (h : rs[k]? = some r) {i : Nat} (hi : i < 5) : (flat rs)[k * 5 + i]? = (rc r)[i]? := by
  induction rs generalizing k with
  | nil => simp at h
  | cons a rs ih =>
    rw [flat_cons]
    cases k with
    | zero =>
      simp at h; subst h
      rw [Nat.zero_mul, Nat.zero_add, List.getElem?_append_left (by simpa using hi)]
    | succ k =>
      simp at h
      rw [List.getElem?_append_right (by simp; omega)]
      have : (k + 1) * 5 + i - (rc a).length = k * 5 + i := by simp; omega
      rw [this]
      exact ih h
/-- A row whose elements have z cells, of the role r. -/
def OwnZ (N : Nat) (ρ : Nat → Nat) (w : World) (r e z : Nat) (v : Value) (n : Nat) (xs : List Value) : Prop := w.ownsRow N e z v n xs ∧ ∀ g, v.ownBlock = some g → ρ g = r
theorem OwnZ.ev {N : Nat} {ρ ρ' : Nat → Nat} {w w' : World} {r e z : Nat} {v : Value} {n : Nat} {xs : List Value} {R : Nat → Prop} (h : OwnZ N ρ w r e z v n xs) (he : Ev R ρ w ρ' w') (hr : ¬ R r) (h14 : r ≠ 14) : OwnZ N ρ' w' r e z v n xs := by
  obtain ⟨h1, h2⟩ := h
  refine ⟨⟨h1.1, ?_⟩, fun g hg => ?_⟩
  · rcases h1.2 with hn | ⟨g, cap, cur, rfl, hb, hgg, rest⟩
    · exact .inl hn
    · have hρ := h2 g rfl
      refine .inr ⟨g, cap, cur, rfl, hb, ?_, rest⟩
      rw [he.block g (Array.getElem?_eq_some_iff.1 hgg).1 (by rw [hρ]; exact h14) (by rw [hρ]; exact hr)]
      exact hgg
  · have := h2 g hg
    rw [he.role g (h1.lt g hg).2 (by rw [this]; exact h14), this]
theorem OwnZ.nil (N : Nat) (ρ : Nat → Nat) (w : World) (r e z : Nat) : OwnZ N ρ w r e z nilS 0 [] := ⟨World.ownsRow_nil _ _ _ _, fun g hg => by simp [Value.ownBlock] at hg⟩
/-- A row of routes. -/
abbrev RwO (w : World) (N : Nat) (v : Value) (rs : List Rt) : Prop := w.ownsRow N 45 5 v rs.length (flat rs)
theorem RwO.form {w : World} {N : Nat} {v : Value} {rs : List Rt} (h : RwO w N v rs) : ∃ ao cap, v = .slice ao rs.length cap ∧ rs.length ≤ maxLen := by
  rcases h.2 with ⟨rfl, h0⟩ | ⟨g, cap, cur, rfl, hb, hgg, hc, hm, _⟩
  · rw [h0]; exact ⟨none, 0, rfl, by unfold maxLen; omega⟩
  · exact ⟨_, cap, rfl, Nat.le_trans hc hm⟩
/-- A route's cells in a row. -/
structure RtAt (w : World) (b o : Nat) (r : Rt) : Prop where
  c0 : w.cell? ⟨b, o, none⟩ = some (.int .i64 r.f)
  c1 : w.cell? ⟨b, o + 1, none⟩ = some (.int .u64 r.hi)
  c2 : w.cell? ⟨b, o + 2, none⟩ = some (.int .u64 r.lo)
  c3 : w.cell? ⟨b, o + 3, none⟩ = some (.int .i64 r.n)
  c4 : w.cell? ⟨b, o + 4, none⟩ = some (.int .i64 r.g)
theorem RwO.at {w : World} {N : Nat} {ao : Option Addr} {n cap : Nat} {rs : List Rt} (h : RwO w N (.slice ao n cap) rs) {k : Nat} {r : Rt} (hk : rs[k]? = some r) : ∃ g, ao = some ⟨g, 0, none⟩ ∧ RtAt w g (k * 5) r ∧ (∀ j, w.frozen? ⟨g, j, none⟩ = false) ∧ N ≤ g ∧ g < w.heap.size := by
  have hlt := (List.getElem?_eq_some_iff.1 hk).1
  obtain ⟨g, cap', e, hN, hg⟩ := World.ownsRow.form h (by omega)
  obtain ⟨rfl, e2, e3⟩ : ao = some ⟨g, 0, none⟩ ∧ n = rs.length ∧ cap = cap' := by simpa using e
  subst e2 e3
  have hc : ∀ i, i < 5 → w.cell? ⟨g, k * 5 + i, none⟩ = (rc r)[i]? := fun i hi => by
    rw [World.ownsRow.cellAt h _ (by omega), flat_get hk hi]
  exact ⟨g, rfl, ⟨hc 0 (by decide), hc 1 (by decide), hc 2 (by decide), hc 3 (by decide), hc 4 (by decide)⟩, World.ownsRow.frozenAt h, hN, hg⟩

/-- Has a route the group? -/
def busyB (rs : List Rt) (g : Int) : Bool := rs.any fun r => r.g == g

set_option maxHeartbeats 1000000 in
theorem haveGroup_any (N T : Nat) (v : Value) (rs : List Rt) (g : Int) (w : World) (hc : w.cell? ⟨T, 35, none⟩ = some v) (hr : RwO w N v rs) :
    Calls Try.prog 44 #[.pointer (some ⟨T, 35, none⟩), .int .i64 g] w fun e w' => e = .returned (.bool (busyB rs g)) ∧ w' = w := by
  obtain ⟨ao, cap, rfl, hm⟩ := RwO.form hr
  have HR := Lib.hid hr
  clear hr
  obtain ⟨z, hz⟩ : ∃ z, z = rs.length := ⟨_, rfl⟩
  rw [← hz] at hc hm
  have Hz := Lib.hid hz
  clear hz
  unfold maxLen at hm
  go_enter Try.func44, Try.ntmps44
  go_wp2
  go_loop [5] (fun i => ∃ k : Nat, k ≤ z ∧ i = .int .i64 k ∧ Hid (∀ j r, j < k → rs[j]? = some r → r.g ≠ g)) (fun i => z - (intOf i).toNat)
  case atStart => exact ⟨0, Nat.zero_le _, rfl, by intro j r hj; omega⟩
  case round =>
    obtain ⟨k, hk, rfl, HK⟩ := hrel
    by_cases hlt : k < z
    · obtain ⟨r, hrk⟩ : ∃ r, rs[k]? = some r := ⟨_, List.getElem?_eq_getElem (by rw [← Hz.out]; exact hlt)⟩
      obtain ⟨b, rfl, hat, -, -, -⟩ := RwO.at HR.out hrk
      have c4 := hat.c4
      have Hrk := Lib.hid hrk
      clear hat hrk
      have q1 : (k : Int) < (z : Int) := by omega
      by_cases h1 : r.g = g
      · have q2 : (r.g == g) = true := by rw [h1]; simp
        go_wp2
        go_ret
        refine ⟨?_, rfl⟩
        rw [show busyB rs g = true from List.any_eq_true.2 ⟨r, List.mem_of_getElem? Hrk.out, q2⟩]
        rfl
      · have q2 : (r.g == g) = false := ine_beq h1
        go_wp2
        go_round
        case rel =>
          refine ⟨k + 1, by omega, by go_num, ?_⟩
          intro j r' hj hr'
          by_cases e : j = k
          · subst e; rw [Hrk.out] at hr'; cases hr'; exact h1
          · exact HK.out j r' (by omega) hr'
        case measure => simp [intOf]; omega
    · obtain rfl : k = z := by omega
      go_wp2
      go_ret
      have hb : busyB rs g = false := by
        rw [busyB, List.any_eq_false]
        intro r hr
        obtain ⟨j, hj, e⟩ := List.getElem_of_mem hr
        have := HK.out j r (by rw [Hz.out]; exact hj) (by rw [← e]; exact List.getElem?_eq_getElem hj)
        simpa using this
      rw [hb]
      exact ⟨rfl, rfl⟩
end Go.Proofs.Ytnfkgnjeamnhfab
namespace Go.Proofs.Ytnfkgnjeamnhfab
open Go.RowKit Go.Sort

/-- Does p stand ahead of q? -/
def ahd (p q : Rt) : Bool := if p.f = q.f then (if p.hi = q.hi then (if p.lo = q.lo then decide (p.n < q.n) else decide (p.lo < q.lo)) else decide (p.hi < q.hi)) else decide (p.f < q.f)
/-- Have they the same prefix? -/
def sameP (p q : Rt) : Bool := p.f == q.f && p.hi == q.hi && p.lo == q.lo && p.n == q.n
theorem two_boxes (w : World) (a b : Obj) : Below w.heap.size w ((w.alloc a).alloc b) := ((Below.refl _ _).alloc (Nat.le_refl _) _).trans (((Below.refl _ _).alloc (Nat.le_refl _) _).mono (by simp))

set_option maxHeartbeats 1000000 in
theorem ahead_any (p q : Rt) (w : World) : Calls Try.prog 90 #[.agg #[.int .i64 p.f, .int .u64 p.hi, .int .u64 p.lo, .int .i64 p.n], .agg #[.int .i64 q.f, .int .u64 q.hi, .int .u64 q.lo, .int .i64 q.n]] w fun e w' => e = .returned (.bool (ahd p q)) ∧ Below w.heap.size w w' := by
  unfold ahd
  by_cases h1 : p.f = q.f
  · rw [if_pos h1]
    have q1 : (p.f == q.f) = true := by rw [h1]; simp
    by_cases h2 : p.hi = q.hi
    · rw [if_pos h2]
      have q2 : ((p.hi : Int) == (q.hi : Int)) = true := by rw [h2]; simp
      by_cases h3 : p.lo = q.lo
      · rw [if_pos h3]
        have q3 : ((p.lo : Int) == (q.lo : Int)) = true := by rw [h3]; simp
        go_enter Try.func90, Try.ntmps90
        go_wp2
        go_ret
        exact ⟨rfl, two_boxes _ _ _⟩
      · rw [if_neg h3]
        have q3 : ((p.lo : Int) == (q.lo : Int)) = false := ne_beq h3
        have q4 : decide ((p.lo : Int) < (q.lo : Int)) = decide (p.lo < q.lo) := by simp
        go_enter Try.func90, Try.ntmps90
        go_wp2
        go_ret
        exact ⟨by simp, two_boxes _ _ _⟩
    · rw [if_neg h2]
      have q2 : ((p.hi : Int) == (q.hi : Int)) = false := ne_beq h2
      go_enter Try.func90, Try.ntmps90
      go_wp2
      go_ret
      exact ⟨by simp, two_boxes _ _ _⟩
  · rw [if_neg h1]
    have q1 : (p.f == q.f) = false := ine_beq h1
    go_enter Try.func90, Try.ntmps90
    go_wp2
    go_ret
    exact ⟨rfl, two_boxes _ _ _⟩

/-- How many stand ahead of p, up to the first that doesn't. -/
def plc (rs : List Rt) (p : Rt) : Nat := (rs.takeWhile fun r => ahd r p).length
theorem plc_le (rs : List Rt) (p : Rt) : plc rs p ≤ rs.length := List.Sublist.length_le (List.takeWhile_sublist _)
theorem plc_at {rs : List Rt} {p : Rt} {k : Nat} {r : Rt} (h : ∀ j r, j < k → rs[j]? = some r → ahd r p = true) (hr : rs[k]? = some r) (hn : ahd r p = false) : plc rs p = k := by
  unfold plc
  induction rs generalizing k with
  | nil => simp at hr
  | cons a rs ih =>
    cases k with
    | zero => simp at hr; subst hr; simp [hn]
    | succ k =>
      have h0 := h 0 a (by omega) rfl
      rw [List.takeWhile_cons, if_pos h0, List.length_cons, ih (k := k) (fun j r hj hr => h (j + 1) r (by omega) (by simpa using hr)) (by simpa using hr)]
theorem plc_all {rs : List Rt} {p : Rt} (h : ∀ j r, j < rs.length → rs[j]? = some r → ahd r p = true) : plc rs p = rs.length := by
  unfold plc
  induction rs with
  | nil => rfl
  | cons a rs ih =>
    have h0 := h 0 a (by simp) rfl
    rw [List.takeWhile_cons, if_pos h0, List.length_cons, ih (fun j r hj hr => h (j + 1) r (by simpa using hj) (by simpa using hr)), List.length_cons]

end Go.Proofs.Ytnfkgnjeamnhfab
namespace Go.Proofs.Ytnfkgnjeamnhfab
open Go.RowKit Go.Sort

set_option maxHeartbeats 1000000 in
theorem place_any (N T : Nat) (v : Value) (rs : List Rt) (p : Rt) (w : World) (hc : w.cell? ⟨T, 35, none⟩ = some v) (hr : RwO w N v rs) :
    Calls Try.prog 74 #[.pointer (some ⟨T, 35, none⟩), .agg #[.int .i64 p.f, .int .u64 p.hi, .int .u64 p.lo, .int .i64 p.n]] w fun e w' => e = .returned (.int .i64 (plc rs p)) ∧ Below w.heap.size w w' := by
  obtain ⟨ao, cap, rfl, hm⟩ := RwO.form hr
  have HR := Lib.hid hr
  clear hr
  obtain ⟨z, hz⟩ : ∃ z, z = rs.length := ⟨_, rfl⟩
  rw [← hz] at hc hm
  have Hz := Lib.hid hz
  clear hz
  unfold maxLen at hm
  obtain ⟨w0, hw0⟩ : ∃ w0, w0 = w.alloc (.cells #[.int .i64 p.f, .int .u64 p.hi, .int .u64 p.lo, .int .i64 p.n] 43) := ⟨_, rfl⟩
  have hT := World.block_lt_of_cell? w ⟨T, 35, none⟩ hc
  have HB0 := Lib.hid (show Below w.heap.size w w0 by rw [hw0]; exact (Below.refl _ _).alloc (Nat.le_refl _) _)
  obtain ⟨bx, hbx⟩ : ∃ bx, bx = w.heap.size := ⟨_, rfl⟩
  have hz0 : bx < w0.heap.size := by rw [hw0, hbx]; simp
  have k0 : w0.cell? ⟨bx, 0, none⟩ = some (.int .i64 p.f) := by rw [hw0, hbx]; simp
  have k1 : w0.cell? ⟨bx, 1, none⟩ = some (.int .u64 p.hi) := by rw [hw0, hbx]; simp
  have k2 : w0.cell? ⟨bx, 2, none⟩ = some (.int .u64 p.lo) := by rw [hw0, hbx]; simp
  have k3 : w0.cell? ⟨bx, 3, none⟩ = some (.int .i64 p.n) := by rw [hw0, hbx]; simp
  have Hw0 := Lib.hid hw0
  have Hbx := Lib.hid hbx
  have hT0 : T < w0.heap.size := Nat.lt_of_lt_of_le hT HB0.out.size
  have hc0 : w0.cell? ⟨T, 35, none⟩ = some (.slice ao z cap) := (HB0.out.cell (p := ⟨T, 35, none⟩) hT).trans hc
  have HK0 := Lib.hid (And.intro k0 (And.intro k1 (And.intro k2 k3)))
  have HR0 := Lib.hid (show RwO w0 N (.slice ao rs.length cap) rs by rw [hw0]; exact HR.out.alloc _)
  clear hw0 hbx k0 k1 k2 k3 hc HR hT
  go_enter Try.func74, Try.ntmps74
  go_wp2
  rw [← Hw0.out, ← Hbx.out]
  go_loopw [5] (fun i wr => ∃ k : Nat, k ≤ z ∧ i = .int .i64 k ∧ Hid (∀ j r, j < k → rs[j]? = some r → ahd r p = true) ∧ Hid (Below w0.heap.size w0 wr)) (fun i _ => z - (intOf i).toNat)
  case atStart => exact ⟨0, Nat.zero_le _, rfl, by intro j r hj; omega, Below.refl _ _⟩
  case round =>
    obtain ⟨k, hk, rfl, HK, HB⟩ := hrel
    have hcw := (HB.out.cell (p := ⟨T, 35, none⟩) hT0).trans hc0
    by_cases hlt : k < z
    · obtain ⟨r, hrk⟩ : ∃ r, rs[k]? = some r := ⟨_, List.getElem?_eq_getElem (by rw [← Hz.out]; exact hlt)⟩
      obtain ⟨b, rfl, hat, -, -, hbl⟩ := RwO.at HR0.out hrk
      have c0 := (HB.out.cell (p := ⟨b, k * 5, none⟩) hbl).trans hat.c0
      have c1 := (HB.out.cell (p := ⟨b, k * 5 + 1, none⟩) hbl).trans hat.c1
      have c2 := (HB.out.cell (p := ⟨b, k * 5 + 2, none⟩) hbl).trans hat.c2
      have c3 := (HB.out.cell (p := ⟨b, k * 5 + 3, none⟩) hbl).trans hat.c3
      have d0 := (HB.out.cell (p := ⟨bx, 0, none⟩) hz0).trans HK0.out.1
      have d1 := (HB.out.cell (p := ⟨bx, 1, none⟩) hz0).trans HK0.out.2.1
      have d2 := (HB.out.cell (p := ⟨bx, 2, none⟩) hz0).trans HK0.out.2.2.1
      have d3 := (HB.out.cell (p := ⟨bx, 3, none⟩) hz0).trans HK0.out.2.2.2
      have Hrk := Lib.hid hrk
      clear hat hrk hc0
      have q1 : (k : Int) < (z : Int) := by omega
      have CA := Lib.hid (fun (w : World) => ahead_any r p w)
      go_wp2
      have e := cell_regrown hcw
      have e0 := cell_regrown c0
      have e1 := cell_regrown c1
      have e2 := cell_regrown c2
      have e3 := cell_regrown c3
      have f0 := cell_regrown d0
      have f1 := cell_regrown d1
      have f2 := cell_regrown d2
      have f3 := cell_regrown d3
      have cA : ∀ d os, Calls Try.prog 90 #[.agg #[.int .i64 r.f, .int .u64 r.hi, .int .u64 r.lo, .int .i64 r.n], .agg #[.int .i64 p.f, .int .u64 p.hi, .int .u64 p.lo, .int .i64 p.n]] (grow (redrawn wr d) os) fun e w'' => e = .returned (.bool (ahd r p)) ∧ ∃ q : Regrown, w'' = grow (redrawn wr q.d) q.os := fun d os => Calls.regrown_of (CA.out _)
      refine wp_region_quiet_below (by kernel_rfl) (by kernel_rfl) ?_
      repeat (go_big_quiet_step (first | exact cA _ _))
      refine wpQuiet_nil ?_
      intro _ hw'
      obtain ⟨⟨dq, osq⟩, hw''⟩ := hw'
      subst hw''
      have HB3 := Lib.hid (HB.out.trans ((below_regrown wr dq osq).mono HB.out.size))
      generalize grow (redrawn wr dq) osq = w3 at HB3 ⊢
      clear e e0 e1 e2 e3 f0 f1 f2 f3 cA
      cases ha : ahd r p with
      | true =>
        go_wp2
        go_roundw
        case rel =>
          refine ⟨k + 1, by omega, by go_num, ?_, HB3⟩
          intro j r' hj hr'
          by_cases e : j = k
          · subst e; rw [Hrk.out] at hr'; cases hr'; exact ha
          · exact HK.out j r' (by omega) hr'
        case measure => simp [intOf]; omega
      | false =>
        go_wp2
        go_ret
        rw [plc_at HK.out Hrk.out ha]
        exact ⟨rfl, HB0.out.trans (HB3.out.mono HB0.out.size)⟩
    · obtain rfl : k = z := by omega
      go_wp2
      go_ret
      rw [plc_all (fun j r hj hr => HK.out j r (by rw [Hz.out]; exact hj) hr), ← Hz.out]
      exact ⟨rfl, HB0.out.trans (HB.out.mono HB0.out.size)⟩

end Go.Proofs.Ytnfkgnjeamnhfab
namespace Go.Proofs.Ytnfkgnjeamnhfab
open Go.RowKit Go.Sort

theorem cast_eq (a b : Nat) : ((a : Int) = (b : Int)) = (a = b) := propext ⟨by omega, by omega⟩
theorem eql_pref (p q : Rt) (w : World) : Sem.run Try.prog (binOp BinOp.eql 43 (.agg #[.int .i64 p.f, .int .u64 p.hi, .int .u64 p.lo, .int .i64 p.n]) (.agg #[.int .i64 q.f, .int .u64 q.hi, .int .u64 q.lo, .int .i64 q.n])) w = .ok (.bool (sameP p q)) w := by
  unfold sameP
  simp [go_sem]
  by_cases h1 : p.f = q.f <;> by_cases h2 : p.hi = q.hi <;> by_cases h3 : p.lo = q.lo <;> by_cases h4 : p.n = q.n <;> simp [h1, h2, h3, h4, cast_eq]
theorem eql_route (p q : Rt) (w : World) : Sem.run Try.prog (binOp BinOp.neq 45 (.agg #[.int .i64 p.f, .int .u64 p.hi, .int .u64 p.lo, .int .i64 p.n, .int .i64 p.g]) (.agg #[.int .i64 q.f, .int .u64 q.hi, .int .u64 q.lo, .int .i64 q.n, .int .i64 q.g])) w = .ok (.bool (!(sameP p q && p.g == q.g))) w := by
  unfold sameP
  simp [go_sem]
  by_cases h1 : p.f = q.f <;> by_cases h2 : p.hi = q.hi <;> by_cases h3 : p.lo = q.lo <;> by_cases h4 : p.n = q.n <;> by_cases h5 : p.g = q.g <;> simp [h1, h2, h3, h4, h5, cast_eq]
theorem sameP_iff {p q : Rt} : sameP p q = true ↔ p.f = q.f ∧ p.hi = q.hi ∧ p.lo = q.lo ∧ p.n = q.n := by simp [sameP, and_assoc]

/-- Stands a route with this prefix at this place? -/
def isB (rs : List Rt) (k : Nat) (p : Rt) : Bool := match rs[k]? with
  | some r => sameP r p
  | none => false

set_option maxHeartbeats 1000000 in
theorem isAt_any (N T : Nat) (v : Value) (rs : List Rt) (k : Nat) (p : Rt) (w : World) (hc : w.cell? ⟨T, 35, none⟩ = some v) (hr : RwO w N v rs) (hk : k ≤ rs.length) :
    Calls Try.prog 75 #[.pointer (some ⟨T, 35, none⟩), .int .i64 k, .agg #[.int .i64 p.f, .int .u64 p.hi, .int .u64 p.lo, .int .i64 p.n]] w fun e w' => e = .returned (.bool (isB rs k p)) ∧ Below w.heap.size w w' := by
  obtain ⟨ao, cap, rfl, hm⟩ := RwO.form hr
  unfold maxLen at hm
  have hT : T < w.heap.size := World.block_lt_of_cell? w ⟨T, 35, none⟩ hc
  obtain ⟨w0, hw0⟩ : ∃ w0, w0 = w.alloc (.cells #[.int .i64 p.f, .int .u64 p.hi, .int .u64 p.lo, .int .i64 p.n] 43) := ⟨_, rfl⟩
  have HB0 := Lib.hid (show Below w.heap.size w w0 by rw [hw0]; exact (Below.refl _ _).alloc (Nat.le_refl _) _)
  obtain ⟨bx, hbx⟩ : ∃ bx, bx = w.heap.size := ⟨_, rfl⟩
  have k0 : w0.cell? ⟨bx, 0, none⟩ = some (.int .i64 p.f) := by rw [hw0, hbx]; simp
  have k1 : w0.cell? ⟨bx, 1, none⟩ = some (.int .u64 p.hi) := by rw [hw0, hbx]; simp
  have k2 : w0.cell? ⟨bx, 2, none⟩ = some (.int .u64 p.lo) := by rw [hw0, hbx]; simp
  have k3 : w0.cell? ⟨bx, 3, none⟩ = some (.int .i64 p.n) := by rw [hw0, hbx]; simp
  have hc0 : w0.cell? ⟨T, 35, none⟩ = some (.slice ao rs.length cap) := (HB0.out.cell (p := ⟨T, 35, none⟩) hT).trans hc
  have Hw0 := Lib.hid hw0
  have Hbx := Lib.hid hbx
  clear hw0 hbx
  unfold isB
  cases hrk : rs[k]? with
  | none =>
    have hk2 : rs.length ≤ k := by simpa using hrk
    have q1 : (rs.length : Int) ≤ (k : Int) := by omega
    have q0 : (0 : Int) ≤ (k : Int) := by omega
    generalize rs.length = z at *
    clear hr hrk
    go_enter Try.func75, Try.ntmps75
    go_wp2
    go_ret
    rw [← Hw0.out]
    exact ⟨rfl, HB0.out⟩
  | some r =>
    have hk2 := (List.getElem?_eq_some_iff.1 hrk).1
    obtain ⟨b, rfl, hat, -, -, hbl⟩ := RwO.at hr hrk
    have c0 := (HB0.out.cell (p := ⟨b, k * 5, none⟩) hbl).trans hat.c0
    have c1 := (HB0.out.cell (p := ⟨b, k * 5 + 1, none⟩) hbl).trans hat.c1
    have c2 := (HB0.out.cell (p := ⟨b, k * 5 + 2, none⟩) hbl).trans hat.c2
    have c3 := (HB0.out.cell (p := ⟨b, k * 5 + 3, none⟩) hbl).trans hat.c3
    have q0 : (0 : Int) ≤ (k : Int) := by omega
    have q1 : (k : Int) < (rs.length : Int) := by omega
    generalize rs.length = z at *
    have hE := eql_pref r p
    clear hr hrk hat
    go_enter Try.func75, Try.ntmps75
    go_wp2
    rw [← Hw0.out, ← Hbx.out]
    go_quiet (fail)
    go_wp2
    go_ret
    exact ⟨rfl, ⟨HB0.out.os, HB0.out.tape, HB0.out.output, HB0.out.size, HB0.out.block⟩⟩
end Go.Proofs.Ytnfkgnjeamnhfab
namespace Go.Proofs.Ytnfkgnjeamnhfab
open Go.RowKit Go.Sort

theorem set_app {α : Type} (a b : List α) (k : Nat) (x : α) (h : a.length = k) (y : α) : (a ++ y :: b).set k x = a ++ x :: b := by
  subst h; simp
theorem flat_split {rs : List Rt} {k : Nat} (r : Rt) (hk : k < rs.length) : flat (rs.set k r) = flat (rs.take k) ++ (rc r ++ flat (rs.drop (k + 1))) := by
  rw [List.set_eq_take_append_cons_drop, if_pos hk, flat_append, flat_cons]
theorem flat_set {rs : List Rt} {k : Nat} (r : Rt) (hk : k < rs.length) :
    (((((flat rs).set (k * 5) (.int .i64 r.f)).set (k * 5 + 1) (.int .u64 r.hi)).set (k * 5 + 2) (.int .u64 r.lo)).set (k * 5 + 3) (.int .i64 r.n)).set (k * 5 + 4) (.int .i64 r.g) = flat (rs.set k r) := by
  have h0 : flat rs = flat (rs.take k) ++ (rc rs[k] ++ flat (rs.drop (k + 1))) := by
    conv => lhs; rw [← List.take_append_drop k rs, List.drop_eq_getElem_cons hk, flat_append, flat_cons]
  rw [h0, flat_split r hk]
  have hl : (flat (rs.take k)).length = k * 5 := by rw [flat_len, List.length_take]; omega
  generalize flat (rs.take k) = A at hl ⊢
  simp only [rc, List.cons_append, List.nil_append]
  rw [← hl]
  simp [List.set_append_right]
/-- A route stored into a row. -/
theorem RwO.set {w : World} {N g n cap : Nat} {rs : List Rt} (h : RwO w N (.slice (some ⟨g, 0, none⟩) n cap) rs) {k : Nat} (hk : k < rs.length) (r : Rt) :
    RwO (((((w.setCell ⟨g, k * 5, none⟩ (.int .i64 r.f)).setCell ⟨g, k * 5 + 1, none⟩ (.int .u64 r.hi)).setCell ⟨g, k * 5 + 2, none⟩ (.int .u64 r.lo)).setCell ⟨g, k * 5 + 3, none⟩ (.int .i64 r.n)).setCell ⟨g, k * 5 + 4, none⟩ (.int .i64 r.g)) N (.slice (some ⟨g, 0, none⟩) n cap) (rs.set k r) := by
  obtain ⟨g', cap', e, -⟩ := World.ownsRow.form h (by omega)
  obtain ⟨e1, e2, e3⟩ : g = g' ∧ n = rs.length ∧ cap = cap' := by simpa using e
  subst e1 e2 e3
  have h1 := (((((h.stored (k * 5) (.int .i64 r.f)).1.stored (k * 5 + 1) (.int .u64 r.hi)).1.stored (k * 5 + 2) (.int .u64 r.lo)).1.stored (k * 5 + 3) (.int .i64 r.n)).1.stored (k * 5 + 4) (.int .i64 r.g)).1
  rw [flat_set r hk] at h1
  rw [RwO, List.length_set]
  exact h1
/-- A route's group. -/
theorem RwO.setG {w : World} {N g n cap : Nat} {rs : List Rt} (h : RwO w N (.slice (some ⟨g, 0, none⟩) n cap) rs) {k : Nat} {r : Rt} (hk : rs[k]? = some r) (x : Int) :
    RwO (w.setCell ⟨g, k * 5 + 4, none⟩ (.int .i64 x)) N (.slice (some ⟨g, 0, none⟩) n cap) (rs.set k { r with g := x }) := by
  have hk2 := (List.getElem?_eq_some_iff.1 hk).1
  obtain ⟨g', cap', e, -⟩ := World.ownsRow.form h (by omega)
  obtain ⟨e1, e2, e3⟩ : g = g' ∧ n = rs.length ∧ cap = cap' := by simpa using e
  subst e1 e2 e3
  have h1 := (h.stored (k * 5 + 4) (.int .i64 x)).1
  rw [RwO, List.length_set, ← flat_set _ hk2]
  have s : ∀ i, i < 4 → ∀ u, (rc r)[i]? = some u → (flat rs).set (k * 5 + i) u = flat rs := fun i hi u hu => by
    have := flat_get hk (i := i) (by omega)
    rw [hu] at this
    obtain ⟨hl, e⟩ := List.getElem?_eq_some_iff.1 this
    rw [← e]; exact List.set_getElem_self hl
  rw [show (flat rs).set (k * 5) (.int .i64 r.f) = flat rs from s 0 (by decide) _ rfl, s 1 (by decide) _ rfl, s 2 (by decide) _ rfl, s 3 (by decide) _ rfl]
  exact h1

/-- A box of the call's own. -/
theorem boxE {ρ : Nat → Nat} {w : World} (hF : Fr ρ w) (h15 : ∀ k, ρ k ≠ 15) (o : Obj) : ∃ ρ', (∀ R, Ev R ρ w ρ' (w.alloc o)) ∧ Fr ρ' (w.alloc o) ∧ ρ' w.heap.size = 13 ∧ (∀ k, ρ' k ≠ 15) := by
  have hal : Below w.heap.size w (w.alloc o) := (Below.refl _ _).alloc (Nat.le_refl _) _
  refine ⟨Ytnfkgnjeamnhfab.rl ρ w.heap.size 13, fun R => (Ev.of_below ρ hal).trans (Ev.rl _ 13 (.inl (hF _ (Nat.le_refl _)))), (hF.grow hal.size).rl (by simp) 13, rl_same _ _ _, fun k => ?_⟩
  unfold Ytnfkgnjeamnhfab.rl; split
  · decide
  · exact h15 k
/-- 'x.f = append(x.f, y)' on a row of a struct's, of the roles rB and r. -/
theorem pushZ {N : Nat} {ρ : Nat → Nat} {w w1 w2 : World} {B m c rB r e z : Nat} {F : Nat → Value} {v : Value} {n k : Nat} {xs ys : List Value} {g cap : Nat}
    (hF : Fr ρ w) (hB : ρ B = rB) (hB14 : rB ≠ 14) (hst : St w B m F) (hc : c < m) (hr1 : r ≠ rB) (ho : OwnZ N ρ w r e z v n xs) (hw1 : Below w.heap.size w w1)
    (hown : w2.ownsRow N e z (.slice (some ⟨g, 0, none⟩) k cap) k ys) (hg : w1.grownBy w2 v.ownBlock) (hat : v.ownBlock = some g ∨ g = w1.heap.size) (hlt : g < w2.heap.size) :
    St w2 B m F ∧ ∃ ρ3, Fr ρ3 (w2.setCell ⟨B, c, none⟩ (.slice (some ⟨g, 0, none⟩) k cap)) ∧ Ev (fun q => q = rB ∨ q = r) ρ w ρ3 (w2.setCell ⟨B, c, none⟩ (.slice (some ⟨g, 0, none⟩) k cap)) ∧ ρ3 B = rB ∧
      St (w2.setCell ⟨B, c, none⟩ (.slice (some ⟨g, 0, none⟩) k cap)) B m (upd F c (.slice (some ⟨g, 0, none⟩) k cap)) ∧ OwnZ N ρ3 (w2.setCell ⟨B, c, none⟩ (.slice (some ⟨g, 0, none⟩) k cap)) r e z (.slice (some ⟨g, 0, none⟩) k cap) k ys ∧ (r ≠ 15 → (∀ k, ρ k ≠ 15) → ∀ k, ρ3 k ≠ 15) := by
  have hBlt := hst.lt (Nat.lt_of_le_of_lt (Nat.zero_le _) hc)
  have hgρ : ρ g = 14 ∨ ρ g = r := by
    rcases hat with h | h
    · exact .inr (ho.2 g h)
    · exact .inl (hF g (by rw [h]; exact hw1.size))
  have hgB : g ≠ B := by
    rintro rfl
    rcases hgρ with h | h
    · rw [hB] at h; exact hB14 h
    · rw [hB] at h; exact hr1 h.symm
  have hvB : ∀ k, v.ownBlock = some k → k ≠ B := fun k hk e => by have := ho.2 k hk; rw [e, hB] at this; exact hr1 this.symm
  have hs12 : w1.heap.size ≤ w2.heap.size := hg.size
  have e12 : Ev (fun q => q = rB ∨ q = r) ρ w ρ w2 := (Ev.of_below ρ hw1).trans (Ev.of_grown ρ hg (fun k hk => .inr (.inr (ho.2 k hk))))
  have e3 : Ev (fun q => q = rB ∨ q = r) ρ w ρ (w2.setCell ⟨B, c, none⟩ (.slice (some ⟨g, 0, none⟩) k cap)) := e12.trans (Ev.of_set ρ w2 B c _ (.inr (.inl hB)))
  have hsz : (w2.setCell ⟨B, c, none⟩ (.slice (some ⟨g, 0, none⟩) k cap)).heap.size = w2.heap.size := by simp [World.setCell]
  have hstB : St w2 B m F := (hst.below hw1 hBlt).same (hg.block B (Nat.lt_of_lt_of_le hBlt hw1.size) (fun e => hvB B e.symm rfl))
  refine ⟨hstB, rl ρ g r, ?_, ?_, by rw [rl_ne (fun e => hgB e.symm)]; exact hB, hstB.set hc _, ⟨?_, fun k hk => ?_⟩, fun h h' k => ?_⟩
  · exact ((hF.grow (Nat.le_trans hw1.size hs12)).grow (Nat.le_of_eq hsz.symm)).rl (by rw [hsz]; exact hlt) r
  · exact e3.trans (Ev.rl _ r hgρ)
  · obtain ⟨h1, h2⟩ := hown
    refine ⟨h1, ?_⟩
    rcases h2 with ⟨h', _⟩ | ⟨g', cap', cur, hv, hb, hgg, rest⟩
    · cases h'
    · have : g' = g := by simp at hv; exact hv.1.symm
      subst this
      exact .inr ⟨g', cap', cur, hv, hb, by rw [Below.heap_setCell _ _ _ _ hgB]; exact hgg, rest⟩
  · simp [Value.ownBlock] at hk; subst hk; exact rl_same _ _ _
  · unfold rl; split
    · exact h
    · exact h' k
end Go.Proofs.Ytnfkgnjeamnhfab
