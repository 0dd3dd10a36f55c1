import Derived.Test.YteocfjiijmdjcaaGreatRj
namespace Go.Proofs.YteocfjiijmdjcaaGreat
open Go.RowKit Go.Sort

/-- Where a prefix is among the routes; -1: nowhere. -/
def whr (rs : List Rt) (p : Rt) : Int := match rs.findIdx? (fun r => sameP r p) with
  | some i => i
  | none => -1
theorem whr_at {rs : List Rt} {p : Rt} {k : Nat} {r : Rt} (h : ∀ j r, j < k → rs[j]? = some r → sameP r p = false) (hr : rs[k]? = some r) (hs : sameP r p = true) : whr rs p = k := by
  have : rs.findIdx? (fun r => sameP r p) = some k := by
    rw [List.findIdx?_eq_some_iff_getElem]
    obtain ⟨hl, e⟩ := List.getElem?_eq_some_iff.1 hr
    refine ⟨hl, by rw [e]; exact hs, fun j hj => ?_⟩
    have := h j rs[j] hj (List.getElem?_eq_getElem (by omega))
    simp [this]
  unfold whr; rw [this]
theorem whr_none {rs : List Rt} {p : Rt} (h : ∀ j r, j < rs.length → rs[j]? = some r → sameP r p = false) : whr rs p = -1 := by
  have : rs.findIdx? (fun r => sameP r p) = none := by
    rw [List.findIdx?_eq_none_iff]
    intro x hx
    obtain ⟨j, hj, e⟩ := List.getElem_of_mem hx
    exact h j x hj (by rw [← e]; exact List.getElem?_eq_getElem hj)
  unfold whr; rw [this]
theorem whr_cases (rs : List Rt) (p : Rt) : (whr rs p = -1 ∧ ∀ r ∈ rs, sameP r p = false) ∨ ∃ k r, whr rs p = (k : Nat) ∧ rs[k]? = some r ∧ sameP r p = true ∧ ∀ j r, j < k → rs[j]? = some r → sameP r p = false := by
  unfold whr
  cases h : rs.findIdx? (fun r => sameP r p) with
  | none =>
    rw [List.findIdx?_eq_none_iff] at h
    exact .inl ⟨rfl, h⟩
  | some k =>
    rw [List.findIdx?_eq_some_iff_getElem] at h
    obtain ⟨hl, h1, h2⟩ := h
    refine .inr ⟨k, rs[k], rfl, List.getElem?_eq_getElem hl, h1, fun j r hj hr => ?_⟩
    have := h2 j hj
    rw [List.getElem?_eq_getElem (by omega)] at hr
    cases hr
    simpa using this

set_option maxHeartbeats 1000000 in
theorem where_any (N T : Nat) (v : Value) (rs : List Rt) (p : Rt) (w : World) (hc : w.cell? ⟨T, 3, none⟩ = some v) (hr : RwO w N v rs) :
    Calls Tryz.prog 67 #[.pointer (some ⟨T, 0, none⟩), .agg #[.int .i64 p.f, .int .u64 p.hi, .int .u64 p.lo, .int .i64 p.n]] w fun e w' => e = .returned (.int .i64 (whr rs p)) ∧ Below w.heap.size w w' := by
  obtain ⟨ao, cap, rfl, hm⟩ := RwO.form hr
  have HR := Lib.hid hr
  clear hr
  obtain ⟨z, hz⟩ : ∃ z, z = rs.length := ⟨_, rfl⟩
  rw [← hz] at hc hm
  have Hz := Lib.hid hz
  clear hz
  unfold maxLen at hm
  obtain ⟨w0, hw0⟩ : ∃ w0, w0 = w.alloc (.cells #[.int .i64 p.f, .int .u64 p.hi, .int .u64 p.lo, .int .i64 p.n] 33) := ⟨_, rfl⟩
  have hT : T < w.heap.size := World.block_lt_of_cell? w ⟨T, 3, none⟩ hc
  have HB0 := Lib.hid (show Below w.heap.size w w0 by rw [hw0]; exact (Below.refl _ _).alloc (Nat.le_refl _) _)
  obtain ⟨bx, hbx⟩ : ∃ bx, bx = w.heap.size := ⟨_, rfl⟩
  have k0 : w0.cell? ⟨bx, 0, none⟩ = some (.int .i64 p.f) := by rw [hw0, hbx]; simp
  have k1 : w0.cell? ⟨bx, 1, none⟩ = some (.int .u64 p.hi) := by rw [hw0, hbx]; simp
  have k2 : w0.cell? ⟨bx, 2, none⟩ = some (.int .u64 p.lo) := by rw [hw0, hbx]; simp
  have k3 : w0.cell? ⟨bx, 3, none⟩ = some (.int .i64 p.n) := by rw [hw0, hbx]; simp
  have Hw0 := Lib.hid hw0
  have Hbx := Lib.hid hbx
  have hc0 : w0.cell? ⟨T, 3, none⟩ = some (.slice ao z cap) := (HB0.out.cell (p := ⟨T, 3, none⟩) hT).trans hc
  have HR0 := Lib.hid (show RwO w0 N (.slice ao rs.length cap) rs by rw [hw0]; exact HR.out.alloc _)
  clear hw0 hbx hc HR hT
  go_enter Tryz.func67, Tryz.ntmps67
  go_wp2
  rw [← Hw0.out, ← Hbx.out]
  go_loopw [5] (fun i wr => ∃ k d : Nat, k ≤ z ∧ i = .int .i64 k ∧ Hid (∀ j r, j < k → rs[j]? = some r → sameP r p = false) ∧ wr = w0.drewN d) (fun i _ => z - (intOf i).toNat)
  case atStart => exact ⟨0, 0, Nat.zero_le _, rfl, by intro j r hj; omega, rfl⟩
  case round =>
    obtain ⟨k, d, hk, rfl, HK, rfl⟩ := hrel
    have HD := Lib.hid (fun (d : Nat) => (show Below w.heap.size w (w0.drewN d) from ⟨HB0.out.os, HB0.out.tape, HB0.out.output, HB0.out.size, HB0.out.block⟩))
    by_cases hlt : k < z
    · obtain ⟨r, hrk⟩ : ∃ r, rs[k]? = some r := ⟨_, List.getElem?_eq_getElem (by rw [← Hz.out]; exact hlt)⟩
      obtain ⟨b, rfl, hat, -, -, hbl⟩ := RwO.at HR0.out hrk
      have c0 := hat.c0
      have c1 := hat.c1
      have c2 := hat.c2
      have c3 := hat.c3
      have Hrk := Lib.hid hrk
      clear hat hrk
      have q1 : (k : Int) < (z : Int) := by omega
      have hE := eql_pref r p
      go_wp2
      go_quiet (fail)
      cases ha : sameP r p with
      | true =>
        go_wp2
        go_ret
        rw [whr_at HK.out Hrk.out ha]
        exact ⟨rfl, by rw [World.drewN_drewN]; exact HD.out _⟩
      | false =>
        go_wp2
        go_roundw
        case rel =>
          refine ⟨k + 1, _, by omega, by go_num, ?_, rfl⟩
          intro j r' hj hr'
          by_cases e : j = k
          · subst e; rw [Hrk.out] at hr'; cases hr'; exact ha
          · exact HK.out j r' (by omega) hr'
        case measure => simp [intOf]; omega
    · obtain rfl : k = z := by omega
      go_wp2
      go_ret
      rw [whr_none (fun j r hj hr => HK.out j r (by rw [Hz.out]; exact hj) hr)]
      exact ⟨rfl, HD.out _⟩

/-- Put, as the document has it. -/
def putR (gs : Nat → List Int) (lim : Int) (rs : List Rt) (p : Rt) : Int × List Rt :=
  if chkR p = 0 then (if hasB gs p.g then (if 0 ≤ whr rs p then (0, rs.set (whr rs p).toNat p) else if lim ≤ rs.length then (9, rs) else (0, rs ++ [p])) else (7, rs)) else (chkR p, rs)
/-- Take, as the document has it. -/
def takeR (rs : List Rt) (p : Rt) : Int × List Rt :=
  if chkR p = 0 then (if 0 ≤ whr rs p then (0, rs.eraseIdx (whr rs p).toNat) else (8, rs)) else (chkR p, rs)
/-- Take, as the program has it. -/
def takeT (rs : List Rt) (p : Rt) : Int × List Rt := if chkR p = 0 then takeC rs p else (chkR p, rs)
end Go.Proofs.YteocfjiijmdjcaaGreat
