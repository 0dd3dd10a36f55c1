import Derived.Test.YtnfkgnjeamnhfabRi
import Derived.Test.YtnfkgnjeamnhfabGm
import Derived.Test.YtnfkgnjeamnhfabHChk
namespace Go.Proofs.Ytnfkgnjeamnhfab
open Go.RowKit Go.Sort

/-- A table's two roles. -/
def Ro (rS rQ : Nat) : Prop := rS ≠ 14 ∧ rQ ≠ 14 ∧ rQ ≠ 15 ∧ rS ≠ 15 ∧ rQ ≠ rS ∧ rS ≠ 13 ∧ rQ ≠ 13 ∧ rS ≠ 7 ∧ rQ ≠ 7
/-- A table's seed and own address: kept beside its groups, at 32 and 33. -/
def sd (gs : Nat → List Int) (j : Nat) : Value := if j = 1 then .int .u64 ((gs 32).headD 0 % 18446744073709551616) else .int .u32 ((gs 33).headD 0 % 4294967296)
theorem sd_one (gs : Nat → List Int) (j : Nat) : (sd gs j).oneCell' = true := by unfold sd; split <;> rfl
theorem sd_upd (gs : Nat → List Int) {i : Nat} (hi : i < 32) (xs : List Int) (j : Nat) : sd (updG gs i xs) j = sd gs j := by
  unfold sd
  rw [show updG gs i xs 32 = gs 32 by unfold updG; rw [if_neg (by omega)], show updG gs i xs 33 = gs 33 by unfold updG; rw [if_neg (by omega)]]
/-- A table: its groups' lists lie from offset o on, its routes at c. -/
structure Tq (N : Nat) (ρ : Nat → Nat) (w : World) (T rS rQ o c : Nat) (gs : Nat → List Int) (rs : List Rt) (lim : Int) (f : Nat → Value) : Prop where
  rq : Rq N ρ w T rS rQ c f rs
  lim : f 0 = .int .i64 lim
  ls : ∀ j, j < 32 → CL N ρ w (f (o + j)) (gs j) ∧ (gs j).length ≤ 8
  one : ∀ j, (j = 1 ∨ j = 2) → f j = sd gs j
theorem Tq.ev {R : Nat → Prop} {N : Nat} {ρ ρ' : Nat → Nat} {w w' : World} {T rS rQ o c : Nat} {gs : Nat → List Int} {rs : List Rt} {lim : Int} {f : Nat → Value} (h : Tq N ρ w T rS rQ o c gs rs lim f) (he : Ev R ρ w ρ' w') (hS : ¬ R rS) (hQ : ¬ R rQ) (h7 : ¬ R 7) (hro : Ro rS rQ) : Tq N ρ' w' T rS rQ o c gs rs lim f :=
  ⟨h.rq.ev he hS hQ hro.1 hro.2.1, h.lim, fun j hj => ⟨(h.ls j hj).1.ev he h7, (h.ls j hj).2⟩, h.one⟩
theorem Tq.Ls {N : Nat} {ρ : Nat → Nat} {w : World} {T rS rQ o c : Nat} {gs : Nat → List Int} {rs : List Rt} {lim : Int} {f : Nat → Value} (h : Tq N ρ w T rS rQ o c gs rs lim f) : Ls w f o gs := by
  intro j hj
  obtain ⟨ao, cap, h1, h2, h3⟩ := (h.ls j hj).1.rd
  exact ⟨ao, _, cap, h1, h2, (h.ls j hj).2, h3⟩
/-- What a change of the routes leaves of a table. -/
def TqPost (N : Nat) (ρ : Nat → Nat) (w : World) (T rS rQ o c : Nat) (gs : Nat → List Int) (lim : Int) (rs' : List Rt) (w' : World) : Prop :=
  ∃ ρ' f', Tq N ρ' w' T rS rQ o c gs rs' lim f' ∧ Fr ρ' w' ∧ (∀ k, ρ' k ≠ 15) ∧ Ev (fun q => q = rS ∨ q = rQ) ρ w ρ' w'
theorem lift_post {N : Nat} {ρ ρ0 : Nat → Nat} {w w1 w' : World} {T rS rQ o c : Nat} {gs : Nat → List Int} {rs rs' : List Rt} {lim : Int} {f : Nat → Value} (h : Tq N ρ w T rS rQ o c gs rs lim f) (hro : Ro rS rQ) (hE : ∀ R, Ev R ρ w ρ0 w1) (hp : RqPost N ρ0 w1 T rS rQ c f rs' w') (hc0 : 3 ≤ c) (hco : ∀ j, j < 32 → o + j ≠ c) : TqPost N ρ w T rS rQ o c gs lim rs' w' := by
  obtain ⟨ρ', f', h1, h2, h3, h4, h5⟩ := hp
  have hE' := (hE (fun q => q = rS ∨ q = rQ)).trans h5
  refine ⟨ρ', f', ⟨h1, by rw [h2 0 (by omega)]; exact h.lim, fun j hj => ?_, fun j hj => by rw [h2 j (by omega)]; exact h.one j hj⟩, h3, h4, hE'⟩
  rw [h2 _ (hco j hj)]
  exact ⟨(h.ls j hj).1.ev hE' (by unfold Ro at hro; omega), (h.ls j hj).2⟩
theorem TqPost.same {N : Nat} {ρ ρ' : Nat → Nat} {w w' : World} {T rS rQ o c : Nat} {gs : Nat → List Int} {rs : List Rt} {lim : Int} {f : Nat → Value} (h : Tq N ρ w T rS rQ o c gs rs lim f) (hro : Ro rS rQ) (hF : Fr ρ' w') (h15 : ∀ k, ρ' k ≠ 15) (hE : ∀ R, Ev R ρ w ρ' w') : TqPost N ρ w T rS rQ o c gs lim rs w' :=
  ⟨ρ', f, h.ev (hE (fun _ => False)) id id id hro, hF, h15, hE _⟩
/-- A prefix's error. -/
def chkR (p : Rt) : Int := H.chk p.f p.hi p.lo p.n
/-- Its numbers are those of Go. -/
def Fit (p : Rt) : Prop := p.hi ≤ 18446744073709551615 ∧ p.lo ≤ 18446744073709551615
/-- Put, as the program has it. -/
def putT (gs : Nat → List Int) (lim : Int) (rs : List Rt) (p : Rt) : Int × List Rt := if chkR p = 0 then (if hasB gs p.g then putC rs p lim else (7, rs)) else (chkR p, rs)

set_option maxRecDepth 4000 in
set_option maxHeartbeats 4000000 in
theorem tput_any {N : Nat} {ρ : Nat → Nat} {w : World} {T rS rQ : Nat} {gs : Nat → List Int} {rs : List Rt} {lim : Int} {f : Nat → Value} (h : Tq N ρ w T rS rQ 3 35 gs rs lim f) (hro : Ro rS rQ) (hN : N ≤ w.heap.size) (hF : Fr ρ w) (h15 : ∀ k, ρ k ≠ 15) (hlen : rs.length ≤ 1000) (p : Rt) (hp : Fit p) :
    Calls Try.prog 20 #[.pointer (some ⟨T, 0, none⟩), .agg #[.int .i64 p.f, .int .u64 p.hi, .int .u64 p.lo, .int .i64 p.n, .int .i64 p.g]] w fun e w' => e = .returned (.int .i64 (putT gs lim rs p).1) ∧ TqPost N ρ w T rS rQ 3 35 gs lim (putT gs lim rs p).2 w' := by
  obtain ⟨ρ0, hE0, hF0, hb0, h150⟩ := boxE hF h15 (.cells #[.int .i64 p.f, .int .u64 p.hi, .int .u64 p.lo, .int .i64 p.n, .int .i64 p.g] 45)
  obtain ⟨w0, hw0⟩ : ∃ w0, w0 = w.alloc (.cells #[.int .i64 p.f, .int .u64 p.hi, .int .u64 p.lo, .int .i64 p.n, .int .i64 p.g] 45) := ⟨_, rfl⟩
  obtain ⟨bx, hbx⟩ : ∃ bx, bx = w.heap.size := ⟨_, rfl⟩
  have hz0 : bx < w0.heap.size := by rw [hw0, hbx]; simp
  have hSb : St w0 bx 5 (fun j => (#[Value.int .i64 p.f, .int .u64 p.hi, .int .u64 p.lo, .int .i64 p.n, .int .i64 p.g]).getD j undef) := by rw [hw0, hbx]; exact St.new w _ _
  have hN0 : N ≤ w0.heap.size := by rw [hw0]; simp; omega
  rw [← hw0] at hE0 hF0
  have h0 := h.ev (hE0 (fun _ => False)) id id id hro
  have hT0 := h0.rq.st.lt (by decide)
  have c0 := (h0.rq.st 0 (by decide)).1
  rw [h.lim] at c0
  have HC := Lib.hid (fun (w1 : World) => H.check_any p.f p.hi p.lo p.n w1 hp.1 hp.2)
  have HH := Lib.hid (fun (w1 : World) (hb : Below w0.heap.size w0 w1) => has_any T f gs p.g w1 (h0.ev (Ev.of_below (R := fun _ => False) ρ0 hb) id id id hro).rq.st (h0.ev (Ev.of_below (R := fun _ => False) ρ0 hb) id id id hro).Ls)
  have HP := Lib.hid (fun (w1 : World) (hb : Below w0.heap.size w0 w1) => rtPut_any N ρ0 T rS rQ f rs p lim w1 (Nat.le_trans hN0 hb.size) (hF0.grow hb.size) h150 (h0.ev (Ev.of_below (R := fun _ => False) ρ0 hb) id id id hro).rq hro.1 hro.2.1 hro.2.2.1 hro.2.2.2.2.1 hro.2.2.2.2.2.1 hro.2.2.2.2.2.2.1 hlen)
  have HQ := Lib.hid h
  have HE := Lib.hid hE0
  have HF := Lib.hid hF0
  have H15 := Lib.hid h150
  have Hw0 := Lib.hid hw0
  have Hbx := Lib.hid hbx
  have HRo := Lib.hid hro
  have b0 : w0.cell? ⟨bx, 0, none⟩ = some (.int .i64 p.f) := (hSb 0 (by decide)).1
  have b1 : w0.cell? ⟨bx, 1, none⟩ = some (.int .u64 p.hi) := (hSb 1 (by decide)).1
  have b2 : w0.cell? ⟨bx, 2, none⟩ = some (.int .u64 p.lo) := (hSb 2 (by decide)).1
  have b3 : w0.cell? ⟨bx, 3, none⟩ = some (.int .i64 p.n) := (hSb 3 (by decide)).1
  have b4 : w0.cell? ⟨bx, 4, none⟩ = some (.int .i64 p.g) := (hSb 4 (by decide)).1
  obtain ⟨x, hx⟩ : ∃ x, x = chkR p := ⟨_, rfl⟩
  have HX : Hid (∀ w1 : World, Calls Try.prog 46 #[.agg #[.int .i64 p.f, .int .u64 p.hi, .int .u64 p.lo, .int .i64 p.n]] w1 fun e w' => e = .returned (.int .i64 x) ∧ Below w1.heap.size w1 w') := by rw [hx]; exact HC.out
  obtain ⟨t, ht⟩ : ∃ t, t = hasB gs p.g := ⟨_, rfl⟩
  rw [← ht] at HH
  have Hx := Lib.hid hx
  have Ht := Lib.hid ht
  clear hw0 hbx h h0 hE0 hF0 h150 hb0 hSb hF h15 HC hx ht hro hp
  go_enter Try.func20, Try.ntmps20
  go_wp2_with fail
  rw [← Hw0.out, ← Hbx.out]
  refine (HX.out _).mono ?_
  rintro e w1 ⟨rfl, hb1⟩
  have HB1 := Lib.hid hb1
  have HE1 := Lib.hid (fun (d : Nat) R => (HE.out R).trans (Ev.of_below ρ0 (show Below w0.heap.size w0 (w1.drewN d) from ⟨hb1.os, hb1.tape, hb1.output, hb1.size, hb1.block⟩)))
  have HF1 := Lib.hid (HF.out.grow hb1.size)
  have d0 := (hb1.cell (p := ⟨bx, 0, none⟩) hz0).trans b0
  have d1 := (hb1.cell (p := ⟨bx, 1, none⟩) hz0).trans b1
  have d2 := (hb1.cell (p := ⟨bx, 2, none⟩) hz0).trans b2
  have d3 := (hb1.cell (p := ⟨bx, 3, none⟩) hz0).trans b3
  have d4 := (hb1.cell (p := ⟨bx, 4, none⟩) hz0).trans b4
  have dL := (hb1.cell (p := ⟨T, 0, none⟩) hT0).trans c0
  clear hb1 b0 b1 b2 b3 b4 c0
  by_cases hx0 : x = 0
  · have Hx0 := Lib.hid hx0
    have q1 : (x == 0) = true := by rw [hx0]; rfl
    clear hx0
    have HH1 := Lib.hid (fun (d : Nat) => (HH.out (w1.drewN d) ⟨HB1.out.os, HB1.out.tape, HB1.out.output, HB1.out.size, HB1.out.block⟩).mono fun e w' (h : _ ∧ _) => (⟨h.1, 0, h.2⟩ : _ ∧ ∃ d', w' = (w1.drewN d).drewN d'))
    go_wp2
    go_quiet ((go_at_call 43; exact Calls.quiet_of (HH1.out _)))
    cases htt : t with
    | false =>
      have Hput := Lib.hid (show putT gs lim rs p = (7, rs) by unfold putT; rw [← Hx.out, if_pos Hx0.out, ← Ht.out, htt, if_neg Bool.false_ne_true])
      go_wp2
      go_ret
      rw [Hput.out]
      exact ⟨rfl, TqPost.same HQ.out HRo.out HF1.out H15.out (HE1.out _)⟩
    | true =>
      have Hput := Lib.hid (show putT gs lim rs p = putC rs p lim by unfold putT; rw [← Hx.out, if_pos Hx0.out, ← Ht.out, htt, if_pos rfl])
      go_wp2
      go_region_with (go_at_call 47; refine (HP.out _ (by exact ⟨HB1.out.os, HB1.out.tape, HB1.out.output, HB1.out.size, HB1.out.block⟩)).mono ?_; rintro e w2 ⟨rfl, hp2⟩; have Hp2 := Lib.hid hp2; clear hp2)
      all_goals
        go_wp2
        go_ret
        rw [Hput.out]
        exact ⟨rfl, lift_post HQ.out HRo.out (HE1.out _) Hp2.out (by decide) (by omega)⟩
  · have q1 : (x == 0) = false := ine_beq hx0
    have Hput := Lib.hid (show putT gs lim rs p = (x, rs) by unfold putT; rw [← Hx.out, if_neg hx0])
    go_wp2
    go_ret
    rw [Hput.out]
    exact ⟨rfl, TqPost.same HQ.out HRo.out HF1.out H15.out (HE1.out 0)⟩
end Go.Proofs.Ytnfkgnjeamnhfab
