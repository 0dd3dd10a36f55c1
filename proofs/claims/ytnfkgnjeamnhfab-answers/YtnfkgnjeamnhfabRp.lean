import Derived.Test.YtnfkgnjeamnhfabRm
namespace Go.Proofs.Ytnfkgnjeamnhfab
open Go.RowKit Go.Sort

/-- A fresh row takes the place of the routes. -/
theorem fresh_done {N : Nat} {ρ ρ0 : Nat → Nat} {w w2 w4 : World} {T rS rQ c : Nat} {f : Nat → Value} {rs rs' : List Rt} {v : Value} (hq : Rq N ρ0 w2 T rS rQ c f rs) (hE : ∀ R, Ev R ρ w ρ0 w2) (hF : Fr ρ0 w2) (h15 : ∀ k, ρ0 k ≠ 15) (hro : Ro rS rQ) (hN : N ≤ w2.heap.size) (hc : c < 36)
    (hb : Below w2.heap.size w2 w4) (hr : RwO w4 w2.heap.size v rs') : RqPost N ρ w T rS rQ c f rs' (w4.setCell ⟨T, c, none⟩ v) := by
  have hlt := hq.st.lt (by decide)
  have hst4 : St w4 T 36 f := hq.st.below hb hlt
  have hE4 : Ev (fun q => q = rS ∨ q = rQ) ρ w ρ0 (w4.setCell ⟨T, c, none⟩ v) := ((hE _).trans (Ev.of_below ρ0 hb)).trans (Ev.of_set ρ0 w4 T c v (.inr (.inl hq.role)))
  have hsz : (w4.setCell ⟨T, c, none⟩ v).heap.size = w4.heap.size := by simp [World.setCell]
  have hF4 : Fr ρ0 (w4.setCell ⟨T, c, none⟩ v) := (hF.grow hb.size).grow (Nat.le_of_eq hsz.symm)
  have hr4 : RwO (w4.setCell ⟨T, c, none⟩ v) N v rs' := (hr.lower hN).setOther (fun k hk e => by have := hr.base k hk; omega) v
  cases hv : v.ownBlock with
  | none => exact ⟨ρ0, _, ⟨hq.role, hst4.set hc _, by rw [upd_same]; exact ⟨hr4, fun g hg => by rw [hv] at hg; cases hg⟩⟩, fun j hj => upd_ne hj, hF4, h15, hE4⟩
  | some g =>
    have hg := World.ownsRow.lt hr g hv
    have hne : T ≠ g := by omega
    refine ⟨rl ρ0 g rQ, _, ⟨by rw [rl_ne hne]; exact hq.role, hst4.set hc _, by rw [upd_same]; exact ⟨hr4, fun g' hg' => by rw [hv] at hg'; cases hg'; exact rl_same _ _ _⟩⟩, fun j hj => upd_ne hj, hF4.rl (by rw [hsz]; exact hg.2) rQ, fun k => ?_, hE4.trans (Ev.rl _ rQ (.inl (hF g hg.1)))⟩
    unfold rl; split
    · exact hro.2.2.1
    · exact h15 k
theorem src_take {w : World} {N g n cap : Nat} {rs : List Rt} (h : RwO w N (.slice (some ⟨g, 0, none⟩) n cap) rs) {i c : Nat} (hi : i ≤ rs.length) : SrcR w (.slice (some ⟨g, 0, none⟩) i c) (rs.take i) := by
  refine .inr ⟨⟨g, 0, none⟩, c, by rw [List.length_take, Nat.min_eq_left hi], fun j u hu => ?_⟩
  refine World.ownsRow.cells h rfl j u ?_
  have e : flat rs = flat (rs.take i) ++ flat (rs.drop i) := by rw [← flat_append, List.take_append_drop]
  rw [e, List.getElem?_append_left (List.getElem?_eq_some_iff.1 hu).1]; exact hu
theorem src_drop {w : World} {N g n cap : Nat} {rs : List Rt} (h : RwO w N (.slice (some ⟨g, 0, none⟩) n cap) rs) {i m c : Nat} (hi : i ≤ rs.length) (hm : m = rs.length - i) : SrcR w (.slice (some ⟨g, i * 5, none⟩) m c) (rs.drop i) := by
  refine .inr ⟨⟨g, i * 5, none⟩, c, by rw [List.length_drop, hm], fun j u hu => ?_⟩
  have := World.ownsRow.cells h (g := g) rfl (i * 5 + j) u (by
    have e : flat rs = flat (rs.take i) ++ flat (rs.drop i) := by rw [← flat_append, List.take_append_drop]
    have hl : (flat (rs.take i)).length = i * 5 := by rw [flat_len, List.length_take, Nat.min_eq_left hi]
    rw [e, List.getElem?_append_right (by omega), hl, Nat.add_sub_cancel_left]; exact hu)
  rw [Lib.add_plain] at this ⊢
  simpa using this

end Go.Proofs.Ytnfkgnjeamnhfab
namespace Go.Proofs.Ytnfkgnjeamnhfab
open Go.RowKit Go.Sort

set_option maxRecDepth 4000 in
set_option maxHeartbeats 4000000 in
theorem ttake_any {N : Nat} {ρ : Nat → Nat} {w : World} {T rS rQ : Nat} {gs : Nat → List Int} {rs : List Rt} {lim : Int} {f : Nat → Value} (h : Tq N ρ w T rS rQ 3 35 gs rs lim f) (hro : Ro rS rQ) (hF : Fr ρ w) (h15 : ∀ k, ρ k ≠ 15) (hlen : rs.length ≤ 1000) (p : Rt) (hp : Fit p) :
    Calls Try.prog 33 #[.pointer (some ⟨T, 0, none⟩), .agg #[.int .i64 p.f, .int .u64 p.hi, .int .u64 p.lo, .int .i64 p.n]] w fun e w' => e = .returned (.int .i64 (takeT rs p).1) ∧ TqPost N ρ w T rS rQ 3 35 gs lim (takeT rs p).2 w' := by
  obtain ⟨ρ0, hE0, hF0, hb0, h150⟩ := boxE hF h15 (.cells #[.int .i64 p.f, .int .u64 p.hi, .int .u64 p.lo, .int .i64 p.n] 43)
  obtain ⟨w0, hw0⟩ : ∃ w0, w0 = w.alloc (.cells #[.int .i64 p.f, .int .u64 p.hi, .int .u64 p.lo, .int .i64 p.n] 43) := ⟨_, rfl⟩
  obtain ⟨bx, hbx⟩ : ∃ bx, bx = w.heap.size := ⟨_, rfl⟩
  have hz0 : bx < w0.heap.size := by rw [hw0, hbx]; simp
  have hSb : St w0 bx 4 (fun j => (#[Value.int .i64 p.f, .int .u64 p.hi, .int .u64 p.lo, .int .i64 p.n]).getD j undef) := by rw [hw0, hbx]; exact St.new w _ _
  rw [← hw0] at hE0 hF0
  have h0 := h.ev (hE0 (fun _ => False)) id id id hro
  have hT0 := h0.rq.st.lt (by decide)
  have HC := Lib.hid (fun (w1 : World) => H.check_any p.f p.hi p.lo p.n w1 hp.1 hp.2)
  have HP := Lib.hid (fun (w1 : World) (hb : Below w0.heap.size w0 w1) => rtTake_any N ρ0 T rS rQ f rs p w1 (hF0.grow hb.size) h150 (h0.ev (Ev.of_below (R := fun _ => False) ρ0 hb) id id id hro).rq hro.1 hro.2.1 hro.2.2.2.2.1 hlen)
  have HQ := Lib.hid h
  have HE := Lib.hid hE0
  have HF := Lib.hid hF0
  have H15 := Lib.hid h150
  have Hw0 := Lib.hid hw0
  have Hbx := Lib.hid hbx
  have HRo := Lib.hid hro
  have b0 : w0.cell? ⟨bx, 0, none⟩ = some (.int .i64 p.f) := (hSb 0 (by decide)).1
  have b1 : w0.cell? ⟨bx, 1, none⟩ = some (.int .u64 p.hi) := (hSb 1 (by decide)).1
  have b2 : w0.cell? ⟨bx, 2, none⟩ = some (.int .u64 p.lo) := (hSb 2 (by decide)).1
  have b3 : w0.cell? ⟨bx, 3, none⟩ = some (.int .i64 p.n) := (hSb 3 (by decide)).1
  obtain ⟨x, hx⟩ : ∃ x, x = chkR p := ⟨_, rfl⟩
  have HX : Hid (∀ w1 : World, Calls Try.prog 46 #[.agg #[.int .i64 p.f, .int .u64 p.hi, .int .u64 p.lo, .int .i64 p.n]] w1 fun e w' => e = .returned (.int .i64 x) ∧ Below w1.heap.size w1 w') := by rw [hx]; exact HC.out
  have Hx := Lib.hid hx
  clear hw0 hbx h h0 hE0 hF0 h150 hb0 hSb hF h15 HC hx hro hp
  go_enter Try.func33, Try.ntmps33
  go_wp2_with fail
  rw [← Hw0.out, ← Hbx.out]
  refine (HX.out _).mono ?_
  rintro e w1 ⟨rfl, hb1⟩
  have HB1 := Lib.hid hb1
  have HE1 := Lib.hid (fun (d : Nat) R => (HE.out R).trans (Ev.of_below ρ0 (show Below w0.heap.size w0 (w1.drewN d) from ⟨hb1.os, hb1.tape, hb1.output, hb1.size, hb1.block⟩)))
  have HF1 := Lib.hid (HF.out.grow hb1.size)
  have d0 := (hb1.cell (p := ⟨bx, 0, none⟩) hz0).trans b0
  have d1 := (hb1.cell (p := ⟨bx, 1, none⟩) hz0).trans b1
  have d2 := (hb1.cell (p := ⟨bx, 2, none⟩) hz0).trans b2
  have d3 := (hb1.cell (p := ⟨bx, 3, none⟩) hz0).trans b3
  clear hb1 b0 b1 b2 b3
  by_cases hx0 : x = 0
  · have Hx0 := Lib.hid hx0
    have q1 : (x == 0) = true := by rw [hx0]; rfl
    have Hput := Lib.hid (show takeT rs p = takeC rs p by unfold takeT; rw [← Hx.out, if_pos hx0])
    clear hx0
    go_wp2
    go_region_with (go_at_call 57; refine (HP.out _ (by exact ⟨HB1.out.os, HB1.out.tape, HB1.out.output, HB1.out.size, HB1.out.block⟩)).mono ?_; rintro e w2 ⟨rfl, hp2⟩; have Hp2 := Lib.hid hp2; clear hp2)
    all_goals
      go_wp2
      go_ret
      rw [Hput.out]
      exact ⟨rfl, lift_post HQ.out HRo.out (HE1.out 1) Hp2.out (by decide) (by omega)⟩
  · have q1 : (x == 0) = false := ine_beq hx0
    have Hput := Lib.hid (show takeT rs p = (x, rs) by unfold takeT; rw [← Hx.out, if_neg hx0])
    go_wp2
    go_ret
    rw [Hput.out]
    exact ⟨rfl, TqPost.same HQ.out HRo.out HF1.out H15.out (HE1.out 0)⟩

/-- What a call of Drop leaves. -/
def DPost2 (T o : Nat) (f : Nat → Value) (gs : Nat → List Int) (rs : List Rt) (k : Int) (w : World) (e : Ending) (w' : World) : Prop :=
  (hasB gs k = false ∧ e = .returned (.int .i64 7) ∧ Below w.heap.size w w') ∨ (hasB gs k = true ∧ busyB rs k = true ∧ e = .returned (.int .i64 10) ∧ Below w.heap.size w w') ∨
  (hasB gs k = true ∧ busyB rs k = false ∧ e = .returned (.int .i64 0) ∧ w.grownBy w' (some T) ∧ St w' T 36 (upd f (o + k.toNat) nilS))

set_option maxHeartbeats 1000000 in
theorem drop2_any (N T : Nat) (f : Nat → Value) (gs : Nat → List Int) (rs : List Rt) (g : Int) (w : World) (hs : St w T 36 f) (hl : Ls w f 3 gs) (hr : RwO w N (f 35) rs) :
    Calls Try.prog 18 #[.pointer (some ⟨T, 0, none⟩), .int .i64 g] w (DPost2 T 3 f gs rs g w) := by
  have H := Lib.hid (has_any T f gs g w hs hl)
  cases hg : hasB gs g with
  | false =>
    rw [hg] at H
    have HG := Lib.hid hg
    clear hs hl hg hr
    go_enter Try.func18, Try.ntmps18
    go_wp2_with (go_at_call 43; refine H.out.mono ?_; rintro e w1 ⟨rfl, rfl⟩)
    go_ret
    exact .inl ⟨HG.out, rfl, Below.refl _ _⟩
  | true =>
    rw [hg] at H
    have HG := Lib.hid hg
    obtain ⟨k, rfl, hk, hk0⟩ := hasB_some hg
    have HR := Lib.hid (haveGroup_any N T (f 35) rs k w (hs 35 (by decide)).1 hr)
    have HM := Lib.hid (remove_any T f gs k w hs hl hk hg)
    have HS := Lib.hid hs
    clear hs hl hg hr
    cases hb : busyB rs k with
    | true =>
      rw [hb] at HR
      have HBy := Lib.hid hb
      clear hb
      go_enter Try.func18, Try.ntmps18
      go_wp2_with (first | (go_at_call 43; refine H.out.mono ?_; rintro e w1 ⟨rfl, rfl⟩) | (go_at_call 44; refine HR.out.mono ?_; rintro e w1 ⟨rfl, rfl⟩))
      go_ret
      exact .inr (.inl ⟨HG.out, HBy.out, rfl, Below.refl _ _⟩)
    | false =>
      rw [hb] at HR
      have HBy := Lib.hid hb
      clear hb
      go_enter Try.func18, Try.ntmps18
      go_wp2_with (first | (go_at_call 43; refine H.out.mono ?_; rintro e w1 ⟨rfl, rfl⟩) | (go_at_call 44; refine HR.out.mono ?_; rintro e w1 ⟨rfl, rfl⟩) | (go_at_call 45; refine HM.out.mono ?_; rintro e w1 ⟨rfl, rfl⟩))
      go_ret
      refine .inr (.inr ⟨HG.out, HBy.out, rfl, grownBy_set (Below.refl _ _) _, ?_⟩)
      rw [Int.toNat_natCast]
      exact HS.out.set (by omega) _

end Go.Proofs.Ytnfkgnjeamnhfab
