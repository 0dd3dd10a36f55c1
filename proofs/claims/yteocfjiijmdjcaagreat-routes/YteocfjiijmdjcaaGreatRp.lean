import Derived.Test.YteocfjiijmdjcaaGreatRn
namespace Go.Proofs.YteocfjiijmdjcaaGreat
open Go.RowKit Go.Sort

set_option maxRecDepth 4000 in
set_option maxHeartbeats 4000000 in
theorem ttake_any {N : Nat} {ρ : Nat → Nat} {w : World} {T rS rQ : Nat} {gs : Nat → List Int} {rs : List Rt} {lim : Int} {f : Nat → Value} (h : Tq N ρ w T rS rQ 3 35 gs rs lim f) (hro : Ro rS rQ) (hF : Fr ρ w) (h15 : ∀ k, ρ k ≠ 15) (hlen : rs.length ≤ 1000) (p : Rt) (hp : Fit p) :
    Calls Tryz.prog 35 #[.pointer (some ⟨T, 0, none⟩), .agg #[.int .i64 p.f, .int .u64 p.hi, .int .u64 p.lo, .int .i64 p.n]] w fun e w' => e = .returned (.int .i64 (takeT rs p).1) ∧ TqPost N ρ w T rS rQ 3 35 gs lim (takeT rs p).2 w' := by
  obtain ⟨ρ0, hE0, hF0, hb0, h150⟩ := boxE hF h15 (.cells #[.int .i64 p.f, .int .u64 p.hi, .int .u64 p.lo, .int .i64 p.n] 33)
  obtain ⟨w0, hw0⟩ : ∃ w0, w0 = w.alloc (.cells #[.int .i64 p.f, .int .u64 p.hi, .int .u64 p.lo, .int .i64 p.n] 33) := ⟨_, rfl⟩
  obtain ⟨bx, hbx⟩ : ∃ bx, bx = w.heap.size := ⟨_, rfl⟩
  have hz0 : bx < w0.heap.size := by rw [hw0, hbx]; simp
  have hSb : St w0 bx 4 (fun j => (#[Value.int .i64 p.f, .int .u64 p.hi, .int .u64 p.lo, .int .i64 p.n]).getD j undef) := by rw [hw0, hbx]; exact St.new w _ _
  rw [← hw0] at hE0 hF0
  have h0 := h.ev (hE0 (fun _ => False)) id id id hro
  have hT0 := h0.rq.st.lt (by decide)
  have HC := Lib.hid (fun (w1 : World) => H.check_any p.f p.hi p.lo p.n w1 hp.1 hp.2)
  have HP := Lib.hid (fun (w1 : World) (hb : Below w0.heap.size w0 w1) => rtTake_any N ρ0 T rS rQ f rs p w1 (hF0.grow hb.size) h150 (h0.ev (Ev.of_below (R := fun _ => False) ρ0 hb) id id id hro).rq hro.1 hro.2.1 hro.2.2.2.2.1 hlen)
  have HQ := Lib.hid h
  have HE := Lib.hid hE0
  have HF := Lib.hid hF0
  have H15 := Lib.hid h150
  have Hw0 := Lib.hid hw0
  have Hbx := Lib.hid hbx
  have HRo := Lib.hid hro
  have b0 : w0.cell? ⟨bx, 0, none⟩ = some (.int .i64 p.f) := (hSb 0 (by decide)).1
  have b1 : w0.cell? ⟨bx, 1, none⟩ = some (.int .u64 p.hi) := (hSb 1 (by decide)).1
  have b2 : w0.cell? ⟨bx, 2, none⟩ = some (.int .u64 p.lo) := (hSb 2 (by decide)).1
  have b3 : w0.cell? ⟨bx, 3, none⟩ = some (.int .i64 p.n) := (hSb 3 (by decide)).1
  obtain ⟨x, hx⟩ : ∃ x, x = chkR p := ⟨_, rfl⟩
  have HX : Hid (∀ w1 : World, Calls Tryz.prog 64 #[.agg #[.int .i64 p.f, .int .u64 p.hi, .int .u64 p.lo, .int .i64 p.n]] w1 fun e w' => e = .returned (.int .i64 x) ∧ Below w1.heap.size w1 w') := by rw [hx]; exact HC.out
  have Hx := Lib.hid hx
  clear hw0 hbx h h0 hE0 hF0 h150 hb0 hSb hF h15 HC hx hro hp
  go_enter Tryz.func35, Tryz.ntmps35
  go_wp2_with fail
  rw [← Hw0.out, ← Hbx.out]
  refine (HX.out _).mono ?_
  rintro e w1 ⟨rfl, hb1⟩
  have HB1 := Lib.hid hb1
  have HE1 := Lib.hid (fun (d : Nat) R => (HE.out R).trans (Ev.of_below ρ0 (show Below w0.heap.size w0 (w1.drewN d) from ⟨hb1.os, hb1.tape, hb1.output, hb1.size, hb1.block⟩)))
  have HF1 := Lib.hid (HF.out.grow hb1.size)
  have d0 := (hb1.cell (p := ⟨bx, 0, none⟩) hz0).trans b0
  have d1 := (hb1.cell (p := ⟨bx, 1, none⟩) hz0).trans b1
  have d2 := (hb1.cell (p := ⟨bx, 2, none⟩) hz0).trans b2
  have d3 := (hb1.cell (p := ⟨bx, 3, none⟩) hz0).trans b3
  clear hb1 b0 b1 b2 b3
  by_cases hx0 : x = 0
  · have Hx0 := Lib.hid hx0
    have q1 : (x == 0) = true := by rw [hx0]; rfl
    have Hput := Lib.hid (show takeT rs p = takeC rs p by unfold takeT; rw [← Hx.out, if_pos hx0])
    clear hx0
    go_wp2
    go_region_with (go_at_call 68; refine (HP.out _ (by exact ⟨HB1.out.os, HB1.out.tape, HB1.out.output, HB1.out.size, HB1.out.block⟩)).mono ?_; rintro e w2 ⟨rfl, hp2⟩; have Hp2 := Lib.hid hp2; clear hp2)
    all_goals
      go_wp2
      go_ret
      rw [Hput.out]
      exact ⟨rfl, lift_post HQ.out HRo.out (HE1.out 1) Hp2.out (by decide) (by omega)⟩
  · have q1 : (x == 0) = false := ine_beq hx0
    have Hput := Lib.hid (show takeT rs p = (x, rs) by unfold takeT; rw [← Hx.out, if_neg hx0])
    go_wp2
    go_ret
    rw [Hput.out]
    exact ⟨rfl, TqPost.same HQ.out HRo.out HF1.out H15.out (HE1.out 0)⟩

/-- What a call of Drop leaves. -/
def DPost2 (T o : Nat) (f : Nat → Value) (gs : Nat → List Int) (rs : List Rt) (k : Int) (w : World) (e : Ending) (w' : World) : Prop :=
  (hasB gs k = false ∧ e = .returned (.int .i64 7) ∧ Below w.heap.size w w') ∨ (hasB gs k = true ∧ busyB rs k = true ∧ e = .returned (.int .i64 10) ∧ Below w.heap.size w w') ∨
  (hasB gs k = true ∧ busyB rs k = false ∧ e = .returned (.int .i64 0) ∧ w.grownBy w' (some T) ∧ St w' T 36 (upd f (o + k.toNat) nilS))

set_option maxHeartbeats 1000000 in
theorem drop2_any (N T : Nat) (f : Nat → Value) (gs : Nat → List Int) (rs : List Rt) (g : Int) (w : World) (hs : St w T 36 f) (hl : Ls w f 3 gs) (hr : RwO w N (f 35) rs) :
    Calls Tryz.prog 31 #[.pointer (some ⟨T, 0, none⟩), .int .i64 g] w (DPost2 T 3 f gs rs g w) := by
  have H := Lib.hid (has_any T f gs g w hs hl)
  cases hg : hasB gs g with
  | false =>
    rw [hg] at H
    have HG := Lib.hid hg
    clear hs hl hg hr
    go_enter Tryz.func31, Tryz.ntmps31
    go_wp2_with (go_at_call 61; refine H.out.mono ?_; rintro e w1 ⟨rfl, rfl⟩)
    go_ret
    exact .inl ⟨HG.out, rfl, Below.refl _ _⟩
  | true =>
    rw [hg] at H
    have HG := Lib.hid hg
    obtain ⟨k, rfl, hk, hk0⟩ := hasB_some hg
    have HR := Lib.hid (haveGroup_any N T (f 35) rs k w (hs 35 (by decide)).1 hr)
    have HM := Lib.hid (remove_any T f gs k w hs hl hk hg)
    have HS := Lib.hid hs
    clear hs hl hg hr
    cases hb : busyB rs k with
    | true =>
      rw [hb] at HR
      have HBy := Lib.hid hb
      clear hb
      go_enter Tryz.func31, Tryz.ntmps31
      go_wp2_with (first | (go_at_call 61; refine H.out.mono ?_; rintro e w1 ⟨rfl, rfl⟩) | (go_at_call 62; refine HR.out.mono ?_; rintro e w1 ⟨rfl, rfl⟩))
      go_ret
      exact .inr (.inl ⟨HG.out, HBy.out, rfl, Below.refl _ _⟩)
    | false =>
      rw [hb] at HR
      have HBy := Lib.hid hb
      clear hb
      go_enter Tryz.func31, Tryz.ntmps31
      go_wp2_with (first | (go_at_call 61; refine H.out.mono ?_; rintro e w1 ⟨rfl, rfl⟩) | (go_at_call 62; refine HR.out.mono ?_; rintro e w1 ⟨rfl, rfl⟩) | (go_at_call 63; refine HM.out.mono ?_; rintro e w1 ⟨rfl, rfl⟩))
      go_ret
      refine .inr (.inr ⟨HG.out, HBy.out, rfl, grownBy_set (Below.refl _ _) _, ?_⟩)
      rw [Int.toNat_natCast]
      exact HS.out.set (by omega) _

set_option maxHeartbeats 1000000 in
theorem rdrop2_any (N T : Nat) (f : Nat → Value) (gs : Nat → List Int) (rs : List Rt) (g : Int) (w : World) (hs : St w T 36 f) (hl : Ls w f 4 gs) (hr : RwO w N (f 3) rs) :
    Calls Tryz.prog 32 #[.pointer (some ⟨T, 0, none⟩), .int .i64 g] w (DPost2 T 4 f gs rs g w) := by
  have H := Lib.hid (there_any T f gs g w hs hl)
  cases hg : hasB gs g with
  | false =>
    rw [hg] at H
    have HG := Lib.hid hg
    clear hs hl hg hr
    go_enter Tryz.func32, Tryz.ntmps32
    go_wp2_with (go_at_call 60; refine H.out.mono ?_; rintro e w1 ⟨rfl, rfl⟩)
    go_ret
    exact .inl ⟨HG.out, rfl, Below.refl _ _⟩
  | true =>
    rw [hg] at H
    have HG := Lib.hid hg
    obtain ⟨i, rfl, hi, hi0⟩ := hasB_some hg
    obtain ⟨ao1, n1, cap1, hf1, -⟩ := hl i hi
    have hc := (hs (4 + i) (by omega)).1
    have hfz := (hs (4 + i) (by omega)).2
    rw [hf1] at hc
    obtain ⟨ao, cap, hv, hm⟩ := RwO.form hr
    have hc3 := (hs 3 (by omega)).1
    rw [hv] at hc3 hr
    have HR := Lib.hid hr
    have HS := Lib.hid hs
    obtain ⟨z, hz⟩ : ∃ z, z = rs.length := ⟨_, rfl⟩
    rw [← hz] at hc3 hm
    have Hz := Lib.hid hz
    unfold maxLen at hm
    have q0 : (0 : Int) ≤ (i : Int) := by omega
    have q9 : (i : Int) < 32 := by omega
    clear hs hl hg hr hv hf1 hz
    go_enter Tryz.func32, Tryz.ntmps32
    go_wp2_with (go_at_call 60; refine H.out.mono ?_; rintro e w1 ⟨rfl, rfl⟩)
    go_loop [6] (fun x => ∃ k : Nat, k ≤ z ∧ x = .int .i64 k ∧ Hid (∀ j r, j < k → rs[j]? = some r → r.g ≠ i)) (fun i => z - (intOf i).toNat)
    case atStart => exact ⟨0, Nat.zero_le _, rfl, by intro j r hj; omega⟩
    case round =>
      obtain ⟨k, hk, rfl, HK⟩ := hrel
      by_cases hlt : k < z
      · obtain ⟨r, hrk⟩ : ∃ r, rs[k]? = some r := ⟨_, List.getElem?_eq_getElem (by rw [← Hz.out]; exact hlt)⟩
        obtain ⟨b, rfl, hat, -, -, -⟩ := RwO.at HR.out hrk
        have c4 := hat.c4
        have Hrk := Lib.hid hrk
        clear hat hrk
        have q1 : (k : Int) < (z : Int) := by omega
        by_cases h1 : r.g = i
        · have q2 : (r.g == (i : Int)) = true := by rw [h1]; simp
          have Hq2 := Lib.hid q2
          go_wp2
          go_ret
          exact .inr (.inl ⟨HG.out, List.any_eq_true.2 ⟨r, List.mem_of_getElem? Hrk.out, Hq2.out⟩, rfl, Below.refl _ _⟩)
        · have q2 : (r.g == (i : Int)) = false := ine_beq h1
          go_wp2
          go_round
          case rel =>
            refine ⟨k + 1, by omega, by go_num, ?_⟩
            intro j r' hj hr'
            by_cases e : j = k
            · subst e; rw [Hrk.out] at hr'; cases hr'; exact h1
            · exact HK.out j r' (by omega) hr'
          case measure => simp [intOf]; omega
      · obtain rfl : k = z := by omega
        have hb : busyB rs i = false := by
          rw [busyB, List.any_eq_false]
          intro r hr
          obtain ⟨j, hj, e⟩ := List.getElem_of_mem hr
          have := HK.out j r (by rw [Hz.out]; exact hj) (by rw [← e]; exact List.getElem?_eq_getElem hj)
          simpa using this
        have HBy := Lib.hid hb
        clear hb
        go_wp2
        go_ret
        refine .inr (.inr ⟨HG.out, HBy.out, rfl, grownBy_set (Below.refl _ _) _, ?_⟩)
        rw [Int.toNat_natCast]
        exact HS.out.set (by omega) _
end Go.Proofs.YteocfjiijmdjcaaGreat
