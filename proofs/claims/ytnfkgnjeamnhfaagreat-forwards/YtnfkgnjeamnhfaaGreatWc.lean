import Derived.Test.YtnfkgnjeamnhfaaGreatWa
namespace Go.Proofs.YtnfkgnjeamnhfaaGreat
open Go.RowKit

/-- A call's box, and the tables behind it. -/
theorem boxq {N : Nat} {ρ : Nat → Nat} {w : World} {W T R B rT rR s : Nat} {gs : Nat → List Int} {cs rs : List Rt} {lim : Int} (k n : Int) (x : Nat → Value) (h : Value) (m : Bool)
    (hN : N ≤ w.heap.size) (hF : Fr ρ w) (h15 : ∀ k, ρ k ≠ 15) (hW : Wq N ρ w W T R B rT rR gs cs rs lim) (hB : BqX N ρ w B s) (t1 : 8 ≤ rT) (t2 : rT ≤ 11) (t3 : 8 ≤ rR) (t4 : rR ≤ 11) :
    ∃ ρ0 w0, w0 = w.alloc (.cells (opA k n x h m) 39) ∧ N ≤ w0.heap.size ∧ w.heap.size < w0.heap.size ∧ (∀ R, Ev R ρ w ρ0 w0) ∧ Fr ρ0 w0 ∧ (∀ k, ρ0 k ≠ 15) ∧ ρ0 w.heap.size = 13 ∧ Wq N ρ0 w0 W T R B rT rR gs cs rs lim ∧ BqX N ρ0 w0 B s ∧ St w0 w.heap.size 16 (fun j => (opA k n x h m).getD j undef) := by
  obtain ⟨ρ0, hE0, hF0, hb0, h150⟩ := box_ev hF h15 (.cells (opA k n x h m) 39)
  have hW0 := hW.ev (hE0 (fun _ => False)) id id id id id id t1 t2 t3 t4
  have hB0 := hB.ev (hE0 (fun _ => False)) (fun _ _ => id)
  exact ⟨ρ0, _, rfl, by simp; omega, by simp, hE0, hF0, h150, hb0, hW0, hB0, St.new w (opA k n x h m) 39⟩
/-- Both tables have made the same change. -/
theorem route_fin {N : Nat} {ρ ρ0 : Nat → Nat} {w w0 w1 w2 : World} {W T R B rT rR s : Nat} {gs : Nat → List Int} {cs rs cs' rs' : List Rt} {lim : Int} (hE : ∀ R, Ev R ρ w ρ0 w0) (hW : Wq N ρ0 w0 W T R B rT rR gs cs rs lim) (hB : BqX N ρ0 w0 B s) {ρ1 ρ2 : Nat → Nat} {f1 f2 : Nat → Value}
    (h1 : Tq N ρ1 w1 T rT (rT + 24) 3 35 gs cs' lim f1) (e1 : Ev (fun q => q = rT ∨ q = rT + 24) ρ0 w0 ρ1 w1) (h2 : Tq N ρ2 w2 R rR (rR + 24) 4 3 gs rs' lim f2) (hF2 : Fr ρ2 w2) (h152 : ∀ k, ρ2 k ≠ 15) (e2 : Ev (fun q => q = rR ∨ q = rR + 24) ρ1 w1 ρ2 w2)
    (hrel : Rel cs' rs') (hlen : rs'.length ≤ 256) (hgr : Gr gs cs') (t1 : 8 ≤ rT) (t2 : rT ≤ 11) (t3 : 8 ≤ rR) (t4 : rR ≤ 11) (hne : rT ≠ rR) : SPq N ρ w W T R B rT rR lim s (.returned (.bool true)) w2 := by
  have e3 : Ev (stR rT rR) ρ0 w0 ρ2 w2 := (e1.mono fun q h => by unfold stR; omega).trans (e2.mono fun q h => by unfold stR; omega)
  have e4 : Ev (fun q => q = rT ∨ q = rT + 24 ∨ q = rR ∨ q = rR + 24) ρ0 w0 ρ2 w2 := (e1.mono fun q h => by omega).trans (e2.mono fun q h => by omega)
  have hlt := hW.st.lt (by decide)
  refine ⟨rfl, ρ2, gs, cs', rs', ⟨?_, hW.st.ev (by decide) e4 (by rw [hW.role]; omega) (by rw [hW.role]; decide), ⟨f1, h1.ev e2 (by omega) (by omega) (by omega) (ro_of t1 t2)⟩, ⟨f2, h2⟩, hrel, hlen, hW.lim256, hgr⟩, (hB.ev e4 (fun r hr => by unfold bookR at hr; omega)).more (by omega), hF2, h152, (hE _).trans e3⟩
  rw [e4.role W hlt (by rw [hW.role]; decide), hW.role]

set_option maxRecDepth 4000 in
set_option maxHeartbeats 4000000 in
theorem routes_put (N : Nat) (ρ : Nat → Nat) (w : World) (W T R B rT rR s : Nat) (gs : Nat → List Int) (cs rs : List Rt) (lim : Int) (n : Int) (x : Nat → Value) (h : Value) (m : Bool) (r : Rt) (hfit : Fit r) (hx3 : x 3 = .int .i64 r.f) (hx4 : x 4 = .int .u64 r.hi) (hx5 : x 5 = .int .u64 r.lo) (hx6 : x 6 = .int .i64 r.n) (hx7 : x 7 = .int .i64 r.g)
    (hN : N ≤ w.heap.size) (hF : Fr ρ w) (h15 : ∀ k, ρ k ≠ 15) (hW : Wq N ρ w W T R B rT rR gs cs rs lim) (hB : BqX N ρ w B s) (hT : 8 ≤ rT) (hT2 : rT ≤ 11) (hR : 8 ≤ rR) (hR2 : rR ≤ 11) (hne : rT ≠ rR) :
    Calls Tryz.prog 18 #[.pointer (some ⟨W, 0, none⟩), .agg (opA 4 n x h m)] w (SPq N ρ w W T R B rT rR lim s) := by
  obtain ⟨ρ0, w0, hw0, hNz, hsz, hE0, hF0, h150, hb0, hW0, hB0, hS0⟩ := boxq 4 n x h m hN hF h15 hW hB hT hT2 hR hR2
  have k0 : w0.cell? ⟨w.heap.size, 0, none⟩ = some (.int .i64 4) := (hS0 0 (by decide)).1
  have k3 : w0.cell? ⟨w.heap.size, 3, none⟩ = some (.int .i64 r.f) := by rw [← hx3]; exact (hS0 3 (by decide)).1
  have k4 : w0.cell? ⟨w.heap.size, 4, none⟩ = some (.int .u64 r.hi) := by rw [← hx4]; exact (hS0 4 (by decide)).1
  have k5 : w0.cell? ⟨w.heap.size, 5, none⟩ = some (.int .u64 r.lo) := by rw [← hx5]; exact (hS0 5 (by decide)).1
  have k6 : w0.cell? ⟨w.heap.size, 6, none⟩ = some (.int .i64 r.n) := by rw [← hx6]; exact (hS0 6 (by decide)).1
  have k7 : w0.cell? ⟨w.heap.size, 7, none⟩ = some (.int .i64 r.g) := by rw [← hx7]; exact (hS0 7 (by decide)).1
  have c0 : w0.cell? ⟨W, 0, none⟩ = some (.pointer (some ⟨T, 0, none⟩)) := (hW0.st 0 (by decide)).1
  have c1 : w0.cell? ⟨W, 1, none⟩ = some (.pointer (some ⟨R, 0, none⟩)) := (hW0.st 1 (by decide)).1
  have HE := Lib.hid hE0
  have hWl := hW0.st.lt (by decide)
  obtain ⟨f, hf⟩ := hW0.t
  obtain ⟨g, hg⟩ := hW0.r
  have hlen := hW0.rel.len
  have hl2 := hW0.len
  have HD := Lib.hid fun (w1 : World) (he : Ev (fun _ => False) ρ0 w0 ρ0 w1) => tput_any (hf.ev he id id id (ro_of hT hT2)) (ro_of hT hT2) (Nat.le_trans hNz he.size) (hF0.grow he.size) h150 (by omega) r hfit
  have HR := Lib.hid fun (ρ1 : Nat → Nat) (w1 : World) (he : Ev (fun q => q = rT ∨ q = rT + 24) ρ0 w0 ρ1 w1) (hF1 : Fr ρ1 w1) (h151 : ∀ k, ρ1 k ≠ 15) => rput_any (hg.ev he (by omega) (by omega) (by omega) (ro_of hR hR2)) (ro_of hR hR2) (Nat.le_trans hNz he.size) hF1 h151 (by omega) r hfit
  have HN := Lib.hid (fun (c : Int) w => num_any c w)
  have Hput := Lib.hid (hW0.rel.put gs lim r hfit)
  have Hlen := Lib.hid (putR_len (gs := gs) (lim := lim) (p := r) hW0.len hW0.lim256)
  have HW := Lib.hid hW0
  have HB := Lib.hid hB0
  have Hb0 := Lib.hid hb0
  obtain ⟨bx, hbx⟩ : ∃ bx, bx = w.heap.size := ⟨_, rfl⟩
  rw [← hbx] at k0 k3 k4 k5 k6 k7 hsz Hb0
  obtain ⟨c, hc⟩ : ∃ c, c = (putT gs lim cs r).1 := ⟨_, rfl⟩
  have HDc : Hid (∀ (w1 : World), Ev (fun _ => False) ρ0 w0 ρ0 w1 → Calls Tryz.prog 47 #[.pointer (some ⟨T, 0, none⟩), .agg #[.int .i64 r.f, .int .u64 r.hi, .int .u64 r.lo, .int .i64 r.n, .int .i64 r.g]] w1 fun e w' => e = .returned (.int .i64 c) ∧ TqPost N ρ0 w1 T rT (rT + 24) 3 35 gs lim (putT gs lim cs r).2 w') := by rw [hc]; exact HD.out
  have HRc : Hid (∀ (ρ1 : Nat → Nat) (w1 : World), Ev (fun q => q = rT ∨ q = rT + 24) ρ0 w0 ρ1 w1 → Fr ρ1 w1 → (∀ k, ρ1 k ≠ 15) → Calls Tryz.prog 48 #[.pointer (some ⟨R, 0, none⟩), .agg #[.int .i64 r.f, .int .u64 r.hi, .int .u64 r.lo, .int .i64 r.n, .int .i64 r.g]] w1 fun e w' => e = .returned (.int .i64 c) ∧ TqPost N ρ1 w1 R rR (rR + 24) 4 3 gs lim (putR gs lim rs r).2 w') := by rw [hc, Hput.out.1]; exact HR.out
  clear hW hB hF h15 hE0 hF0 h150 hb0 hW0 hB0 hS0 hf hg hN hx3 hx4 hx5 hx6 hx7 hlen hl2 hc HD HR hfit
  simp only [opA] at hw0
  have Hw0 := Lib.hid hw0
  have Hbx := Lib.hid hbx
  clear hw0 hbx
  unfold opA
  go_enter Tryz.func18, Tryz.ntmps18
  go_wp2
  rw [← Hw0.out, ← Hbx.out]
  go_region_with (go_at_call 47; refine (HDc.out _ (by exact ⟨rfl, rfl, rfl, Nat.le_refl _, fun _ _ _ => rfl, fun _ _ _ _ => rfl⟩)).mono ?_; rintro e w1 ⟨rfl, hp1⟩; have Hp1 := Lib.hid hp1; clear hp1)
  all_goals
    obtain ⟨ρ1, f1, a1, a2, a3, a4⟩ := Hp1.out
    have Ha4 := Lib.hid (show Ev (fun q => q = rT ∨ q = rT + 24) ρ0 w0 ρ1 w1 from ⟨a4.os, a4.tape, a4.output, a4.size, a4.role, a4.block⟩)
    have Ha1 := Lib.hid a1
    have Ha2 := Lib.hid a2
    have Ha3 := Lib.hid a3
    have n13 : ¬ (13 = rT ∨ 13 = rT + 24) := by omega
    have n12 : ¬ (12 = rT ∨ 12 = rT + 24) := by omega
    have k3' := (evc Ha4.out 3 hsz (by rw [Hb0.out]; decide) (by rw [Hb0.out]; exact n13)).trans k3
    have k4' := (evc Ha4.out 4 hsz (by rw [Hb0.out]; decide) (by rw [Hb0.out]; exact n13)).trans k4
    have k5' := (evc Ha4.out 5 hsz (by rw [Hb0.out]; decide) (by rw [Hb0.out]; exact n13)).trans k5
    have k6' := (evc Ha4.out 6 hsz (by rw [Hb0.out]; decide) (by rw [Hb0.out]; exact n13)).trans k6
    have k7' := (evc Ha4.out 7 hsz (by rw [Hb0.out]; decide) (by rw [Hb0.out]; exact n13)).trans k7
    have c1' := (evc Ha4.out 1 hWl (by rw [HW.out.role]; decide) (by rw [HW.out.role]; exact n12)).trans c1
    clear k0 k3 k4 k5 k6 k7 c0 c1 hsz a1 a2 a3 a4 Hp1 n13 n12
    go_wp2
    go_region_with (go_at_call 48; refine (HRc.out ρ1 _ (by exact ⟨Ha4.out.os, Ha4.out.tape, Ha4.out.output, Ha4.out.size, Ha4.out.role, Ha4.out.block⟩) (by exact Ha2.out) Ha3.out).mono ?_; rintro e w2 ⟨rfl, hp2⟩; have Hp2 := Lib.hid hp2; clear hp2)
  all_goals
    obtain ⟨ρ2, f2, b1, b2, b3, b4⟩ := Hp2.out
    have Hfin := Lib.hid (route_fin HE.out HW.out HB.out Ha1.out Ha4.out b1 b2 b3 (show Ev (fun q => q = rR ∨ q = rR + 24) ρ1 w1 ρ2 w2 from ⟨b4.os, b4.tape, b4.output, b4.size, b4.role, b4.block⟩) Hput.out.2 Hlen.out HW.out.grp.putT hT hT2 hR hR2 hne)
    clear b1 b2 b3 b4 Hp2
    have q3 : (c == c) = true := by simp
    go_wp2_with (go_at_call 23; refine (HN.out _ _).mono ?_; rintro e w4 ⟨rfl, rfl⟩)
    go_ret
    exact Hfin.out
end Go.Proofs.YtnfkgnjeamnhfaaGreat
namespace Go.Proofs.YtnfkgnjeamnhfaaGreat
open Go.RowKit

set_option maxRecDepth 4000 in
set_option maxHeartbeats 4000000 in
theorem routes_take (N : Nat) (ρ : Nat → Nat) (w : World) (W T R B rT rR s : Nat) (gs : Nat → List Int) (cs rs : List Rt) (lim : Int) (n : Int) (x : Nat → Value) (h : Value) (m : Bool) (r : Rt) (hfit : Fit r) (hx3 : x 3 = .int .i64 r.f) (hx4 : x 4 = .int .u64 r.hi) (hx5 : x 5 = .int .u64 r.lo) (hx6 : x 6 = .int .i64 r.n)
    (hN : N ≤ w.heap.size) (hF : Fr ρ w) (h15 : ∀ k, ρ k ≠ 15) (hW : Wq N ρ w W T R B rT rR gs cs rs lim) (hB : BqX N ρ w B s) (hT : 8 ≤ rT) (hT2 : rT ≤ 11) (hR : 8 ≤ rR) (hR2 : rR ≤ 11) (hne : rT ≠ rR) :
    Calls Tryz.prog 18 #[.pointer (some ⟨W, 0, none⟩), .agg (opA 5 n x h m)] w (SPq N ρ w W T R B rT rR lim s) := by
  obtain ⟨ρ0, w0, hw0, hNz, hsz, hE0, hF0, h150, hb0, hW0, hB0, hS0⟩ := boxq 5 n x h m hN hF h15 hW hB hT hT2 hR hR2
  have k0 : w0.cell? ⟨w.heap.size, 0, none⟩ = some (.int .i64 5) := (hS0 0 (by decide)).1
  have k3 : w0.cell? ⟨w.heap.size, 3, none⟩ = some (.int .i64 r.f) := by rw [← hx3]; exact (hS0 3 (by decide)).1
  have k4 : w0.cell? ⟨w.heap.size, 4, none⟩ = some (.int .u64 r.hi) := by rw [← hx4]; exact (hS0 4 (by decide)).1
  have k5 : w0.cell? ⟨w.heap.size, 5, none⟩ = some (.int .u64 r.lo) := by rw [← hx5]; exact (hS0 5 (by decide)).1
  have k6 : w0.cell? ⟨w.heap.size, 6, none⟩ = some (.int .i64 r.n) := by rw [← hx6]; exact (hS0 6 (by decide)).1
  have c0 : w0.cell? ⟨W, 0, none⟩ = some (.pointer (some ⟨T, 0, none⟩)) := (hW0.st 0 (by decide)).1
  have c1 : w0.cell? ⟨W, 1, none⟩ = some (.pointer (some ⟨R, 0, none⟩)) := (hW0.st 1 (by decide)).1
  have HE := Lib.hid hE0
  have hWl := hW0.st.lt (by decide)
  obtain ⟨f, hf⟩ := hW0.t
  obtain ⟨g, hg⟩ := hW0.r
  have hlen := hW0.rel.len
  have hl2 := hW0.len
  have HD := Lib.hid fun (w1 : World) (he : Ev (fun _ => False) ρ0 w0 ρ0 w1) => ttake_any (hf.ev he id id id (ro_of hT hT2)) (ro_of hT hT2) (hF0.grow he.size) h150 (by omega) r hfit
  have HR := Lib.hid fun (ρ1 : Nat → Nat) (w1 : World) (he : Ev (fun q => q = rT ∨ q = rT + 24) ρ0 w0 ρ1 w1) (hF1 : Fr ρ1 w1) (h151 : ∀ k, ρ1 k ≠ 15) => rtake_any (hg.ev he (by omega) (by omega) (by omega) (ro_of hR hR2)) (ro_of hR hR2) (Nat.le_trans hNz he.size) hF1 h151 (by omega) r hfit
  have HN := Lib.hid (fun (c : Int) w => num_any c w)
  have Hput := Lib.hid (hW0.rel.take r)
  have Hlen := Lib.hid (takeR_len (p := r) hW0.len)
  have HW := Lib.hid hW0
  have HB := Lib.hid hB0
  have Hb0 := Lib.hid hb0
  obtain ⟨bx, hbx⟩ : ∃ bx, bx = w.heap.size := ⟨_, rfl⟩
  rw [← hbx] at k0 k3 k4 k5 k6 hsz Hb0
  obtain ⟨c, hc⟩ : ∃ c, c = (takeT cs r).1 := ⟨_, rfl⟩
  have HDc : Hid (∀ (w1 : World), Ev (fun _ => False) ρ0 w0 ρ0 w1 → Calls Tryz.prog 49 #[.pointer (some ⟨T, 0, none⟩), .agg #[.int .i64 r.f, .int .u64 r.hi, .int .u64 r.lo, .int .i64 r.n]] w1 fun e w' => e = .returned (.int .i64 c) ∧ TqPost N ρ0 w1 T rT (rT + 24) 3 35 gs lim (takeT cs r).2 w') := by rw [hc]; exact HD.out
  have HRc : Hid (∀ (ρ1 : Nat → Nat) (w1 : World), Ev (fun q => q = rT ∨ q = rT + 24) ρ0 w0 ρ1 w1 → Fr ρ1 w1 → (∀ k, ρ1 k ≠ 15) → Calls Tryz.prog 50 #[.pointer (some ⟨R, 0, none⟩), .agg #[.int .i64 r.f, .int .u64 r.hi, .int .u64 r.lo, .int .i64 r.n]] w1 fun e w' => e = .returned (.int .i64 c) ∧ TqPost N ρ1 w1 R rR (rR + 24) 4 3 gs lim (takeR rs r).2 w') := by rw [hc, Hput.out.1]; exact HR.out
  clear hW hB hF h15 hE0 hF0 h150 hb0 hW0 hB0 hS0 hf hg hN hx3 hx4 hx5 hx6 hlen hl2 hc HD HR hfit
  simp only [opA] at hw0
  have Hw0 := Lib.hid hw0
  have Hbx := Lib.hid hbx
  clear hw0 hbx
  unfold opA
  go_enter Tryz.func18, Tryz.ntmps18
  go_wp2
  rw [← Hw0.out, ← Hbx.out]
  go_region_with (go_at_call 49; refine (HDc.out _ (by exact ⟨rfl, rfl, rfl, Nat.le_refl _, fun _ _ _ => rfl, fun _ _ _ _ => rfl⟩)).mono ?_; rintro e w1 ⟨rfl, hp1⟩; have Hp1 := Lib.hid hp1; clear hp1)
  all_goals
    obtain ⟨ρ1, f1, a1, a2, a3, a4⟩ := Hp1.out
    have Ha4 := Lib.hid (show Ev (fun q => q = rT ∨ q = rT + 24) ρ0 w0 ρ1 w1 from ⟨a4.os, a4.tape, a4.output, a4.size, a4.role, a4.block⟩)
    have Ha1 := Lib.hid a1
    have Ha2 := Lib.hid a2
    have Ha3 := Lib.hid a3
    have n13 : ¬ (13 = rT ∨ 13 = rT + 24) := by omega
    have n12 : ¬ (12 = rT ∨ 12 = rT + 24) := by omega
    have k3' := (evc Ha4.out 3 hsz (by rw [Hb0.out]; decide) (by rw [Hb0.out]; exact n13)).trans k3
    have k4' := (evc Ha4.out 4 hsz (by rw [Hb0.out]; decide) (by rw [Hb0.out]; exact n13)).trans k4
    have k5' := (evc Ha4.out 5 hsz (by rw [Hb0.out]; decide) (by rw [Hb0.out]; exact n13)).trans k5
    have k6' := (evc Ha4.out 6 hsz (by rw [Hb0.out]; decide) (by rw [Hb0.out]; exact n13)).trans k6
    have c1' := (evc Ha4.out 1 hWl (by rw [HW.out.role]; decide) (by rw [HW.out.role]; exact n12)).trans c1
    clear k0 k3 k4 k5 k6 c0 c1 hsz a1 a2 a3 a4 Hp1 n13 n12
    go_wp2
    go_region_with (go_at_call 50; refine (HRc.out ρ1 _ (by exact ⟨Ha4.out.os, Ha4.out.tape, Ha4.out.output, Ha4.out.size, Ha4.out.role, Ha4.out.block⟩) (by exact Ha2.out) Ha3.out).mono ?_; rintro e w2 ⟨rfl, hp2⟩; have Hp2 := Lib.hid hp2; clear hp2)
  all_goals
    obtain ⟨ρ2, f2, b1, b2, b3, b4⟩ := Hp2.out
    have Hfin := Lib.hid (route_fin HE.out HW.out HB.out Ha1.out Ha4.out b1 b2 b3 (show Ev (fun q => q = rR ∨ q = rR + 24) ρ1 w1 ρ2 w2 from ⟨b4.os, b4.tape, b4.output, b4.size, b4.role, b4.block⟩) Hput.out.2 Hlen.out HW.out.grp.takeT hT hT2 hR hR2 hne)
    clear b1 b2 b3 b4 Hp2
    have q3 : (c == c) = true := by simp
    go_wp2_with (go_at_call 23; refine (HN.out _ _).mono ?_; rintro e w4 ⟨rfl, rfl⟩)
    go_ret
    exact Hfin.out
end Go.Proofs.YtnfkgnjeamnhfaaGreat
