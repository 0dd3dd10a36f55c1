import Derived.Test.YtnfkgnjeamnhfaaKs
namespace Go.Proofs.Ytnfkgnjeamnhfaa
open Go.RowKit Go.Sort

set_option maxHeartbeats 2000000 in
theorem kt_change {N : Nat} {ρ : Nat → Nat} {w : World} {T rS : Nat} {gs : Nat → List Int} {rs : List Rt} {lim : Int} (h : Kt N ρ w T rS gs rs lim) (hW : Wh N ρ w) (h8 : 8 ≤ rS) (h11 : rS ≤ 11) (c : Ch) (hp : Fit c.r) :
    Calls Try.prog 9 #[.pointer (some ⟨T, 0, none⟩), .agg #[.int .i64 c.k, .int .i64 c.r.f, .int .u64 c.r.hi, .int .u64 c.r.lo, .int .i64 c.r.n, .int .i64 c.r.g]] w fun e w' => e = .returned (.int .i64 (stepT gs lim rs c).1) ∧ KThen N ρ w T rS gs (stepT gs lim rs c).2 lim w' := by
  have hbx := fun (ob : Obj) => box1 w ob
  have HP := Lib.hid (fun (ob : Obj) => kt_put (h.below (hbx ob) h8 h11) (hW.below (hbx ob)) h8 h11 c.r hp)
  have HT := Lib.hid (fun (ob : Obj) => kt_take (h.below (hbx ob) h8 h11) (hW.below (hbx ob)) h8 h11 c.r hp)
  have HSame := Lib.hid (fun (ob : Obj) => show KThen N ρ w T rS gs rs lim (w.alloc ob) from ⟨ρ, h.below (hbx ob) h8 h11, hW.below (hbx ob), Ev.of_below ρ (hbx ob)⟩)
  have HOf := Lib.hid (fun (ob : Obj) (rs' : List Rt) (w' : World) (h : KThen N ρ (w.alloc ob) T rS gs rs' lim w') => KThen.of (hbx ob) h)
  clear h hW hbx hp
  obtain ⟨k, r⟩ := c
  simp only [] at HP HT ⊢
  unfold stepT
  simp only []
  by_cases k1 : k = 1
  · subst k1
    rw [if_pos rfl]
    go_enter Try.func9, Try.ntmps9
    go_wp2_with (go_at_call 22; refine (HP.out _).mono ?_; rintro e w2 ⟨rfl, hth⟩; have HX := Lib.hid (HOf.out _ _ _ hth); clear hth)
    go_ret
    exact ⟨rfl, HX.out⟩
  · have d1 : (k == 1) = false := ine_beq k1
    rw [if_neg k1]
    by_cases k2 : k = 2
    · subst k2
      rw [if_pos rfl]
      clear k1
      go_enter Try.func9, Try.ntmps9
      go_wp2_with (go_at_call 14; refine (HT.out _).mono ?_; rintro e w2 ⟨rfl, hth⟩; have HX := Lib.hid (HOf.out _ _ _ hth); clear hth)
      go_ret
      exact ⟨rfl, HX.out⟩
    · have d2 : (k == 2) = false := ine_beq k2
      rw [if_neg k2]
      clear k1 k2
      go_enter Try.func9, Try.ntmps9
      go_wp2
      go_ret
      exact ⟨rfl, HSame.out _⟩
/-- Three tables beside one another. -/
def U3 (N : Nat) (ρ : Nat → Nat) (w : World) (T U V : Nat) (lim : Int) (gT : Nat → List Int) (rT : List Rt) (gU : Nat → List Int) (rU : List Rt) (gV : Nat → List Int) (rV : List Rt) (wr : World) : Prop :=
  ∃ ρ', Kt N ρ' wr T 8 gT rT lim ∧ Kt N ρ' wr U 9 gU rU lim ∧ Kt N ρ' wr V 10 gV rV lim ∧ Wh N ρ' wr ∧ Ev (fun q => 1 ≤ q) ρ w ρ' wr
section
variable {N : Nat} {ρ : Nat → Nat} {w : World} {T U V : Nat} {lim : Int} {gT gU gV : Nat → List Int} {rT rU rV : List Rt} {wr : World}
theorem U3.roles {ρ' : Nat → Nat} (h : Ev (fun q => 1 ≤ q) ρ w ρ' wr) (hN : N ≤ w.heap.size) (hρ : ∀ b, b < N → ρ b = 0) : ∀ b, b < N → ρ' b = 0 := fun b hb => by
  rw [h.role b (Nat.lt_of_lt_of_le hb hN) (by rw [hρ b hb]; decide)]; exact hρ b hb
theorem U3.playT (h : U3 N ρ w T U V lim gT rT gU rU gV rV wr) (hN : N ≤ w.heap.size) (hρ : ∀ b, b < N → ρ b = 0) {so : Option Addr} {z scap : Nat} {ops : List AOp} (hz : ops.length = z) (hz2 : z ≤ 1400000000000) (hS : ScrK N w so ops) :
    Calls Try.prog 7 #[.pointer (some ⟨T, 0, none⟩), .slice so z scap] wr fun e w' => e = .returned (.tuple #[]) ∧ ∃ g r, playA lim gT rT ops g r ∧ U3 N ρ w T U V lim g r gU rU gV rV w' := by
  obtain ⟨ρ', h1, h2, h3, h4, h5⟩ := h
  refine (play_any N ρ' wr T 8 gT rT lim so z scap ops hz hz2 h1 h4 (by decide) (by decide) (U3.roles h5 hN hρ) (hS.ev hN h5 hρ (by decide))).mono ?_
  rintro e w' ⟨rfl, ρ2, gs, rs, k1, k2, k3, k4⟩
  exact ⟨rfl, gs, rs, k3, ρ2, k1, h2.ev k4 (by decide) (by decide) (by decide) (by decide) (by decide), h3.ev k4 (by decide) (by decide) (by decide) (by decide) (by decide), k2, h5.trans (k4.mono (fun q h => by omega))⟩
theorem U3.playU (h : U3 N ρ w T U V lim gT rT gU rU gV rV wr) (hN : N ≤ w.heap.size) (hρ : ∀ b, b < N → ρ b = 0) {so : Option Addr} {z scap : Nat} {ops : List AOp} (hz : ops.length = z) (hz2 : z ≤ 1400000000000) (hS : ScrK N w so ops) :
    Calls Try.prog 7 #[.pointer (some ⟨U, 0, none⟩), .slice so z scap] wr fun e w' => e = .returned (.tuple #[]) ∧ ∃ g r, playA lim gU rU ops g r ∧ U3 N ρ w T U V lim gT rT g r gV rV w' := by
  obtain ⟨ρ', h1, h2, h3, h4, h5⟩ := h
  refine (play_any N ρ' wr U 9 gU rU lim so z scap ops hz hz2 h2 h4 (by decide) (by decide) (U3.roles h5 hN hρ) (hS.ev hN h5 hρ (by decide))).mono ?_
  rintro e w' ⟨rfl, ρ2, gs, rs, k1, k2, k3, k4⟩
  exact ⟨rfl, gs, rs, k3, ρ2, h1.ev k4 (by decide) (by decide) (by decide) (by decide) (by decide), k1, h3.ev k4 (by decide) (by decide) (by decide) (by decide) (by decide), k2, h5.trans (k4.mono (fun q h => by omega))⟩
theorem U3.playV (h : U3 N ρ w T U V lim gT rT gU rU gV rV wr) (hN : N ≤ w.heap.size) (hρ : ∀ b, b < N → ρ b = 0) {so : Option Addr} {z scap : Nat} {ops : List AOp} (hz : ops.length = z) (hz2 : z ≤ 1400000000000) (hS : ScrK N w so ops) :
    Calls Try.prog 7 #[.pointer (some ⟨V, 0, none⟩), .slice so z scap] wr fun e w' => e = .returned (.tuple #[]) ∧ ∃ g r, playA lim gV rV ops g r ∧ U3 N ρ w T U V lim gT rT gU rU g r w' := by
  obtain ⟨ρ', h1, h2, h3, h4, h5⟩ := h
  refine (play_any N ρ' wr V 10 gV rV lim so z scap ops hz hz2 h3 h4 (by decide) (by decide) (U3.roles h5 hN hρ) (hS.ev hN h5 hρ (by decide))).mono ?_
  rintro e w' ⟨rfl, ρ2, gs, rs, k1, k2, k3, k4⟩
  exact ⟨rfl, gs, rs, k3, ρ2, h1.ev k4 (by decide) (by decide) (by decide) (by decide) (by decide), h2.ev k4 (by decide) (by decide) (by decide) (by decide) (by decide), k1, k2, h5.trans (k4.mono (fun q h => by omega))⟩
theorem U3.batch (h : U3 N ρ w T U V lim gT rT gU rU gV rV wr) (hρ : ∀ b, b < N → ρ b = 0) {co : Option Addr} {y cap : Nat} {ch : List Ch} (hr : RdC w co y ch) (hA : InN N co y) (hfit : ∀ c ∈ ch, Fit c.r) (hy : y ≤ 2932031007317) :
    Calls Try.prog 8 #[.pointer (some ⟨T, 0, none⟩), .slice co y cap] wr fun e w' => ∃ a b r', e = .returned (.tuple #[.int .i64 a, .int .i64 b]) ∧ Bat (stepT gT lim) rT ch a b r' ∧ U3 N ρ w T U V lim gT r' gU rU gV rV w' := by
  obtain ⟨ρ', h1, h2, h3, h4, h5⟩ := h
  refine (kt_batch h1 h4 (by decide) (by decide) (hr.evN h5 hA hρ (by decide)) hfit (by omega)).mono ?_
  rintro e w' ⟨a, b, r', rfl, hb, ρ2, k1, k2, k4⟩
  exact ⟨a, b, r', rfl, hb, ρ2, k1, h2.ev k4 (by decide) (by decide) (by decide) (by decide) (by decide), h3.ev k4 (by decide) (by decide) (by decide) (by decide) (by decide), k2, h5.trans (k4.mono (fun q h => by omega))⟩
theorem U3.change (h : U3 N ρ w T U V lim gT rT gU rU gV rV wr) (c : Ch) (hf : Fit c.r) :
    Calls Try.prog 9 #[.pointer (some ⟨V, 0, none⟩), .agg #[.int .i64 c.k, .int .i64 c.r.f, .int .u64 c.r.hi, .int .u64 c.r.lo, .int .i64 c.r.n, .int .i64 c.r.g]] wr fun e w' => e = .returned (.int .i64 (stepT gV lim rV c).1) ∧ U3 N ρ w T U V lim gT rT gU rU gV (stepT gV lim rV c).2 w' := by
  obtain ⟨ρ', h1, h2, h3, h4, h5⟩ := h
  refine (kt_change h3 h4 (by decide) (by decide) c hf).mono ?_
  rintro e w' ⟨rfl, ρ2, k1, k2, k4⟩
  exact ⟨rfl, ρ2, h1.ev k4 (by decide) (by decide) (by decide) (by decide) (by decide), h2.ev k4 (by decide) (by decide) (by decide) (by decide) (by decide), k1, k2, h5.trans (k4.mono (fun q h => by omega))⟩
theorem U3.still (h : U3 N ρ w T U V lim gT rT gT rT gV rV wr) : Calls Try.prog 10 #[.pointer (some ⟨T, 0, none⟩), .pointer (some ⟨U, 0, none⟩)] wr fun e w' => e = .returned (.bool true) ∧ ∃ ρ', Ev (fun q => 1 ≤ q) ρ w ρ' w' := by
  obtain ⟨ρ', h1, h2, h3, h4, h5⟩ := h
  refine (alike_any h1 h2 (by decide) (by decide) (by decide) (by decide)).mono ?_
  rintro e w' ⟨rfl, hb⟩
  exact ⟨rfl, ρ', h5.trans (Ev.of_below ρ' hb)⟩
theorem U3.done (h : U3 N ρ w T U V lim gT rT gU rU gT rT wr) : Calls Try.prog 10 #[.pointer (some ⟨T, 0, none⟩), .pointer (some ⟨V, 0, none⟩)] wr fun e w' => e = .returned (.bool true) ∧ ∃ ρ', Ev (fun q => 1 ≤ q) ρ w ρ' w' := by
  obtain ⟨ρ', h1, h2, h3, h4, h5⟩ := h
  refine (alike_any h1 h3 (by decide) (by decide) (by decide) (by decide)).mono ?_
  rintro e w' ⟨rfl, hb⟩
  exact ⟨rfl, ρ', h5.trans (Ev.of_below ρ' hb)⟩
theorem U3.read (h : U3 N ρ w T U V lim gT rT gU rU gV rV wr) (hρ : ∀ b, b < N → ρ b = 0) {co : Option Addr} {y : Nat} {ch : List Ch} (hr : RdC w co y ch) (hA : InN N co y) : RdC wr co y ch := by
  obtain ⟨ρ', h1, h2, h3, h4, h5⟩ := h
  exact hr.evN h5 hA hρ (by decide)
end
end Go.Proofs.Ytnfkgnjeamnhfaa
