import Derived.Test.YtnfkgnjeamnhfaaGreatWk
import Derived.Test.YtnfkgnjeamnhfaaGreatWm
import Derived.Test.YtnfkgnjeamnhfaaGreatWq
import Derived.Test.YtnfkgnjeamnhfaaGreatDg
import Derived.Deep.DeepCutAuto
import Derived.Deep.RegionHeld3
import Derived.Test.YtnfkgnjeamnhfaaGreatTi
import Derived.Laws.Bits64
namespace Go.Proofs.YtnfkgnjeamnhfaaGreat
open Go.RowKit Go.Sort

/-- A step that makes no list: it bears twice as many steps. -/
theorem stepF (N : Nat) (ρ : Nat → Nat) (w : World) (W T R B rT rR s : Nat) (gs : Nat → List Int) (cs rs : List Rt) (lim : Int) (k i : Int) (x : Nat → Value) (m : Bool) (ao : Option Addr) (n cap : Nat)
    (hN : N ≤ w.heap.size) (hF : Fr ρ w) (h15 : ∀ k, ρ k ≠ 15) (hW : Wq N ρ w W T R B rT rR gs cs rs lim) (hB : BqX N ρ w B s) (hs : s ≤ 2000000000000) (hT : 8 ≤ rT) (hT2 : rT ≤ 11) (hR : 8 ≤ rR) (hR2 : rR ≤ 11) (hne : rT ≠ rR)
    (ho : Opq N w x ao n) (hρ : ∀ b, b < N → ρ b = 0) (hk : k = 1 ∨ k = 4 ∨ k = 5 ∨ k = 7) :
    Calls Tryz.prog 12 #[.pointer (some ⟨W, 0, none⟩), .agg (opA k i x (.slice ao n cap) m)] w (SPq N ρ w W T R B rT rR lim s) := by
  obtain ⟨ρ0, w0, hw0, hNz, hsz, hE0, hF0, h150, hb0, hW0, hB0, hS0⟩ := boxq k i x (.slice ao n cap) m hN hF h15 hW hB hT hT2 hR hR2
  have hρ0 : ∀ b, b < N → ρ0 b = 0 := fun b hb => by rw [(hE0 (fun _ => False)).role b (by omega) (by rw [hρ b hb]; decide), hρ b hb]
  have ho0 : Opq N w0 x ao n := ho.ev (hE0 (fun _ => False)) hρ id
  have hbox : ∀ e w', SPq N ρ0 w0 W T R B rT rR lim s e w' → SPq N ρ w W T R B rT rR lim s e w' := fun e w' h => h.box hE0
  obtain ⟨xs, hx⟩ := ho0.hops
  obtain ⟨r, hfit, x3, x4, x5, x6, x7⟩ := ho0.route
  obtain ⟨co, z, ccap, ch, l1, l2, l3, l4, l5⟩ := ho0.list
  rcases hk with rfl | rfl | rfl | rfl
  · have HG := groupsq_group N ρ0 w0 W T R B rT rR s gs cs rs lim i x m ao n cap xs hNz hF0 h150 hW0 hB0 hs hT hT2 hR hR2 hne hx ho0.hn ho0.hA hρ0
    rw [hw0] at HG hbox
    exact (stepq_arm1 HG).mono hbox
  · have HG := routes_put N ρ0 w0 W T R B rT rR s gs cs rs lim i x (.slice ao n cap) m r hfit x3 x4 x5 x6 x7 hNz hF0 h150 hW0 hB0 hT hT2 hR hR2 hne
    rw [hw0] at HG hbox
    exact (stepq_arm4 HG).mono hbox
  · have HG := routes_take N ρ0 w0 W T R B rT rR s gs cs rs lim i x (.slice ao n cap) m r hfit x3 x4 x5 x6 hNz hF0 h150 hW0 hB0 hT hT2 hR hR2 hne
    rw [hw0] at HG hbox
    exact (stepq_arm5 HG).mono hbox
  · have HG := routes_batch N ρ0 w0 W T R B rT rR s gs cs rs lim i x (.slice ao n cap) m co z ccap ch l1 l2 l3 l4 (fun h0 b off hb _ => hρ0 b (l5 h0 b off hb)) 7 rfl rfl rfl hNz hF0 h150 hW0 hB0 hs hT hT2 hR hR2 hne
    rw [hw0] at HG hbox
    exact (stepq_arm7 HG).mono hbox
end Go.Proofs.YtnfkgnjeamnhfaaGreat
namespace Go.Proofs.YtnfkgnjeamnhfaaGreat
open Go.RowKit

/-- The steps of kinds up to K are right. -/
def StepOk (K : Int) : Prop := ∀ (N : Nat) (ρ : Nat → Nat) (w : World) (W T R B rT rR s : Nat) (gs : Nat → List Int) (cs rs : List Rt) (lim : Int) (k i : Int) (x : Nat → Value) (m : Bool) (ao : Option Addr) (n cap : Nat), N ≤ w.heap.size → Fr ρ w → (∀ k, ρ k ≠ 15) → Wq N ρ w W T R B rT rR gs cs rs lim → BqX N ρ w B s → s ≤ 1000000000000 → 8 ≤ rT → rT ≤ 11 → 8 ≤ rR → rR ≤ 11 → rT ≠ rR → Opq N w x ao n → (∀ b, b < N → ρ b = 0) → k ≤ K →
    Calls Tryz.prog 12 #[.pointer (some ⟨W, 0, none⟩), .agg (opA k i x (.slice ao n cap) m)] w (SPq N ρ w W T R B rT rR lim s)
theorem stepOk9 : StepOk 9 := stepq_any
/-- A step of a script, as it lies in memory. -/
def OpAtq (N : Nat) (w : World) (b off : Nat) (k i : Int) (x : Nat → Value) (ao : Option Addr) (n cap : Nat) (m : Bool) : Prop :=
  b < N ∧ (∀ j, j < 16 → w.cell? ⟨b, off + j, none⟩ = some ((opA k i x (.slice ao n cap) m).getD j undef)) ∧ Opq N w x ao n
def Scriptq (N : Nat) (w : World) (so : Option Addr) (z : Nat) : Prop := ∀ q, q < z → ∃ b off k i x ao n cap m, so = some ⟨b, off, none⟩ ∧ OpAtq N w b (off + q * 16) k i x ao n cap m
theorem OpAtq.ev {N : Nat} {ρ ρ' : Nat → Nat} {w w' : World} {b off : Nat} {k i : Int} {x : Nat → Value} {ao : Option Addr} {n cap : Nat} {m : Bool} (h : OpAtq N w b off k i x ao n cap m) (hN : N ≤ w.heap.size) (he : Ev (fun q => 1 ≤ q) ρ w ρ' w') (hρ : ∀ b, b < N → ρ b = 0) : OpAtq N w' b off k i x ao n cap m :=
  ⟨h.1, fun j hj => (evc he (off + j) (Nat.lt_of_lt_of_le h.1 hN) (by rw [hρ b h.1]; decide) (by rw [hρ b h.1]; decide)).trans (h.2.1 j hj), h.2.2.ev he hρ (by decide)⟩
theorem Twoq.more {N : Nat} {ρ : Nat → Nat} {w : World} {W V B s s' : Nat} {l l' : Int} {w' : World} (h : Twoq N ρ w W V B l l' s w') (hs : s ≤ s') : Twoq N ρ w W V B l l' s' w' := by
  obtain ⟨T, R, T', R', ρ', gs, gs', cs, cs', rs, rs', h1, h2, h3, h4⟩ := h
  exact ⟨T, R, T', R', ρ', gs, gs', cs, cs', rs, rs', h1, h2, h3.more hs, h4⟩
theorem Twoq.below {N : Nat} {ρ : Nat → Nat} {w : World} {W V B s : Nat} {l l' : Int} {w1 w2 : World} (h : Twoq N ρ w W V B l l' s w1) (hb : Below w1.heap.size w1 w2) : Twoq N ρ w W V B l l' s w2 := by
  obtain ⟨T, R, T', R', ρ', gs, gs', cs, cs', rs, rs', h1, h2, h3, h4, h5, h6⟩ := h
  exact ⟨T, R, T', R', ρ', gs, gs', cs, cs', rs, rs', h1.ev (Ev.of_below (R := fun _ => False) ρ' hb) id id id id id id (by decide) (by decide) (by decide) (by decide), h2.ev (Ev.of_below (R := fun _ => False) ρ' hb) id id id id id id (by decide) (by decide) (by decide) (by decide), h3.ev (Ev.of_below (R := fun _ => False) ρ' hb) (fun _ _ => id), h4.grow hb.size, h5, h6.trans (Ev.of_below ρ' hb)⟩
theorem Twoq.one {N : Nat} {ρ ρ1 : Nat → Nat} {w w1 : World} {W V B s s' T R T' R' : Nat} {l l' : Int} {gs' : Nat → List Int} {cs' rs' : List Rt} {w2 : World} (hv : Wq N ρ1 w1 V T' R' B 10 11 gs' cs' rs' l') (he : Ev (fun q => 1 ≤ q) ρ w ρ1 w1) (h : Thenq N ρ1 w1 W T R B 8 9 l s' w2) (_ : s = s') : Twoq N ρ w W V B l l' s w2 := by
  subst_vars
  obtain ⟨ρ2, gs2, cs2, rs2, a1, a2, a3, a4, a5⟩ := h
  exact ⟨T, R, T', R', ρ2, gs2, gs', cs2, cs', rs2, rs', a1, hv.ev a5 (by unfold stR; omega) (by unfold stR; omega) (by unfold stR; omega) (by unfold stR; omega) (by unfold stR; omega) (by unfold stR; omega) (by decide) (by decide) (by decide) (by decide), a2, a3, a4, he.trans (a5.mono fun q h => by unfold stR at h; omega)⟩
theorem Twoq.other {N : Nat} {ρ ρ1 : Nat → Nat} {w w1 : World} {W V B s s' T R T' R' : Nat} {l l' : Int} {gs : Nat → List Int} {cs rs : List Rt} {w2 : World} (hv : Wq N ρ1 w1 W T R B 8 9 gs cs rs l) (he : Ev (fun q => 1 ≤ q) ρ w ρ1 w1) (h : Thenq N ρ1 w1 V T' R' B 10 11 l' s' w2) (_ : s = s') : Twoq N ρ w W V B l l' s w2 := by
  subst_vars
  obtain ⟨ρ2, gs2, cs2, rs2, a1, a2, a3, a4, a5⟩ := h
  exact ⟨T, R, T', R', ρ2, gs, gs2, cs, cs2, rs, rs2, hv.ev a5 (by unfold stR; omega) (by unfold stR; omega) (by unfold stR; omega) (by unfold stR; omega) (by unfold stR; omega) (by unfold stR; omega) (by decide) (by decide) (by decide) (by decide), a1, a2, a3, a4, he.trans (a5.mono fun q h => by unfold stR at h; omega)⟩
theorem Thenq.step {N : Nat} {ρ : Nat → Nat} {w : World} {W T R B rT rR s : Nat} {lim : Int} {e : Ending} {w2 : World} (h : SPq N ρ w W T R B rT rR lim s e w2) : Thenq N ρ w W T R B rT rR lim (s + 1) w2 := Thenq.of (Ev.refl _ _ _) h
/-- The step on either table, and what is looked up behind it. -/
theorem Twoq.step {N : Nat} {ρ : Nat → Nat} {w : World} {W V B s : Nat} {l l' : Int} {w1 : World} (h : Twoq N ρ w W V B l l' s w1) (hN : N ≤ w.heap.size) (hs : s ≤ 1000000000000) (hρ : ∀ b, b < N → ρ b = 0) {b off : Nat} {k i : Int} {x : Nat → Value} {ao : Option Addr} {n cap : Nat} {m : Bool} (ho : OpAtq N w b off k i x ao n cap m) {K : Int} (hst : StepOk K) (hk : k ≤ K) :
    Calls Tryz.prog 12 #[.pointer (some ⟨W, 0, none⟩), .agg (opA k i x (.slice ao n cap) m)] w1 (fun e w2 => e = .returned (.bool true) ∧ Twoq N ρ w W V B l l' (s + 1) w2) ∧
    Calls Tryz.prog 12 #[.pointer (some ⟨V, 0, none⟩), .agg (opA k i x (.slice ao n cap) m)] w1 (fun e w2 => e = .returned (.bool true) ∧ Twoq N ρ w W V B l l' (s + 1) w2) := by
  obtain ⟨T, R, T', R', ρ1, gs, gs', cs, cs', rs, rs', h1, h2, h3, h4, h5, h6⟩ := h
  have ho1 := ho.ev hN h6 hρ
  have hρ1 : ∀ b, b < N → ρ1 b = 0 := fun b hb => by rw [h6.role b (by omega) (by rw [hρ b hb]; decide), hρ b hb]
  have hN1 := Nat.le_trans hN h6.size
  exact ⟨(hst N ρ1 w1 W T R B 8 9 s gs cs rs l k i x m ao n cap hN1 h4 h5 h1 h3 hs (by decide) (by decide) (by decide) (by decide) (by decide) ho1.2.2 hρ1 hk).mono fun e w2 hp => ⟨hp.1, Twoq.one h2 h6 (Thenq.step hp) rfl⟩,
    (hst N ρ1 w1 V T' R' B 10 11 s gs' cs' rs' l' k i x m ao n cap hN1 h4 h5 h2 h3 hs (by decide) (by decide) (by decide) (by decide) (by decide) ho1.2.2 hρ1 hk).mono fun e w2 hp => ⟨hp.1, Twoq.other h1 h6 (Thenq.step hp) rfl⟩⟩
theorem Twoq.looks {N : Nat} {ρ : Nat → Nat} {w : World} {W V B s : Nat} {l l' : Int} {w1 : World} (h : Twoq N ρ w W V B l l' s w1) (hs : s ≤ 1000000000000) : Calls Tryz.prog 14 #[.pointer (some ⟨B, 0, none⟩)] w1 fun e w2 => e = .returned (.bool true) ∧ Twoq N ρ w W V B l l' s w2 := by
  obtain ⟨T, R, T', R', ρ', gs, gs', cs, cs', rs, rs', h1, h2, h3, h4⟩ := id h
  refine (h3.looks hs).mono ?_
  rintro e w2 ⟨rfl, hb⟩
  exact ⟨rfl, h.below hb⟩
theorem Twoq.ends {N : Nat} {ρ : Nat → Nat} {w : World} {W V B s : Nat} {l l' : Int} {w1 : World} (h : Twoq N ρ w W V B l l' s w1) (hN : N ≤ w.heap.size) (hs : s + 600 ≤ 1000000000000) (most : Int) (hmost : 7 ≤ most) :
    Calls Tryz.prog 15 #[.pointer (some ⟨W, 0, none⟩), .int .i64 most] w1 (fun e w2 => e = .returned (.bool true) ∧ Twoq N ρ w W V B l l' (s + 600) w2) ∧
    Calls Tryz.prog 15 #[.pointer (some ⟨V, 0, none⟩), .int .i64 most] w1 (fun e w2 => e = .returned (.bool true) ∧ Twoq N ρ w W V B l l' (s + 600) w2) := by
  obtain ⟨T, R, T', R', ρ1, gs, gs', cs, cs', rs, rs', h1, h2, h3, h4, h5, h6⟩ := h
  have hN1 := Nat.le_trans hN h6.size
  exact ⟨(endsq_any N ρ1 w1 W T R B 8 9 s gs cs rs l hN1 h4 h5 h1 h3 hs (by decide) (by decide) (by decide) (by decide) most hmost).mono fun e w2 hp => ⟨hp.1, Twoq.one h2 h6 hp.2 rfl⟩,
    (endsq_any N ρ1 w1 V T' R' B 10 11 s gs' cs' rs' l' hN1 h4 h5 h2 h3 hs (by decide) (by decide) (by decide) (by decide) most hmost).mono fun e w2 hp => ⟨hp.1, Twoq.other h1 h6 hp.2 rfl⟩⟩
theorem Twoq.cell {N : Nat} {ρ : Nat → Nat} {w : World} {W V B s : Nat} {l l' : Int} {w1 : World} (h : Twoq N ρ w W V B l l' s w1) : w1.cell? ⟨W, 2, none⟩ = some (.pointer (some ⟨B, 0, none⟩)) := by
  obtain ⟨T, R, T', R', ρ1, gs, gs', cs, cs', rs, rs', h1, _⟩ := h
  exact (h1.st 2 (by decide)).1
theorem Twoq.evs {N : Nat} {ρ : Nat → Nat} {w : World} {W V B s : Nat} {l l' : Int} {w1 : World} (h : Twoq N ρ w W V B l l' s w1) : ∃ ρ', Ev (fun q => 1 ≤ q) ρ w ρ' w1 := by
  obtain ⟨T, R, T', R', ρ1, gs, gs', cs, cs', rs, rs', _, _, _, _, _, h6⟩ := h
  exact ⟨ρ1, h6⟩
end Go.Proofs.YtnfkgnjeamnhfaaGreat
namespace Go.Proofs.YtnfkgnjeamnhfaaGreat
open Go.RowKit

set_option maxRecDepth 4000 in
set_option maxHeartbeats 2000000 in
theorem playsq_any (N : Nat) (ρ : Nat → Nat) (limit seed own : Int) (so : Option Addr) (z scap : Nat) (w : World) (hN : N ≤ w.heap.size) (hF : Fr ρ w) (h15 : ∀ k, ρ k ≠ 15) (hρ : ∀ b, b < N → ρ b = 0) (hS : Scriptq N w so z) (hz : z ≤ 837728385445) (hsn : Rg seed own) (h1 : ¬ limit < 1) (h2 : ¬ 256 < limit) (most : Int) (hmost : 7 ≤ most) {K : Int} (hst : StepOk K) (hm9 : most ≤ K) :
    Calls Tryz.prog 10 #[.int .i64 limit, .int .u64 seed, .int .u32 own, .slice so z scap, .int .i64 most] w fun e w' => e = .returned (.bool true) ∧ ∃ ρ', Ev (fun q => 1 ≤ q) ρ w ρ' w' := by
  have H1 := Lib.hid (bothq_any N ρ limit seed own w hsn hF h15 h1 h2)
  have HN := Lib.hid hN
  have HP := Lib.hid hρ
  have HS := Lib.hid hS
  have HST := Lib.hid hst
  clear hst
  clear hN hF h15 hρ hS h1 h2 hsn
  go_enter Tryz.func10, Tryz.ntmps10
  go_wp2_with (go_at_call 11; refine H1.out.mono ?_; rintro e w1 ⟨W, V, B, rfl, hp⟩; have H2 := Lib.hid hp; clear hp)
  go_loopw [14] (fun i wr => ∃ k : Nat, k ≤ z ∧ i = .int .i64 k ∧ Hid (Twoq N ρ w W V B limit (257 - limit) k wr)) (fun i _ => z - (intOf i).toNat)
  case atStart => exact ⟨0, Nat.zero_le _, rfl, H2⟩
  case round =>
    obtain ⟨k, hk, rfl, HK⟩ := hrel
    by_cases hlt : k < z
    · obtain ⟨b, off, kk, ii, x, ao, n, cap, m, rfl, ho⟩ := HS.out k hlt
      obtain ⟨ρ1, h6⟩ := HK.out.evs
      have ho1 := ho.ev HN.out h6 HP.out
      have c0 : wr.cell? ⟨b, off + k * 16, none⟩ = some (.int .i64 kk) := ho1.2.1 0 (by decide)
      have c1 : wr.cell? ⟨b, off + k * 16 + 1, none⟩ = some (.int .i64 ii) := ho1.2.1 1 (by decide)
      have c2 : wr.cell? ⟨b, off + k * 16 + 2, none⟩ = some (x 2) := ho1.2.1 2 (by decide)
      have c3 : wr.cell? ⟨b, off + k * 16 + 3, none⟩ = some (x 3) := ho1.2.1 3 (by decide)
      have c4 : wr.cell? ⟨b, off + k * 16 + 4, none⟩ = some (x 4) := ho1.2.1 4 (by decide)
      have c5 : wr.cell? ⟨b, off + k * 16 + 5, none⟩ = some (x 5) := ho1.2.1 5 (by decide)
      have c6 : wr.cell? ⟨b, off + k * 16 + 6, none⟩ = some (x 6) := ho1.2.1 6 (by decide)
      have c7 : wr.cell? ⟨b, off + k * 16 + 7, none⟩ = some (x 7) := ho1.2.1 7 (by decide)
      have c8 : wr.cell? ⟨b, off + k * 16 + 8, none⟩ = some (x 8) := ho1.2.1 8 (by decide)
      have c9 : wr.cell? ⟨b, off + k * 16 + 9, none⟩ = some (x 9) := ho1.2.1 9 (by decide)
      have c10 : wr.cell? ⟨b, off + k * 16 + 10, none⟩ = some (x 10) := ho1.2.1 10 (by decide)
      have c11 : wr.cell? ⟨b, off + k * 16 + 11, none⟩ = some (x 11) := ho1.2.1 11 (by decide)
      have c12 : wr.cell? ⟨b, off + k * 16 + 12, none⟩ = some (.slice ao n cap) := ho1.2.1 12 (by decide)
      have c13 : wr.cell? ⟨b, off + k * 16 + 13, none⟩ = some (x 13) := ho1.2.1 13 (by decide)
      have c14 : wr.cell? ⟨b, off + k * 16 + 14, none⟩ = some (x 14) := ho1.2.1 14 (by decide)
      have c15 : wr.cell? ⟨b, off + k * 16 + 15, none⟩ = some (.bool m) := ho1.2.1 15 (by decide)
      have q1 : (k : Int) < (z : Int) := by omega
      have q0 : (0 : Int) ≤ (k : Int) := by omega
      have HO := Lib.hid ho
      clear ho ho1 h6
      by_cases hkk : kk > most
      · go_wp2
        exact ⟨⟨k + 1, by omega, by go_num, HK.out.more (Nat.le_succ _)⟩, by simp [intOf]; omega⟩
      · have HT := Lib.hid (HK.out.step HN.out (by omega) HP.out HO.out HST.out (by omega))
        have HL := Lib.hid fun (w2 : World) (h : Twoq N ρ w W V B limit (257 - limit) (k + 1) w2) => h.looks (by omega)
        simp only [opA] at HT
        clear HO HK
        cases m
        · go_wp2_with fail
          refine HT.out.1.mono ?_
          rintro e w2 ⟨rfl, hp⟩
          have j0 := hp.cell
          have H3 := Lib.hid (HL.out _ hp)
          clear hp HL HT
          go_wp2_with (go_at_call 14; refine H3.out.mono ?_; rintro e w3 ⟨rfl, hp⟩; have HP3 := Lib.hid hp; clear hp)
          go_roundw
          case rel => exact ⟨k + 1, by omega, by go_num, HP3⟩
          case measure => simp [intOf]; omega
        · go_wp2_with fail
          refine HT.out.2.mono ?_
          rintro e w2 ⟨rfl, hp⟩
          have j0 := hp.cell
          have H3 := Lib.hid (HL.out _ hp)
          clear hp HL HT
          go_wp2_with (go_at_call 14; refine H3.out.mono ?_; rintro e w3 ⟨rfl, hp⟩; have HP3 := Lib.hid hp; clear hp)
          go_roundw
          case rel => exact ⟨k + 1, by omega, by go_num, HP3⟩
          case measure => simp [intOf]; omega
    · obtain rfl : k = z := by omega
      have HE := Lib.hid (HK.out.ends HN.out (by omega) most hmost).1
      have HL := Lib.hid fun (w2 : World) (h : Twoq N ρ w W V B limit (257 - limit) (k + 600) w2) => (h.ends HN.out (by omega) most hmost).2
      clear HK
      go_wp2_with fail
      refine HE.out.mono ?_
      rintro e w2 ⟨rfl, hp⟩
      have H3 := Lib.hid (HL.out _ hp)
      clear hp HL HE
      go_wp2_with fail
      refine H3.out.mono ?_
      rintro e w3 ⟨rfl, hp⟩
      have HP3 := Lib.hid hp
      clear hp
      go_wp2
      go_ret
      exact ⟨rfl, HP3.out.evs⟩
set_option maxRecDepth 4000 in
set_option maxHeartbeats 2000000 in
theorem playsq_no (ρ : Nat → Nat) (limit seed own : Int) (so : Option Addr) (z scap : Nat) (w : World) (h1 : limit < 1 ∨ 256 < limit) (most : Int) :
    Calls Tryz.prog 10 #[.int .i64 limit, .int .u64 seed, .int .u32 own, .slice so z scap, .int .i64 most] w fun e w' => e = .returned (.bool true) ∧ ∃ ρ', Ev (fun q => 1 ≤ q) ρ w ρ' w' := by
  have H1 := Lib.hid (bothq_no limit seed own w h1)
  clear h1
  go_enter Tryz.func10, Tryz.ntmps10
  go_wp2_with (go_at_call 11; refine H1.out.mono ?_; rintro e w1 ⟨rfl, hp⟩; have H2 := Lib.hid hp; clear hp)
  go_ret
  exact ⟨rfl, ρ, Ev.of_below ρ H2.out⟩
/-- Routes: the law. -/
theorem routes_law (N : Nat) (ρ : Nat → Nat) (limit seed own : Int) (so : Option Addr) (z scap : Nat) (w : World) (hN : N ≤ w.heap.size) (hF : Fr ρ w) (h15 : ∀ k, ρ k ≠ 15) (hρ : ∀ b, b < N → ρ b = 0) (hS : Scriptq N w so z) (hz : z ≤ 837728385445) (hsn : Rg seed own) :
    Calls Tryz.prog 4 #[.int .i64 limit, .int .u64 seed, .int .u32 own, .slice so z scap] w fun e w' => e = .returned (.bool true) ∧ ∃ ρ', Ev (fun q => 1 ≤ q) ρ w ρ' w' := by
  have H : Calls Tryz.prog 10 #[.int .i64 limit, .int .u64 seed, .int .u32 own, .slice so z scap, .int .i64 7] w fun e w' => e = .returned (.bool true) ∧ ∃ ρ', Ev (fun q => 1 ≤ q) ρ w ρ' w' := by
    by_cases h : limit < 1 ∨ 256 < limit
    · exact playsq_no ρ limit seed own so z scap w h 7
    · exact playsq_any N ρ limit seed own so z scap w hN hF h15 hρ hS hz hsn (by omega) (by omega) 7 (by decide) stepOk9 (by decide)
  have HH := Lib.hid H
  clear H hN hF h15 hρ hS hz hsn
  go_enter Tryz.func4, Tryz.ntmps4
  go_wp2_with (go_at_call 10; refine HH.out.mono ?_; rintro e w1 ⟨rfl, hp⟩; have H2 := Lib.hid hp; clear hp)
  go_ret
  exact ⟨rfl, H2.out⟩
/-- Trees: the law. -/
theorem trees_law (N : Nat) (ρ : Nat → Nat) (limit seed own : Int) (so : Option Addr) (z scap : Nat) (w : World) (hN : N ≤ w.heap.size) (hF : Fr ρ w) (h15 : ∀ k, ρ k ≠ 15) (hρ : ∀ b, b < N → ρ b = 0) (hS : Scriptq N w so z) (hz : z ≤ 837728385445) (hsn : Rg seed own) :
    Calls Tryz.prog 5 #[.int .i64 limit, .int .u64 seed, .int .u32 own, .slice so z scap] w fun e w' => e = .returned (.bool true) ∧ ∃ ρ', Ev (fun q => 1 ≤ q) ρ w ρ' w' := by
  have H : Calls Tryz.prog 10 #[.int .i64 limit, .int .u64 seed, .int .u32 own, .slice so z scap, .int .i64 9] w fun e w' => e = .returned (.bool true) ∧ ∃ ρ', Ev (fun q => 1 ≤ q) ρ w ρ' w' := by
    by_cases h : limit < 1 ∨ 256 < limit
    · exact playsq_no ρ limit seed own so z scap w h 9
    · exact playsq_any N ρ limit seed own so z scap w hN hF h15 hρ hS hz hsn (by omega) (by omega) 9 (by decide) stepOk9 (by decide)
  have HH := Lib.hid H
  clear H hN hF h15 hρ hS hz hsn
  go_enter Tryz.func5, Tryz.ntmps5
  go_wp2_with (go_at_call 10; refine HH.out.mono ?_; rintro e w1 ⟨rfl, hp⟩; have H2 := Lib.hid hp; clear hp)
  go_ret
  exact ⟨rfl, H2.out⟩
end Go.Proofs.YtnfkgnjeamnhfaaGreat
namespace Go.Proofs.YtnfkgnjeamnhfaaGreat
open Go.RowKit Go.Sort

/-- The two Lookups tell the same. -/
theorem Rel.look {cs rs : List Rt} (h : Rel cs rs) {a : Ad} {n g : Int} (h0 : H.adrE a.1 a.2.1 a.2.2 = 0) (hk : LkD rs a n g) : n = lookLT cs a ∧ g = lookGT cs a := by
  have hL := lnsT_of h.gd a.1
  unfold lookLT lookGT
  rw [if_pos h0, if_pos h0, lk_best (h.fam a.1) hL a, ← (h.pair a.1).bst]
  rcases hk with ⟨rfl, rfl, hb⟩ | ⟨r, hr, hf, hm, hb, rfl, rfl⟩
  · rw [hb]
    exact ⟨rfl, (gof_none (fun r hr => ((h.fam a.1).gd r hr).len.1) (by decide)).symm⟩
  · rw [← hb]
    have hr' : r ∈ famF cs a.1 := famF_mem.2 ⟨h.perm.symm.subset hr, hf⟩
    exact ⟨rfl, (gof_some (h.fam a.1).ones (fun s hs => (famF_mem.1 hs).2) hr' rfl hm.2).symm⟩
theorem Rel.asked {cs rs : List Rt} (h : Rel cs rs) {a : Ad} (h0 : H.adrE a.1 a.2.1 a.2.2 = 0) : asks (fnd (famF rs a.1) (lnsD rs a.1) a) (lnsD rs a.1) = lookAT cs a := by
  unfold lookAT
  rw [if_pos h0, h.lns a.1]
  congr 1
  funext m
  unfold fnd
  rw [(h.pair a.1).thr]
theorem rlook_all {N : Nat} {ρ : Nat → Nat} {w : World} {T rS rQ : Nat} {gs : Nat → List Int} {cs rs : List Rt} {lim : Int} {f : Nat → Value} (h : Tq N ρ w T rS rQ 4 3 gs rs lim f) (hlen : rs.length ≤ 1000) (hrel : Rel cs rs) (a : Ad) (hfit : FitA a) :
    Calls Tryz.prog 29 #[.pointer (some ⟨T, 0, none⟩), adV a] w fun e w' => ∃ ao n cap, e = .returned (.tuple #[fdV (lookLT cs a) (lookGT cs a) (.slice ao n cap), .int .i64 (H.adrE a.1 a.2.1 a.2.2)]) ∧ n = (lookAT cs a).length ∧ w'.ownsRow w.heap.size 3 1 (.slice ao n cap) n (ints (lookAT cs a)) ∧ Below w.heap.size w w' := by
  by_cases h0 : H.adrE a.1 a.2.1 a.2.2 = 0
  · refine (rlook_go N T (f 3) rs a w (h.rq.st 3 (by decide)).1 h.rq.row.1 hlen hrel.gdr (adr_ok h0 hfit) h0).mono ?_
    rintro e w' ⟨ln, gn, ao, n, cap, rfl, hk, hn, hr, hb⟩
    obtain ⟨rfl, rfl⟩ := hrel.look h0 hk
    rw [hrel.asked h0] at hn hr
    rw [h0]
    exact ⟨ao, n, cap, rfl, hn, hr, hb⟩
  · refine (rlook_no T a _ w rfl h0).mono ?_
    rintro e w' ⟨rfl, hb⟩
    unfold lookLT lookGT lookAT
    rw [if_neg h0, if_neg h0, if_neg h0]
    exact ⟨none, 0, 0, rfl, rfl, World.ownsRow_nil _ _ _ _, hb⟩
theorem lookAT_len (cs : List Rt) (a : Ad) : (lookAT cs a).length ≤ 129 := by
  unfold lookAT
  split
  · exact Nat.le_trans (vis_le _ _) (by unfold lnsT; exact lensC_le _ _)
  · simp
/-- A block of three cells, made ahead of a call. -/
def Tri (w2 w : World) (p : Nat) : Prop := w2.heap.size ≤ p ∧ p < w.heap.size ∧ ∀ j, j < 3 → (∃ v, w.cell? ⟨p, j, none⟩ = some v) ∧ w.frozen? ⟨p, j, none⟩ = false
theorem tri_at {w2 W w' : World} {v0 v1 v2 : Value} {t : TypeId} (h : w2.heap.size ≤ W.heap.size) (hb : Below (W.alloc (.cells #[v0, v1, v2] t)).heap.size (W.alloc (.cells #[v0, v1, v2] t)) w') : Tri w2 w' W.heap.size := by
  have hs : W.heap.size < (W.alloc (.cells #[v0, v1, v2] t)).heap.size := by simp
  refine ⟨h, Nat.lt_of_lt_of_le hs hb.size, fun j hj => ?_⟩
  have e1 := hb.cell (p := ⟨W.heap.size, j, none⟩) hs
  have e2 := hb.frozen (p := ⟨W.heap.size, j, none⟩) hs
  rw [e1, e2]
  rcases (show j = 0 ∨ j = 1 ∨ j = 2 by omega) with rfl | rfl | rfl <;> exact ⟨⟨_, by simp; rfl⟩, by simp⟩
theorem Tri.all {w2 w : World} {p : Nat} (h : Tri w2 w p) : ∃ v0 v1 v2, (w.cell? ⟨p, 0, none⟩ = some v0 ∧ w.frozen? ⟨p, 0, none⟩ = false) ∧ (w.cell? ⟨p, 1, none⟩ = some v1 ∧ w.frozen? ⟨p, 1, none⟩ = false) ∧ (w.cell? ⟨p, 2, none⟩ = some v2 ∧ w.frozen? ⟨p, 2, none⟩ = false) := by
  obtain ⟨⟨v0, a0⟩, b0⟩ := h.2.2 0 (by decide)
  obtain ⟨⟨v1, a1⟩, b1⟩ := h.2.2 1 (by decide)
  obtain ⟨⟨v2, a2⟩, b2⟩ := h.2.2 2 (by decide)
  exact ⟨v0, v1, v2, ⟨a0, b0⟩, ⟨a1, b1⟩, ⟨a2, b2⟩⟩
/-- What Lookup tells, in a box. -/
abbrev fbF (n g : Int) (v : Value) : Nat → Value := fun j => if j = 0 then .int .i64 n else if j = 1 then .int .i64 g else v
theorem tri_ne {W w' : World} {v0 v1 v2 : Value} {t : TypeId} {v : Value} {n : Nat} {xs : List Value} (h : w'.ownsRow (W.alloc (.cells #[v0, v1, v2] t)).drew.heap.size 3 1 v n xs) {g : Nat} (hg : v.ownBlock = some g) : g ≠ W.heap.size := by
  have h1 : (W.alloc (.cells #[v0, v1, v2] t)).heap.size ≤ g := (World.ownsRow.lt h g hg).1
  simp at h1
  omega
theorem fb_new (w : World) (n g : Int) (v : Value) (t : TypeId) : St (w.alloc (.cells #[.int .i64 n, .int .i64 g, v] t)) w.heap.size 3 (fbF n g v) := by
  refine (St.new w _ _).congr fun j hj => ?_
  have hj : j < 3 := hj
  iterate 3 (rcases j with _ | j; · rfl)
  omega
theorem fb_set {w2 w : World} {p : Nat} (h : Tri w2 w p) (n g : Int) (v : Value) : St (((w.setCell ⟨p, 0, none⟩ (.int .i64 n)).setCell ⟨p, 1, none⟩ (.int .i64 g)).setCell ⟨p, 2, none⟩ v) p 3 (fbF n g v) := by
  have h0 : St w p 3 (fun j => (w.cell? ⟨p, j, none⟩).getD undef) := fun j hj => by
    obtain ⟨⟨u, hu⟩, hf⟩ := h.2.2 j hj
    exact ⟨by show w.cell? ⟨p, j, none⟩ = some ((w.cell? ⟨p, j, none⟩).getD undef); rw [hu]; rfl, hf⟩
  refine (((h0.set (k := 0) (by decide) (.int .i64 n)).set (k := 1) (by decide) (.int .i64 g)).set (k := 2) (by decide) v).congr fun j hj => ?_
  rcases (show j = 0 ∨ j = 1 ∨ j = 2 by omega) with rfl | rfl | rfl <;> rfl
set_option maxRecDepth 4000 in
set_option maxHeartbeats 4000000 in
theorem asksq_look (N : Nat) (ρ : Nat → Nat) (w : World) (W T R B rT rR s : Nat) (gs : Nat → List Int) (cs rs : List Rt) (lim : Int) (n : Int) (x : Nat → Value) (a : Ad) (hfit : FitA a) (hx8 : x 8 = .int .i64 a.1) (hx9 : x 9 = .int .u64 a.2.1) (hx10 : x 10 = .int .u64 a.2.2) (h : Value) (m : Bool)
    (hN : N ≤ w.heap.size) (hF : Fr ρ w) (h15 : ∀ k, ρ k ≠ 15) (hW : Wq N ρ w W T R B rT rR gs cs rs lim) (hB : BqX N ρ w B s) (hs : s ≤ 1000000000000) (hT : 8 ≤ rT) (hT2 : rT ≤ 11) (hR : 8 ≤ rR) (hR2 : rR ≤ 11) :
    Calls Tryz.prog 13 #[.pointer (some ⟨W, 0, none⟩), .agg (opA 10 n x h m)] w (SPq N ρ w W T R B rT rR lim s) := by
  obtain ⟨ρ0, w0, hw0, hNz, hsz, hE0, hF0, h150, hb0, hW0, hB0, hS0⟩ := boxq 10 n x h m hN hF h15 hW hB hT hT2 hR hR2
  have k0 : w0.cell? ⟨w.heap.size, 0, none⟩ = some (.int .i64 10) := (hS0 0 (by decide)).1
  have k8 : w0.cell? ⟨w.heap.size, 8, none⟩ = some (.int .i64 a.1) := by rw [← hx8]; exact (hS0 8 (by decide)).1
  have k9 : w0.cell? ⟨w.heap.size, 9, none⟩ = some (.int .u64 a.2.1) := by rw [← hx9]; exact (hS0 9 (by decide)).1
  have k10 : w0.cell? ⟨w.heap.size, 10, none⟩ = some (.int .u64 a.2.2) := by rw [← hx10]; exact (hS0 10 (by decide)).1
  have c0 : w0.cell? ⟨W, 0, none⟩ = some (.pointer (some ⟨T, 0, none⟩)) := (hW0.st 0 (by decide)).1
  have c1 : w0.cell? ⟨W, 1, none⟩ = some (.pointer (some ⟨R, 0, none⟩)) := (hW0.st 1 (by decide)).1
  have c2 : w0.cell? ⟨W, 2, none⟩ = some (.pointer (some ⟨B, 0, none⟩)) := (hW0.st 2 (by decide)).1
  have HE := Lib.hid hE0
  have hWl := hW0.st.lt (by decide)
  obtain ⟨f, hf⟩ := hW0.t
  obtain ⟨g, hg⟩ := hW0.r
  have hlen := hW0.rel.len
  have hl2 := hW0.len
  have hrel := hW0.rel
  have HHo := Lib.hid fun (w1 : World) (hb : Below w0.heap.size w0 w1) => tlook_any (hf.ev (Ev.of_below (R := fun _ => False) ρ0 hb) id id id (ro_of hT hT2)) (by omega) hrel.srt hrel.gd a hfit
  have HRo := Lib.hid fun (w1 : World) (hb : Below w0.heap.size w0 w1) => rlook_all (hg.ev (Ev.of_below (R := fun _ => False) ρ0 hb) id id id (ro_of hR hR2)) (by omega) hrel a hfit
  have HW := Lib.hid hW0
  have HB := Lib.hid hB0
  have HF := Lib.hid hF0
  have H15 := Lib.hid h150
  obtain ⟨bx, hbx⟩ : ∃ bx, bx = w.heap.size := ⟨_, rfl⟩
  rw [← hbx] at k0 k8 k9 k10 hsz
  have hl129 := lookAT_len cs a
  clear hW hB hF h15 hE0 hF0 h150 hb0 hW0 hB0 hS0 hf hg hN hlen hl2 hrel
  simp only [opA, hx8, hx9, hx10] at hw0
  have Hw0 := Lib.hid hw0
  have Hbx := Lib.hid hbx
  clear hw0 hbx
  unfold opA
  rw [hx8, hx9, hx10]
  clear hx8 hx9 hx10
  go_enter Tryz.func13, Tryz.ntmps13
  go_wp2
  rw [← Hw0.out, ← Hbx.out]
  have HHo3 := Lib.hid (show ∀ W, Below w0.heap.size w0 W → Calls Tryz.prog 28 #[.pointer (some ⟨T, 0, none⟩), .agg #[.int .i64 a.1, .int .u64 a.2.1, .int .u64 a.2.2]] W fun e w' => ∃ ao n cap, e = .returned (.tuple #[.agg #[.int .i64 (lookLT cs a), .int .i64 (lookGT cs a), .slice ao n cap], .int .i64 (H.adrE a.1 a.2.1 a.2.2)]) ∧ n = (lookAT cs a).length ∧ w'.ownsRow W.heap.size 3 1 (.slice ao n cap) n (ints (lookAT cs a)) ∧ Below W.heap.size W w' from HHo.out)
  have HRo3 := Lib.hid (show ∀ W, Below w0.heap.size w0 W → Calls Tryz.prog 29 #[.pointer (some ⟨R, 0, none⟩), .agg #[.int .i64 a.1, .int .u64 a.2.1, .int .u64 a.2.2]] W fun e w' => ∃ ao n cap, e = .returned (.tuple #[.agg #[.int .i64 (lookLT cs a), .int .i64 (lookGT cs a), .slice ao n cap], .int .i64 (H.adrE a.1 a.2.1 a.2.2)]) ∧ n = (lookAT cs a).length ∧ w'.ownsRow W.heap.size 3 1 (.slice ao n cap) n (ints (lookAT cs a)) ∧ Below W.heap.size W w' from HRo.out)
  clear HHo HRo
  generalize lookLT cs a = ln at HHo3 HRo3
  generalize lookGT cs a = gn at HHo3 HRo3
  generalize lookAT cs a = A at HHo3 HRo3 hl129
  generalize H.adrE a.1 a.2.1 a.2.2 = er at HHo3 HRo3
  have HS := Lib.hid (fun (W' : World) (h : Below w0.heap.size w0 W') => (⟨h, (h.cell (p := ⟨bx, 8, none⟩) hsz).trans k8, (h.cell (p := ⟨bx, 9, none⟩) hsz).trans k9, (h.cell (p := ⟨bx, 10, none⟩) hsz).trans k10, (h.cell (p := ⟨W, 0, none⟩) hWl).trans c0, (h.cell (p := ⟨W, 1, none⟩) hWl).trans c1, (h.cell (p := ⟨W, 2, none⟩) hWl).trans c2⟩ : Below w0.heap.size w0 W' ∧ W'.cell? ⟨bx, 8, none⟩ = some (.int .i64 a.1) ∧ W'.cell? ⟨bx, 9, none⟩ = some (.int .u64 a.2.1) ∧ W'.cell? ⟨bx, 10, none⟩ = some (.int .u64 a.2.2) ∧ W'.cell? ⟨W, 0, none⟩ = some (.pointer (some ⟨T, 0, none⟩)) ∧ W'.cell? ⟨W, 1, none⟩ = some (.pointer (some ⟨R, 0, none⟩)) ∧ W'.cell? ⟨W, 2, none⟩ = some (.pointer (some ⟨B, 0, none⟩))))
  go_cut [15, 16] (fun s15 s16 wx => ∃ p ao z cap, s15 = .pointer (some ⟨p, 0, none⟩) ∧ s16 = .int .i64 er ∧ Hid (z = A.length) ∧ Hid (St wx p 3 (fbF ln gn (.slice ao z cap))) ∧ Hid (wx.ownsRow w0.heap.size 3 1 (.slice ao z cap) z (ints A)) ∧ Hid (Below w0.heap.size w0 wx) ∧ Hid (w0.heap.size ≤ p ∧ ∀ g, (Value.slice ao z cap).ownBlock = some g → g ≠ p))
  case first =>
    go_region_held3 (fun W' => Below w0.heap.size w0 W' ∧ W'.cell? ⟨bx, 8, none⟩ = some (.int .i64 a.1) ∧ W'.cell? ⟨bx, 9, none⟩ = some (.int .u64 a.2.1) ∧ W'.cell? ⟨bx, 10, none⟩ = some (.int .u64 a.2.2) ∧ W'.cell? ⟨W, 0, none⟩ = some (.pointer (some ⟨T, 0, none⟩)) ∧ W'.cell? ⟨W, 1, none⟩ = some (.pointer (some ⟨R, 0, none⟩)) ∧ W'.cell? ⟨W, 2, none⟩ = some (.pointer (some ⟨B, 0, none⟩))) ((refine HS.out _ ?_; first | with_reducible exact bl_drew _ | with_reducible assumption | (with_reducible refine bl_drew' (bl_alloc ?_ _); exact Below.refl _ _) | (with_reducible refine bl_alloc ?_ _; first | with_reducible assumption | with_reducible exact bl_drew _) | ((iterate 3 (with_reducible refine bl_set ?_ (by assumption) _)); with_reducible assumption))) (first | (go_at_call 28; refine (HHo3.out _ (And.left ‹_›)).mono ?_; rintro e wA ⟨ao, z, cap, rfl, rfl, hol, hbA⟩; have hkA : Below w0.heap.size w0 wA := bl_call (And.left ‹_›) hbA; have hol' := row_lower hol (show Below w0.heap.size w0 _ from And.left ‹_›).size; (first | (have h3 := tri_at (w2 := w0) (Nat.le_refl _) (of_drew hbA); have hne : ∀ g, (Value.slice ao A.length cap).ownBlock = some g → g ≠ w0.heap.size := fun g hg => tri_ne hol hg; generalize w0.heap.size = pp at h3 hne ⊢; have h7 := h3.1; obtain ⟨v0, v1, v2, ⟨a0, b0⟩, ⟨a1, b1⟩, a2, b2⟩ := h3.all) | skip)))
    · have hS1 : Below w0.heap.size w0 _ := And.left ‹_›
      go_wp2_with fail
      go_meet
      exact ⟨_, ao, _, cap, rfl, rfl, rfl, fb_new wA ln gn _ _, rowE_far hol' (box1 _ _) (fun g hg => (World.ownsRow.lt hol' g hg).2), hS1, And.intro hkA.size (fun g hg => Nat.ne_of_lt (World.ownsRow.lt hol' g hg).2)⟩
    · have hS1 : Below w0.heap.size w0 _ := And.left ‹_›
      go_wp2_with fail
      go_meet
      exact ⟨_, ao, _, cap, rfl, rfl, rfl, fb_set h3 ln gn _, row_set (row_set (row_set hol' hne _) hne _) hne _, hS1, And.intro h3.1 hne⟩
  case rest =>
  obtain ⟨p, ao, z, cap, rfl, rfl, Hz, Hst, Hol, Hb1, Hp⟩ := hcut
  obtain rfl : z = A.length := Hz.out
  generalize wc = w1 at *
  obtain ⟨-, k8', k9', k10', -, c1', c2'⟩ := HS.out w1 Hb1.out
  have hWc : W < w1.heap.size := Nat.lt_of_lt_of_le hWl Hb1.out.size
  have hbc : bx < w1.heap.size := Nat.lt_of_lt_of_le hsz Hb1.out.size
  have hpl := Hst.out.lt (by decide)
  have HRo4 := Lib.hid (fun (W' : World) (h : Below w1.heap.size w1 W') => HRo3.out W' (Hb1.out.trans (h.mono Hb1.out.size)))
  have HS2 := Lib.hid (fun (W' : World) (h : Below w1.heap.size w1 W') => (⟨h, (h.cell (p := ⟨bx, 8, none⟩) hbc).trans k8', (h.cell (p := ⟨bx, 9, none⟩) hbc).trans k9', (h.cell (p := ⟨bx, 10, none⟩) hbc).trans k10', (h.cell (p := ⟨W, 1, none⟩) hWc).trans c1', (h.cell (p := ⟨W, 2, none⟩) hWc).trans c2'⟩ : Below w1.heap.size w1 W' ∧ W'.cell? ⟨bx, 8, none⟩ = some (.int .i64 a.1) ∧ W'.cell? ⟨bx, 9, none⟩ = some (.int .u64 a.2.1) ∧ W'.cell? ⟨bx, 10, none⟩ = some (.int .u64 a.2.2) ∧ W'.cell? ⟨W, 1, none⟩ = some (.pointer (some ⟨R, 0, none⟩)) ∧ W'.cell? ⟨W, 2, none⟩ = some (.pointer (some ⟨B, 0, none⟩))))
  clear k0 k8 k9 k10 c0 c1 c2 HHo3 HRo3 HS
  go_wp2_with fail
  go_cut [17, 18] (fun s17 s18 wx => ∃ p2 ao2 cap2, s17 = .pointer (some ⟨p2, 0, none⟩) ∧ s18 = .int .i64 er ∧ Hid (St wx p2 3 (fbF ln gn (.slice ao2 A.length cap2))) ∧ Hid (wx.ownsRow w1.heap.size 3 1 (.slice ao2 A.length cap2) A.length (ints A)) ∧ Hid (Below w1.heap.size w1 wx) ∧ Hid (w1.heap.size ≤ p2))
  case first =>
    go_region_held3 (fun W' => Below w1.heap.size w1 W' ∧ W'.cell? ⟨bx, 8, none⟩ = some (.int .i64 a.1) ∧ W'.cell? ⟨bx, 9, none⟩ = some (.int .u64 a.2.1) ∧ W'.cell? ⟨bx, 10, none⟩ = some (.int .u64 a.2.2) ∧ W'.cell? ⟨W, 1, none⟩ = some (.pointer (some ⟨R, 0, none⟩)) ∧ W'.cell? ⟨W, 2, none⟩ = some (.pointer (some ⟨B, 0, none⟩))) ((refine HS2.out _ ?_; first | with_reducible exact bl_drew _ | with_reducible assumption | (with_reducible refine bl_drew' (bl_alloc ?_ _); exact Below.refl _ _) | (with_reducible refine bl_alloc ?_ _; first | with_reducible assumption | with_reducible exact bl_drew _) | ((iterate 3 (with_reducible refine bl_set ?_ (by assumption) _)); with_reducible assumption))) (first | (go_at_call 29; refine (HRo4.out _ (And.left ‹_›)).mono ?_; rintro e wA ⟨ao2, z, cap2, rfl, rfl, hol, hbA⟩; have hkA : Below w1.heap.size w1 wA := bl_call (And.left ‹_›) hbA; have hol' := row_lower hol (show Below w1.heap.size w1 _ from And.left ‹_›).size; (first | (have h3 := tri_at (w2 := w1) (Nat.le_refl _) (of_drew hbA); have hne : ∀ g, (Value.slice ao2 A.length cap2).ownBlock = some g → g ≠ w1.heap.size := fun g hg => tri_ne hol hg; generalize w1.heap.size = pp at h3 hne ⊢; have h7 := h3.1; obtain ⟨v0, v1, v2, ⟨a0, b0⟩, ⟨a1, b1⟩, a2, b2⟩ := h3.all) | skip)))
    · have hS1 : Below w1.heap.size w1 _ := And.left ‹_›
      go_wp2_with fail
      go_meet
      exact ⟨_, ao2, cap2, rfl, rfl, fb_new wA ln gn _ _, rowE_far hol' (box1 _ _) (fun g hg => (World.ownsRow.lt hol' g hg).2), hS1, hkA.size⟩
    · have hS1 : Below w1.heap.size w1 _ := And.left ‹_›
      go_wp2_with fail
      go_meet
      exact ⟨_, ao2, cap2, rfl, rfl, fb_set h3 ln gn _, row_set (row_set (row_set hol' hne _) hne _) hne _, hS1, h3.1⟩
  case rest =>
  obtain ⟨p2, ao2, cap2, rfl, rfl, Hst2, Hr2, Hb2, Hp2⟩ := hcut
  generalize wc = w2 at *
  have c2'' := (Hb2.out.cell (p := ⟨W, 2, none⟩) hWc).trans c2'
  have hx := Hst.out.below Hb2.out hpl
  have e0 : w2.cell? ⟨p, 0, none⟩ = some (.int .i64 ln) := (hx 0 (by decide)).1
  have e1 : w2.cell? ⟨p, 1, none⟩ = some (.int .i64 gn) := (hx 1 (by decide)).1
  have e2 : w2.cell? ⟨p, 2, none⟩ = some (.slice ao A.length cap) := (hx 2 (by decide)).1
  have d0 : w2.cell? ⟨p2, 0, none⟩ = some (.int .i64 ln) := (Hst2.out 0 (by decide)).1
  have d1 : w2.cell? ⟨p2, 1, none⟩ = some (.int .i64 gn) := (Hst2.out 1 (by decide)).1
  have d2 : w2.cell? ⟨p2, 2, none⟩ = some (.slice ao2 A.length cap2) := (Hst2.out 2 (by decide)).1
  have Hol2 := Lib.hid (rowE_far Hol.out Hb2.out (fun k hk => (World.ownsRow.lt Hol.out k hk).2))
  have HA := Lib.hid (sameInts_yes ao ao2 A.length cap cap2 A w2 (rd_row Hol2.out rfl) (rd_row Hr2.out rfl) (by unfold maxLen; omega))
  have HD := Lib.hid (fun (d : Nat) => (show Below w0.heap.size w0 (w2.drewN d) from ⟨Hb2.out.os.trans Hb1.out.os, Hb2.out.tape.trans Hb1.out.tape, Hb2.out.output.trans Hb1.out.output, Nat.le_trans Hb1.out.size Hb2.out.size, fun k hk => (Hb2.out.block k (Nat.lt_of_lt_of_le hk Hb1.out.size)).trans (Hb1.out.block k hk)⟩))
  have hp2l := Hst2.out.lt (by decide)
  have h1p : p < w1.heap.size := hpl
  have h2p : w1.heap.size ≤ p2 := Hp2.out
  have hp14 : ρ0 p = 14 := HF.out p Hp.out.1
  have hp214 : rl ρ0 p 13 p2 = 14 := by rw [rl_ne (by omega)]; exact HF.out p2 (Nat.le_trans Hb1.out.size h2p)
  obtain ⟨ρ1, hρ1⟩ : ∃ ρ1, ρ1 = rl (rl ρ0 p 13) p2 13 := ⟨_, rfl⟩
  have HDx := Lib.hid (fun (Wx : World) (hb : Below w2.heap.size w2 Wx) => (Hb1.out.trans (Hb2.out.mono Hb1.out.size)).trans (hb.mono (Nat.le_trans Hb1.out.size Hb2.out.size)))
  have HE1 := Lib.hid (fun (Wx : World) (hb : Below w2.heap.size w2 Wx) (Q : Nat → Prop) => show Ev Q ρ0 w0 ρ1 Wx by rw [hρ1]; exact ((Ev.of_below ρ0 (HDx.out Wx hb)).trans (Ev.rl _ 13 (.inl hp14))).trans (Ev.rl _ 13 (.inl hp214)))
  have HF1 := Lib.hid (fun (Wx : World) (hb : Below w2.heap.size w2 Wx) => show Fr ρ1 Wx by rw [hρ1]; exact ((HF.out.grow (HDx.out Wx hb).size).rl (Nat.lt_of_lt_of_le h1p (Nat.le_trans Hb2.out.size hb.size)) 13).rl (Nat.lt_of_lt_of_le hp2l hb.size) 13)
  have H151 := Lib.hid (show ∀ k, ρ1 k ≠ 15 from fun k => by rw [hρ1]; unfold rl; split; decide; split; decide; exact H15.out k)
  have Hr1 := Lib.hid (show ρ1 p = 13 ∧ ρ1 p2 = 13 by rw [hρ1]; exact ⟨by rw [rl_ne (by omega)]; exact rl_same _ _ _, rl_same _ _ _⟩)
  have Hg1 := Lib.hid (show ∀ b, (Value.slice ao A.length cap).ownBlock = some b → ρ1 b = 14 from fun b hb => by
    have hb1 := World.ownsRow.lt Hol.out b hb
    rw [hρ1, rl_ne (by omega), rl_ne (Hp.out.2 b hb)]
    exact HF.out b hb1.1)
  have HK := Lib.hid (fun (Wx : World) (hb : Below w2.heap.size w2 Wx) => keepI_one (w := Wx) (Nat.le_trans hNz (HDx.out Wx hb).size) (HF1.out Wx hb) (HB.out.ev (HE1.out Wx hb (fun _ => False)) (fun _ _ => id)) hs (row_lower (rowE_far Hol2.out hb (fun k hk => (World.ownsRow.lt Hol2.out k hk).2)) hNz) Hg1.out (by omega) H151.out)
  have Hx2 := Lib.hid (And.intro hx Hst2.out)
  have HN := Lib.hid (fun w => num_any er w)
  have q3 : (er == er) = true := by simp
  have q4 : (ln == ln) = true := by simp
  have q5 : (gn == gn) = true := by simp
  clear c2' c1' k8' k9' k10' hx
  go_wp2_with (first | (go_at_call 21; refine HA.out.mono ?_; rintro e w3 ⟨rfl, d, rfl⟩))
  have c3 : (w2.drewN d).cell? ⟨W, 2, none⟩ = some (.pointer (some ⟨B, 0, none⟩)) := c2''
  have e3 : (w2.drewN d).cell? ⟨p, 2, none⟩ = some (.slice ao A.length cap) := e2
  obtain ⟨wd, hwd⟩ : ∃ wd, wd = w2.drewN d := ⟨_, rfl⟩
  rw [← hwd] at c3 e3 ⊢
  have Hwd := Lib.hid (show Below w2.heap.size w2 wd by rw [hwd]; exact ⟨rfl, rfl, rfl, Nat.le_refl _, fun _ _ => rfl⟩)
  have HKd := Lib.hid (HK.out wd.drew (bl_drew' Hwd.out))
  have HWd := Lib.hid (HW.out.ev (HE1.out wd Hwd.out (fun _ => False)) id id id id id id hT hT2 hR hR2)
  have HEd := Lib.hid (fun (Q : Nat → Prop) => (HE.out Q).trans (HE1.out wd Hwd.out Q))
  have Hxd := Lib.hid (And.intro (Hx2.out.1.below Hwd.out (Hx2.out.1.lt (by decide))) (Hx2.out.2.below Hwd.out (Hx2.out.2.lt (by decide))))
  clear hwd c2'' e0 e1 e2 d0 d1 d2
  go_cut [] (fun wx => Hid (∃ ρ', BqX N ρ' wx B (s + 1) ∧ Fr ρ' wx ∧ (∀ k, ρ' k ≠ 15) ∧ Ev (fun q => q = 1 ∨ q = 2 ∨ q = 3) ρ1 wd ρ' wx))
  case first =>
    go_region_with (go_at_call 22; refine HKd.out.mono ?_; rintro e w5 ⟨rfl, ρ', h1, h2, h3, h5⟩; have Hk : Hid (∃ ρ', BqX N ρ' w5 B (s + 1) ∧ Fr ρ' w5 ∧ (∀ k, ρ' k ≠ 15) ∧ Ev (fun q => q = 1 ∨ q = 2 ∨ q = 3) ρ1 wd ρ' w5) := Lib.hid ⟨ρ', h1, h2, h3, ⟨h5.os, h5.tape, h5.output, h5.size, h5.role, h5.block⟩⟩; clear h1 h2 h3 h5)
    all_goals
      go_wp2_with fail
      go_meet
      exact Hk
  case rest =>
  have Hk := hcut
  obtain ⟨ρ', -, -, -, h5⟩ := hcut.out
  have hx := Hxd.out.1.ev (by decide) h5 (by rw [Hr1.out.1]; omega) (by rw [Hr1.out.1]; decide)
  have hy := Hxd.out.2.ev (by decide) h5 (by rw [Hr1.out.2]; omega) (by rw [Hr1.out.2]; decide)
  have e0 : wc.cell? ⟨p, 0, none⟩ = some (.int .i64 ln) := (hx 0 (by decide)).1
  have e1 : wc.cell? ⟨p, 1, none⟩ = some (.int .i64 gn) := (hx 1 (by decide)).1
  have d0 : wc.cell? ⟨p2, 0, none⟩ = some (.int .i64 ln) := (hy 0 (by decide)).1
  have d1 : wc.cell? ⟨p2, 1, none⟩ = some (.int .i64 gn) := (hy 1 (by decide)).1
  clear h5 hx hy c3 e3
  go_wp2_with (first | (go_at_call 23; refine (HN.out _).mono ?_; rintro e w4 ⟨rfl, rfl⟩))
  go_ret
  exact dump_fin HEd.out HWd.out (Below.refl _ _) Hk.out (fun q h => by omega) hT hT2 hR hR2
end Go.Proofs.YtnfkgnjeamnhfaaGreat
namespace Go.Proofs.YtnfkgnjeamnhfaaGreat
open Go.RowKit

set_option maxRecDepth 4000 in
set_option maxHeartbeats 4000000 in
theorem stepq_arm10 {w : World} {W : Nat} {i : Int} {x : Nat → Value} {h : Value} {m : Bool} {P : World → Prop}
    (HG : Calls Tryz.prog 13 #[.pointer (some ⟨W, 0, none⟩), .agg (opA 10 i x h m)] (w.alloc (.cells (opA 10 i x h m) 39)) (fun e w' => e = .returned (.bool true) ∧ P w')) :
    Calls Tryz.prog 12 #[.pointer (some ⟨W, 0, none⟩), .agg (opA 10 i x h m)] w (fun e w' => e = .returned (.bool true) ∧ P w') := by
  simp only [opA] at HG
  have HG := Lib.hid HG
  unfold opA
  go_enter Tryz.func12, Tryz.ntmps12
  go_wp2_with fail
  refine HG.out.mono ?_
  rintro e w1 ⟨rfl, hp⟩
  go_wp2
  go_ret
  exact ⟨rfl, hp⟩
theorem stepOk10 : StepOk 10 := by
  intro N ρ w W T R B rT rR s gs cs rs lim k i x m ao n cap hN hF h15 hW hB hs hT hT2 hR hR2 hne ho hρ hk
  by_cases hk9 : k ≤ 9
  · exact stepOk9 N ρ w W T R B rT rR s gs cs rs lim k i x m ao n cap hN hF h15 hW hB hs hT hT2 hR hR2 hne ho hρ hk9
  · obtain rfl : k = 10 := by omega
    obtain ⟨ρ0, w0, hw0, hNz, hsz, hE0, hF0, h150, hb0, hW0, hB0, hS0⟩ := boxq 10 i x (.slice ao n cap) m hN hF h15 hW hB hT hT2 hR hR2
    have hbox : ∀ e w', SPq N ρ0 w0 W T R B rT rR lim s e w' → SPq N ρ w W T R B rT rR lim s e w' := fun e w' h => h.box hE0
    obtain ⟨a, hfit, x8, x9, x10⟩ := ho.adr
    have HG := asksq_look N ρ0 w0 W T R B rT rR s gs cs rs lim i x a hfit x8 x9 x10 (.slice ao n cap) m hNz hF0 h150 hW0 hB0 hs hT hT2 hR hR2
    rw [hw0] at HG hbox
    exact (stepq_arm10 HG).mono hbox
/-- Lookups: the law. -/
theorem lookups_law (N : Nat) (ρ : Nat → Nat) (limit seed own : Int) (so : Option Addr) (z scap : Nat) (w : World) (hN : N ≤ w.heap.size) (hF : Fr ρ w) (h15 : ∀ k, ρ k ≠ 15) (hρ : ∀ b, b < N → ρ b = 0) (hS : Scriptq N w so z) (hz : z ≤ 837728385445) (hsn : Rg seed own) :
    Calls Tryz.prog 6 #[.int .i64 limit, .int .u64 seed, .int .u32 own, .slice so z scap] w fun e w' => e = .returned (.bool true) ∧ ∃ ρ', Ev (fun q => 1 ≤ q) ρ w ρ' w' := by
  have H : Calls Tryz.prog 10 #[.int .i64 limit, .int .u64 seed, .int .u32 own, .slice so z scap, .int .i64 10] w fun e w' => e = .returned (.bool true) ∧ ∃ ρ', Ev (fun q => 1 ≤ q) ρ w ρ' w' := by
    by_cases h : limit < 1 ∨ 256 < limit
    · exact playsq_no ρ limit seed own so z scap w h 10
    · exact playsq_any N ρ limit seed own so z scap w hN hF h15 hρ hS hz hsn (by omega) (by omega) 10 (by decide) stepOk10 (by decide)
  have HH := Lib.hid H
  clear H hN hF h15 hρ hS hz hsn
  go_enter Tryz.func6, Tryz.ntmps6
  go_wp2_with (go_at_call 10; refine HH.out.mono ?_; rintro e w1 ⟨rfl, hp⟩; have H2 := Lib.hid hp; clear hp)
  go_ret
  exact ⟨rfl, H2.out⟩
end Go.Proofs.YtnfkgnjeamnhfaaGreat
namespace Go.Proofs.YtnfkgnjeamnhfaaGreat
open Go.RowKit Go.Sort

/-- A number, mixed. -/
def mx1 (x : Nat) : Nat := (x ^^^ x / 1073741824) * 13787848793156543929 % 18446744073709551616
def mx2 (x : Nat) : Nat := (x ^^^ x / 134217728) * 10723151780598845931 % 18446744073709551616
def mixN (x : Nat) : Nat := mx2 (mx1 x) ^^^ mx2 (mx1 x) / 2147483648
theorem wrap_mul (a c : Nat) : IntKind.u64.wrap ((a : Int) * (c : Int)) = ((a * c % 18446744073709551616 : Nat) : Int) := by
  rw [IntKind.wrap_u64]; simp
theorem mix_facts (x : Nat) (hx : x < 18446744073709551616) : ∃ x1 x2 x3 x4 : Nat, bits .xor .u64 (x : Int) ((x : Int) / 1073741824) = (x1 : Int) ∧ IntKind.u64.wrap ((x1 : Int) * 13787848793156543929) = (x2 : Int) ∧ bits .xor .u64 (x2 : Int) ((x2 : Int) / 134217728) = (x3 : Int) ∧ IntKind.u64.wrap ((x3 : Int) * 10723151780598845931) = (x4 : Int) ∧ bits .xor .u64 (x4 : Int) ((x4 : Int) / 2147483648) = (mixN x : Nat) ∧ x2 < 18446744073709551616 ∧ x4 < 18446744073709551616 := by
  have h1 : mx1 x < 18446744073709551616 := Nat.mod_lt _ (by decide)
  have h2 : mx2 (mx1 x) < 18446744073709551616 := Nat.mod_lt _ (by decide)
  exact ⟨x ^^^ x / 1073741824, mx1 x, mx1 x ^^^ mx1 x / 134217728, mx2 (mx1 x), xorShift_u64 x 1073741824 hx, wrap_mul _ _, xorShift_u64 (mx1 x) 134217728 h1, wrap_mul _ _, xorShift_u64 (mx2 (mx1 x)) 2147483648 h2, h1, h2⟩
theorem mixN_lt (x : Nat) : mixN x < 18446744073709551616 := by
  have h2 : mx2 (mx1 x) < 2 ^ 64 := Nat.mod_lt _ (by decide)
  exact Nat.xor_lt_two_pow h2 (Nat.lt_of_le_of_lt (Nat.div_le_self _ _) h2)
set_option maxHeartbeats 1000000 in
theorem mix_any (x : Nat) (hx : x < 18446744073709551616) (w : World) : Calls Tryz.prog 73 #[.int .u64 x] w fun e w' => e = .returned (.int .u64 (mixN x : Nat)) ∧ w' = w := by
  obtain ⟨x1, x2, x3, x4, e1, e2, e3, e4, e5, -, -⟩ := mix_facts x hx
  generalize mixN x = m at *
  clear hx
  go_enter Tryz.func73, Tryz.ntmps73
  go_wp2
  go_ret
  exact ⟨rfl, rfl⟩
set_option maxHeartbeats 1000000 in
theorem rmix_any (x : Nat) (hx : x < 18446744073709551616) (w : World) : Calls Tryz.prog 75 #[.int .u64 x] w fun e w' => e = .returned (.int .u64 (mixN x : Nat)) ∧ w' = w := by
  obtain ⟨x1, x2, x3, x4, e1, e2, e3, e4, e5, l2, l4⟩ := mix_facts x hx
  generalize mixN x = m at *
  have v1 : IntKind.u64.wrap ((x : Int) / 1073741824) = (x : Int) / 1073741824 := by rw [IntKind.wrap_u64]; omega
  have v2 : IntKind.u64.wrap ((x2 : Int) / 134217728) = (x2 : Int) / 134217728 := by rw [IntKind.wrap_u64]; omega
  have v3 : IntKind.u64.wrap ((x4 : Int) / 2147483648) = (x4 : Int) / 2147483648 := by rw [IntKind.wrap_u64]; omega
  have t1 : ((x : Int).tdiv 1073741824) = (x : Int) / 1073741824 := Int.tdiv_eq_ediv_of_nonneg (by omega)
  have t2 : ((x2 : Int).tdiv 134217728) = (x2 : Int) / 134217728 := Int.tdiv_eq_ediv_of_nonneg (by omega)
  have t3 : ((x4 : Int).tdiv 2147483648) = (x4 : Int) / 2147483648 := Int.tdiv_eq_ediv_of_nonneg (by omega)
  clear hx
  go_enter Tryz.func75, Tryz.ntmps75
  go_wp2
  go_ret
  exact ⟨rfl, rfl⟩
/-- The hop of a group at a number's place. -/
def hopN (gs : Nat → List Int) (g : Int) (k : Nat) : Int := ((gs g.toNat)[k % (gs g.toNat).length]?).getD 0
set_option maxHeartbeats 2000000 in
theorem hopFor_any (T : Nat) (f : Nat → Value) (gs : Nat → List Int) (g : Int) (n : Nat) (w : World) (hs : St w T 36 f) (hl : Ls w f 3 gs) (hg : hasB gs g = true) :
    Calls Tryz.prog 74 #[.pointer (some ⟨T, 3, none⟩), .int .i64 g, .int .u64 n] w fun e w' => e = .returned (.tuple #[.int .i64 (hopN gs g n), .int .i64 0]) ∧ w' = w := by
  have H := Lib.hid (has_any T f gs g w hs hl)
  rw [hg] at H
  obtain ⟨k, rfl, hk, hk0⟩ := hasB_some hg
  obtain ⟨ao, z, cap, hf, hr, hn8, -⟩ := hl k hk
  have hc := (hs (3 + k) (by omega)).1
  rw [hf] at hc
  have hz := hr.1
  rw [hz] at hk0
  obtain ⟨b, off, rfl, hb, -⟩ := hr.at hk0
  have hlt : n % z < z := Nat.mod_lt _ hk0
  obtain ⟨h, hh, hcell⟩ := hr.cell hlt
  have HH := Lib.hid (show hopN gs k n = h by unfold hopN; rw [Int.toNat_natCast, hz, hh]; rfl)
  have q1 : (k : Int) < 32 := by omega
  have q2 : ((n : Int).tmod (z : Int)) = ((n % z : Nat) : Int) := rfl
  have q3 : ((n % z : Nat) : Int) < (z : Int) := by omega
  have q4 : ((z : Int) == 0) = false := ine_beq (by omega)
  generalize hm : n % z = m at *
  have Hm := Lib.hid hm
  clear hm hs hl hg hf hr hh
  rw [HH.out]
  go_enter Tryz.func74, Tryz.ntmps74
  go_wp2_with (go_at_call 91; refine H.out.mono ?_; rintro e w1 ⟨rfl, rfl⟩)
  go_ret2
  exact ⟨rfl, rfl⟩
/-- A table's seed. -/
def sdN (gs : Nat → List Int) : Nat := ((gs 32).headD 0 % 18446744073709551616).toNat
theorem sdN_eq (gs : Nat → List Int) : sd gs 1 = .int .u64 (sdN gs : Nat) ∧ sdN gs < 18446744073709551616 := by
  have h1 : 0 ≤ (gs 32).headD 0 % 18446744073709551616 := Int.emod_nonneg _ (by decide)
  have h2 : (gs 32).headD 0 % 18446744073709551616 < 18446744073709551616 := Int.emod_lt_of_pos _ (by decide)
  unfold sdN
  refine ⟨?_, by omega⟩
  show Value.int .u64 _ = _
  rw [Int.toNat_of_nonneg h1]
/-- What Pick answers. -/
def pkE (cs : List Rt) (a : Ad) : Int := if H.adrE a.1 a.2.1 a.2.2 = 0 then (if lookGT cs a = -1 then 8 else 0) else H.adrE a.1 a.2.1 a.2.2
def pkH (gs : Nat → List Int) (cs : List Rt) (a : Ad) (fl : Nat) : Int := if H.adrE a.1 a.2.1 a.2.2 = 0 then (if lookGT cs a = -1 then 0 else hopN gs (lookGT cs a) (mixN (fl ^^^ sdN gs))) else 0
/-- What Lookup finds is a route's group. -/
theorem look_grp {gs : Nat → List Int} {cs : List Rt} (hgr : ∀ r ∈ cs, hasB gs r.g = true) {a : Ad} (h0 : H.adrE a.1 a.2.1 a.2.2 = 0) : lookGT cs a = -1 ∨ hasB gs (lookGT cs a) = true := by
  unfold lookGT
  rw [if_pos h0]
  unfold gof
  split
  · rename_i r hr
    have hm := List.mem_of_find?_eq_some hr
    exact .inr (hgr r (famF_mem.1 hm).1)
  · exact .inl rfl
set_option maxRecDepth 4000 in
set_option maxHeartbeats 2000000 in
theorem tpick_any {N : Nat} {ρ : Nat → Nat} {w : World} {T rS rQ : Nat} {gs : Nat → List Int} {cs : List Rt} {lim : Int} {f : Nat → Value} (h : Tq N ρ w T rS rQ 3 35 gs cs lim f) (hlen : cs.length ≤ 1000) (hs : Srt cs) (hg : ∀ r ∈ cs, Gd r) (hgr : ∀ r ∈ cs, hasB gs r.g = true) (a : Ad) (hfit : FitA a) (fl : Nat) (hfl : fl ≤ 18446744073709551615) (hro : Ro rS rQ) :
    Calls Tryz.prog 30 #[.pointer (some ⟨T, 0, none⟩), adV a, .int .u64 fl] w fun e w' => e = .returned (.tuple #[.int .i64 (pkH gs cs a fl), .int .i64 (pkE cs a)]) ∧ Below w.heap.size w w' := by
  have HL := Lib.hid (fun (w1 : World) (hb : Below w.heap.size w w1) => show Calls Tryz.prog 28 #[.pointer (some ⟨T, 0, none⟩), .agg #[.int .i64 a.1, .int .u64 a.2.1, .int .u64 a.2.2]] w1 fun e w' => ∃ ao n cap, e = .returned (.tuple #[.agg #[.int .i64 (lookLT cs a), .int .i64 (lookGT cs a), .slice ao n cap], .int .i64 (H.adrE a.1 a.2.1 a.2.2)]) ∧ n = (lookAT cs a).length ∧ w'.ownsRow w1.heap.size 3 1 (.slice ao n cap) n (ints (lookAT cs a)) ∧ Below w1.heap.size w1 w' from tlook_any (h.ev (Ev.of_below (R := fun _ => False) ρ hb) id id id hro) hlen hs hg a hfit)
  have hT := h.rq.st.lt (by decide)
  obtain ⟨hsd, hsl⟩ := sdN_eq gs
  have h1 := (h.rq.st 1 (by decide)).1
  rw [h.one 1 (.inl rfl), hsd] at h1
  have hxl : fl ^^^ sdN gs < 2 ^ 64 := Nat.xor_lt_two_pow (by omega) (by omega)
  have hx : bits .xor .u64 (fl : Int) (sdN gs : Nat) = ((fl ^^^ sdN gs : Nat) : Int) := bits_xor_u64_nat fl (sdN gs) (by omega) hsl
  have HM := Lib.hid (fun w => mix_any (fl ^^^ sdN gs) hxl w)
  have HH := Lib.hid (fun (w1 : World) (hb : Below w.heap.size w w1) (hh : hasB gs (lookGT cs a) = true) => hopFor_any T f gs (lookGT cs a) (mixN (fl ^^^ sdN gs)) w1 (h.rq.st.below hb hT) (h.ev (Ev.of_below (R := fun _ => False) ρ hb) id id id hro).Ls hh)
  have hlg := fun h0 => look_grp (gs := gs) hgr (a := a) h0
  unfold pkH pkE
  obtain ⟨w0, hw0⟩ : ∃ w0, w0 = w.alloc (.cells #[.int .i64 a.1, .int .u64 a.2.1, .int .u64 a.2.2] 31) := ⟨_, rfl⟩
  obtain ⟨ba, hba⟩ : ∃ x, x = w.heap.size := ⟨_, rfl⟩
  have HB0 := Lib.hid (show Below w.heap.size w w0 by rw [hw0]; exact box1 _ _)
  have Hw0 := Lib.hid hw0
  have Hba := Lib.hid hba
  have HT1 := Lib.hid h1
  generalize lookLT cs a = ln at *
  generalize lookGT cs a = gn at *
  generalize lookAT cs a = A at *
  generalize H.adrE a.1 a.2.1 a.2.2 = er at *
  generalize hxx : fl ^^^ sdN gs = fx at *
  generalize mixN fx = mx at *
  generalize sdN gs = se at *
  clear hw0 hba h hs hg hgr hsd hsl h1 hxl hxx hfit hlen hro
  go_enter Tryz.func30, Tryz.ntmps30
  go_wp2_with fail
  rw [← Hw0.out, ← Hba.out]
  refine (HL.out _ HB0.out).mono ?_
  rintro e w1 ⟨ao, n, cap, rfl, rfl, -, hb1⟩
  obtain ⟨w2, hw2⟩ : ∃ w2, w2 = w1.alloc (.cells #[.int .i64 ln, .int .i64 gn, .slice ao A.length cap] 73) := ⟨_, rfl⟩
  have hB1 := HB0.out.trans (hb1.mono HB0.out.size)
  have hB2 : Below w.heap.size w w2 := by rw [hw2]; exact hB1.trans ((box1 w1 _).mono hB1.size)
  have HB2 := Lib.hid hB2
  have Hw2 := Lib.hid hw2
  have hT2 : T < w1.heap.size := Nat.lt_of_lt_of_le hT hB1.size
  have s1 : w1.cell? ⟨T, 1, none⟩ = some (.int .u64 se) := (hB1.cell (p := ⟨T, 1, none⟩) hT).trans HT1.out
  clear hw2 hB1 hB2 hb1
  by_cases h0 : er = 0
  · have hlg1 := hlg h0
    subst h0
    clear hlg
    by_cases hgn : gn = -1
    · subst hgn
      clear hlg1
      go_wp2
      rw [← Hw2.out]
      go_ret2
      exact ⟨rfl, HB2.out⟩
    · have hgb := hlg1.resolve_left hgn
      have q1 : (gn == -1) = false := ine_beq hgn
      have HH2 := Lib.hid (fun (W : World) (hb : Below w.heap.size w W) => HH.out W hb hgb)
      have Hgn := Lib.hid hgn
      clear hlg1 HH hgb hgn
      go_wp2_with fail
      rw [← Hw2.out]
      refine (HM.out w2).mono ?_
      rintro e w3 ⟨rfl, rfl⟩
      have g1 : w3.cell? ⟨w1.heap.size, 1, none⟩ = some (.int .i64 gn) := by rw [Hw2.out]; simp
      have hB3 := HB2.out
      go_wp2_with fail
      go_region_with (go_at_call 74; refine (HH2.out _ (by exact ⟨hB3.os, hB3.tape, hB3.output, hB3.size, hB3.block⟩)).mono ?_; rintro e w4 ⟨rfl, rfl⟩)
      all_goals
        go_wp2
        go_ret2
        exact ⟨by first | rfl | (rw [if_pos rfl, if_pos rfl, if_neg Hgn.out, if_neg Hgn.out]; rfl), ⟨hB3.os, hB3.tape, hB3.output, hB3.size, hB3.block⟩⟩
  · have q1 : (er == 0) = false := ine_beq h0
    have H0 := Lib.hid h0
    clear hlg h0
    go_wp2
    rw [← Hw2.out]
    go_ret2
    exact ⟨by first | rfl | (rw [if_neg H0.out, if_neg H0.out]; rfl), HB2.out⟩
end Go.Proofs.YtnfkgnjeamnhfaaGreat
namespace Go.Proofs.YtnfkgnjeamnhfaaGreat
open Go.RowKit Go.Sort

/-- What the document's Pick leaves. -/
def PkD (gs : Nat → List Int) (rs : List Rt) (a : Ad) (mx : Nat) (w : World) (e : Ending) (w' : World) : Prop :=
  Below w.heap.size w w' ∧ ((LkD rs a (-1) (-1) ∧ e = .returned (.tuple #[.int .i64 0, .int .i64 8])) ∨ ∃ r ∈ rs, LkD rs a r.n r.g ∧ e = .returned (.tuple #[.int .i64 (hopN gs r.g mx), .int .i64 0]))
set_option maxRecDepth 4000 in
set_option maxHeartbeats 2000000 in
theorem rpick_go {N : Nat} {ρ : Nat → Nat} {w : World} {T rS rQ : Nat} {gs : Nat → List Int} {rs : List Rt} {lim : Int} {f : Nat → Value} (h : Tq N ρ w T rS rQ 4 3 gs rs lim f) (hlen : rs.length ≤ 1000) (hg : ∀ r ∈ rs, Gd r) (hgr : ∀ r ∈ rs, hasB gs r.g = true) (a : Ad) (ha : Adr a) (hfam : H.adrE a.1 a.2.1 a.2.2 = 0) (fl : Nat) (hfl : fl ≤ 18446744073709551615) :
    Calls Tryz.prog 31 #[.pointer (some ⟨T, 0, none⟩), adV a, .int .u64 fl] w (PkD gs rs a (mixN (fl ^^^ sdN gs)) w) := by
  have HC := Lib.hid (fun (w : World) => show Calls Tryz.prog 70 #[.agg #[.int .i64 a.1, .int .u64 a.2.1, .int .u64 a.2.2]] w fun e w' => e = .returned (.int .i64 (H.adrE a.1 a.2.1 a.2.2)) ∧ Below w.heap.size w w' from raddr_any a w)
  rw [hfam] at HC
  have hT := h.rq.st.lt (by decide)
  have hc := (h.rq.st 3 (by decide)).1
  have hr := h.rq.row.1
  have HG := Lib.hid (fun (w1 : World) (hb : Below w.heap.size w w1) => show Calls Tryz.prog 72 #[.pointer (some ⟨T, 0, none⟩), .agg #[.int .i64 a.1, .int .u64 a.2.1, .int .u64 a.2.2], .int .i64 128] w1 fun e w' => ∃ bi : Int, e = .returned (.int .i64 bi) ∧ LgI rs a 128 rs.length bi ∧ Below w1.heap.size w1 w' from rlongest_any N T (f 3) rs a 128 w1 ((hb.cell (p := ⟨T, 3, none⟩) hT).trans hc) (RwO.far hr hb (fun g hg => (World.ownsRow.lt hr g hg).2)) hlen hg ha)
  obtain ⟨hsd, hsl⟩ := sdN_eq gs
  have h1 := (h.rq.st 1 (by decide)).1
  rw [h.one 1 (.inl rfl), hsd] at h1
  have hxl : fl ^^^ sdN gs < 2 ^ 64 := Nat.xor_lt_two_pow (by omega) (by omega)
  have hx : bits .xor .u64 (fl : Int) (sdN gs : Nat) = ((fl ^^^ sdN gs : Nat) : Int) := bits_xor_u64_nat fl (sdN gs) (by omega) hsl
  have HM := Lib.hid (fun w => rmix_any (fl ^^^ sdN gs) hxl w)
  have HQ := Lib.hid h
  have HGr := Lib.hid hgr
  obtain ⟨w0, hw0⟩ : ∃ w0, w0 = w.alloc (.cells #[.int .i64 a.1, .int .u64 a.2.1, .int .u64 a.2.2] 31) := ⟨_, rfl⟩
  obtain ⟨ba, hba⟩ : ∃ x, x = w.heap.size := ⟨_, rfl⟩
  have HA0 := Lib.hid (show St w0 ba 3 (adF a) by rw [hw0, hba]; exact ad_at a _ rfl)
  have HB0 := Lib.hid (show Below w.heap.size w w0 by rw [hw0]; exact box1 _ _)
  have Hw0 := Lib.hid hw0
  have Hba := Lib.hid hba
  have HT1 := Lib.hid h1
  generalize hxx : fl ^^^ sdN gs = fx at *
  generalize hmx : mixN fx = mx at *
  have hmxl : mx < 18446744073709551616 := by rw [← hmx]; exact mixN_lt fx
  generalize sdN gs = se at *
  clear hw0 hba h hg hgr hsd hsl h1 hxl hxx hc hr hfam ha hmx
  go_enter Tryz.func31, Tryz.ntmps31
  go_wp2_with fail
  rw [← Hw0.out, ← Hba.out]
  refine (HC.out _).mono ?_
  rintro e w1 ⟨rfl, hb1⟩
  have HA1 := Lib.hid (HA0.out.below hb1 (HA0.out.lt (by decide)))
  have HB1 := Lib.hid (HB0.out.trans (hb1.mono HB0.out.size))
  have a0 : w1.cell? ⟨ba, 0, none⟩ = some (.int .i64 a.1) := (HA1.out 0 (by decide)).1
  have a1 : w1.cell? ⟨ba, 1, none⟩ = some (.int .u64 a.2.1) := (HA1.out 1 (by decide)).1
  have a2 : w1.cell? ⟨ba, 2, none⟩ = some (.int .u64 a.2.2) := (HA1.out 2 (by decide)).1
  clear hb1
  go_wp2_with fail
  refine (HG.out _ HB1.out).mono ?_
  rintro e w2 ⟨bi, rfl, hlg, hb2⟩
  have HB2 := Lib.hid (HB1.out.trans (hb2.mono HB1.out.size))
  clear hb2 a0 a1 a2
  rcases hlg with ⟨rfl, hbst⟩ | ⟨j, r, rfl, hj, hf, hm, he⟩
  · have HD := Lib.hid (show LkD rs a (-1) (-1) from .inl ⟨rfl, rfl, by rw [List.take_length] at hbst; exact hbst⟩)
    clear hbst
    go_wp2
    go_ret2
    exact ⟨HB2.out, .inl ⟨HD.out, rfl⟩⟩
  · have hmem := List.mem_of_getElem? hj
    have HD := Lib.hid (show LkD rs a r.n r.g from .inr ⟨r, hmem, hf, hm, by rw [List.take_length] at he; exact he, rfl, rfl⟩)
    have hq2 := HQ.out.rq.st.below HB2.out hT
    have hr2 := RwO.far HQ.out.rq.row.1 HB2.out (fun g hg => (World.ownsRow.lt HQ.out.rq.row.1 g hg).2)
    obtain ⟨vo, vc, hv, -⟩ := RwO.form hr2
    have c3 := (hq2 3 (by decide)).1
    rw [hv] at c3 hr2
    obtain ⟨g, rfl, hat, -, -, -⟩ := hr2.at hj
    have z4 := hat.c4
    have hjl := (List.getElem?_eq_some_iff.1 hj).1
    have q1 : (j : Int) < (rs.length : Int) := by omega
    have q0 : (0 : Int) ≤ (j : Int) := by omega
    have qj : ¬ (j : Int) < 0 := by omega
    obtain ⟨k, hk, hk32, hk0⟩ := hasB_some (HGr.out r hmem)
    obtain ⟨lo, z, lc, hfl2, hrd, hn8, -⟩ := HQ.out.Ls k hk32
    have c4 := (hq2 (4 + k) (by omega)).1
    rw [hfl2] at c4
    have hz := hrd.1
    rw [hz] at hk0
    obtain ⟨b, off, rfl, hb, -⟩ := hrd.at hk0
    have hlt : mx % z < z := Nat.mod_lt _ hk0
    obtain ⟨hh, hh1, hcell0⟩ := hrd.cell hlt
    have hcell := (HB2.out.cell (p := ⟨b, off + mx % z, none⟩) hb).trans hcell0
    have HH := Lib.hid (show hopN gs r.g mx = hh by unfold hopN; rw [hk, Int.toNat_natCast, hz, hh1]; rfl)
    have q2 : ((mx : Int).tmod (z : Int)) = ((mx % z : Nat) : Int) := rfl
    have q3 : ((mx % z : Nat) : Int) < (z : Int) := by omega
    have q4 : ((z : Int) == 0) = false := ine_beq (by omega)
    have q5 : (k : Int) < 32 := by omega
    have q6 : (0 : Int) ≤ (k : Int) := by omega
    have s1 : w2.cell? ⟨T, 1, none⟩ = some (.int .u64 se) := (HB2.out.cell (p := ⟨T, 1, none⟩) hT).trans HT1.out
    rw [hk] at z4
    have Hk := Lib.hid hk
    have Hmem := Lib.hid hmem
    generalize hm2 : mx % z = m2 at *
    clear hq2 hr2 hv hat hj hm he hf hm2 hrd hfl2 hh1 hcell0 hk hmem
    go_wp2_with fail
    go_quiet (fail)
    obtain ⟨wd, hwd⟩ : ∃ wd, wd = w2.drewN nq := ⟨_, rfl⟩
    have HBd := Lib.hid (show Below w.heap.size w wd by rw [hwd]; exact ⟨HB2.out.os, HB2.out.tape, HB2.out.output, HB2.out.size, HB2.out.block⟩)
    rw [← hwd]
    have s2 : wd.cell? ⟨T, 1, none⟩ = some (.int .u64 se) := by rw [hwd]; exact s1
    have hcd : wd.cell? ⟨b, off + m2, none⟩ = some (.int .i64 hh) := by rw [hwd]; exact hcell
    clear hwd s1 hcell c3 c4 z4
    go_upto_region 8 with fail
    go_cut [11] (fun s11 wx => s11 = .int .u64 m2 ∧ wx = wd)
    case first =>
      go_wp2_with fail
      refine (HM.out wd).mono ?_
      rintro e w3 ⟨rfl, rfl⟩
      go_wp2_with fail
      go_meet
      exact ⟨rfl, rfl⟩
    case rest =>
    obtain ⟨rfl, rfl⟩ := hcut
    have h8 : m2 = 0 ∨ m2 = 1 ∨ m2 = 2 ∨ m2 = 3 ∨ m2 = 4 ∨ m2 = 5 ∨ m2 = 6 ∨ m2 = 7 := by omega
    clear hmxl hfl hx hlen HM HC HG hjl q1 q0 qj q5 q6 q2 q4 s2 hlt
    rcases h8 with rfl | rfl | rfl | rfl | rfl | rfl | rfl | rfl
    · rw [Nat.add_zero] at hcd
      have q7 : (0 : Int) < (z : Int) := by omega
      have q8 : 0 < z := by omega
      clear q3
      go_wp2
      go_ret2
      exact ⟨HBd.out, .inr ⟨r, Hmem.out, HD.out, by rw [HH.out]; rfl⟩⟩
    · have q7 : (1 : Int) < (z : Int) := by omega
      have q8 : 1 < z := by omega
      clear q3
      go_wp2
      go_ret2
      exact ⟨HBd.out, .inr ⟨r, Hmem.out, HD.out, by rw [HH.out]; rfl⟩⟩
    · have q7 : (2 : Int) < (z : Int) := by omega
      have q8 : 2 < z := by omega
      clear q3
      go_wp2
      go_ret2
      exact ⟨HBd.out, .inr ⟨r, Hmem.out, HD.out, by rw [HH.out]; rfl⟩⟩
    · have q7 : (3 : Int) < (z : Int) := by omega
      have q8 : 3 < z := by omega
      clear q3
      go_wp2
      go_ret2
      exact ⟨HBd.out, .inr ⟨r, Hmem.out, HD.out, by rw [HH.out]; rfl⟩⟩
    · have q7 : (4 : Int) < (z : Int) := by omega
      have q8 : 4 < z := by omega
      clear q3
      go_wp2
      go_ret2
      exact ⟨HBd.out, .inr ⟨r, Hmem.out, HD.out, by rw [HH.out]; rfl⟩⟩
    · have q7 : (5 : Int) < (z : Int) := by omega
      have q8 : 5 < z := by omega
      clear q3
      go_wp2
      go_ret2
      exact ⟨HBd.out, .inr ⟨r, Hmem.out, HD.out, by rw [HH.out]; rfl⟩⟩
    · have q7 : (6 : Int) < (z : Int) := by omega
      have q8 : 6 < z := by omega
      clear q3
      go_wp2
      go_ret2
      exact ⟨HBd.out, .inr ⟨r, Hmem.out, HD.out, by rw [HH.out]; rfl⟩⟩
    · have q7 : (7 : Int) < (z : Int) := by omega
      have q8 : 7 < z := by omega
      clear q3
      go_wp2
      go_ret2
      exact ⟨HBd.out, .inr ⟨r, Hmem.out, HD.out, by rw [HH.out]; rfl⟩⟩
set_option maxHeartbeats 1000000 in
theorem rpick_no (T : Nat) (a : Ad) (x : Int) (fl : Nat) (w : World) (hx : x = H.adrE a.1 a.2.1 a.2.2) (h0 : ¬ x = 0) :
    Calls Tryz.prog 31 #[.pointer (some ⟨T, 0, none⟩), adV a, .int .u64 fl] w fun e w' => e = .returned (.tuple #[.int .i64 0, .int .i64 x]) ∧ Below w.heap.size w w' := by
  have HC := Lib.hid (fun (w : World) => show Calls Tryz.prog 70 #[.agg #[.int .i64 a.1, .int .u64 a.2.1, .int .u64 a.2.2]] w fun e w' => e = .returned (.int .i64 (H.adrE a.1 a.2.1 a.2.2)) ∧ Below w.heap.size w w' from raddr_any a w)
  rw [← hx] at HC
  have q : (x == 0) = false := ine_beq h0
  clear hx h0
  go_enter Tryz.func31, Tryz.ntmps31
  go_wp2_with (go_at_call 70; refine (HC.out _).mono ?_; rintro e w1 ⟨rfl, hb1⟩; have HB1 := Lib.hid hb1; clear hb1)
  go_ret2
  exact ⟨rfl, (box1 w _).trans (HB1.out.mono (box1 w _).size)⟩
end Go.Proofs.YtnfkgnjeamnhfaaGreat
namespace Go.Proofs.YtnfkgnjeamnhfaaGreat
open Go.RowKit Go.Sort

theorem rpick_all {N : Nat} {ρ : Nat → Nat} {w : World} {T rS rQ : Nat} {gs : Nat → List Int} {cs rs : List Rt} {lim : Int} {f : Nat → Value} (h : Tq N ρ w T rS rQ 4 3 gs rs lim f) (hlen : rs.length ≤ 1000) (hrel : Rel cs rs) (hgr : Gr gs cs) (a : Ad) (hfit : FitA a) (fl : Nat) (hfl : fl ≤ 18446744073709551615) :
    Calls Tryz.prog 31 #[.pointer (some ⟨T, 0, none⟩), adV a, .int .u64 fl] w fun e w' => e = .returned (.tuple #[.int .i64 (pkH gs cs a fl), .int .i64 (pkE cs a)]) ∧ Below w.heap.size w w' := by
  by_cases h0 : H.adrE a.1 a.2.1 a.2.2 = 0
  · refine (rpick_go h hlen hrel.gdr (fun r hr => hgr r (hrel.perm.symm.subset hr)) a (adr_ok h0 hfit) h0 fl hfl).mono ?_
    unfold pkH pkE
    rw [if_pos h0, if_pos h0]
    rintro e w' ⟨hb, ⟨hk, rfl⟩ | ⟨r, hr, hk, rfl⟩⟩
    · obtain ⟨-, hg⟩ := hrel.look h0 hk
      rw [← hg, if_pos rfl, if_pos rfl]
      exact ⟨rfl, hb⟩
    · obtain ⟨-, hg⟩ := hrel.look h0 hk
      have := (hrel.gdr r hr).g0
      rw [← hg, if_neg (by omega), if_neg (by omega)]
      exact ⟨rfl, hb⟩
  · refine (rpick_no T a _ fl w rfl h0).mono ?_
    unfold pkH pkE
    rw [if_neg h0, if_neg h0]
    exact fun e w' h => h
set_option maxRecDepth 4000 in
set_option maxHeartbeats 4000000 in
theorem asksq_pick (N : Nat) (ρ : Nat → Nat) (w : World) (W T R B rT rR s : Nat) (gs : Nat → List Int) (cs rs : List Rt) (lim : Int) (n : Int) (x : Nat → Value) (a : Ad) (hfit : FitA a) (hx8 : x 8 = .int .i64 a.1) (hx9 : x 9 = .int .u64 a.2.1) (hx10 : x 10 = .int .u64 a.2.2) (fl : Nat) (hfl : fl ≤ 18446744073709551615) (hx11 : x 11 = .int .u64 fl) (h : Value) (m : Bool)
    (hN : N ≤ w.heap.size) (hF : Fr ρ w) (h15 : ∀ k, ρ k ≠ 15) (hW : Wq N ρ w W T R B rT rR gs cs rs lim) (hB : BqX N ρ w B s) (hT : 8 ≤ rT) (hT2 : rT ≤ 11) (hR : 8 ≤ rR) (hR2 : rR ≤ 11) :
    Calls Tryz.prog 13 #[.pointer (some ⟨W, 0, none⟩), .agg (opA 11 n x h m)] w (SPq N ρ w W T R B rT rR lim s) := by
  obtain ⟨ρ0, w0, hw0, hNz, hsz, hE0, hF0, h150, hb0, hW0, hB0, hS0⟩ := boxq 11 n x h m hN hF h15 hW hB hT hT2 hR hR2
  have k0 : w0.cell? ⟨w.heap.size, 0, none⟩ = some (.int .i64 11) := (hS0 0 (by decide)).1
  have k8 : w0.cell? ⟨w.heap.size, 8, none⟩ = some (.int .i64 a.1) := by rw [← hx8]; exact (hS0 8 (by decide)).1
  have k9 : w0.cell? ⟨w.heap.size, 9, none⟩ = some (.int .u64 a.2.1) := by rw [← hx9]; exact (hS0 9 (by decide)).1
  have k10 : w0.cell? ⟨w.heap.size, 10, none⟩ = some (.int .u64 a.2.2) := by rw [← hx10]; exact (hS0 10 (by decide)).1
  have k11 : w0.cell? ⟨w.heap.size, 11, none⟩ = some (.int .u64 fl) := by rw [← hx11]; exact (hS0 11 (by decide)).1
  have c0 : w0.cell? ⟨W, 0, none⟩ = some (.pointer (some ⟨T, 0, none⟩)) := (hW0.st 0 (by decide)).1
  have c1 : w0.cell? ⟨W, 1, none⟩ = some (.pointer (some ⟨R, 0, none⟩)) := (hW0.st 1 (by decide)).1
  have HE := Lib.hid hE0
  have hWl := hW0.st.lt (by decide)
  obtain ⟨f, hf⟩ := hW0.t
  obtain ⟨g, hg⟩ := hW0.r
  have hlen := hW0.rel.len
  have hl2 := hW0.len
  have hrel := hW0.rel
  have hgr := hW0.grp
  have HHo := Lib.hid (show ∀ (w1 : World), Below w0.heap.size w0 w1 → Calls Tryz.prog 30 #[.pointer (some ⟨T, 0, none⟩), .agg #[.int .i64 a.1, .int .u64 a.2.1, .int .u64 a.2.2], .int .u64 fl] w1 fun e w' => e = .returned (.tuple #[.int .i64 (pkH gs cs a fl), .int .i64 (pkE cs a)]) ∧ Below w1.heap.size w1 w' from fun w1 hb => tpick_any (hf.ev (Ev.of_below (R := fun _ => False) ρ0 hb) id id id (ro_of hT hT2)) (by omega) hrel.srt hrel.gd hgr a hfit fl hfl (ro_of hT hT2))
  have HRo := Lib.hid (show ∀ (w1 : World), Below w0.heap.size w0 w1 → Calls Tryz.prog 31 #[.pointer (some ⟨R, 0, none⟩), .agg #[.int .i64 a.1, .int .u64 a.2.1, .int .u64 a.2.2], .int .u64 fl] w1 fun e w' => e = .returned (.tuple #[.int .i64 (pkH gs cs a fl), .int .i64 (pkE cs a)]) ∧ Below w1.heap.size w1 w' from fun w1 hb => rpick_all (hg.ev (Ev.of_below (R := fun _ => False) ρ0 hb) id id id (ro_of hR hR2)) (by omega) hrel hgr a hfit fl hfl)
  have HW := Lib.hid hW0
  have HB := Lib.hid hB0
  have HF := Lib.hid hF0
  have H15 := Lib.hid h150
  obtain ⟨bx, hbx⟩ : ∃ bx, bx = w.heap.size := ⟨_, rfl⟩
  rw [← hbx] at k0 k8 k9 k10 k11 hsz
  generalize pkH gs cs a fl = ph at HHo HRo
  generalize pkE cs a = pe at HHo HRo
  clear hW hB hF h15 hE0 hF0 h150 hb0 hW0 hB0 hS0 hf hg hN hlen hl2 hrel hgr
  simp only [opA, hx8, hx9, hx10, hx11] at hw0
  have Hw0 := Lib.hid hw0
  have Hbx := Lib.hid hbx
  clear hw0 hbx
  unfold opA
  rw [hx8, hx9, hx10, hx11]
  clear hx8 hx9 hx10 hx11
  go_enter Tryz.func13, Tryz.ntmps13
  go_wp2
  rw [← Hw0.out, ← Hbx.out]
  go_cut [20, 21] (fun s5 s6 wx => s5 = .int .i64 ph ∧ s6 = .int .i64 pe ∧ Hid (Below w0.heap.size w0 wx))
  case first =>
    go_region_with (go_at_call 30; refine (HHo.out _ (by exact ⟨rfl, rfl, rfl, Nat.le_refl _, fun _ _ => rfl⟩)).mono ?_; rintro e w1 ⟨rfl, hb1⟩; have Hb1 := Lib.hid (show Below w0.heap.size w0 w1 from ⟨hb1.os, hb1.tape, hb1.output, hb1.size, hb1.block⟩); clear hb1)
    all_goals
      go_wp2_with fail
      go_meet
      exact ⟨rfl, rfl, ⟨Hb1.out.os, Hb1.out.tape, Hb1.out.output, Hb1.out.size, Hb1.out.block⟩⟩
  case rest =>
  obtain ⟨rfl, rfl, Hb1⟩ := hcut
  have k8' := (Hb1.out.cell (p := ⟨bx, 8, none⟩) hsz).trans k8
  have k9' := (Hb1.out.cell (p := ⟨bx, 9, none⟩) hsz).trans k9
  have k10' := (Hb1.out.cell (p := ⟨bx, 10, none⟩) hsz).trans k10
  have k11' := (Hb1.out.cell (p := ⟨bx, 11, none⟩) hsz).trans k11
  have c1' := (Hb1.out.cell (p := ⟨W, 1, none⟩) hWl).trans c1
  clear k0 k8 k9 k10 k11 c0 c1 hsz
  go_wp2_with fail
  generalize wc = w1 at *
  go_cut [22, 23] (fun s7 s8 wx => s7 = .int .i64 ph ∧ s8 = .int .i64 pe ∧ Hid (Below w1.heap.size w1 wx))
  case first =>
    go_region_with (go_at_call 31; refine (HRo.out _ (by exact ⟨Hb1.out.os, Hb1.out.tape, Hb1.out.output, Hb1.out.size, Hb1.out.block⟩)).mono ?_; rintro e w2 ⟨rfl, hb2⟩; have Hb2 := Lib.hid (show Below w1.heap.size w1 w2 from ⟨hb2.os, hb2.tape, hb2.output, hb2.size, hb2.block⟩); clear hb2)
    all_goals
      go_wp2_with fail
      go_meet
      exact ⟨rfl, rfl, ⟨Hb2.out.os, Hb2.out.tape, Hb2.out.output, Hb2.out.size, Hb2.out.block⟩⟩
  case rest =>
  obtain ⟨rfl, rfl, Hb2⟩ := hcut
  generalize wc = w2 at *
  have HN := Lib.hid (fun w => num_any pe w)
  have q3 : (pe == pe) = true := by simp
  have q4 : (ph == ph) = true := by simp
  clear c1' k8' k9' k10' k11'
  have HBf := Lib.hid (Hb1.out.trans (Hb2.out.mono Hb1.out.size))
  go_wp2_with (first | (go_at_call 23; refine (HN.out _).mono ?_; rintro e w4 ⟨rfl, rfl⟩))
  go_ret
  exact ⟨rfl, ρ0, gs, cs, rs, HW.out.ev (Ev.of_below (R := fun _ => False) ρ0 HBf.out) id id id id id id hT hT2 hR hR2, (HB.out.ev (Ev.of_below (R := fun _ => False) ρ0 HBf.out) (fun _ _ => id)).more (Nat.le_succ s), HF.out.grow HBf.out.size, H15.out, (HE.out _).trans (Ev.of_below ρ0 HBf.out)⟩
set_option maxRecDepth 4000 in
set_option maxHeartbeats 4000000 in
theorem stepq_arm11 {w : World} {W : Nat} {i : Int} {x : Nat → Value} {h : Value} {m : Bool} {P : World → Prop}
    (HG : Calls Tryz.prog 13 #[.pointer (some ⟨W, 0, none⟩), .agg (opA 11 i x h m)] (w.alloc (.cells (opA 11 i x h m) 39)) (fun e w' => e = .returned (.bool true) ∧ P w')) :
    Calls Tryz.prog 12 #[.pointer (some ⟨W, 0, none⟩), .agg (opA 11 i x h m)] w (fun e w' => e = .returned (.bool true) ∧ P w') := by
  simp only [opA] at HG
  have HG := Lib.hid HG
  unfold opA
  go_enter Tryz.func12, Tryz.ntmps12
  go_wp2_with fail
  refine HG.out.mono ?_
  rintro e w1 ⟨rfl, hp⟩
  go_wp2
  go_ret
  exact ⟨rfl, hp⟩
theorem stepOk11 : StepOk 11 := by
  intro N ρ w W T R B rT rR s gs cs rs lim k i x m ao n cap hN hF h15 hW hB hs hT hT2 hR hR2 hne ho hρ hk
  by_cases hk9 : k ≤ 10
  · exact stepOk10 N ρ w W T R B rT rR s gs cs rs lim k i x m ao n cap hN hF h15 hW hB hs hT hT2 hR hR2 hne ho hρ hk9
  · obtain rfl : k = 11 := by omega
    obtain ⟨ρ0, w0, hw0, hNz, hsz, hE0, hF0, h150, hb0, hW0, hB0, hS0⟩ := boxq 11 i x (.slice ao n cap) m hN hF h15 hW hB hT hT2 hR hR2
    have hbox : ∀ e w', SPq N ρ0 w0 W T R B rT rR lim s e w' → SPq N ρ w W T R B rT rR lim s e w' := fun e w' h => h.box hE0
    obtain ⟨a, hfit, x8, x9, x10⟩ := ho.adr
    obtain ⟨fl, hfl, x11⟩ := ho.flow
    have HG := asksq_pick N ρ0 w0 W T R B rT rR s gs cs rs lim i x a hfit x8 x9 x10 fl hfl x11 (.slice ao n cap) m hNz hF0 h150 hW0 hB0 hT hT2 hR hR2
    rw [hw0] at HG hbox
    exact (stepq_arm11 HG).mono hbox
/-- Picks: the law. -/
theorem picks_law (N : Nat) (ρ : Nat → Nat) (limit seed own : Int) (so : Option Addr) (z scap : Nat) (w : World) (hN : N ≤ w.heap.size) (hF : Fr ρ w) (h15 : ∀ k, ρ k ≠ 15) (hρ : ∀ b, b < N → ρ b = 0) (hS : Scriptq N w so z) (hz : z ≤ 837728385445) (hsn : Rg seed own) :
    Calls Tryz.prog 7 #[.int .i64 limit, .int .u64 seed, .int .u32 own, .slice so z scap] w fun e w' => e = .returned (.bool true) ∧ ∃ ρ', Ev (fun q => 1 ≤ q) ρ w ρ' w' := by
  have H : Calls Tryz.prog 10 #[.int .i64 limit, .int .u64 seed, .int .u32 own, .slice so z scap, .int .i64 11] w fun e w' => e = .returned (.bool true) ∧ ∃ ρ', Ev (fun q => 1 ≤ q) ρ w ρ' w' := by
    by_cases h : limit < 1 ∨ 256 < limit
    · exact playsq_no ρ limit seed own so z scap w h 11
    · exact playsq_any N ρ limit seed own so z scap w hN hF h15 hρ hS hz hsn (by omega) (by omega) 11 (by decide) stepOk11 (by decide)
  have HH := Lib.hid H
  clear H hN hF h15 hρ hS hz hsn
  go_enter Tryz.func7, Tryz.ntmps7
  go_wp2_with (go_at_call 10; refine HH.out.mono ?_; rintro e w1 ⟨rfl, hp⟩; have H2 := Lib.hid hp; clear hp)
  go_ret
  exact ⟨rfl, H2.out⟩
end Go.Proofs.YtnfkgnjeamnhfaaGreat
