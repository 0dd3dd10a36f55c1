import Derived.Test.YtnfkgnjeamnhfaaGreatWk
import Derived.Test.YtnfkgnjeamnhfaaGreatWm
namespace Go.Proofs.YtnfkgnjeamnhfaaGreat
open Go.RowKit

/-- The steps of kinds up to K are right. -/
def StepOk (K : Int) : Prop := ∀ (N : Nat) (ρ : Nat → Nat) (w : World) (W T R B rT rR s : Nat) (gs : Nat → List Int) (cs rs : List Rt) (lim : Int) (k i : Int) (x : Nat → Value) (m : Bool) (ao : Option Addr) (n cap : Nat), N ≤ w.heap.size → Fr ρ w → (∀ k, ρ k ≠ 15) → Wq N ρ w W T R B rT rR gs cs rs lim → BqX N ρ w B s → s ≤ 1000000000000 → 8 ≤ rT → rT ≤ 11 → 8 ≤ rR → rR ≤ 11 → rT ≠ rR → Opq N w x ao n → (∀ b, b < N → ρ b = 0) → k ≤ K →
    Calls Tryz.prog 12 #[.pointer (some ⟨W, 0, none⟩), .agg (opA k i x (.slice ao n cap) m)] w (SPq N ρ w W T R B rT rR lim s)
theorem stepOk9 : StepOk 9 := stepq_any
/-- A step of a script, as it lies in memory. -/
def OpAtq (N : Nat) (w : World) (b off : Nat) (k i : Int) (x : Nat → Value) (ao : Option Addr) (n cap : Nat) (m : Bool) : Prop :=
  b < N ∧ (∀ j, j < 16 → w.cell? ⟨b, off + j, none⟩ = some ((opA k i x (.slice ao n cap) m).getD j undef)) ∧ Opq N w x ao n
def Scriptq (N : Nat) (w : World) (so : Option Addr) (z : Nat) : Prop := ∀ q, q < z → ∃ b off k i x ao n cap m, so = some ⟨b, off, none⟩ ∧ OpAtq N w b (off + q * 16) k i x ao n cap m
theorem OpAtq.ev {N : Nat} {ρ ρ' : Nat → Nat} {w w' : World} {b off : Nat} {k i : Int} {x : Nat → Value} {ao : Option Addr} {n cap : Nat} {m : Bool} (h : OpAtq N w b off k i x ao n cap m) (hN : N ≤ w.heap.size) (he : Ev (fun q => 1 ≤ q) ρ w ρ' w') (hρ : ∀ b, b < N → ρ b = 0) : OpAtq N w' b off k i x ao n cap m :=
  ⟨h.1, fun j hj => (evc he (off + j) (Nat.lt_of_lt_of_le h.1 hN) (by rw [hρ b h.1]; decide) (by rw [hρ b h.1]; decide)).trans (h.2.1 j hj), h.2.2.ev he hρ (by decide)⟩
theorem Twoq.more {N : Nat} {ρ : Nat → Nat} {w : World} {W V B s s' : Nat} {l l' : Int} {w' : World} (h : Twoq N ρ w W V B l l' s w') (hs : s ≤ s') : Twoq N ρ w W V B l l' s' w' := by
  obtain ⟨T, R, T', R', ρ', gs, gs', cs, cs', rs, rs', h1, h2, h3, h4⟩ := h
  exact ⟨T, R, T', R', ρ', gs, gs', cs, cs', rs, rs', h1, h2, h3.more hs, h4⟩
theorem Twoq.below {N : Nat} {ρ : Nat → Nat} {w : World} {W V B s : Nat} {l l' : Int} {w1 w2 : World} (h : Twoq N ρ w W V B l l' s w1) (hb : Below w1.heap.size w1 w2) : Twoq N ρ w W V B l l' s w2 := by
  obtain ⟨T, R, T', R', ρ', gs, gs', cs, cs', rs, rs', h1, h2, h3, h4, h5, h6⟩ := h
  exact ⟨T, R, T', R', ρ', gs, gs', cs, cs', rs, rs', h1.ev (Ev.of_below (R := fun _ => False) ρ' hb) id id id id id id (by decide) (by decide) (by decide) (by decide), h2.ev (Ev.of_below (R := fun _ => False) ρ' hb) id id id id id id (by decide) (by decide) (by decide) (by decide), h3.ev (Ev.of_below (R := fun _ => False) ρ' hb) (fun _ _ => id), h4.grow hb.size, h5, h6.trans (Ev.of_below ρ' hb)⟩
theorem Twoq.one {N : Nat} {ρ ρ1 : Nat → Nat} {w w1 : World} {W V B s s' T R T' R' : Nat} {l l' : Int} {gs' : Nat → List Int} {cs' rs' : List Rt} {w2 : World} (hv : Wq N ρ1 w1 V T' R' B 10 11 gs' cs' rs' l') (he : Ev (fun q => 1 ≤ q) ρ w ρ1 w1) (h : Thenq N ρ1 w1 W T R B 8 9 l s' w2) (_ : s = s') : Twoq N ρ w W V B l l' s w2 := by
  subst_vars
  obtain ⟨ρ2, gs2, cs2, rs2, a1, a2, a3, a4, a5⟩ := h
  exact ⟨T, R, T', R', ρ2, gs2, gs', cs2, cs', rs2, rs', a1, hv.ev a5 (by unfold stR; omega) (by unfold stR; omega) (by unfold stR; omega) (by unfold stR; omega) (by unfold stR; omega) (by unfold stR; omega) (by decide) (by decide) (by decide) (by decide), a2, a3, a4, he.trans (a5.mono fun q h => by unfold stR at h; omega)⟩
theorem Twoq.other {N : Nat} {ρ ρ1 : Nat → Nat} {w w1 : World} {W V B s s' T R T' R' : Nat} {l l' : Int} {gs : Nat → List Int} {cs rs : List Rt} {w2 : World} (hv : Wq N ρ1 w1 W T R B 8 9 gs cs rs l) (he : Ev (fun q => 1 ≤ q) ρ w ρ1 w1) (h : Thenq N ρ1 w1 V T' R' B 10 11 l' s' w2) (_ : s = s') : Twoq N ρ w W V B l l' s w2 := by
  subst_vars
  obtain ⟨ρ2, gs2, cs2, rs2, a1, a2, a3, a4, a5⟩ := h
  exact ⟨T, R, T', R', ρ2, gs, gs2, cs, cs2, rs, rs2, hv.ev a5 (by unfold stR; omega) (by unfold stR; omega) (by unfold stR; omega) (by unfold stR; omega) (by unfold stR; omega) (by unfold stR; omega) (by decide) (by decide) (by decide) (by decide), a1, a2, a3, a4, he.trans (a5.mono fun q h => by unfold stR at h; omega)⟩
theorem Thenq.step {N : Nat} {ρ : Nat → Nat} {w : World} {W T R B rT rR s : Nat} {lim : Int} {e : Ending} {w2 : World} (h : SPq N ρ w W T R B rT rR lim s e w2) : Thenq N ρ w W T R B rT rR lim (s + 1) w2 := Thenq.of (Ev.refl _ _ _) h
/-- The step on either table, and what is looked up behind it. -/
theorem Twoq.step {N : Nat} {ρ : Nat → Nat} {w : World} {W V B s : Nat} {l l' : Int} {w1 : World} (h : Twoq N ρ w W V B l l' s w1) (hN : N ≤ w.heap.size) (hs : s ≤ 1000000000000) (hρ : ∀ b, b < N → ρ b = 0) {b off : Nat} {k i : Int} {x : Nat → Value} {ao : Option Addr} {n cap : Nat} {m : Bool} (ho : OpAtq N w b off k i x ao n cap m) {K : Int} (hst : StepOk K) (hk : k ≤ K) :
    Calls Tryz.prog 12 #[.pointer (some ⟨W, 0, none⟩), .agg (opA k i x (.slice ao n cap) m)] w1 (fun e w2 => e = .returned (.bool true) ∧ Twoq N ρ w W V B l l' (s + 1) w2) ∧
    Calls Tryz.prog 12 #[.pointer (some ⟨V, 0, none⟩), .agg (opA k i x (.slice ao n cap) m)] w1 (fun e w2 => e = .returned (.bool true) ∧ Twoq N ρ w W V B l l' (s + 1) w2) := by
  obtain ⟨T, R, T', R', ρ1, gs, gs', cs, cs', rs, rs', h1, h2, h3, h4, h5, h6⟩ := h
  have ho1 := ho.ev hN h6 hρ
  have hρ1 : ∀ b, b < N → ρ1 b = 0 := fun b hb => by rw [h6.role b (by omega) (by rw [hρ b hb]; decide), hρ b hb]
  have hN1 := Nat.le_trans hN h6.size
  exact ⟨(hst N ρ1 w1 W T R B 8 9 s gs cs rs l k i x m ao n cap hN1 h4 h5 h1 h3 hs (by decide) (by decide) (by decide) (by decide) (by decide) ho1.2.2 hρ1 hk).mono fun e w2 hp => ⟨hp.1, Twoq.one h2 h6 (Thenq.step hp) rfl⟩,
    (hst N ρ1 w1 V T' R' B 10 11 s gs' cs' rs' l' k i x m ao n cap hN1 h4 h5 h2 h3 hs (by decide) (by decide) (by decide) (by decide) (by decide) ho1.2.2 hρ1 hk).mono fun e w2 hp => ⟨hp.1, Twoq.other h1 h6 (Thenq.step hp) rfl⟩⟩
theorem Twoq.looks {N : Nat} {ρ : Nat → Nat} {w : World} {W V B s : Nat} {l l' : Int} {w1 : World} (h : Twoq N ρ w W V B l l' s w1) (hs : s ≤ 1000000000000) : Calls Tryz.prog 14 #[.pointer (some ⟨B, 0, none⟩)] w1 fun e w2 => e = .returned (.bool true) ∧ Twoq N ρ w W V B l l' s w2 := by
  obtain ⟨T, R, T', R', ρ', gs, gs', cs, cs', rs, rs', h1, h2, h3, h4⟩ := id h
  refine (h3.looks hs).mono ?_
  rintro e w2 ⟨rfl, hb⟩
  exact ⟨rfl, h.below hb⟩
theorem Twoq.ends {N : Nat} {ρ : Nat → Nat} {w : World} {W V B s : Nat} {l l' : Int} {w1 : World} (h : Twoq N ρ w W V B l l' s w1) (hN : N ≤ w.heap.size) (hs : s + 600 ≤ 1000000000000) (most : Int) (hmost : 7 ≤ most) :
    Calls Tryz.prog 15 #[.pointer (some ⟨W, 0, none⟩), .int .i64 most] w1 (fun e w2 => e = .returned (.bool true) ∧ Twoq N ρ w W V B l l' (s + 600) w2) ∧
    Calls Tryz.prog 15 #[.pointer (some ⟨V, 0, none⟩), .int .i64 most] w1 (fun e w2 => e = .returned (.bool true) ∧ Twoq N ρ w W V B l l' (s + 600) w2) := by
  obtain ⟨T, R, T', R', ρ1, gs, gs', cs, cs', rs, rs', h1, h2, h3, h4, h5, h6⟩ := h
  have hN1 := Nat.le_trans hN h6.size
  exact ⟨(endsq_any N ρ1 w1 W T R B 8 9 s gs cs rs l hN1 h4 h5 h1 h3 hs (by decide) (by decide) (by decide) (by decide) most hmost).mono fun e w2 hp => ⟨hp.1, Twoq.one h2 h6 hp.2 rfl⟩,
    (endsq_any N ρ1 w1 V T' R' B 10 11 s gs' cs' rs' l' hN1 h4 h5 h2 h3 hs (by decide) (by decide) (by decide) (by decide) most hmost).mono fun e w2 hp => ⟨hp.1, Twoq.other h1 h6 hp.2 rfl⟩⟩
theorem Twoq.cell {N : Nat} {ρ : Nat → Nat} {w : World} {W V B s : Nat} {l l' : Int} {w1 : World} (h : Twoq N ρ w W V B l l' s w1) : w1.cell? ⟨W, 2, none⟩ = some (.pointer (some ⟨B, 0, none⟩)) := by
  obtain ⟨T, R, T', R', ρ1, gs, gs', cs, cs', rs, rs', h1, _⟩ := h
  exact (h1.st 2 (by decide)).1
theorem Twoq.evs {N : Nat} {ρ : Nat → Nat} {w : World} {W V B s : Nat} {l l' : Int} {w1 : World} (h : Twoq N ρ w W V B l l' s w1) : ∃ ρ', Ev (fun q => 1 ≤ q) ρ w ρ' w1 := by
  obtain ⟨T, R, T', R', ρ1, gs, gs', cs, cs', rs, rs', _, _, _, _, _, h6⟩ := h
  exact ⟨ρ1, h6⟩
end Go.Proofs.YtnfkgnjeamnhfaaGreat
namespace Go.Proofs.YtnfkgnjeamnhfaaGreat
open Go.RowKit

set_option maxRecDepth 4000 in
set_option maxHeartbeats 2000000 in
theorem playsq_any (N : Nat) (ρ : Nat → Nat) (limit seed own : Int) (so : Option Addr) (z scap : Nat) (w : World) (hN : N ≤ w.heap.size) (hF : Fr ρ w) (h15 : ∀ k, ρ k ≠ 15) (hρ : ∀ b, b < N → ρ b = 0) (hS : Scriptq N w so z) (hz : z ≤ 837728385445) (hsn : Rg seed own) (h1 : ¬ limit < 1) (h2 : ¬ 256 < limit) (most : Int) (hmost : 7 ≤ most) {K : Int} (hst : StepOk K) (hm9 : most ≤ K) :
    Calls Tryz.prog 10 #[.int .i64 limit, .int .u64 seed, .int .u32 own, .slice so z scap, .int .i64 most] w fun e w' => e = .returned (.bool true) ∧ ∃ ρ', Ev (fun q => 1 ≤ q) ρ w ρ' w' := by
  have H1 := Lib.hid (bothq_any N ρ limit seed own w hsn hF h15 h1 h2)
  have HN := Lib.hid hN
  have HP := Lib.hid hρ
  have HS := Lib.hid hS
  have HST := Lib.hid hst
  clear hst
  clear hN hF h15 hρ hS h1 h2 hsn
  go_enter Tryz.func10, Tryz.ntmps10
  go_wp2_with (go_at_call 11; refine H1.out.mono ?_; rintro e w1 ⟨W, V, B, rfl, hp⟩; have H2 := Lib.hid hp; clear hp)
  go_loopw [14] (fun i wr => ∃ k : Nat, k ≤ z ∧ i = .int .i64 k ∧ Hid (Twoq N ρ w W V B limit (257 - limit) k wr)) (fun i _ => z - (intOf i).toNat)
  case atStart => exact ⟨0, Nat.zero_le _, rfl, H2⟩
  case round =>
    obtain ⟨k, hk, rfl, HK⟩ := hrel
    by_cases hlt : k < z
    · obtain ⟨b, off, kk, ii, x, ao, n, cap, m, rfl, ho⟩ := HS.out k hlt
      obtain ⟨ρ1, h6⟩ := HK.out.evs
      have ho1 := ho.ev HN.out h6 HP.out
      have c0 : wr.cell? ⟨b, off + k * 16, none⟩ = some (.int .i64 kk) := ho1.2.1 0 (by decide)
      have c1 : wr.cell? ⟨b, off + k * 16 + 1, none⟩ = some (.int .i64 ii) := ho1.2.1 1 (by decide)
      have c2 : wr.cell? ⟨b, off + k * 16 + 2, none⟩ = some (x 2) := ho1.2.1 2 (by decide)
      have c3 : wr.cell? ⟨b, off + k * 16 + 3, none⟩ = some (x 3) := ho1.2.1 3 (by decide)
      have c4 : wr.cell? ⟨b, off + k * 16 + 4, none⟩ = some (x 4) := ho1.2.1 4 (by decide)
      have c5 : wr.cell? ⟨b, off + k * 16 + 5, none⟩ = some (x 5) := ho1.2.1 5 (by decide)
      have c6 : wr.cell? ⟨b, off + k * 16 + 6, none⟩ = some (x 6) := ho1.2.1 6 (by decide)
      have c7 : wr.cell? ⟨b, off + k * 16 + 7, none⟩ = some (x 7) := ho1.2.1 7 (by decide)
      have c8 : wr.cell? ⟨b, off + k * 16 + 8, none⟩ = some (x 8) := ho1.2.1 8 (by decide)
      have c9 : wr.cell? ⟨b, off + k * 16 + 9, none⟩ = some (x 9) := ho1.2.1 9 (by decide)
      have c10 : wr.cell? ⟨b, off + k * 16 + 10, none⟩ = some (x 10) := ho1.2.1 10 (by decide)
      have c11 : wr.cell? ⟨b, off + k * 16 + 11, none⟩ = some (x 11) := ho1.2.1 11 (by decide)
      have c12 : wr.cell? ⟨b, off + k * 16 + 12, none⟩ = some (.slice ao n cap) := ho1.2.1 12 (by decide)
      have c13 : wr.cell? ⟨b, off + k * 16 + 13, none⟩ = some (x 13) := ho1.2.1 13 (by decide)
      have c14 : wr.cell? ⟨b, off + k * 16 + 14, none⟩ = some (x 14) := ho1.2.1 14 (by decide)
      have c15 : wr.cell? ⟨b, off + k * 16 + 15, none⟩ = some (.bool m) := ho1.2.1 15 (by decide)
      have q1 : (k : Int) < (z : Int) := by omega
      have q0 : (0 : Int) ≤ (k : Int) := by omega
      have HO := Lib.hid ho
      clear ho ho1 h6
      by_cases hkk : kk > most
      · go_wp2
        exact ⟨⟨k + 1, by omega, by go_num, HK.out.more (Nat.le_succ _)⟩, by simp [intOf]; omega⟩
      · have HT := Lib.hid (HK.out.step HN.out (by omega) HP.out HO.out HST.out (by omega))
        have HL := Lib.hid fun (w2 : World) (h : Twoq N ρ w W V B limit (257 - limit) (k + 1) w2) => h.looks (by omega)
        simp only [opA] at HT
        clear HO HK
        cases m
        · go_wp2_with fail
          refine HT.out.1.mono ?_
          rintro e w2 ⟨rfl, hp⟩
          have j0 := hp.cell
          have H3 := Lib.hid (HL.out _ hp)
          clear hp HL HT
          go_wp2_with (go_at_call 14; refine H3.out.mono ?_; rintro e w3 ⟨rfl, hp⟩; have HP3 := Lib.hid hp; clear hp)
          go_roundw
          case rel => exact ⟨k + 1, by omega, by go_num, HP3⟩
          case measure => simp [intOf]; omega
        · go_wp2_with fail
          refine HT.out.2.mono ?_
          rintro e w2 ⟨rfl, hp⟩
          have j0 := hp.cell
          have H3 := Lib.hid (HL.out _ hp)
          clear hp HL HT
          go_wp2_with (go_at_call 14; refine H3.out.mono ?_; rintro e w3 ⟨rfl, hp⟩; have HP3 := Lib.hid hp; clear hp)
          go_roundw
          case rel => exact ⟨k + 1, by omega, by go_num, HP3⟩
          case measure => simp [intOf]; omega
    · obtain rfl : k = z := by omega
      have HE := Lib.hid (HK.out.ends HN.out (by omega) most hmost).1
      have HL := Lib.hid fun (w2 : World) (h : Twoq N ρ w W V B limit (257 - limit) (k + 600) w2) => (h.ends HN.out (by omega) most hmost).2
      clear HK
      go_wp2_with fail
      refine HE.out.mono ?_
      rintro e w2 ⟨rfl, hp⟩
      have H3 := Lib.hid (HL.out _ hp)
      clear hp HL HE
      go_wp2_with fail
      refine H3.out.mono ?_
      rintro e w3 ⟨rfl, hp⟩
      have HP3 := Lib.hid hp
      clear hp
      go_wp2
      go_ret
      exact ⟨rfl, HP3.out.evs⟩
set_option maxRecDepth 4000 in
set_option maxHeartbeats 2000000 in
theorem playsq_no (ρ : Nat → Nat) (limit seed own : Int) (so : Option Addr) (z scap : Nat) (w : World) (h1 : limit < 1 ∨ 256 < limit) (most : Int) :
    Calls Tryz.prog 10 #[.int .i64 limit, .int .u64 seed, .int .u32 own, .slice so z scap, .int .i64 most] w fun e w' => e = .returned (.bool true) ∧ ∃ ρ', Ev (fun q => 1 ≤ q) ρ w ρ' w' := by
  have H1 := Lib.hid (bothq_no limit seed own w h1)
  clear h1
  go_enter Tryz.func10, Tryz.ntmps10
  go_wp2_with (go_at_call 11; refine H1.out.mono ?_; rintro e w1 ⟨rfl, hp⟩; have H2 := Lib.hid hp; clear hp)
  go_ret
  exact ⟨rfl, ρ, Ev.of_below ρ H2.out⟩
/-- Routes: the law. -/
theorem routes_law (N : Nat) (ρ : Nat → Nat) (limit seed own : Int) (so : Option Addr) (z scap : Nat) (w : World) (hN : N ≤ w.heap.size) (hF : Fr ρ w) (h15 : ∀ k, ρ k ≠ 15) (hρ : ∀ b, b < N → ρ b = 0) (hS : Scriptq N w so z) (hz : z ≤ 837728385445) (hsn : Rg seed own) :
    Calls Tryz.prog 4 #[.int .i64 limit, .int .u64 seed, .int .u32 own, .slice so z scap] w fun e w' => e = .returned (.bool true) ∧ ∃ ρ', Ev (fun q => 1 ≤ q) ρ w ρ' w' := by
  have H : Calls Tryz.prog 10 #[.int .i64 limit, .int .u64 seed, .int .u32 own, .slice so z scap, .int .i64 7] w fun e w' => e = .returned (.bool true) ∧ ∃ ρ', Ev (fun q => 1 ≤ q) ρ w ρ' w' := by
    by_cases h : limit < 1 ∨ 256 < limit
    · exact playsq_no ρ limit seed own so z scap w h 7
    · exact playsq_any N ρ limit seed own so z scap w hN hF h15 hρ hS hz hsn (by omega) (by omega) 7 (by decide) stepOk9 (by decide)
  have HH := Lib.hid H
  clear H hN hF h15 hρ hS hz hsn
  go_enter Tryz.func4, Tryz.ntmps4
  go_wp2_with (go_at_call 10; refine HH.out.mono ?_; rintro e w1 ⟨rfl, hp⟩; have H2 := Lib.hid hp; clear hp)
  go_ret
  exact ⟨rfl, H2.out⟩
/-- Trees: the law. -/
theorem trees_law (N : Nat) (ρ : Nat → Nat) (limit seed own : Int) (so : Option Addr) (z scap : Nat) (w : World) (hN : N ≤ w.heap.size) (hF : Fr ρ w) (h15 : ∀ k, ρ k ≠ 15) (hρ : ∀ b, b < N → ρ b = 0) (hS : Scriptq N w so z) (hz : z ≤ 837728385445) (hsn : Rg seed own) :
    Calls Tryz.prog 5 #[.int .i64 limit, .int .u64 seed, .int .u32 own, .slice so z scap] w fun e w' => e = .returned (.bool true) ∧ ∃ ρ', Ev (fun q => 1 ≤ q) ρ w ρ' w' := by
  have H : Calls Tryz.prog 10 #[.int .i64 limit, .int .u64 seed, .int .u32 own, .slice so z scap, .int .i64 9] w fun e w' => e = .returned (.bool true) ∧ ∃ ρ', Ev (fun q => 1 ≤ q) ρ w ρ' w' := by
    by_cases h : limit < 1 ∨ 256 < limit
    · exact playsq_no ρ limit seed own so z scap w h 9
    · exact playsq_any N ρ limit seed own so z scap w hN hF h15 hρ hS hz hsn (by omega) (by omega) 9 (by decide) stepOk9 (by decide)
  have HH := Lib.hid H
  clear H hN hF h15 hρ hS hz hsn
  go_enter Tryz.func5, Tryz.ntmps5
  go_wp2_with (go_at_call 10; refine HH.out.mono ?_; rintro e w1 ⟨rfl, hp⟩; have H2 := Lib.hid hp; clear hp)
  go_ret
  exact ⟨rfl, H2.out⟩
end Go.Proofs.YtnfkgnjeamnhfaaGreat
