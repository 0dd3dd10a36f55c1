import Derived.Test.YtnfkgnjeamnhfaaGreatWp
import Derived.Test.YtnfkgnjeamnhfaaGreatWq
import Derived.Laws.Closers25b
namespace Go.Proofs.YtnfkgnjeamnhfaaGreat
open Go.RowKit

/-- The tables and the book, s steps on. -/
def Thenq (N : Nat) (ρ : Nat → Nat) (w : World) (W T R B rT rR : Nat) (lim : Int) (s : Nat) (w' : World) : Prop :=
  ∃ ρ' gs' cs' rs', Wq N ρ' w' W T R B rT rR gs' cs' rs' lim ∧ BqX N ρ' w' B s ∧ Fr ρ' w' ∧ (∀ k, ρ' k ≠ 15) ∧ Ev (stR rT rR) ρ w ρ' w'
theorem Thenq.below {N : Nat} {ρ : Nat → Nat} {w : World} {W T R B rT rR s : Nat} {lim : Int} {w1 w2 : World} (h : Thenq N ρ w W T R B rT rR lim s w1) (hb : Below w1.heap.size w1 w2) (hT : 8 ≤ rT) (hT2 : rT ≤ 11) (hR : 8 ≤ rR) (hR2 : rR ≤ 11) : Thenq N ρ w W T R B rT rR lim s w2 := by
  obtain ⟨ρ', gs', cs', rs', h1, h2, h3, h4, h5⟩ := h
  exact ⟨ρ', gs', cs', rs', h1.ev (Ev.of_below (R := fun _ => False) ρ' hb) id id id id id id hT hT2 hR hR2, h2.ev (Ev.of_below (R := fun _ => False) ρ' hb) (fun _ _ => id), h3.grow hb.size, h4, h5.trans (Ev.of_below ρ' hb)⟩
theorem Thenq.of {N : Nat} {ρ ρ1 : Nat → Nat} {w w1 : World} {W T R B rT rR s : Nat} {lim : Int} {e : Ending} {w2 : World} (he : Ev (stR rT rR) ρ w ρ1 w1) (h : SPq N ρ1 w1 W T R B rT rR lim s e w2) : Thenq N ρ w W T R B rT rR lim (s + 1) w2 := by
  obtain ⟨-, ρ2, gs2, cs2, rs2, g1, g2, g3, g4, g5⟩ := h
  exact ⟨ρ2, gs2, cs2, rs2, g1, g2, g3, g4, he.trans g5⟩
theorem Thenq.more {N : Nat} {ρ : Nat → Nat} {w : World} {W T R B rT rR s s' : Nat} {lim : Int} {w' : World} (h : Thenq N ρ w W T R B rT rR lim s w') (hs : s ≤ s') : Thenq N ρ w W T R B rT rR lim s' w' := by
  obtain ⟨ρ', gs', cs', rs', h1, h2, h3⟩ := h
  exact ⟨ρ', gs', cs', rs', h1, h2.more hs, h3⟩
/-- The tables and the book, s steps on, and a list of lengths that nobody turns. -/
def ThenL (N : Nat) (ρ : Nat → Nat) (w : World) (W T R B rT rR : Nat) (lim : Int) (ao : Option Addr) (z : Nat) (L : List Int) (s : Nat) (w' : World) : Prop :=
  ∃ ρ' gs' cs' rs', Wq N ρ' w' W T R B rT rR gs' cs' rs' lim ∧ BqX N ρ' w' B s ∧ Fr ρ' w' ∧ (∀ k, ρ' k ≠ 15) ∧ Ev (stR rT rR) ρ w ρ' w' ∧ Rd w' ao z L ∧ (∀ g off, ao = some ⟨g, off, none⟩ → 0 < z → ρ' g = 13)
theorem ThenL.then {N : Nat} {ρ : Nat → Nat} {w : World} {W T R B rT rR s : Nat} {lim : Int} {ao : Option Addr} {z : Nat} {L : List Int} {w' : World} (h : ThenL N ρ w W T R B rT rR lim ao z L s w') : Thenq N ρ w W T R B rT rR lim s w' := by
  obtain ⟨ρ', gs', cs', rs', h1, h2, h3, h4, h5, -⟩ := h
  exact ⟨ρ', gs', cs', rs', h1, h2, h3, h4, h5⟩
theorem ThenL.of {N : Nat} {ρ ρ1 : Nat → Nat} {w w1 : World} {W T R B rT rR s : Nat} {lim : Int} {ao : Option Addr} {z : Nat} {L : List Int} {e : Ending} {w2 : World} (he : Ev (stR rT rR) ρ w ρ1 w1) (hr : Rd w1 ao z L) (hro : ∀ g off, ao = some ⟨g, off, none⟩ → 0 < z → ρ1 g = 13) (hT : 8 ≤ rT) (hT2 : rT ≤ 11) (hR : 8 ≤ rR) (hR2 : rR ≤ 11) (h : SPq N ρ1 w1 W T R B rT rR lim s e w2) : ThenL N ρ w W T R B rT rR lim ao z L (s + 1) w2 := by
  obtain ⟨-, ρ2, gs2, cs2, rs2, g1, g2, g3, g4, g5⟩ := h
  have hno : ¬ stR rT rR 13 := by unfold stR; omega
  refine ⟨ρ2, gs2, cs2, rs2, g1, g2, g3, g4, he.trans g5, ?_, ?_⟩
  · rcases Nat.eq_zero_or_pos z with hz | hz
    · exact ⟨hr.1, .inl hz⟩
    · exact hr.same (fun b off hb hlt => g5.block b hlt (by rw [hro b off hb hz]; decide) (by rw [hro b off hb hz]; exact hno))
  · intro g off hb hz
    have hlt : g < w1.heap.size := by
      obtain ⟨b', off', e', hl', -⟩ := hr.at hz
      rw [hb] at e'
      simp only [Option.some.injEq, Addr.mk.injEq, and_true] at e'
      rw [e'.1]; exact hl'
    rw [g5.role g hlt (by rw [hro g off hb hz]; decide), hro g off hb hz]
/-- A list that came out just now gets a role. -/
theorem Thenq.list {N : Nat} {ρ : Nat → Nat} {w : World} {W T R B rT rR s : Nat} {lim : Int} {ao : Option Addr} {z cap : Nat} {L : List Int} {w1 w2 : World} (h : Thenq N ρ w W T R B rT rR lim s w1) (hb : Below w1.heap.size w1 w2) (hz : z = L.length) (hr : w2.ownsRow w1.heap.size 3 1 (.slice ao z cap) z (ints L)) (hT : 8 ≤ rT) (hT2 : rT ≤ 11) (hR : 8 ≤ rR) (hR2 : rR ≤ 11) : ThenL N ρ w W T R B rT rR lim ao z L s w2 := by
  obtain ⟨ρ', gs', cs', rs', h1, h2, h3, h4, h5⟩ := h
  have hrd := rd_row hr hz
  have hF2 : Fr ρ' w2 := h3.grow hb.size
  have base : Wq N ρ' w2 W T R B rT rR gs' cs' rs' lim ∧ BqX N ρ' w2 B s ∧ Ev (stR rT rR) ρ w ρ' w2 := ⟨h1.ev (Ev.of_below (R := fun _ => False) ρ' hb) id id id id id id hT hT2 hR hR2, h2.ev (Ev.of_below (R := fun _ => False) ρ' hb) (fun _ _ => id), h5.trans (Ev.of_below ρ' hb)⟩
  rcases Nat.eq_zero_or_pos z with hz0 | hz0
  · exact ⟨ρ', gs', cs', rs', base.1, base.2.1, hF2, h4, base.2.2, hrd, fun _ _ _ hp => by omega⟩
  · obtain ⟨g, cap', e, hN, hlt⟩ := World.ownsRow.form hr hz0
    simp only [Value.slice.injEq] at e
    obtain ⟨rfl, -, rfl⟩ := e
    have h14 : ρ' g = 14 := h3 g hN
    have hE : ∀ R, Ev R ρ' w2 (rl ρ' g 13) w2 := fun R => Ev.rl w2 13 (.inl h14)
    refine ⟨rl ρ' g 13, gs', cs', rs', base.1.ev (hE (fun _ => False)) id id id id id id hT hT2 hR hR2, base.2.1.ev (hE (fun _ => False)) (fun _ _ => id), hF2.rl hlt 13, fun k => ?_, base.2.2.trans (hE _), hrd, fun g' off' e' _ => ?_⟩
    · unfold rl; split
      · decide
      · exact h4 k
    · simp only [Option.some.injEq, Addr.mk.injEq, and_true] at e'
      rw [← e'.1]; exact rl_same _ _ _
def zxq : Nat → Value
  | 4 => .int .u64 0
  | 5 => .int .u64 0
  | 9 => .int .u64 0
  | 10 => .int .u64 0
  | 11 => .int .u64 0
  | 13 => nilS
  | 14 => .string ⟨#[]⟩
  | _ => .int .i64 0
set_option maxRecDepth 4000 in
set_option maxHeartbeats 4000000 in
theorem endsq_any (N : Nat) (ρ : Nat → Nat) (w : World) (W T R B rT rR s : Nat) (gs : Nat → List Int) (cs rs : List Rt) (lim : Int)
    (hN : N ≤ w.heap.size) (hF : Fr ρ w) (h15 : ∀ k, ρ k ≠ 15) (hW : Wq N ρ w W T R B rT rR gs cs rs lim) (hB : BqX N ρ w B s) (hs : s + 600 ≤ 1000000000000) (hT : 8 ≤ rT) (hT2 : rT ≤ 11) (hR : 8 ≤ rR) (hR2 : rR ≤ 11) (most : Int) (hmost : 7 ≤ most) :
    Calls Tryz.prog 15 #[.pointer (some ⟨W, 0, none⟩), .int .i64 most] w fun e w' => e = .returned (.bool true) ∧ Thenq N ρ w W T R B rT rR lim (s + 600) w' := by
  have H0 := Lib.hid (show Thenq N ρ w W T R B rT rR lim (s + 0) w from ⟨ρ, gs, cs, rs, hW, hB, hF, h15, Ev.refl _ _ _⟩)
  have HN := Lib.hid hN
  have hm6 : 6 ≤ most := by omega
  clear hF h15 hW hB hN
  go_enter Tryz.func15, Tryz.ntmps15
  go_wp2
  go_loopw [5] (fun i wr => ∃ k : Nat, k ≤ 32 ∧ i = .int .i64 k ∧ Hid (Thenq N ρ w W T R B rT rR lim (s + k) wr)) (fun i _ => 32 - (intOf i).toNat)
  case atStart => exact ⟨0, Nat.zero_le _, rfl, H0⟩
  case round =>
    obtain ⟨k, hk, rfl, HK⟩ := hrel
    by_cases hlt : k < 32
    · obtain ⟨ρ1, gs1, cs1, rs1, h1, h2, h3, h4, h5⟩ := HK.out
      have HG := Lib.hid (groupsq_hops N ρ1 wr W T R B rT rR (s + k) gs1 cs1 rs1 lim k zxq nilS false (Nat.le_trans HN.out h5.size) h3 h4 h1 h2 (by omega) hT hT2 hR hR2)
      have H5 := Lib.hid h5
      clear h1 h2 h3 h4 h5 HK
      simp only [opA, zxq] at HG
      have q1 : (k : Int) < 32 := by omega
      go_wp2_with fail
      refine HG.out.mono ?_
      intro e w1 hp
      have HP := Lib.hid (Thenq.of H5.out hp)
      obtain ⟨rfl, -⟩ := hp
      go_wp2
      go_roundw
      case rel => exact ⟨k + 1, by omega, by go_num, HP.out⟩
      case measure => simp [intOf]; omega
    · obtain rfl : k = 32 := by omega
      go_wp2
      go_loopw [7] (fun i wq => ∃ j : Nat, j ≤ 2 ∧ i = .int .i64 ((4 + 2 * j : Nat) : Int) ∧ Hid (Thenq N ρ w W T R B rT rR lim (s + 32 + j * 270) wq)) (fun i _ => 8 - (intOf i).toNat)
      case atStart => exact ⟨0, by omega, rfl, HK⟩
      case round =>
        clear HK
        obtain ⟨j, hj, rfl, HK⟩ := hrel
        by_cases hj2 : j < 2
        · obtain ⟨ρ1, gs1, cs1, rs1, h1, h2, h3, h4, h5⟩ := HK.out
          have HG := Lib.hid (routes_dump N ρ1 wr W T R B rT rR (s + 32 + j * 270) gs1 cs1 rs1 lim ((4 + 2 * j : Nat) : Int) zxq nilS false (Nat.le_trans HN.out h5.size) h3 h4 h1 h2 (by omega) hT hT2 hR hR2)
          have H5 := Lib.hid h5
          clear h1 h2 h3 h4 h5 HK
          simp only [opA, zxq] at HG
          have q1 : ((4 + 2 * j : Nat) : Int) ≤ 6 := by omega

          go_wp2_with fail
          refine HG.out.mono ?_
          intro e w1 hp
          have HP := Lib.hid (Thenq.of H5.out hp)
          obtain ⟨rfl, -⟩ := hp
          obtain ⟨ρ2, gs2, cs2, rs2, g1, g2, g3, g4, g5⟩ := HP.out
          obtain ⟨f, hf⟩ := g1.r
          have c1 : w1.cell? ⟨W, 1, none⟩ = some (.pointer (some ⟨R, 0, none⟩)) := (g1.st 1 (by decide)).1
          have hl2 := g1.len
          have HL := Lib.hid (Lengths_any hf (by omega) ((4 + 2 * j : Nat) : Int) (by omega))
          clear g1 g2 g3 g4 g5 hf HG
          go_wp2_with (go_at_call 20; refine HL.out.mono ?_; rintro e w2 ⟨ao, z, cap, rfl, hz, hzl, hrow, hb⟩; have Hb := Lib.hid hb; have Hzl := Lib.hid hzl; have Hrow := Lib.hid hrow; clear hb hzl hrow)
          by_cases h9 : 9 ≤ most
          · obtain ⟨L, hL⟩ : ∃ L, L = lensF rs2 ((4 + 2 * j : Nat) : Int) (if ((4 + 2 * j : Nat) : Int) = 4 then 33 else 129) := ⟨_, rfl⟩
            rw [← hL] at Hzl Hrow
            clear hL
            have HTL := Lib.hid (Thenq.list (lim := lim) HP.out Hb.out Hzl.out Hrow.out hT hT2 hR hR2)
            go_loopw [11] (fun i wq => ∃ q : Nat, q ≤ z ∧ i = .int .i64 q ∧ Hid (ThenL N ρ w W T R B rT rR lim ao z L (s + 32 + j * 270 + 1 + 2 * q) wq)) (fun i _ => z - (intOf i).toNat)
            case atStart => exact ⟨0, Nat.zero_le _, rfl, HTL⟩
            case round =>
              obtain ⟨q, hq, rfl, HQ⟩ := hrel
              by_cases hlt : q < z
              · obtain ⟨ρ3, gs3, cs3, rs3, h1, h2, h3, h4, h5, h6, h7⟩ := HQ.out
                obtain ⟨b, off, rfl, hbl, -⟩ := h6.at (by omega)
                obtain ⟨y, hy, hcy⟩ := h6.cell hlt
                have hN3 := Nat.le_trans HN.out h5.size
                have HG1 := Lib.hid (asksq_lens N ρ3 wr W T R B rT rR (s + 32 + j * 270 + 1 + 2 * q) gs3 cs3 rs3 lim ((4 + 2 * j : Nat) : Int) zxq nilS false hN3 h3 h4 h1 h2 (by omega) hT hT2 hR hR2)
                have HT3 := Lib.hid (fun (e : Ending) (w4 : World) (hp : SPq N ρ3 wr W T R B rT rR lim (s + 32 + j * 270 + 1 + 2 * q) e w4) => ThenL.of h5 h6 h7 hT hT2 hR hR2 hp)
                clear h1 h2 h3 h4 h5 h6 h7 hy hcy HQ hN3
                simp only [opA, zxq] at HG1
                have q1 : (q : Int) < (z : Int) := by omega
                have q0 : (0 : Int) ≤ (q : Int) := by omega
                go_wp2_with fail
                refine HG1.out.mono ?_
                intro e w4 hp
                have H4 := Lib.hid (HT3.out e w4 hp)
                obtain ⟨rfl, -⟩ := hp
                clear HT3 HG1
                obtain ⟨ρ4, gs4, cs4, rs4, h1, h2, h3, h4, h5, h6, h7⟩ := H4.out
                obtain ⟨y', hy', hcy'⟩ := h6.cell hlt
                have HG2 := Lib.hid (asksq_ents N ρ4 w4 W T R B rT rR (s + 32 + j * 270 + 1 + 2 * q + 1) gs4 cs4 rs4 lim ((4 + 2 * j : Nat) : Int) y' (fun i => if i = 2 then .int .i64 y' else zxq i) rfl nilS false (Nat.le_trans HN.out h5.size) h3 h4 h1 h2 (by omega) hT hT2 hR hR2)
                have HT4 := Lib.hid (fun (e : Ending) (w5 : World) (hp : SPq N ρ4 w4 W T R B rT rR lim (s + 32 + j * 270 + 1 + 2 * q + 1) e w5) => ThenL.of h5 h6 h7 hT hT2 hR hR2 hp)
                clear h1 h2 h3 h4 h5 h6 h7 hy' H4
                simp only [opA, zxq] at HG2
                go_wp2_with fail
                refine HG2.out.mono ?_
                intro e w5 hp
                have H5 := Lib.hid (HT4.out e w5 hp)
                obtain ⟨rfl, -⟩ := hp
                clear HT4 HG2 hcy'
                go_wp2
                go_roundw
                case rel => exact ⟨q + 1, by omega, by go_num, H5⟩
                case measure => simp [intOf]; omega
              · obtain rfl : q = z := by omega
                go_wp2
                go_roundw
                case rel =>
                  (repeat apply Exists.intro (α := Value))
                  exact ⟨⟨j + 1, by omega, by go_num, HQ.out.then.more (by omega)⟩, rfl⟩
                case measure => simp [intOf]; omega
          · go_loop [11] (fun i => i = .int .i64 0) (fun _ => 0)
            case atStart => rfl
            case round =>
              subst hrel
              by_cases hz0 : z = 0
              · subst hz0
                go_wp2
                go_roundw
                case rel => exact ⟨j + 1, by omega, by go_num, (HP.out.below Hb.out hT hT2 hR hR2).more (by omega)⟩
                case measure => simp [intOf]; omega
              · have q2 : (0 : Int) < (z : Int) := by omega
                go_wp2
                go_roundw
                case rel => exact ⟨j + 1, by omega, by go_num, (HP.out.below Hb.out hT hT2 hR hR2).more (by omega)⟩
                case measure => simp [intOf]; omega
        · obtain rfl : j = 2 := by omega
          obtain ⟨ρ1, gs1, cs1, rs1, h1, h2, h3, h4, h5⟩ := HK.out
          have c2 : wr.cell? ⟨W, 2, none⟩ = some (.pointer (some ⟨B, 0, none⟩)) := (h1.st 2 (by decide)).1
          have HL := Lib.hid (h2.looks (by omega))
          clear h1 h2 h3 h4 h5
          go_wp2_with (go_at_call 14; refine HL.out.mono ?_; rintro e w1 ⟨rfl, hb⟩; have Hb := Lib.hid hb; clear hb)
          go_ret
          exact ⟨rfl, (HK.out.below Hb.out hT hT2 hR hR2).more (by omega)⟩
end Go.Proofs.YtnfkgnjeamnhfaaGreat
namespace Go.Proofs.YtnfkgnjeamnhfaaGreat
open Go.RowKit

/-- A new box gets a role. -/
theorem boxq_role {ρ : Nat → Nat} {w : World} (hF : Fr ρ w) (h15 : ∀ k, ρ k ≠ 15) (o : Obj) {r : Nat} (hr : r ≠ 15) : (∀ R, Ev R ρ w (rl ρ w.heap.size r) (w.alloc o)) ∧ Fr (rl ρ w.heap.size r) (w.alloc o) ∧ rl ρ w.heap.size r w.heap.size = r ∧ (∀ k, rl ρ w.heap.size r k ≠ 15) := by
  have hal : Below w.heap.size w (w.alloc o) := (Below.refl _ _).alloc (Nat.le_refl _) _
  refine ⟨fun R => (Ev.of_below ρ hal).trans (Ev.rl _ r (.inl (hF _ (Nat.le_refl _)))), (hF.grow hal.size).rl (by simp) r, rl_same _ _ _, fun k => ?_⟩
  unfold YtnfkgnjeamnhfaaGreat.rl; split
  · exact hr
  · exact h15 k
theorem begunq {N : Nat} {ρ : Nat → Nat} {w w1 w2 : World} {B rT rR : Nat} {lim seed own : Int} (hsn : Rg seed own) (hF : Fr ρ w) (h15 : ∀ k, ρ k ≠ 15) (h1 : NewQ 3 35 lim seed own w w1) (h2 : NewQ 4 3 lim seed own w1 w2) (hlim : lim ≤ 256) (hT : 8 ≤ rT) (hT2 : rT ≤ 11) (hR : 8 ≤ rR) (hR2 : rR ≤ 11) :
    ∃ ρ', Wq N ρ' (w2.alloc (.cells #[ptr w.heap.size, ptr w1.heap.size, ptr B] 46)) w2.heap.size w.heap.size w1.heap.size B rT rR (gz seed own) [] [] lim ∧ Fr ρ' (w2.alloc (.cells #[ptr w.heap.size, ptr w1.heap.size, ptr B] 46)) ∧ (∀ k, ρ' k ≠ 15) ∧ (∀ R, Ev R ρ w ρ' (w2.alloc (.cells #[ptr w.heap.size, ptr w1.heap.size, ptr B] 46))) := by
  obtain ⟨ρ1, f1, a1, a2, a3, a4⟩ := Tq.new (N := N) (rS := rT) (rQ := rT + 24) hsn (by omega) hF h1
  obtain ⟨ρ2, f2, b1, b2, b3, b4⟩ := Tq.new (N := N) (rS := rR) (rQ := rR + 24) hsn (by omega) a2 h2
  obtain ⟨e1, e2, e3, e4⟩ := boxq_role b2 (b3 (a3 h15)) (.cells #[ptr w.heap.size, ptr w1.heap.size, ptr B] 46) (r := 12) (by decide)
  refine ⟨_, ⟨e3, (St.new w2 #[ptr w.heap.size, ptr w1.heap.size, ptr B] 46).congr ?_, ⟨f1, (a1.ev (b4 (fun _ => False)) id id id (ro_of hT hT2)).ev (e1 (fun _ => False)) id id id (ro_of hT hT2)⟩, ⟨f2, b1.ev (e1 (fun _ => False)) id id id (ro_of hR hR2)⟩, Rel.nil, by simp, hlim, fun r hr => absurd hr (by simp)⟩, e2, e4, fun R => ((a4 R).trans (b4 R)).trans (e1 R)⟩
  intro j hj
  have hj : j < 3 := hj
  iterate 3 (rcases j with _ | j; · rfl)
  omega
set_option maxRecDepth 4000 in
set_option maxHeartbeats 1000000 in
theorem beginq_no (limit seed own : Int) (B : Nat) (w : World) (h1 : limit < 1 ∨ 256 < limit) :
    Calls Tryz.prog 16 #[.int .i64 limit, .int .u64 seed, .int .u32 own, .pointer (some ⟨B, 0, none⟩)] w fun e w' => e = .returned (.tuple #[.pointer none, .bool true]) ∧ w' = w := by
  have H1 := Lib.hid (new_no limit seed own w h1)
  have H2 := Lib.hid (rnew_no limit seed own w h1)
  have HN := Lib.hid (num_any 1 w)
  clear h1
  go_enter Tryz.func16, Tryz.ntmps16
  go_wp2_with (first | (go_at_call 37; refine H1.out.mono ?_; rintro e w1 ⟨rfl, rfl⟩) | (go_at_call 38; refine H2.out.mono ?_; rintro e w1 ⟨rfl, rfl⟩) | (go_at_call 23; refine HN.out.mono ?_; rintro e w1 ⟨rfl, rfl⟩))
  go_ret2
  exact ⟨rfl, rfl⟩
/-- What begin leaves. -/
def BPq (N : Nat) (ρ : Nat → Nat) (w : World) (B rT rR : Nat) (lim : Int) (W : Nat) (w' : World) : Prop := ∃ T R ρ' gs, Wq N ρ' w' W T R B rT rR gs [] [] lim ∧ Fr ρ' w' ∧ (∀ k, ρ' k ≠ 15) ∧ (∀ R, Ev R ρ w ρ' w')
set_option maxRecDepth 4000 in
set_option maxHeartbeats 1000000 in
theorem beginq_any (N : Nat) (ρ : Nat → Nat) (limit seed own : Int) (B rT rR : Nat) (w : World) (hsn : Rg seed own) (hF : Fr ρ w) (h15 : ∀ k, ρ k ≠ 15) (h1 : ¬ limit < 1) (h2 : ¬ 256 < limit) (hT : 8 ≤ rT) (hT2 : rT ≤ 11) (hR : 8 ≤ rR) (hR2 : rR ≤ 11) :
    Calls Tryz.prog 16 #[.int .i64 limit, .int .u64 seed, .int .u32 own, .pointer (some ⟨B, 0, none⟩)] w fun e w' => ∃ W, e = .returned (.tuple #[.pointer (some ⟨W, 0, none⟩), .bool true]) ∧ BPq N ρ w B rT rR limit W w' := by
  have H1 := Lib.hid (newq_any limit seed own w h1 h2)
  have H2 := Lib.hid fun w => rnewq_any limit seed own w h1 h2
  have HF := Lib.hid hF
  have H15 := Lib.hid h15
  have hl6 : limit ≤ 256 := by omega
  have HSN := Lib.hid hsn
  clear h1 h2 hF h15 hsn
  go_enter Tryz.func16, Tryz.ntmps16
  go_wp2_with (first | (go_at_call 37; refine H1.out.mono ?_; rintro e w1 ⟨rfl, hn1⟩; have HN1 := Lib.hid hn1; clear hn1) | (go_at_call 38; refine (H2.out _).mono ?_; rintro e w2 ⟨rfl, hn2⟩; have HN2 := Lib.hid hn2; clear hn2))
  go_ret2
  obtain ⟨ρ', b1, b2, b3, b4⟩ := begunq (N := N) (B := B) HSN.out HF.out H15.out HN1.out HN2.out hl6 hT hT2 hR hR2
  exact ⟨_, rfl, _, _, ρ', _, b1, b2, b3, b4⟩
def bookQ : Array Value := #[.int .i64 (-1000), nilS, nilS, nilS, nilS, nilS, nilS, nilS, nilS, nilS, nilS]
theorem bookedq {N : Nat} {ρ : Nat → Nat} {w : World} (hF : Fr ρ w) (h15 : ∀ k, ρ k ≠ 15) :
    ∃ ρ', BqX N ρ' (w.alloc (.cells bookQ 54)) w.heap.size 0 ∧ Fr ρ' (w.alloc (.cells bookQ 54)) ∧ (∀ k, ρ' k ≠ 15) ∧ (∀ R, Ev R ρ w ρ' (w.alloc (.cells bookQ 54))) := by
  obtain ⟨e1, e2, e3, e4⟩ := boxq_role hF h15 (.cells bookQ 54) (r := 1) (by decide)
  refine ⟨_, ⟨-1000, _, [], [], [], [], [], ⟨e3, St.new w bookQ 54, rfl, Sh.nil _ _ _ _ _ _ _ _ _, Sh.nil _ _ _ _ _ _ _ _ _, Sh.nil _ _ _ _ _ _ _ _ _, Own.nil _ _ _ _ _, Own.nil _ _ _ _ _, by simp, Sh.nil _ _ _ _ _ _ _ _ _⟩, by simp, by simp, by simp, by simp, by simp, by simp, by simp⟩, e2, e4, e1⟩
set_option maxRecDepth 4000 in
set_option maxHeartbeats 1000000 in
theorem bothq_no (limit seed own : Int) (w : World) (h1 : limit < 1 ∨ 256 < limit) :
    Calls Tryz.prog 11 #[.int .i64 limit, .int .u64 seed, .int .u32 own] w fun e w' => e = .returned (.tuple #[.pointer none, .pointer none, .bool true]) ∧ Below w.heap.size w w' := by
  have H1 := Lib.hid (beginq_no limit seed own w.heap.size (w.alloc (.cells bookQ 54)) h1)
  simp only [bookQ] at H1
  clear h1
  go_enter Tryz.func11, Tryz.ntmps11
  go_wp2_with (go_at_call 16; refine H1.out.mono ?_; rintro e w1 ⟨rfl, rfl⟩)
  go_ret3
  exact ⟨rfl, (Below.refl _ _).alloc (Nat.le_refl _) _⟩
/-- Two tables beside one another, and the book, behind s steps. -/
def Twoq (N : Nat) (ρ : Nat → Nat) (w : World) (W V B : Nat) (l l' : Int) (s : Nat) (w' : World) : Prop :=
  ∃ T R T' R' ρ' gs gs' cs cs' rs rs', Wq N ρ' w' W T R B 8 9 gs cs rs l ∧ Wq N ρ' w' V T' R' B 10 11 gs' cs' rs' l' ∧ BqX N ρ' w' B s ∧ Fr ρ' w' ∧ (∀ k, ρ' k ≠ 15) ∧ Ev (fun q => 1 ≤ q) ρ w ρ' w'
theorem bothq_fin {N : Nat} {ρ ρ0 : Nat → Nat} {w w0 w1 w2 : World} {B W V : Nat} {l l' : Int} (hE : ∀ R, Ev R ρ w ρ0 w0) (hB : BqX N ρ0 w0 B 0) {ρ1 : Nat → Nat} {gs : Nat → List Int} {T R : Nat} (a1 : Wq N ρ1 w1 W T R B 8 9 gs [] [] l) (a4 : ∀ R, Ev R ρ0 w0 ρ1 w1) (h2 : BPq N ρ1 w1 B 10 11 l' V w2) : Twoq N ρ w W V B l l' 0 w2 := by
  obtain ⟨T', R', ρ2, gs2, b1, b2, b3, b4⟩ := h2
  exact ⟨T, R, T', R', ρ2, _, _, _, _, _, _, a1.ev (b4 (fun _ => False)) id id id id id id (by decide) (by decide) (by decide) (by decide), b1, (hB.ev (a4 (fun _ => False)) (fun _ _ => id)).ev (b4 (fun _ => False)) (fun _ _ => id), b2, b3, ((hE _).trans (a4 _)).trans (b4 _)⟩
set_option maxRecDepth 4000 in
set_option maxHeartbeats 1000000 in
theorem bothq_any (N : Nat) (ρ : Nat → Nat) (limit seed own : Int) (w : World) (hsn : Rg seed own) (hF : Fr ρ w) (h15 : ∀ k, ρ k ≠ 15) (h1 : ¬ limit < 1) (h2 : ¬ 256 < limit) :
    Calls Tryz.prog 11 #[.int .i64 limit, .int .u64 seed, .int .u32 own] w fun e w' => ∃ W V B, e = .returned (.tuple #[.pointer (some ⟨W, 0, none⟩), .pointer (some ⟨V, 0, none⟩), .bool true]) ∧ Twoq N ρ w W V B limit (257 - limit) 0 w' := by
  obtain ⟨ρ0, hB0, hF0, h150, hE0⟩ := bookedq (N := N) hF h15
  have H1 := Lib.hid (beginq_any N ρ0 limit seed own w.heap.size 8 9 (w.alloc (.cells bookQ 54)) hsn hF0 h150 h1 h2 (by decide) (by decide) (by decide) (by decide))
  have H2 := Lib.hid fun (ρ1 : Nat → Nat) (w1 : World) (hF1 : Fr ρ1 w1) (h151 : ∀ k, ρ1 k ≠ 15) (seed own : Int) (hsn : Rg seed own) => beginq_any N ρ1 (257 - limit) seed own w.heap.size 10 11 w1 hsn hF1 h151 (by omega) (by omega) (by decide) (by decide) (by decide) (by decide)
  have HE := Lib.hid hE0
  have HB := Lib.hid hB0
  clear hF h15 hB0 hF0 h150 hE0
  simp only [bookQ] at H1 HE HB
  go_enter Tryz.func11, Tryz.ntmps11
  go_wp2_with (go_at_call_of 16 (Value.int IntKind.i64 limit); refine H1.out.mono ?_; rintro e w1 ⟨W, rfl, hp⟩; have HP := Lib.hid hp; clear hp)
  obtain ⟨T, R, ρ1, gs1, a1, a2, a3, a4⟩ := HP.out
  have HSN := Lib.hid hsn
  refine (H2.out ρ1 w1 a2 a3 _ _ ?sn).mono ?_
  case sn => exact ⟨⟨(bits_within .xor .u64 _ _).1, Int.lt_of_le_of_lt (bits_within .xor .u64 _ _).2 (by decide)⟩, (bits_within .xor .u32 _ _).1, Int.lt_of_le_of_lt (bits_within .xor .u32 _ _).2 (by decide)⟩
  rintro e w2 ⟨V, rfl, hp⟩
  have HA := Lib.hid (bothq_fin HE.out HB.out a1 a4 hp)
  clear a1 a2 a3 a4 hp
  go_wp2
  go_ret3
  exact ⟨_, _, _, rfl, HA.out⟩
end Go.Proofs.YtnfkgnjeamnhfaaGreat
