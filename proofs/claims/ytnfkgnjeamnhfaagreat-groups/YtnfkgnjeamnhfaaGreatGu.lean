import Derived.Test.YtnfkgnjeamnhfaaGreatGt
namespace Go.Proofs.YtnfkgnjeamnhfaaGreat
open Go.RowKit

/-- The tables and the book, s steps on. -/
def Then (N : Nat) (ρ : Nat → Nat) (w : World) (W T R B rT rR s : Nat) (w' : World) : Prop :=
  ∃ ρ' gs', Wd N ρ' w' W T R B rT rR gs' ∧ BkX N ρ' w' B s ∧ Fr ρ' w' ∧ (∀ k, ρ' k ≠ 15) ∧ Ev (fun q => q = rT ∨ q = rR ∨ (1 ≤ q ∧ q ≤ 5)) ρ w ρ' w'
theorem below_drewN (w : World) (d : Nat) : Below w.heap.size w (w.drewN d) := ⟨rfl, rfl, rfl, Nat.le_refl _, fun _ _ => rfl⟩
theorem Then.below {N : Nat} {ρ : Nat → Nat} {w : World} {W T R B rT rR s : Nat} {w1 w2 : World} (h : Then N ρ w W T R B rT rR s w1) (hb : Below w1.heap.size w1 w2) (hT2 : rT ≤ 11) (hR2 : rR ≤ 11) : Then N ρ w W T R B rT rR s w2 := by
  obtain ⟨ρ', gs', h1, h2, h3, h4, h5⟩ := h
  exact ⟨ρ', gs', h1.ev (Ev.of_below (R := fun _ => False) ρ' hb) id id id id (by omega) (by omega), h2.ev (Ev.of_below (R := fun _ => False) ρ' hb) (fun _ _ _ => id), h3.grow hb.size, h4, h5.trans (Ev.of_below ρ' hb)⟩
theorem looks_one {N : Nat} {ρ : Nat → Nat} {w : World} {B s : Nat} (hB : BkX N ρ w B s) (hs : s ≤ 1000000000000) :
    Calls Tryz.prog 14 #[.pointer (some ⟨B, 0, none⟩)] w fun e w' => e = .returned (.bool true) ∧ ∃ d, w' = w.drewN d := by
  obtain ⟨mark, vI, vM, vH, vU, L, K, h1, h2, h3, _, _⟩ := hB
  exact looks_any N ρ w B mark vI vM vH vU L K h1 (by omega) (by omega)
def zx : Nat → Value
  | 4 => .int .u64 0
  | 5 => .int .u64 0
  | 9 => .int .u64 0
  | 10 => .int .u64 0
  | 11 => .int .u64 0
  | 13 => nilS
  | 14 => .string ⟨#[]⟩
  | _ => .int .i64 0
set_option maxRecDepth 4000 in
set_option maxHeartbeats 2000000 in
theorem ends_any (N : Nat) (ρ : Nat → Nat) (w : World) (W T R B rT rR s : Nat) (gs : Nat → List Int)
    (hN : N ≤ w.heap.size) (hF : Fr ρ w) (h15 : ∀ k, ρ k ≠ 15) (hW : Wd N ρ w W T R B rT rR gs) (hB : BkX N ρ w B s) (hs : s + 32 ≤ 1000000000000) (hT : 8 ≤ rT) (hT2 : rT ≤ 11) (hR : 8 ≤ rR) (hR2 : rR ≤ 11) :
    Calls Tryz.prog 15 #[.pointer (some ⟨W, 0, none⟩), .int .i64 3] w fun e w' => e = .returned (.bool true) ∧ Then N ρ w W T R B rT rR (s + 32) w' := by
  have H0 := Lib.hid (show Then N ρ w W T R B rT rR (s + 0) w from ⟨ρ, gs, hW, hB, hF, h15, Ev.refl _ _ _⟩)
  have HN := Lib.hid hN
  clear hF h15 hW hB hN
  go_enter Tryz.func15, Tryz.ntmps15
  go_wp2
  go_loopw [5] (fun i wr => ∃ k : Nat, k ≤ 32 ∧ i = .int .i64 k ∧ Hid (Then N ρ w W T R B rT rR (s + k) wr)) (fun i _ => 32 - (intOf i).toNat)
  case atStart => exact ⟨0, Nat.zero_le _, rfl, H0⟩
  case round =>
    obtain ⟨k, hk, rfl, HK⟩ := hrel
    by_cases hlt : k < 32
    · obtain ⟨ρ1, gs1, h1, h2, h3, h4, h5⟩ := HK.out
      have HG := Lib.hid (groups_hops N ρ1 wr W T R B rT rR (s + k) gs1 k zx nilS false (Nat.le_trans HN.out h5.size) h3 h4 h1 h2 (by omega) hT hT2 hR hR2)
      have H5 := Lib.hid h5
      clear h1 h2 h3 h4 h5 HK
      simp only [opA, zx] at HG
      have q1 : (k : Int) < 32 := by omega
      go_wp2_with fail
      refine HG.out.mono ?_
      intro e w1 hp
      have HP := Lib.hid hp
      obtain ⟨rfl, -⟩ := hp
      go_wp2
      go_roundw
      case rel =>
        refine ⟨k + 1, by omega, by go_num, ?_⟩
        obtain ⟨-, ρ2, gs2, g1, g2, g3, g4, g5⟩ := HP.out
        exact ⟨ρ2, gs2, g1, g2, g3, g4, H5.out.trans g5⟩
      case measure => simp [intOf]; omega
    · obtain rfl : k = 32 := by omega
      obtain ⟨ρ1, gs1, h1, h2, h3, h4, h5⟩ := HK.out
      obtain ⟨f, hf⟩ := h1.r
      have c1 : wr.cell? ⟨W, 1, none⟩ = some (.pointer (some ⟨R, 0, none⟩)) := (h1.st 1 (by decide)).1
      have c2 : wr.cell? ⟨W, 2, none⟩ = some (.pointer (some ⟨B, 0, none⟩)) := (h1.st 2 (by decide)).1
      have HL := Lib.hid fun (n : Int) (h : n = 4 ∨ n = 6) => Lengths_none R f n wr h hf.st hf.none
      have HK2 := Lib.hid (looks_one h2 (by omega))
      clear h1 h2 h3 h4 h5 hf
      go_wp2
      go_loop [7] (fun i => i = .int .i64 4 ∨ i = .int .i64 6 ∨ i = .int .i64 8) (fun i => 8 - (intOf i).toNat)
      case atStart => exact .inl rfl
      case round =>
        rcases hrel with rfl | rfl | rfl
        · go_wp2_with (go_at_call 20; refine (HL.out 4 (.inl rfl)).mono ?_; rintro e w1 ⟨rfl, rfl⟩)
          go_loop [11] (fun i => i = .int .i64 0) (fun _ => 0)
          case atStart => rfl
          case round =>
            subst hrel
            go_wp2
            simp [intOf]
        · go_wp2_with (go_at_call 20; refine (HL.out 6 (.inr rfl)).mono ?_; rintro e w1 ⟨rfl, rfl⟩)
          go_loop [11] (fun i => i = .int .i64 0) (fun _ => 0)
          case atStart => rfl
          case round =>
            subst hrel
            go_wp2
            simp [intOf]
        · go_wp2_with (go_at_call 14; refine HK2.out.mono ?_; rintro e w1 ⟨rfl, d, rfl⟩)
          go_ret
          exact ⟨rfl, HK.out.below (below_drewN _ _) hT2 hR2⟩
end Go.Proofs.YtnfkgnjeamnhfaaGreat
