import Derived.Test.YtnfkgnjeamnhfaaGreatGx
namespace Go.Proofs.YtnfkgnjeamnhfaaGreat
open Go.RowKit

set_option maxRecDepth 4000 in
set_option maxHeartbeats 2000000 in
theorem plays_any (N : Nat) (ρ : Nat → Nat) (limit seed own : Int) (so : Option Addr) (z scap : Nat) (w : World) (hN : N ≤ w.heap.size) (hF : Fr ρ w) (h15 : ∀ k, ρ k ≠ 15) (hρ : ∀ b, b < N → ρ b = 0) (hS : Script N w so z) (hz : z ≤ 837728385445) (h1 : ¬ limit < 1) (h2 : ¬ 256 < limit) :
    Calls Tryz.prog 10 #[.int .i64 limit, .int .u64 seed, .int .u32 own, .slice so z scap, .int .i64 3] w fun e w' => e = .returned (.bool true) ∧ ∃ ρ', Ev (fun q => 1 ≤ q) ρ w ρ' w' := by
  have H1 := Lib.hid (both_any N ρ limit seed own w hF h15 h1 h2)
  have HN := Lib.hid hN
  have HP := Lib.hid hρ
  have HS := Lib.hid hS
  clear hN hF h15 hρ hS h1 h2
  go_enter Tryz.func10, Tryz.ntmps10
  go_wp2_with (go_at_call 11; refine H1.out.mono ?_; rintro e w1 ⟨W, V, B, rfl, hp⟩; have H2 := Lib.hid hp; clear hp)
  go_loopw [14] (fun i wr => ∃ k : Nat, k ≤ z ∧ i = .int .i64 k ∧ Hid (Two N ρ w W V B k wr)) (fun i _ => z - (intOf i).toNat)
  case atStart => exact ⟨0, Nat.zero_le _, rfl, H2⟩
  case round =>
    obtain ⟨k, hk, rfl, HK⟩ := hrel
    by_cases hlt : k < z
    · obtain ⟨b, off, kk, ii, x, ao, n, cap, m, xs, rfl, ho⟩ := HS.out k hlt
      obtain ⟨T, R, T', R', ρ1, gs, gs', h1, h2, h3, h4, h5, h6⟩ := HK.out
      have ho1 := ho.ev HN.out h6 HP.out
      have c0 : wr.cell? ⟨b, off + k * 16, none⟩ = some (.int .i64 kk) := ho1.2.1 0 (by decide)
      have c1 : wr.cell? ⟨b, off + k * 16 + 1, none⟩ = some (.int .i64 ii) := ho1.2.1 1 (by decide)
      have c2 : wr.cell? ⟨b, off + k * 16 + 2, none⟩ = some (x 2) := ho1.2.1 2 (by decide)
      have c3 : wr.cell? ⟨b, off + k * 16 + 3, none⟩ = some (x 3) := ho1.2.1 3 (by decide)
      have c4 : wr.cell? ⟨b, off + k * 16 + 4, none⟩ = some (x 4) := ho1.2.1 4 (by decide)
      have c5 : wr.cell? ⟨b, off + k * 16 + 5, none⟩ = some (x 5) := ho1.2.1 5 (by decide)
      have c6 : wr.cell? ⟨b, off + k * 16 + 6, none⟩ = some (x 6) := ho1.2.1 6 (by decide)
      have c7 : wr.cell? ⟨b, off + k * 16 + 7, none⟩ = some (x 7) := ho1.2.1 7 (by decide)
      have c8 : wr.cell? ⟨b, off + k * 16 + 8, none⟩ = some (x 8) := ho1.2.1 8 (by decide)
      have c9 : wr.cell? ⟨b, off + k * 16 + 9, none⟩ = some (x 9) := ho1.2.1 9 (by decide)
      have c10 : wr.cell? ⟨b, off + k * 16 + 10, none⟩ = some (x 10) := ho1.2.1 10 (by decide)
      have c11 : wr.cell? ⟨b, off + k * 16 + 11, none⟩ = some (x 11) := ho1.2.1 11 (by decide)
      have c12 : wr.cell? ⟨b, off + k * 16 + 12, none⟩ = some (.slice ao n cap) := ho1.2.1 12 (by decide)
      have c13 : wr.cell? ⟨b, off + k * 16 + 13, none⟩ = some (x 13) := ho1.2.1 13 (by decide)
      have c14 : wr.cell? ⟨b, off + k * 16 + 14, none⟩ = some (x 14) := ho1.2.1 14 (by decide)
      have c15 : wr.cell? ⟨b, off + k * 16 + 15, none⟩ = some (.bool m) := ho1.2.1 15 (by decide)
      have q1 : (k : Int) < (z : Int) := by omega
      have q0 : (0 : Int) ≤ (k : Int) := by omega
      have HO := Lib.hid ho
      clear ho ho1 h1 h2 h3 h4 h5 h6
      by_cases hkk : kk > 3
      · go_wp2
        exact ⟨⟨k + 1, by omega, by go_num, HK.out.more (Nat.le_succ _)⟩, by simp [intOf]; omega⟩
      · have HT := Lib.hid (HK.out.step HN.out (by omega) HP.out HO.out (by omega))
        have HL := Lib.hid fun (w2 : World) (h : Two N ρ w W V B (k + 1) w2) => h.looks (by omega)
        simp only [opA] at HT
        clear HO HK
        cases m
        · go_wp2_with fail
          refine HT.out.1.mono ?_
          rintro e w2 ⟨rfl, hp⟩
          have j0 := hp.cell
          have H3 := Lib.hid (HL.out _ hp)
          clear hp HL HT
          go_wp2_with (go_at_call 14; refine H3.out.mono ?_; rintro e w3 ⟨rfl, hp⟩; have HP3 := Lib.hid hp; clear hp)
          go_roundw
          case rel => exact ⟨k + 1, by omega, by go_num, HP3⟩
          case measure => simp [intOf]; omega
        · go_wp2_with fail
          refine HT.out.2.mono ?_
          rintro e w2 ⟨rfl, hp⟩
          have j0 := hp.cell
          have H3 := Lib.hid (HL.out _ hp)
          clear hp HL HT
          go_wp2_with (go_at_call 14; refine H3.out.mono ?_; rintro e w3 ⟨rfl, hp⟩; have HP3 := Lib.hid hp; clear hp)
          go_roundw
          case rel => exact ⟨k + 1, by omega, by go_num, HP3⟩
          case measure => simp [intOf]; omega
    · obtain rfl : k = z := by omega
      have HE := Lib.hid (HK.out.ends HN.out (by omega)).1
      have HL := Lib.hid fun (w2 : World) (h : Two N ρ w W V B (k + 32) w2) => (h.ends HN.out (by omega)).2
      clear HK
      go_wp2_with fail
      refine HE.out.mono ?_
      rintro e w2 ⟨rfl, hp⟩
      have H3 := Lib.hid (HL.out _ hp)
      clear hp HL HE
      go_wp2_with fail
      refine H3.out.mono ?_
      rintro e w3 ⟨rfl, hp⟩
      have HP3 := Lib.hid hp
      clear hp
      go_wp2
      go_ret
      obtain ⟨_, _, _, _, ρ', _, _, _, _, _, _, _, h⟩ := HP3.out
      exact ⟨rfl, ρ', h⟩
set_option maxRecDepth 4000 in
set_option maxHeartbeats 2000000 in
theorem plays_no (ρ : Nat → Nat) (limit seed own : Int) (so : Option Addr) (z scap : Nat) (w : World) (h1 : limit < 1 ∨ 256 < limit) :
    Calls Tryz.prog 10 #[.int .i64 limit, .int .u64 seed, .int .u32 own, .slice so z scap, .int .i64 3] w fun e w' => e = .returned (.bool true) ∧ ∃ ρ', Ev (fun q => 1 ≤ q) ρ w ρ' w' := by
  have H1 := Lib.hid (both_no limit seed own w h1)
  clear h1
  go_enter Tryz.func10, Tryz.ntmps10
  go_wp2_with (go_at_call 11; refine H1.out.mono ?_; rintro e w1 ⟨rfl, hp⟩; have H2 := Lib.hid hp; clear hp)
  go_ret
  exact ⟨rfl, ρ, Ev.of_below ρ H2.out⟩
/-- Groups: the law. -/
theorem groups_law (N : Nat) (ρ : Nat → Nat) (limit seed own : Int) (so : Option Addr) (z scap : Nat) (w : World) (hN : N ≤ w.heap.size) (hF : Fr ρ w) (h15 : ∀ k, ρ k ≠ 15) (hρ : ∀ b, b < N → ρ b = 0) (hS : Script N w so z) (hz : z ≤ 837728385445) :
    Calls Tryz.prog 3 #[.int .i64 limit, .int .u64 seed, .int .u32 own, .slice so z scap] w fun e w' => e = .returned (.bool true) ∧ ∃ ρ', Ev (fun q => 1 ≤ q) ρ w ρ' w' := by
  have H : Calls Tryz.prog 10 #[.int .i64 limit, .int .u64 seed, .int .u32 own, .slice so z scap, .int .i64 3] w fun e w' => e = .returned (.bool true) ∧ ∃ ρ', Ev (fun q => 1 ≤ q) ρ w ρ' w' := by
    by_cases h : limit < 1 ∨ 256 < limit
    · exact plays_no ρ limit seed own so z scap w h
    · exact plays_any N ρ limit seed own so z scap w hN hF h15 hρ hS hz (by omega) (by omega)
  have HH := Lib.hid H
  clear H hN hF h15 hρ hS hz
  go_enter Tryz.func3, Tryz.ntmps3
  go_wp2_with (go_at_call 10; refine HH.out.mono ?_; rintro e w1 ⟨rfl, hp⟩; have H2 := Lib.hid hp; clear hp)
  go_ret
  exact ⟨rfl, H2.out⟩
end Go.Proofs.YtnfkgnjeamnhfaaGreat
