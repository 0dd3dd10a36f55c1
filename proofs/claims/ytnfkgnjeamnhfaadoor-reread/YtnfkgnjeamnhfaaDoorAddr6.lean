import Derived.Test.YtnfkgnjeamnhfaaDoorAddr
namespace Go.Proofs.YtnfkgnjeamnhfaaDoor
open Go.RowKit

/-- readAddress's three blocks: the style, the result, the address so far. -/
structure Fr6 (B : Nat) (wr : World) (hi lo : Nat) : Prop where
  s0 : wr.cell? ⟨B, 0, none⟩ = some (.int .i64 6)
  s1 : wr.cell? ⟨B, 1, none⟩ = some (.int .i64 8)
  s2 : wr.cell? ⟨B, 2, none⟩ = some (.int .u64 16)
  s3 : wr.cell? ⟨B, 3, none⟩ = some (.int .i64 65535)
  s4 : wr.cell? ⟨B, 4, none⟩ = some (.int .i64 16)
  s5 : wr.cell? ⟨B, 5, none⟩ = some (.string { data := #[58] })
  r0 : wr.cell? ⟨B + 1, 0, none⟩ = some (.int .i64 0)
  r1 : wr.cell? ⟨B + 1, 1, none⟩ = some (.int .u64 0)
  r2 : wr.cell? ⟨B + 1, 2, none⟩ = some (.int .u64 0)
  fr0 : wr.frozen? ⟨B + 1, 0, none⟩ = false
  fr1 : wr.frozen? ⟨B + 1, 1, none⟩ = false
  fr2 : wr.frozen? ⟨B + 1, 2, none⟩ = false
  a0 : wr.cell? ⟨B + 1 + 1, 0, none⟩ = some (.int .i64 6)
  a1 : wr.cell? ⟨B + 1 + 1, 1, none⟩ = some (.int .u64 hi)
  a2 : wr.cell? ⟨B + 1 + 1, 2, none⟩ = some (.int .u64 lo)
  fa0 : wr.frozen? ⟨B + 1 + 1, 0, none⟩ = false
  fa1 : wr.frozen? ⟨B + 1 + 1, 1, none⟩ = false
  fa2 : wr.frozen? ⟨B + 1 + 1, 2, none⟩ = false
  hz : B + 1 + 1 < wr.heap.size
theorem Fr6.below {B : Nat} {wr w2 : World} {hi lo : Nat} (h : Fr6 B wr hi lo) (hb : Below wr.heap.size wr w2) : Fr6 B w2 hi lo := by
  have hz := h.hz
  have hs := hb.size
  obtain ⟨hc, hf⟩ := bcell hb
  exact ⟨(hc _ _ (by omega)).trans h.s0, (hc _ _ (by omega)).trans h.s1, (hc _ _ (by omega)).trans h.s2, (hc _ _ (by omega)).trans h.s3, (hc _ _ (by omega)).trans h.s4, (hc _ _ (by omega)).trans h.s5,
    (hc _ _ (by omega)).trans h.r0, (hc _ _ (by omega)).trans h.r1, (hc _ _ (by omega)).trans h.r2, (hf _ _ (by omega)).trans h.fr0, (hf _ _ (by omega)).trans h.fr1, (hf _ _ (by omega)).trans h.fr2,
    (hc _ _ (by omega)).trans h.a0, (hc _ _ (by omega)).trans h.a1, (hc _ _ (by omega)).trans h.a2, (hf _ _ (by omega)).trans h.fa0, (hf _ _ (by omega)).trans h.fa1, (hf _ _ (by omega)).trans h.fa2, by omega⟩
theorem Fr6.store {B : Nat} {w2 : World} {hi lo : Nat} (h : Fr6 B w2 hi lo) (hi' lo' : Nat) :
    Fr6 B (((w2.setCell ⟨B + 1 + 1, 0, none⟩ (.int .i64 6)).setCell ⟨B + 1 + 1, 1, none⟩ (.int .u64 hi')).setCell ⟨B + 1 + 1, 2, none⟩ (.int .u64 lo')) hi' lo' := by
  obtain ⟨s0, s1, s2, s3, s4, s5, r0, r1, r2, fr0, fr1, fr2, a0, a1, a2, fa0, fa1, fa2, hz⟩ := h
  constructor <;> go_simp

set_option maxHeartbeats 4000000 in
theorem addr6_any (t : ByteArray) (w : World) (hs : t.size ≤ maxLen) :
    Calls Tryd.prog 32 #[.string t, sty6] w fun e w' => AddrPost 6 58 16 65535 step6 8 t.data.toList e ∧ Below w.heap.size w w' := by
  go_enter Tryd.func32, Tryd.ntmps32
  go_wp2
  go_loopw [0, 8] (fun tx i wr => ∃ (u : ByteArray) (k hi lo : Nat), tx = .string u ∧ i = .int .i64 k ∧ k ≤ 8 ∧ u.size ≤ t.size ∧ hi ≤ 18446744073709551615 ∧ lo ≤ 18446744073709551615 ∧ Fr6 w.heap.size wr hi lo ∧ Below w.heap.size w wr ∧ Hid (rdA 58 16 65535 step6 (8 - k) (decide (k = 0)) (hi, lo) u.data.toList = rdA 58 16 65535 step6 8 true (0, 0) t.data.toList)) (fun _ i _ => 8 - (intOf i).toNat)
  case atStart => exact ⟨t, 0, 0, 0, rfl, rfl, by omega, Nat.le_refl _, by omega, by omega, by constructor <;> go_simp, (((Below.refl _ _).alloc (Nat.le_refl _) _).alloc (by simp) _).alloc (by simp; omega) _, rfl⟩
  case round =>
    obtain ⟨u, k, hi, lo, rfl, rfl, hk, hu, hhi, hlo, hF, hB, HR⟩ := hrel
    have HB : Hid _ := hB
    clear hB
    have HF : Hid _ := hF
    have hsz := HB.out.size
    obtain ⟨s0, s1, s2, s3, s4, s5, r0, r1, r2, fr0, fr1, fr2, a0, a1, a2, fa0, fa1, fa2, hz⟩ := hF
    have HS : Hid _ := hs
    by_cases hlt : k < 8
    · skip
      obtain ⟨m, hm⟩ : ∃ m, 8 - k = m + 1 := ⟨8 - k - 1, by omega⟩
      have hm2 : 8 - (k + 1) = m := by omega
      have HM : Hid _ := hm2
      have hus : u.size ≤ maxLen := by omega
      clear hs hm2
      rw [hm] at HR
      clear hm
      by_cases hk0 : k = 0
      · subst hk0
        clear hlt
        rcases hrn : readN 16 65535 0 false u.data.toList with _ | ⟨v, r⟩
        · have hrd : rdA 58 16 65535 step6 (m + 1) (decide (0 = 0)) (hi, lo) u.data.toList = none := by simp [rdA, nextPart, hrn]
          have HN : Hid _ := num_16_none u 65535 hus (by decide) hrn
          clear hrn
          go_wp2_with (first | (go_at_call 35; refine (HN.out _).mono ?_; rintro e w1 ⟨⟨v1, u1, rfl⟩, rfl⟩))

          refine bodyPost_ret (v := .tuple #[addr 0 0 0, .string ⟨#[]⟩, .bool false]) (by simp [results, Tryd.results32, go_sem, *]) rfl ⟨?_, ?_⟩
          · have hr := HR.out
            rw [hrd] at hr
            unfold AddrPost
            rw [← hr]
          · exact ((HB.out.setCell (by simp) _).setCell (by simp) _).setCell (by simp) _

        · have hv := (readN_bound hrn (by decide)).1
          have hrl := (readN_bound hrn (by decide)).2
          rw [← Lib.size_eq] at hrl
          have hrd : rdA 58 16 65535 step6 (m + 1) (decide (0 = 0)) (hi, lo) u.data.toList = rdA 58 16 65535 step6 m false (step6 (hi, lo) v) r := by simp [rdA, nextPart, hrn]
          have HN : Hid _ := num_16_some u 65535 hus (by decide) hrn
          clear hrn
          go_wp2_with (first | (go_at_call 35; refine (HN.out _).mono ?_; rintro e w1 ⟨rfl, rfl⟩) | (go_at_call 42; refine (push16 _ _ _ _ _ hlo hv).mono ?_; rintro e w2 ⟨rfl, hb2⟩; have hF2 := HF.out.below hb2; have b0 := hF2.a0; have b1 := hF2.a1; have b2 := hF2.a2; have c0 := hF2.fa0; have c1 := hF2.fa1; have c2 := hF2.fa2; have HF2 : Hid _ := hF2; clear hF2))

          go_roundw
          case rel =>
            have hr := HR.out
            rw [hrd] at hr
            exact ⟨_, 0 + 1, (p16h hi lo), p16l lo v, rfl, by go_num, by omega, by rw [mk_size]; omega, by unfold p16h; omega, by unfold p16l; omega, HF2.out.store (p16h hi lo) (p16l lo v), (((HB.out.trans (hb2.mono hsz)).setCell (by dsimp only; omega) _).setCell (by dsimp only; omega) _).setCell (by dsimp only; omega) _, by show _ = _; rw [← hr, HM.out]; rfl⟩
          case measure => simp [intOf] <;> omega

      · have hk1 : (0 : Int) < (k : Int) := by omega
        rcases hul : u.data.toList with _ | ⟨c, l1⟩
        · have hrd : rdA 58 16 65535 step6 (m + 1) (decide (k = 0)) (hi, lo) u.data.toList = none := by simp [rdA, nextPart, hk0, hul, skipB]
          have HN : Hid _ := fun w => skip_empty u { data := #[58] } w (by rw [Lib.size_eq, hul]; rfl)
          clear hul
          go_wp2_with (first | (go_at_call 33; refine (HN.out _).mono ?_; rintro e w1 ⟨rfl, rfl⟩))

          refine bodyPost_ret (v := .tuple #[addr 0 0 0, .string ⟨#[]⟩, .bool false]) (by simp [results, Tryd.results32, go_sem, *]) rfl ⟨?_, ?_⟩
          · have hr := HR.out
            rw [hrd] at hr
            unfold AddrPost
            rw [← hr]
          · exact ((HB.out.setCell (by simp) _).setCell (by simp) _).setCell (by simp) _

        · by_cases hc : c = 58
          · subst hc
            have HN : Hid _ := fun w => skip_yes u { data := #[58] } _ l1 w hul hus rfl
            have hl1 : (⟨l1.toArray⟩ : ByteArray).size + 1 = u.size := by rw [Lib.size_eq u, hul]; rfl
            rcases hrn : readN 16 65535 0 false l1 with _ | ⟨v, r⟩
            · have hrd : rdA 58 16 65535 step6 (m + 1) (decide (k = 0)) (hi, lo) u.data.toList = none := by simp [rdA, nextPart, hk0, hul, skipB, hrn]
              have HN2 : Hid _ := num_16_none ⟨l1.toArray⟩ 65535 (by omega) (by decide) (by simpa using hrn)
              clear hrn hul hl1
              go_wp2_with (first | (go_at_call 33; refine (HN.out _).mono ?_; rintro e w1 ⟨rfl, rfl⟩) | (go_at_call 35; refine (HN2.out _).mono ?_; rintro e w1 ⟨⟨v1, u1, rfl⟩, rfl⟩))

              refine bodyPost_ret (v := .tuple #[addr 0 0 0, .string ⟨#[]⟩, .bool false]) (by simp [results, Tryd.results32, go_sem, *]) rfl ⟨?_, ?_⟩
              · have hr := HR.out
                rw [hrd] at hr
                unfold AddrPost
                rw [← hr]
              · exact ((HB.out.setCell (by simp) _).setCell (by simp) _).setCell (by simp) _

            · have hv := (readN_bound hrn (by decide)).1
              have hrl := (readN_bound hrn (by decide)).2
              have hrd : rdA 58 16 65535 step6 (m + 1) (decide (k = 0)) (hi, lo) u.data.toList = rdA 58 16 65535 step6 m false (step6 (hi, lo) v) r := by simp [rdA, nextPart, hk0, hul, skipB, hrn]
              have HN2 : Hid _ := num_16_some ⟨l1.toArray⟩ 65535 (by omega) (by decide) (by simpa using hrn)
              have hl2 : l1.length + 1 = u.size := hl1
              have hl3 : r.length ≤ u.size := by omega
              clear hrn hul hl1 hl2 hrl
              go_wp2_with (first | (go_at_call 33; refine (HN.out _).mono ?_; rintro e w1 ⟨rfl, rfl⟩) | (go_at_call 35; refine (HN2.out _).mono ?_; rintro e w1 ⟨rfl, rfl⟩) | (go_at_call 42; refine (push16 _ _ _ _ _ hlo hv).mono ?_; rintro e w2 ⟨rfl, hb2⟩; have hF2 := HF.out.below hb2; have b0 := hF2.a0; have b1 := hF2.a1; have b2 := hF2.a2; have c0 := hF2.fa0; have c1 := hF2.fa1; have c2 := hF2.fa2; have HF2 : Hid _ := hF2; clear hF2))

              go_roundw
              case rel =>
                have hr := HR.out
                rw [hrd] at hr
                exact ⟨_, k + 1, (p16h hi lo), p16l lo v, rfl, by go_num, by omega, by rw [mk_size]; omega, by unfold p16h; omega, by unfold p16l; omega, HF2.out.store (p16h hi lo) (p16l lo v), (((HB.out.trans (hb2.mono hsz)).setCell (by dsimp only; omega) _).setCell (by dsimp only; omega) _).setCell (by dsimp only; omega) _, by show _ = _; rw [← hr, HM.out]; rfl⟩
              case measure => simp [intOf] <;> omega

          · have hrd : rdA 58 16 65535 step6 (m + 1) (decide (k = 0)) (hi, lo) u.data.toList = none := by simp [rdA, nextPart, hk0, hul, skipB, hc]
            have HN : Hid _ := fun w => skip_no u { data := #[58] } c 58 l1 w hul hus rfl hc
            clear hul hc
            go_wp2_with (first | (go_at_call 33; refine (HN.out _).mono ?_; rintro e w1 ⟨rfl, rfl⟩))

            refine bodyPost_ret (v := .tuple #[addr 0 0 0, .string ⟨#[]⟩, .bool false]) (by simp [results, Tryd.results32, go_sem, *]) rfl ⟨?_, ?_⟩
            · have hr := HR.out
              rw [hrd] at hr
              unfold AddrPost
              rw [← hr]
            · exact ((HB.out.setCell (by simp) _).setCell (by simp) _).setCell (by simp) _

    · have hk4 : k = 8 := by omega
      subst hk4
      clear hlt hk
      have HR2 : Hid (some ((hi, lo), u.data.toList) = rdA 58 16 65535 step6 8 true (0, 0) t.data.toList) := HR
      clear HR
      go_wp2
      refine bodyPost_ret (v := .tuple #[addr 6 hi lo, .string u, .bool true]) (by simp [results, Tryd.results32, go_sem, *]) rfl ⟨?_, ?_⟩
      · have hr := HR2.out
        unfold AddrPost
        rw [← hr]
      · exact ((HB.out.setCell (by simp) _).setCell (by simp) _).setCell (by simp) _
end Go.Proofs.YtnfkgnjeamnhfaaDoor
