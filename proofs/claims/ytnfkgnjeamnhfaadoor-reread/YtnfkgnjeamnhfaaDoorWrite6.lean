import Derived.Test.YtnfkgnjeamnhfaaDoorWrite
namespace Go.Proofs.YtnfkgnjeamnhfaaDoor
open Go.RowKit

/-- writeAddress's two blocks: the address so far, the style. -/
structure Fw6 (B : Nat) (wr : World) (hi lo : Nat) : Prop where
  a0 : wr.cell? ⟨B, 0, none⟩ = some (.int .i64 6)
  a1 : wr.cell? ⟨B, 1, none⟩ = some (.int .u64 hi)
  a2 : wr.cell? ⟨B, 2, none⟩ = some (.int .u64 lo)
  fa0 : wr.frozen? ⟨B, 0, none⟩ = false
  fa1 : wr.frozen? ⟨B, 1, none⟩ = false
  fa2 : wr.frozen? ⟨B, 2, none⟩ = false
  s1 : wr.cell? ⟨B + 1, 1, none⟩ = some (.int .i64 8)
  s2 : wr.cell? ⟨B + 1, 2, none⟩ = some (.int .u64 16)
  s3 : wr.cell? ⟨B + 1, 3, none⟩ = some (.int .i64 65535)
  s4 : wr.cell? ⟨B + 1, 4, none⟩ = some (.int .i64 16)
  s5 : wr.cell? ⟨B + 1, 5, none⟩ = some (.string { data := #[58] })
  hz : B + 1 < wr.heap.size
theorem Fw6.below {B : Nat} {wr w2 : World} {hi lo : Nat} (h : Fw6 B wr hi lo) (hb : Below wr.heap.size wr w2) : Fw6 B w2 hi lo := by
  have hz := h.hz
  have hs := hb.size
  obtain ⟨hc, hf⟩ := bcell hb
  exact ⟨(hc _ _ (by omega)).trans h.a0, (hc _ _ (by omega)).trans h.a1, (hc _ _ (by omega)).trans h.a2, (hf _ _ (by omega)).trans h.fa0, (hf _ _ (by omega)).trans h.fa1, (hf _ _ (by omega)).trans h.fa2,
    (hc _ _ (by omega)).trans h.s1, (hc _ _ (by omega)).trans h.s2, (hc _ _ (by omega)).trans h.s3, (hc _ _ (by omega)).trans h.s4, (hc _ _ (by omega)).trans h.s5, by omega⟩
theorem Fw6.store {B : Nat} {w2 : World} {hi lo : Nat} (h : Fw6 B w2 hi lo) (hi' lo' : Nat) :
    Fw6 B (((w2.setCell ⟨B, 0, none⟩ (.int .i64 6)).setCell ⟨B, 1, none⟩ (.int .u64 hi')).setCell ⟨B, 2, none⟩ (.int .u64 lo')) hi' lo' := by
  obtain ⟨a0, a1, a2, fa0, fa1, fa2, s1, s2, s3, s4, s5, hz⟩ := h
  constructor <;> go_simp

set_option maxHeartbeats 4000000 in
theorem write6_any (hi0 lo0 : Nat) (w : World) (hlo0 : lo0 ≤ 18446744073709551615) (ht : w.cell? ⟨2, 15, none⟩ = some (.int .u8 4)) (hw : 2 < w.heap.size) :
    Calls Tryd.prog 29 #[addr 6 hi0 lo0, sty6] w fun e w' => e = .returned (.string ⟨(wrA 58 hexD low6 pop6f 8 true (hi0, lo0) []).toArray⟩) ∧ Below w.heap.size w w' := by
  go_enter Tryd.func29, Tryd.ntmps29
  go_wp2
  go_loopw [5, 6] (fun tx i wr => ∃ (u : ByteArray) (k hi lo : Nat), tx = .string u ∧ i = .int .i64 k ∧ k ≤ 8 ∧ u.size ≤ 5 * k ∧ lo ≤ 18446744073709551615 ∧ Fw6 w.heap.size wr hi lo ∧ Below w.heap.size w wr ∧ Hid (wrA 58 hexD low6 pop6f (8 - k) (decide (k = 0)) (hi, lo) u.data.toList = wrA 58 hexD low6 pop6f 8 true (hi0, lo0) [])) (fun _ i _ => 8 - (intOf i).toNat)
  case atStart => exact ⟨⟨#[]⟩, 0, hi0, lo0, rfl, rfl, by omega, Nat.le_refl _, hlo0, by constructor <;> go_simp, ((Below.refl _ _).alloc (Nat.le_refl _) _).alloc (by simp) _, rfl⟩
  case round =>
    obtain ⟨u, k, hi, lo, rfl, rfl, hk, hu, hlo, hF, hB, HR⟩ := hrel
    have HB : Hid _ := hB
    clear hB
    have HF : Hid _ := hF
    have hsz := HB.out.size
    obtain ⟨a0, a1, a2, fa0, fa1, fa2, s1, s2, s3, s4, s5, hz⟩ := hF
    by_cases hlt : k < 8
    · obtain ⟨m, hm⟩ : ∃ m, 8 - k = m + 1 := ⟨8 - k - 1, by omega⟩
      have HMm : Hid (8 - (k + 1) = m) := by show _ = _; omega
      rw [hm] at HR
      clear hm
      obtain ⟨p, hp⟩ : ∃ p, p = lo % 65536 := ⟨_, rfl⟩
      have hp2 : p ≤ 65535 := by omega
      have HP : Hid (p = low6 (hi, lo)) := hp
      have hand : bits .and .u64 (lo : Int) 65535 = (p : Int) := by
        have := bits_and_u64_nat lo 65535 (by omega) (by omega)
        rw [show ((65535 : Nat) : Int) = 65535 from rfl] at this
        rw [this, hp, Nat.and_two_pow_sub_one_eq_mod lo 16]
      have HM := Lib.hid (fmt16_any p (by omega) wr ((HB.out.cell (p := ⟨2, 15, none⟩) hw).trans ht) (by omega))
      clear hp
      have hdl := (hexD_65535 p (by omega))
      by_cases hk0 : k = 0
      · subst hk0
        clear hlt
        have hk1 : ¬ (0 : Int) < ((0 : Nat) : Int) := by decide
        go_wp2_with (first | (go_at_call 39; refine HM.out.mono ?_; rintro e w1 ⟨rfl, hb1⟩; have HF1 : Hid _ := HF.out.below hb1; have p0 := HF1.out.a0; have p1 := HF1.out.a1; have p2 := HF1.out.a2; have p3 := HF1.out.s2) | (go_at_call 40; refine (pop16 _ _ _ _ hlo).mono ?_; rintro e w2 ⟨rfl, hb2⟩; have HF2 : Hid _ := HF1.out.below hb2; have q0 := HF2.out.a0; have q1 := HF2.out.a1; have q2 := HF2.out.a2; have r0 := HF2.out.fa0; have r1 := HF2.out.fa1; have r2 := HF2.out.fa2))

        go_roundw
        case rel =>
          have hr := HR.out
          have e1 : p = low6 (hi, lo) := HP.out
          have hsz1 := hb1.size
          refine ⟨_, 0 + 1, hi / 65536, q16l hi lo, rfl, by go_num, by omega, ?_, by unfold q16l; omega, HF2.out.store (hi / 65536) (q16l hi lo), (((((HB.out.trans (hb1.mono hsz)).trans (hb2.mono (by omega)))).setCell (Nat.le_refl _) _).setCell (Nat.le_refl _) _).setCell (Nat.le_refl _) _, ?_⟩
          · have := (hexD_65535 p (by omega))
            rw [ByteArray.size_append, mk_size]; omega
          · show _ = _
            rw [HMm.out, ← hr, e1]
            simp [wrA, ByteArray.data_append, pop6f]
        case measure => simp [intOf] <;> omega

      · have hk1 : (0 : Int) < (k : Int) := by omega
        go_wp2_with (first | (go_at_call 39; refine HM.out.mono ?_; rintro e w1 ⟨rfl, hb1⟩; have HF1 : Hid _ := HF.out.below hb1; have p0 := HF1.out.a0; have p1 := HF1.out.a1; have p2 := HF1.out.a2; have p3 := HF1.out.s2) | (go_at_call 40; refine (pop16 _ _ _ _ hlo).mono ?_; rintro e w2 ⟨rfl, hb2⟩; have HF2 : Hid _ := HF1.out.below hb2; have q0 := HF2.out.a0; have q1 := HF2.out.a1; have q2 := HF2.out.a2; have r0 := HF2.out.fa0; have r1 := HF2.out.fa1; have r2 := HF2.out.fa2))

        go_roundw
        case rel =>
          have hr := HR.out
          have e1 : p = low6 (hi, lo) := HP.out
          have hsz1 := hb1.size
          refine ⟨_, k + 1, hi / 65536, q16l hi lo, rfl, by go_num, by omega, ?_, by unfold q16l; omega, HF2.out.store (hi / 65536) (q16l hi lo), (((((HB.out.trans (hb1.mono hsz)).trans (hb2.mono (by omega)))).setCell (Nat.le_refl _) _).setCell (Nat.le_refl _) _).setCell (Nat.le_refl _) _, ?_⟩
          · have := (hexD_65535 p (by omega))
            rw [ByteArray.size_append, ByteArray.size_append, mk_size]; show _ + (1 + _) ≤ _; omega
          · show _ = _
            rw [HMm.out, ← hr, e1]
            simp [wrA, ByteArray.data_append, pop6f, hk0]
        case measure => simp [intOf] <;> omega

    · have hk4 : k = 8 := by omega
      subst hk4
      clear hlt hk
      have HR2 : Hid (u.data.toList = wrA 58 hexD low6 pop6f 8 true (hi0, lo0) []) := HR
      clear HR
      go_wp2
      go_ret
      exact ⟨by rw [← HR2.out]; rfl, HB.out⟩
end Go.Proofs.YtnfkgnjeamnhfaaDoor
