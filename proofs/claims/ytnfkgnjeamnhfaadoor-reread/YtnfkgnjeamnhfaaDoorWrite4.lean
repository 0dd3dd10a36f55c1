import Derived.Test.YtnfkgnjeamnhfaaDoorWrite
namespace Go.Proofs.YtnfkgnjeamnhfaaDoor
open Go.RowKit

/-- writeAddress's two blocks: the address so far, the style. -/
structure Fw4 (B : Nat) (wr : World) (lo : Nat) : Prop where
  a0 : wr.cell? ⟨B, 0, none⟩ = some (.int .i64 4)
  a1 : wr.cell? ⟨B, 1, none⟩ = some (.int .u64 0)
  a2 : wr.cell? ⟨B, 2, none⟩ = some (.int .u64 lo)
  fa0 : wr.frozen? ⟨B, 0, none⟩ = false
  fa1 : wr.frozen? ⟨B, 1, none⟩ = false
  fa2 : wr.frozen? ⟨B, 2, none⟩ = false
  s1 : wr.cell? ⟨B + 1, 1, none⟩ = some (.int .i64 4)
  s2 : wr.cell? ⟨B + 1, 2, none⟩ = some (.int .u64 8)
  s3 : wr.cell? ⟨B + 1, 3, none⟩ = some (.int .i64 255)
  s4 : wr.cell? ⟨B + 1, 4, none⟩ = some (.int .i64 10)
  s5 : wr.cell? ⟨B + 1, 5, none⟩ = some (.string { data := #[46] })
  hz : B + 1 < wr.heap.size
theorem Fw4.below {B : Nat} {wr w2 : World} {lo : Nat} (h : Fw4 B wr lo) (hb : Below wr.heap.size wr w2) : Fw4 B w2 lo := by
  have hz := h.hz
  have hs := hb.size
  obtain ⟨hc, hf⟩ := bcell hb
  exact ⟨(hc _ _ (by omega)).trans h.a0, (hc _ _ (by omega)).trans h.a1, (hc _ _ (by omega)).trans h.a2, (hf _ _ (by omega)).trans h.fa0, (hf _ _ (by omega)).trans h.fa1, (hf _ _ (by omega)).trans h.fa2,
    (hc _ _ (by omega)).trans h.s1, (hc _ _ (by omega)).trans h.s2, (hc _ _ (by omega)).trans h.s3, (hc _ _ (by omega)).trans h.s4, (hc _ _ (by omega)).trans h.s5, by omega⟩
theorem Fw4.store {B : Nat} {w2 : World} {lo : Nat} (h : Fw4 B w2 lo) (lo' : Nat) :
    Fw4 B (((w2.setCell ⟨B, 0, none⟩ (.int .i64 4)).setCell ⟨B, 1, none⟩ (.int .u64 0)).setCell ⟨B, 2, none⟩ (.int .u64 lo')) lo' := by
  obtain ⟨a0, a1, a2, fa0, fa1, fa2, s1, s2, s3, s4, s5, hz⟩ := h
  constructor <;> go_simp

set_option maxHeartbeats 4000000 in
theorem write4_any (lo0 : Nat) (w : World) (hlo0 : lo0 ≤ 4294967295) (htab : Lib.TabIs Tryd.prog w "internal/strconv.uint64pow10" .u64 Lib.pow10Tab) :
    Calls Tryd.prog 29 #[addr 4 0 lo0, sty4] w fun e w' => e = .returned (.string ⟨(wrA 46 Lib.decDigits low4 pop4f 4 true (0, lo0) []).toArray⟩) ∧ Below w.heap.size w w' := by
  go_enter Tryd.func29, Tryd.ntmps29
  go_wp2
  go_loopw [5, 6] (fun tx i wr => ∃ (u : ByteArray) (k lo : Nat), tx = .string u ∧ i = .int .i64 k ∧ k ≤ 4 ∧ u.size ≤ 5 * k ∧ lo ≤ 4294967295 ∧ Fw4 w.heap.size wr lo ∧ Below w.heap.size w wr ∧ Hid (wrA 46 Lib.decDigits low4 pop4f (4 - k) (decide (k = 0)) (0, lo) u.data.toList = wrA 46 Lib.decDigits low4 pop4f 4 true (0, lo0) [])) (fun _ i _ => 4 - (intOf i).toNat)
  case atStart => exact ⟨⟨#[]⟩, 0, lo0, rfl, rfl, by omega, Nat.le_refl _, hlo0, by constructor <;> go_simp, ((Below.refl _ _).alloc (Nat.le_refl _) _).alloc (by simp) _, rfl⟩
  case round =>
    obtain ⟨u, k, lo, rfl, rfl, hk, hu, hlo, hF, hB, HR⟩ := hrel
    have HB : Hid _ := hB
    clear hB
    have HF : Hid _ := hF
    have hsz := HB.out.size
    obtain ⟨a0, a1, a2, fa0, fa1, fa2, s1, s2, s3, s4, s5, hz⟩ := hF
    by_cases hlt : k < 4
    · obtain ⟨m, hm⟩ : ∃ m, 4 - k = m + 1 := ⟨4 - k - 1, by omega⟩
      have HMm : Hid (4 - (k + 1) = m) := by show _ = _; omega
      rw [hm] at HR
      clear hm
      obtain ⟨p, hp⟩ : ∃ p, p = lo % 256 := ⟨_, rfl⟩
      have hp2 : p ≤ 255 := by omega
      have HP : Hid (p = low4 (0, lo)) := hp
      have hand : bits .and .u64 (lo : Int) 255 = (p : Int) := by
        have := bits_and_u64_nat lo 255 (by omega) (by omega)
        rw [show ((255 : Nat) : Int) = 255 from rfl] at this
        rw [this, hp, Nat.and_two_pow_sub_one_eq_mod lo 8]
      have HM := Lib.hid (fmt10_any p (by omega) wr (Joins.tab_stays gpow htab HB.out (Nat.le_refl _)))
      clear hp
      have hdl := (decDigits_255 p (by omega))
      by_cases hk0 : k = 0
      · subst hk0
        clear hlt
        have hk1 : ¬ (0 : Int) < ((0 : Nat) : Int) := by decide
        go_wp2_with (first | (go_at_call 39; refine HM.out.mono ?_; rintro e w1 ⟨rfl, hb1⟩; have HF1 : Hid _ := HF.out.below hb1; have p0 := HF1.out.a0; have p1 := HF1.out.a1; have p2 := HF1.out.a2; have p3 := HF1.out.s2) | (go_at_call 40; refine (pop8 _ _ _ hlo).mono ?_; rintro e w2 ⟨rfl, hb2⟩; have HF2 : Hid _ := HF1.out.below hb2; have q0 := HF2.out.a0; have q1 := HF2.out.a1; have q2 := HF2.out.a2; have r0 := HF2.out.fa0; have r1 := HF2.out.fa1; have r2 := HF2.out.fa2))

        go_roundw
        case rel =>
          have hr := HR.out
          have e1 : p = low4 (0, lo) := HP.out
          have hsz1 := hb1.size
          refine ⟨_, 0 + 1, lo / 256, rfl, by go_num, by omega, ?_, by omega, HF2.out.store (lo / 256), (((((HB.out.trans (hb1.mono hsz)).trans (hb2.mono (by omega)))).setCell (Nat.le_refl _) _).setCell (Nat.le_refl _) _).setCell (Nat.le_refl _) _, ?_⟩
          · have := (decDigits_255 p (by omega))
            rw [ByteArray.size_append, mk_size]; omega
          · show _ = _
            rw [HMm.out, ← hr, e1]
            simp [wrA, ByteArray.data_append, pop4f]
        case measure => simp [intOf] <;> omega

      · have hk1 : (0 : Int) < (k : Int) := by omega
        go_wp2_with (first | (go_at_call 39; refine HM.out.mono ?_; rintro e w1 ⟨rfl, hb1⟩; have HF1 : Hid _ := HF.out.below hb1; have p0 := HF1.out.a0; have p1 := HF1.out.a1; have p2 := HF1.out.a2; have p3 := HF1.out.s2) | (go_at_call 40; refine (pop8 _ _ _ hlo).mono ?_; rintro e w2 ⟨rfl, hb2⟩; have HF2 : Hid _ := HF1.out.below hb2; have q0 := HF2.out.a0; have q1 := HF2.out.a1; have q2 := HF2.out.a2; have r0 := HF2.out.fa0; have r1 := HF2.out.fa1; have r2 := HF2.out.fa2))

        go_roundw
        case rel =>
          have hr := HR.out
          have e1 : p = low4 (0, lo) := HP.out
          have hsz1 := hb1.size
          refine ⟨_, k + 1, lo / 256, rfl, by go_num, by omega, ?_, by omega, HF2.out.store (lo / 256), (((((HB.out.trans (hb1.mono hsz)).trans (hb2.mono (by omega)))).setCell (Nat.le_refl _) _).setCell (Nat.le_refl _) _).setCell (Nat.le_refl _) _, ?_⟩
          · have := (decDigits_255 p (by omega))
            rw [ByteArray.size_append, ByteArray.size_append, mk_size]; show _ + (1 + _) ≤ _; omega
          · show _ = _
            rw [HMm.out, ← hr, e1]
            simp [wrA, ByteArray.data_append, pop4f, hk0]
        case measure => simp [intOf] <;> omega

    · have hk4 : k = 4 := by omega
      subst hk4
      clear hlt hk
      have HR2 : Hid (u.data.toList = wrA 46 Lib.decDigits low4 pop4f 4 true (0, lo0) []) := HR
      clear HR
      go_wp2
      go_ret
      exact ⟨by rw [← HR2.out]; rfl, HB.out⟩
end Go.Proofs.YtnfkgnjeamnhfaaDoor
