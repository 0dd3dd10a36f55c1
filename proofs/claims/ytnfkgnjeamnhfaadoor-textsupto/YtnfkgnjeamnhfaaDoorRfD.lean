import Derived.Test.YtnfkgnjeamnhfaaDoorRfC
namespace Go.Proofs.YtnfkgnjeamnhfaaDoor
open Go.RowKit


set_option maxHeartbeats 8000000 in
theorem rparse_6 (l la lb : List UInt8) (w : World) (hs : l.length ≤ 1048576) (hsp : splitG 47 [] l = [la, lb]) (ws : List (List UInt8)) (hws : splitG 46 [] la = ws) (m : Nat) (hm : ws.length = m) (h4 : ((m : Int) == 4) = false) (ws6 : List (List UInt8)) (hws6 : splitG 58 [] la = ws6) (hm6 : ws6.length = 8) :
    Calls Tryd.prog 6 #[.string ⟨l.toArray⟩] w fun e w' => RPost ((f6 ws6 0 0 0).bind fun a => fin 6 a.1 a.2 (valF 10 128 lb)) e ∧ Below w.heap.size w w' := by
  have HLW : Hid (ws6.length = 8) := hm6
  have HLX : Hid (∀ x ∈ ws6, x.length ≤ 1048576) := by
    intro x hx
    rw [← hws6] at hx
    have h1 := splitG_len 58 la [] x hx
    have h2 := splitG_len 47 l [] la (by rw [hsp]; simp)
    simp at h1 h2
    omega
  have HP := Lib.hid (fun w => parts_row l 47 w hs [la, lb] hsp 2 rfl)
  have hla : la.length ≤ 1048576 := by have := splitG_len 47 l [] la (by rw [hsp]; simp); simp at this; omega
  have hlb : lb.length ≤ 1048576 := by have := splitG_len 47 l [] lb (by rw [hsp]; simp); simp at this; omega
  have HV := Lib.hid (fun w => value10_any ⟨lb.toArray⟩ 128 w (by rw [mk_size]; unfold maxLen; omega))
  have HW := Lib.hid (fun w => parts_row la 46 w hla ws hws m hm)
  have HW6 := Lib.hid (fun w => parts_row la 58 w hla ws6 hws6 8 hm6)
  obtain ⟨n, hn⟩ : ∃ n, n = valF 10 128 lb := ⟨_, rfl⟩
  have hn1 : -1 ≤ n := by rw [hn]; exact (valF_range _ _ _).1
  have hn2 : n ≤ 128 := by rw [hn]; exact (valF_range 10 128 lb).2
  have HV2 : Hid (∀ w, Calls Tryd.prog 15 #[.string ⟨lb.toArray⟩, .int .i64 10, .int .i64 128] w fun e w' => e = .returned (.int .i64 n) ∧ Below w.heap.size w w') := by
    intro w; rw [hn]; exact HV.out w
  rw [← hn]
  have HNN := Lib.hid hn
  clear hsp hm hn HV hws hws6 hm6
  go_enter Tryd.func6, Tryd.ntmps6
  go_wp2_with fail
  refine (HP.out _).mono ?_
  rintro e w1 ⟨g1, cap1, rfl, hcap1, hg1, hgz1, hR1, hb1⟩
  have s1 : (w.alloc (.cells #[.int .i64 0, .int .u64 0, .int .u64 0, .int .i64 0] 26)).heap.size = w.heap.size + 1 := by simp
  rw [s1] at hg1 hb1
  obtain ⟨hc1, hf1⟩ : (∀ b o, b < w.heap.size + 1 → w1.cell? ⟨b, o, none⟩ = (w.alloc (.cells #[.int .i64 0, .int .u64 0, .int .u64 0, .int .i64 0] 26)).cell? ⟨b, o, none⟩) ∧ (∀ b o, b < w.heap.size + 1 → w1.frozen? ⟨b, o, none⟩ = (w.alloc (.cells #[.int .i64 0, .int .u64 0, .int .u64 0, .int .i64 0] 26)).frozen? ⟨b, o, none⟩) := ⟨fun b o h => hb1.cell (p := ⟨b, o, none⟩) h, fun b o h => hb1.frozen (p := ⟨b, o, none⟩) h⟩
  have a0 : w1.cell? ⟨w.heap.size, 0, none⟩ = some (.int .i64 0) := by rw [hc1 _ _ (by omega)]; simp
  have a1 : w1.cell? ⟨w.heap.size, 1, none⟩ = some (.int .u64 0) := by rw [hc1 _ _ (by omega)]; simp
  have a2 : w1.cell? ⟨w.heap.size, 2, none⟩ = some (.int .u64 0) := by rw [hc1 _ _ (by omega)]; simp
  have a3 : w1.cell? ⟨w.heap.size, 3, none⟩ = some (.int .i64 0) := by rw [hc1 _ _ (by omega)]; simp
  have b0 : w1.frozen? ⟨w.heap.size, 0, none⟩ = false := by rw [hf1 _ _ (by omega)]; simp
  have b1 : w1.frozen? ⟨w.heap.size, 1, none⟩ = false := by rw [hf1 _ _ (by omega)]; simp
  have b2 : w1.frozen? ⟨w.heap.size, 2, none⟩ = false := by rw [hf1 _ _ (by omega)]; simp
  have b3 : w1.frozen? ⟨w.heap.size, 3, none⟩ = false := by rw [hf1 _ _ (by omega)]; simp
  have l0 := hR1 0 la rfl
  have l1 := hR1 1 lb rfl
  have HB1 := Lib.hid (((Below.refl w.heap.size w).alloc (Nat.le_refl _) (.cells #[.int .i64 0, .int .u64 0, .int .u64 0, .int .i64 0] 26)).trans (hb1.mono (by omega)))
  clear hc1 hf1 hb1 hR1 s1
  go_wp2_with fail
  refine (HV2.out _).mono ?_
  rintro e w2 ⟨rfl, hb2⟩
  obtain ⟨hc2, hf2⟩ := bcell hb2
  have hz2 := hb2.size
  have l0' := (hc2 g1 0 hgz1).trans l0
  have hgw : g1 < w2.heap.size := by omega
  have HFA := Lib.hid (show w2.cell? ⟨w.heap.size, 0, none⟩ = some (.int .i64 0) ∧ w2.cell? ⟨w.heap.size, 1, none⟩ = some (.int .u64 0) ∧ w2.cell? ⟨w.heap.size, 2, none⟩ = some (.int .u64 0) ∧ w2.cell? ⟨w.heap.size, 3, none⟩ = some (.int .i64 0) ∧ w2.frozen? ⟨w.heap.size, 0, none⟩ = false ∧ w2.frozen? ⟨w.heap.size, 1, none⟩ = false ∧ w2.frozen? ⟨w.heap.size, 2, none⟩ = false ∧ w2.frozen? ⟨w.heap.size, 3, none⟩ = false from ⟨(hc2 _ _ (by omega)).trans a0, (hc2 _ _ (by omega)).trans a1, (hc2 _ _ (by omega)).trans a2, (hc2 _ _ (by omega)).trans a3, (hf2 _ _ (by omega)).trans b0, (hf2 _ _ (by omega)).trans b1, (hf2 _ _ (by omega)).trans b2, (hf2 _ _ (by omega)).trans b3⟩)
  have HB2 := Lib.hid (HB1.out.trans (hb2.mono (by omega)))
  clear hc2 hf2 hb2 a0 a1 a2 a3 b0 b1 b2 b3 l0 l1
  go_wp2_with fail
  refine (HW.out _).mono ?_
  rintro e w3 ⟨g2, cap2, rfl, hcap2, hg2, hgz2, hR2, hb3⟩
  have s2 : (w2.alloc (.cells #[.int .i64 4, .int .u64 0, .int .u64 0, .int .i64 n] 26)).heap.size = w2.heap.size + 1 := by simp
  rw [s2] at hg2 hb3
  have hF0 : Fp w.heap.size w2.heap.size g2 w3 4 0 0 n ws := by
    obtain ⟨x0, x1, x2, x3, y0, y1, y2, y3⟩ := HFA.out
    have hc : ∀ b o, b < w2.heap.size + 1 → w3.cell? ⟨b, o, none⟩ = (w2.alloc (.cells #[.int .i64 4, .int .u64 0, .int .u64 0, .int .i64 n] 26)).cell? ⟨b, o, none⟩ := fun b o h => hb3.cell (p := ⟨b, o, none⟩) h
    have hf : ∀ b o, b < w2.heap.size + 1 → w3.frozen? ⟨b, o, none⟩ = (w2.alloc (.cells #[.int .i64 4, .int .u64 0, .int .u64 0, .int .i64 n] 26)).frozen? ⟨b, o, none⟩ := fun b o h => hb3.frozen (p := ⟨b, o, none⟩) h
    have hlt : w.heap.size < w2.heap.size := by omega
    refine ⟨?_, ?_, ?_, ?_, ?_, ?_, ?_, ?_, ?_, ?_, ?_, ?_, ?_, ?_, ?_, ?_, hR2⟩
    all_goals first | (rw [hc _ _ (by omega)]; go_simp; done) | (rw [hf _ _ (by omega)]; go_simp; done)
  have HF0 := Lib.hid hF0
  have HB3 := Lib.hid ((HB2.out.alloc (by omega) (.cells #[.int .i64 4, .int .u64 0, .int .u64 0, .int .i64 n] 26)).trans (hb3.mono (by omega)))
  have l0'' : w3.cell? ⟨g1, 0, none⟩ = some (.string ⟨la.toArray⟩) := by
    rw [hb3.cell (p := ⟨g1, 0, none⟩) (show g1 < _ by omega), World.cell?_alloc_past _ _ _ hgw]; exact l0'
  have hgw3 : g1 < w3.heap.size := by omega
  have hz3 : w2.heap.size < w3.heap.size := by omega
  have hwz : w.heap.size < w2.heap.size := by omega
  clear hF0 hb3 hR2 l0' HFA s2
  go_wp2_with fail
  refine (HW6.out _).mono ?_
  rintro e w4 ⟨g3, cap3, rfl, hcap3, hg3, hgz3, hR3, hb4⟩
  have HF2 : Hid (Fp w.heap.size w2.heap.size g3 w4 4 0 0 n ws6) := by
    have := HF0.out.below hb4 (by omega) (by omega) (by omega)
    exact ⟨this.r0, this.r1, this.r2, this.r3, this.fr0, this.fr1, this.fr2, this.fr3, this.p0, this.p1, this.p2, this.p3, this.fp0, this.fp1, this.fp2, this.fp3, hR3⟩
  have HB4' := Lib.hid (HB3.out.trans (hb4.mono (by omega)))
  have hgs : w2.heap.size < g3 := by omega
  obtain ⟨q0, q1, q2, q3, fq0, fq1, fq2, fq3, m0, m1, m2, m3, fm0, fm1, fm2, fm3, mw⟩ := HF2.out
  clear hb4 hR3 mw
  have HF3 := Lib.hid (HF2.out.set0 (by omega) (by omega) 6)
  go_wp2
  go_loopw [9] (fun i wr => ∃ k hi lo : Nat, i = .int .i64 k ∧ k ≤ 8 ∧ hi < 65536 ^ (min k 4) ∧ lo < 65536 ^ (k - 4) ∧ Fp w.heap.size w2.heap.size g3 wr 6 hi lo n ws6 ∧ g3 < wr.heap.size ∧ Below w.heap.size w wr ∧ Hid (f6 ws6 0 0 0 = f6 (ws6.drop k) k hi lo)) (fun i _ => 8 - (intOf i).toNat)
  case atStart => exact ⟨0, 0, 0, rfl, by omega, by simp, by simp, HF3.out, by simpa using hgz3, HB4'.out.setCell (by show _ ≤ w2.heap.size; omega) _, rfl⟩
  case round =>
    obtain ⟨k, hi, lo, rfl, hk, hhi, hlo, hF, hgz, hb4, HR⟩ := hrel
    have HF1 := Lib.hid hF
    have HB4 := Lib.hid hb4
    have hhi2 : hi ≤ 18446744073709551615 := by
      have : 65536 ^ (min k 4) ≤ 65536 ^ 4 := Nat.pow_le_pow_right (by decide) (by omega)
      omega
    have hlo2 : lo ≤ 18446744073709551615 := by
      have : 65536 ^ (k - 4) ≤ 65536 ^ 4 := Nat.pow_le_pow_right (by decide) (by omega)
      omega
    clear hb4 q0 q1 q2 q3 fq0 fq1 fq2 fq3 m0 m1 m2 m3 fm0 fm1 fm2 fm3
    by_cases hlt : k < 8
    · have HHI := Lib.hid hhi
      have HLO := Lib.hid hlo
      obtain ⟨x, hx⟩ : ∃ x, ws6[k]? = some x := ⟨_, List.getElem?_eq_getElem (by rw [HLW.out]; exact hlt)⟩
      have hxl : x.length ≤ 1048576 := HLX.out x (List.mem_of_getElem? hx)
      have hcx := hF.ww k x hx
      have HDR := Lib.hid (drop_cons_of hx)
      obtain ⟨v, hv⟩ : ∃ v, v = valF 16 65535 x := ⟨_, rfl⟩
      have hv1 : -1 ≤ v := by rw [hv]; exact (valF_range _ _ _).1
      have hv2 : v ≤ 65535 := by rw [hv]; exact (valF_range 16 65535 x).2
      have HVX : Hid (∀ w, Calls Tryd.prog 15 #[.string ⟨x.toArray⟩, .int .i64 16, .int .i64 65535] w fun e w' => e = .returned (.int .i64 v) ∧ Below w.heap.size w w') := by
        intro w; rw [hv]; exact value16_any ⟨x.toArray⟩ 65535 w (by rw [mk_size]; unfold maxLen; omega)
      have HVV := Lib.hid hv
      clear hx hv hlo hhi hF
      by_cases hneg : v < 0
      · go_wp2_with (go_at_call 15; refine (HVX.out _).mono ?_; rintro e w5 ⟨rfl, hb5⟩; refine Hid.out ?_)
        refine Lib.hid ?_
        have HFF := Lib.hid (HF1.out.below hb5 (by omega) (by omega) (by omega))
        have HB5 := Lib.hid (HB4.out.trans (hb5.mono (by omega)))
        obtain ⟨R0, R1, R2, R3, S0, S1, S2, S3, P0, P1, P2, P3, T0, T1, T2, T3, WW⟩ := HFF.out
        clear hb5 WW
        go_wp2
        refine bodyPost_ret (v := .tuple #[pref 0 0 0 0, .int .i64 5]) (by simp [results, Tryd.results6, go_sem, R0, R1, R2, R3]) rfl ⟨?_, ?_⟩
        · rw [HR.out, HDR.out]
          simp only [f6]
          rw [← HVV.out, if_pos hneg]; rfl
        · exact ((((HB5.out.setCell (Nat.le_refl _) _).setCell (Nat.le_refl _) _).setCell (Nat.le_refl _) _).setCell (Nat.le_refl _) _)
      · obtain ⟨u, rfl⟩ : ∃ u : Nat, v = (u : Int) := ⟨v.toNat, by omega⟩
        by_cases hk4 : k < 4
        · have hk4' : (k : Int) < 4 := by omega
          have hhi3 : hi ≤ 281474976710655 := by
            have : 65536 ^ (min k 4) ≤ 65536 ^ 3 := Nat.pow_le_pow_right (by decide) (by omega)
            have := HHI.out
            omega
          go_wp2_with (go_at_call 15; refine (HVX.out _).mono ?_; rintro e w5 ⟨rfl, hb5⟩; refine Hid.out ?_)
          refine Lib.hid ?_
          have HFF := Lib.hid (HF1.out.below hb5 (by omega) (by omega) (by omega))
          have HB5 := Lib.hid (HB4.out.trans (hb5.mono (by omega)))
          have hz5 := hb5.size
          obtain ⟨R0, R1, R2, R3, S0, S1, S2, S3, P0, P1, P2, P3, T0, T1, T2, T3, WW⟩ := HFF.out
          clear hb5 WW
          go_wp2
          go_roundw
          case rel =>
            refine ⟨k + 1, 65536 * hi + u, lo, by go_num, by omega, ?_, ?_, ?_, by simp; omega, HB5.out.setCell (by show _ ≤ w2.heap.size; omega) _, ?_⟩
            · have := HHI.out
              rw [Nat.min_eq_left (by omega)] at this
              rw [Nat.min_eq_left (by omega), Nat.pow_succ]; omega
            · have := HLO.out
              rw [show k - 4 = 0 by omega] at this
              rw [show k + 1 - 4 = 0 by omega]; exact this
            · have := HFF.out.set1 (by omega) (by omega) (65536 * hi + u)
              simpa using this
            · show _ = _
              rw [HR.out, HDR.out]
              simp only [f6]
              rw [← HVV.out, if_neg (by omega), if_pos hk4]; rfl
          case measure => simp [intOf] <;> omega
        · have hk4' : ¬ (k : Int) < 4 := by omega
          have hlo3 : lo ≤ 281474976710655 := by
            have : 65536 ^ (k - 4) ≤ 65536 ^ 3 := Nat.pow_le_pow_right (by decide) (by omega)
            have := HLO.out
            omega
          go_wp2_with (go_at_call 15; refine (HVX.out _).mono ?_; rintro e w5 ⟨rfl, hb5⟩; refine Hid.out ?_)
          refine Lib.hid ?_
          have HFF := Lib.hid (HF1.out.below hb5 (by omega) (by omega) (by omega))
          have HB5 := Lib.hid (HB4.out.trans (hb5.mono (by omega)))
          have hz5 := hb5.size
          obtain ⟨R0, R1, R2, R3, S0, S1, S2, S3, P0, P1, P2, P3, T0, T1, T2, T3, WW⟩ := HFF.out
          clear hb5 WW
          go_wp2
          go_roundw
          case rel =>
            refine ⟨k + 1, hi, 65536 * lo + u, by go_num, by omega, ?_, ?_, ?_, by simp; omega, HB5.out.setCell (by show _ ≤ w2.heap.size; omega) _, ?_⟩
            · have := HHI.out
              rw [Nat.min_eq_right (by omega)] at this
              rw [Nat.min_eq_right (by omega)]; exact this
            · have := HLO.out
              rw [show k + 1 - 4 = (k - 4) + 1 by omega, Nat.pow_succ]; omega
            · have := HFF.out.set2 (by omega) (by omega) (65536 * lo + u)
              simpa using this
            · show _ = _
              rw [HR.out, HDR.out]
              simp only [f6]
              rw [← HVV.out, if_neg (by omega), if_neg hk4]; rfl
          case measure => simp [intOf] <;> omega
    · obtain rfl : k = 8 := by omega
      have HE : Hid (f6 ws6 0 0 0 = some (hi, lo)) := by
        show _ = _
        rw [HR.out, show ws6.drop 8 = [] from List.drop_of_length_le (by rw [HLW.out]; exact Nat.le_refl _)]; rfl
      clear HR hlo hhi

      obtain ⟨r0, r1, r2, r3, fr0, fr1, fr2, fr3, p0, p1, p2, p3, fp0, fp1, fp2, fp3, ww⟩ := hF
      have HG := Lib.hid (fun w => rgood_any 6 hi lo n w hhi2 hlo2)
      by_cases hz : chk 6 hi lo n = 0
      · rw [hz] at HG
        have HZ := Lib.hid hz
        clear hz
        go_wp2_with (go_at_call 16; refine (HG.out _).mono ?_; rintro e w5 ⟨rfl, hb5⟩; refine Hid.out ?_)
        refine Lib.hid ?_
        have HFF := Lib.hid (HF1.out.below hb5 (by omega) (by omega) (by omega))
        have HB5 := Lib.hid (HB4.out.trans (hb5.mono (by omega)))
        obtain ⟨R0, R1, R2, R3, S0, S1, S2, S3, P0, P1, P2, P3, T0, T1, T2, T3, WW⟩ := HFF.out
        clear hb5
        go_wp2
        refine bodyPost_ret (v := .tuple #[pref 6 hi lo n, .int .i64 0]) (by simp [results, Tryd.results6, go_sem, R0, R1, R2, R3]) rfl ⟨?_, ?_⟩
        · rw [HE.out]; unfold fin; simp only [Option.bind_some]; rw [if_pos HZ.out]; rfl
        · exact ((((HB5.out.setCell (Nat.le_refl _) _).setCell (Nat.le_refl _) _).setCell (Nat.le_refl _) _).setCell (Nat.le_refl _) _)
      · have hz' := z_beq hz
        obtain ⟨z, hzz⟩ : ∃ z, z = chk 6 hi lo n := ⟨_, rfl⟩
        rw [← hzz] at HG hz'
        have HZ := Lib.hid hz
        clear hz hzz
        go_wp2_with (go_at_call 16; refine (HG.out _).mono ?_; rintro e w5 ⟨rfl, hb5⟩; refine Hid.out ?_)
        refine Lib.hid ?_
        have HFF := Lib.hid (HF1.out.below hb5 (by omega) (by omega) (by omega))
        have HB5 := Lib.hid (HB4.out.trans (hb5.mono (by omega)))
        obtain ⟨R0, R1, R2, R3, S0, S1, S2, S3, P0, P1, P2, P3, T0, T1, T2, T3, WW⟩ := HFF.out
        clear hb5
        go_wp2
        refine bodyPost_ret (v := .tuple #[pref 0 0 0 0, .int .i64 5]) (by simp [results, Tryd.results6, go_sem, R0, R1, R2, R3]) rfl ⟨?_, ?_⟩
        · rw [HE.out]; unfold fin; simp only [Option.bind_some]; rw [if_neg HZ.out]; rfl
        · exact ((((HB5.out.setCell (Nat.le_refl _) _).setCell (Nat.le_refl _) _).setCell (Nat.le_refl _) _).setCell (Nat.le_refl _) _)
end Go.Proofs.YtnfkgnjeamnhfaaDoor
