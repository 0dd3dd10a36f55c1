import Derived.Test.YtnfkgnjeamnhfaaDoorRfB
namespace Go.Proofs.YtnfkgnjeamnhfaaDoor
open Go.RowKit

/-- What eight values come to. -/
def f6 : List (List UInt8) → Nat → Nat → Nat → Option (Nat × Nat)
  | [], _, hi, lo => some (hi, lo)
  | x :: r, k, hi, lo => if valF 16 65535 x < 0 then none else if k < 4 then f6 r (k + 1) (65536 * hi + (valF 16 65535 x).toNat) lo else f6 r (k + 1) hi (65536 * lo + (valF 16 65535 x).toNat)

set_option maxHeartbeats 4000000 in
theorem rparse_n (l la lb : List UInt8) (w : World) (hs : l.length ≤ 1048576) (hsp : splitG 47 [] l = [la, lb]) (ws : List (List UInt8)) (hws : splitG 46 [] la = ws) (m : Nat) (hm : ws.length = m) (h4 : ((m : Int) == 4) = false) (ws6 : List (List UInt8)) (hws6 : splitG 58 [] la = ws6) (m6 : Nat) (hm6 : ws6.length = m6) (h8 : ((m6 : Int) == 8) = false) :
    Calls Tryd.prog 6 #[.string ⟨l.toArray⟩] w fun e w' => e = .returned (.tuple #[pref 0 0 0 0, .int .i64 5]) ∧ Below w.heap.size w w' := by
  have hx : valF 10 128 lb = valF 10 128 lb := rfl
  have HP := Lib.hid (fun w => parts_row l 47 w hs [la, lb] hsp 2 rfl)
  have hla : la.length ≤ 1048576 := by have := splitG_len 47 l [] la (by rw [hsp]; simp); simp at this; omega
  have hlb : lb.length ≤ 1048576 := by have := splitG_len 47 l [] lb (by rw [hsp]; simp); simp at this; omega
  have HV := Lib.hid (fun w => value10_any ⟨lb.toArray⟩ 128 w (by rw [mk_size]; unfold maxLen; omega))
  have HW := Lib.hid (fun w => parts_row la 46 w hla ws hws m hm)
  have HW6 := Lib.hid (fun w => parts_row la 58 w hla ws6 hws6 m6 hm6)
  obtain ⟨n, hn⟩ : ∃ n, n = valF 10 128 lb := ⟨_, rfl⟩
  have hn1 : -1 ≤ n := by rw [hn]; exact (valF_range _ _ _).1
  have hn2 : n ≤ 128 := by rw [hn]; exact (valF_range 10 128 lb).2
  have HV2 : Hid (∀ w, Calls Tryd.prog 15 #[.string ⟨lb.toArray⟩, .int .i64 10, .int .i64 128] w fun e w' => e = .returned (.int .i64 n) ∧ Below w.heap.size w w') := by
    intro w; rw [hn]; exact HV.out w
  clear hx
  clear hsp hm hn HV hws hws6 hm6
  go_enter Tryd.func6, Tryd.ntmps6
  go_wp2_with fail
  refine (HP.out _).mono ?_
  rintro e w1 ⟨g1, cap1, rfl, hcap1, hg1, hgz1, hR1, hb1⟩
  have s1 : (w.alloc (.cells #[.int .i64 0, .int .u64 0, .int .u64 0, .int .i64 0] 26)).heap.size = w.heap.size + 1 := by simp
  rw [s1] at hg1 hb1
  obtain ⟨hc1, hf1⟩ : (∀ b o, b < w.heap.size + 1 → w1.cell? ⟨b, o, none⟩ = (w.alloc (.cells #[.int .i64 0, .int .u64 0, .int .u64 0, .int .i64 0] 26)).cell? ⟨b, o, none⟩) ∧ (∀ b o, b < w.heap.size + 1 → w1.frozen? ⟨b, o, none⟩ = (w.alloc (.cells #[.int .i64 0, .int .u64 0, .int .u64 0, .int .i64 0] 26)).frozen? ⟨b, o, none⟩) := ⟨fun b o h => hb1.cell (p := ⟨b, o, none⟩) h, fun b o h => hb1.frozen (p := ⟨b, o, none⟩) h⟩
  have a0 : w1.cell? ⟨w.heap.size, 0, none⟩ = some (.int .i64 0) := by rw [hc1 _ _ (by omega)]; simp
  have a1 : w1.cell? ⟨w.heap.size, 1, none⟩ = some (.int .u64 0) := by rw [hc1 _ _ (by omega)]; simp
  have a2 : w1.cell? ⟨w.heap.size, 2, none⟩ = some (.int .u64 0) := by rw [hc1 _ _ (by omega)]; simp
  have a3 : w1.cell? ⟨w.heap.size, 3, none⟩ = some (.int .i64 0) := by rw [hc1 _ _ (by omega)]; simp
  have b0 : w1.frozen? ⟨w.heap.size, 0, none⟩ = false := by rw [hf1 _ _ (by omega)]; simp
  have b1 : w1.frozen? ⟨w.heap.size, 1, none⟩ = false := by rw [hf1 _ _ (by omega)]; simp
  have b2 : w1.frozen? ⟨w.heap.size, 2, none⟩ = false := by rw [hf1 _ _ (by omega)]; simp
  have b3 : w1.frozen? ⟨w.heap.size, 3, none⟩ = false := by rw [hf1 _ _ (by omega)]; simp
  have l0 := hR1 0 la rfl
  have l1 := hR1 1 lb rfl
  have HB1 := Lib.hid (((Below.refl w.heap.size w).alloc (Nat.le_refl _) (.cells #[.int .i64 0, .int .u64 0, .int .u64 0, .int .i64 0] 26)).trans (hb1.mono (by omega)))
  clear hc1 hf1 hb1 hR1 s1
  go_wp2_with fail
  refine (HV2.out _).mono ?_
  rintro e w2 ⟨rfl, hb2⟩
  obtain ⟨hc2, hf2⟩ := bcell hb2
  have hz2 := hb2.size
  have l0' := (hc2 g1 0 hgz1).trans l0
  have hgw : g1 < w2.heap.size := by omega
  have HFA := Lib.hid (show w2.cell? ⟨w.heap.size, 0, none⟩ = some (.int .i64 0) ∧ w2.cell? ⟨w.heap.size, 1, none⟩ = some (.int .u64 0) ∧ w2.cell? ⟨w.heap.size, 2, none⟩ = some (.int .u64 0) ∧ w2.cell? ⟨w.heap.size, 3, none⟩ = some (.int .i64 0) ∧ w2.frozen? ⟨w.heap.size, 0, none⟩ = false ∧ w2.frozen? ⟨w.heap.size, 1, none⟩ = false ∧ w2.frozen? ⟨w.heap.size, 2, none⟩ = false ∧ w2.frozen? ⟨w.heap.size, 3, none⟩ = false from ⟨(hc2 _ _ (by omega)).trans a0, (hc2 _ _ (by omega)).trans a1, (hc2 _ _ (by omega)).trans a2, (hc2 _ _ (by omega)).trans a3, (hf2 _ _ (by omega)).trans b0, (hf2 _ _ (by omega)).trans b1, (hf2 _ _ (by omega)).trans b2, (hf2 _ _ (by omega)).trans b3⟩)
  have HB2 := Lib.hid (HB1.out.trans (hb2.mono (by omega)))
  clear hc2 hf2 hb2 a0 a1 a2 a3 b0 b1 b2 b3 l0 l1
  go_wp2_with fail
  refine (HW.out _).mono ?_
  rintro e w3 ⟨g2, cap2, rfl, hcap2, hg2, hgz2, hR2, hb3⟩
  have s2 : (w2.alloc (.cells #[.int .i64 4, .int .u64 0, .int .u64 0, .int .i64 n] 26)).heap.size = w2.heap.size + 1 := by simp
  rw [s2] at hg2 hb3
  have hF0 : Fp w.heap.size w2.heap.size g2 w3 4 0 0 n ws := by
    obtain ⟨x0, x1, x2, x3, y0, y1, y2, y3⟩ := HFA.out
    have hc : ∀ b o, b < w2.heap.size + 1 → w3.cell? ⟨b, o, none⟩ = (w2.alloc (.cells #[.int .i64 4, .int .u64 0, .int .u64 0, .int .i64 n] 26)).cell? ⟨b, o, none⟩ := fun b o h => hb3.cell (p := ⟨b, o, none⟩) h
    have hf : ∀ b o, b < w2.heap.size + 1 → w3.frozen? ⟨b, o, none⟩ = (w2.alloc (.cells #[.int .i64 4, .int .u64 0, .int .u64 0, .int .i64 n] 26)).frozen? ⟨b, o, none⟩ := fun b o h => hb3.frozen (p := ⟨b, o, none⟩) h
    have hlt : w.heap.size < w2.heap.size := by omega
    refine ⟨?_, ?_, ?_, ?_, ?_, ?_, ?_, ?_, ?_, ?_, ?_, ?_, ?_, ?_, ?_, ?_, hR2⟩
    all_goals first | (rw [hc _ _ (by omega)]; go_simp; done) | (rw [hf _ _ (by omega)]; go_simp; done)
  have HF0 := Lib.hid hF0
  have HB3 := Lib.hid ((HB2.out.alloc (by omega) (.cells #[.int .i64 4, .int .u64 0, .int .u64 0, .int .i64 n] 26)).trans (hb3.mono (by omega)))
  have l0'' : w3.cell? ⟨g1, 0, none⟩ = some (.string ⟨la.toArray⟩) := by
    rw [hb3.cell (p := ⟨g1, 0, none⟩) (show g1 < _ by omega), World.cell?_alloc_past _ _ _ hgw]; exact l0'
  have hgw3 : g1 < w3.heap.size := by omega
  have hz3 : w2.heap.size < w3.heap.size := by omega
  have hwz : w.heap.size < w2.heap.size := by omega
  clear hF0 hb3 hR2 l0' HFA s2
  go_wp2_with fail
  refine (HW6.out _).mono ?_
  rintro e w4 ⟨g3, cap3, rfl, hcap3, hg3, hgz3, hR3, hb4⟩
  have HF2 : Hid (Fp w.heap.size w2.heap.size g3 w4 4 0 0 n ws6) := by
    have := HF0.out.below hb4 (by omega) (by omega) (by omega)
    exact ⟨this.r0, this.r1, this.r2, this.r3, this.fr0, this.fr1, this.fr2, this.fr3, this.p0, this.p1, this.p2, this.p3, this.fp0, this.fp1, this.fp2, this.fp3, hR3⟩
  have HB4' := Lib.hid (HB3.out.trans (hb4.mono (by omega)))
  have hgs : w2.heap.size < g3 := by omega
  obtain ⟨q0, q1, q2, q3, fq0, fq1, fq2, fq3, m0, m1, m2, m3, fm0, fm1, fm2, fm3, mw⟩ := HF2.out
  clear hb4 hR3 mw
  go_wp2
  refine bodyPost_ret (v := .tuple #[pref 0 0 0 0, .int .i64 5]) (by simp [results, Tryd.results6, go_sem, q0, q1, q2, q3]) rfl ⟨rfl, ?_⟩
  exact ((((HB4'.out.setCell (Nat.le_refl _) _).setCell (Nat.le_refl _) _).setCell (Nat.le_refl _) _).setCell (Nat.le_refl _) _)
end Go.Proofs.YtnfkgnjeamnhfaaDoor
