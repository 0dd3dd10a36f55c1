import Derived.Test.YtnfkgnjeamnhfaaDoorRfE
namespace Go.Proofs.YtnfkgnjeamnhfaaDoor
open Go.RowKit

set_option maxHeartbeats 8000000 in
set_option maxRecDepth 100000 in
theorem rformat_6 (hi lo n : Nat) (w : World) (hh : hi ≤ 18446744073709551615) (hl : lo ≤ 18446744073709551615) (hn : n ≤ 1000)
    (HG : Hid (∀ w, Calls Tryd.prog 16 #[pref 6 hi lo n] w fun e w' => e = .returned (.int .i64 0) ∧ Below w.heap.size w w')) :
    Calls Tryd.prog 9 #[pref 6 hi lo n] w fun e w' => e = .returned (.tuple #[.string ⟨(ptxt 58 hexD true (parts6 (nn (hi, lo))) ++ 47 :: Lib.decDigits n).toArray⟩, .int .i64 0]) ∧ Below w.heap.size w w' := by
  have hl3 := decDigits_1000 n hn
  have HLP : Hid ((parts6 (nn (hi, lo))).length = 8) := rfl
  have HPV : Hid (∀ k x, (parts6 (nn (hi, lo)))[k]? = some x → x = numF (fun j => bits6 hi lo (16 * k + j)) 16) := bits6_parts hi lo hl
  obtain ⟨ps, hps⟩ : ∃ ps, ps = parts6 (nn (hi, lo)) := ⟨_, rfl⟩
  rw [← hps] at HLP HPV
  rw [← hps]
  clear hps
  have HWN := Lib.hid (fun w => written10 n w (by omega))
  go_enter Tryd.func9, Tryd.ntmps9
  go_wp2_with fail
  refine (HG.out _).mono ?_
  rintro e w1 ⟨rfl, hb1⟩
  have hz1 : w.heap.size < w1.heap.size := by have := hb1.size; simp at this; omega
  obtain ⟨hc1, hf1⟩ := bcell hb1
  have c0 : w1.cell? ⟨w.heap.size, 0, none⟩ = some (.int .i64 6) := by rw [hc1 _ _ (by simp)]; simp
  have c1 : w1.cell? ⟨w.heap.size, 1, none⟩ = some (.int .u64 hi) := by rw [hc1 _ _ (by simp)]; simp
  have c2 : w1.cell? ⟨w.heap.size, 2, none⟩ = some (.int .u64 lo) := by rw [hc1 _ _ (by simp)]; simp
  have c3 : w1.cell? ⟨w.heap.size, 3, none⟩ = some (.int .i64 n) := by rw [hc1 _ _ (by simp)]; simp
  have HB1 := Lib.hid (((Below.refl w.heap.size w).alloc (Nat.le_refl _) (.cells #[.int .i64 6, .int .u64 hi, .int .u64 lo, .int .i64 n] 26)).trans (hb1.mono (by simp)))
  clear hc1 hf1 hb1
  go_wp2_with fail
  refine (Bits6 _ _ _ _ hh hl rfl).mono ?_
  rintro e w2 ⟨b, c, hcc, hbg, hbz, rfl, hB, hF, hb2⟩
  have hz2 := hb2.size
  obtain ⟨hc2, _⟩ := bcell hb2
  have d0 := (hc2 w.heap.size 0 hz1).trans c0
  have d3 := (hc2 w.heap.size 3 hz1).trans c3
  have HB2 := Lib.hid (HB1.out.trans (hb2.mono (by omega)))
  have HRB := Lib.hid hB
  clear hc2 hb2 hB hF c0 c1 c2 c3
  go_wp2
  go_loopw [6, 7] (fun s i wr => ∃ (u : ByteArray) (i0 k : Nat), s = .string u ∧ i = .int .i64 i0 ∧ Hid (i0 = 16 * k) ∧ i0 ≤ 128 ∧ k ≤ 8 ∧ u.size ≤ 6 * k ∧ wr.cell? ⟨w.heap.size, 0, none⟩ = some (.int .i64 6) ∧ wr.cell? ⟨w.heap.size, 3, none⟩ = some (.int .i64 n) ∧ RowB wr b 128 (bits6 hi lo) ∧ b < wr.heap.size ∧ Below w.heap.size w wr ∧ Hid (u.data.toList = ptxt 58 hexD true (ps.take k))) (fun _ i _ => 128 - (intOf i).toNat)
  case atStart => exact ⟨⟨#[]⟩, 0, 0, rfl, rfl, rfl, by omega, by omega, by simp [ByteArray.size], d0, d3, HRB.out, hbz, HB2.out, by show _ = _; simp [ptxt]⟩
  case round =>
    obtain ⟨u, i0, k, rfl, rfl, HI, hi0, hk, hu, e0, e3, hRB, hbz2, hb3, HU⟩ := hrel
    have HRB2 := Lib.hid hRB
    have HB3 := Lib.hid hb3
    have hz3 := hb3.size
    clear hRB hb3 HRB
    by_cases hlt : i0 < 128
    · have hk4 : k < 8 := by have := HI.out; omega
      have hi8 : i0 ≤ 112 := by have := HI.out; omega
      obtain ⟨x, hx⟩ : ∃ x, ps[k]? = some x := ⟨_, List.getElem?_eq_getElem (by rw [HLP.out]; exact hk4)⟩
      have hxv := HPV.out k x hx
      have hxb : x ≤ 65535 := by
        have := numF_lt (bf := fun j => bits6 hi lo (16 * k + j)) (fun j => bits6_le _ _ _) 16
        rw [hxv]; exact Nat.lt_succ_iff.1 this
      have HN : Hid (∀ c, Calls Tryd.prog 20 #[.slice (some ⟨b, i0, none⟩) 16 c] wr fun e w' => e = .returned (.int .u64 x) ∧ w' = wr) := by
        intro c
        have := number_any b i0 16 c (fun j => bits6 hi lo (16 * k + j)) wr (fun j => bits6_le _ _ _) (by decide) (fun j hj => by
          have h1 := HRB2.out (i0 + j) (by omega)
          rw [h1, HI.out])
        rwa [← hxv] at this
      have HWX := Lib.hid (fun w => written16 x w (by omega))
      have hdl : (hexD x).length ≤ 4 := hexD_65535 x hxb
      have HT : Hid (ptxt 58 hexD true (ps.take (k + 1)) = ptxt 58 hexD true (ps.take k) ++ ((if k = 0 then [] else [58]) ++ hexD x)) := by
        show _ = _
        rw [List.take_add_one, hx]
        rw [show (some x).toList = [x] from rfl, ptxt_snoc]
        congr 2
        by_cases hk0 : k = 0
        · simp [hk0]
        · have : ps.take k ≠ [] := by
            intro h; have := congrArg List.length h; rw [List.length_take, HLP.out] at this; simp at this; omega
          simp [hk0, this]
      clear hx hxv
      by_cases hk0 : k = 0
      · have hi00 : i0 = 0 := by have := HI.out; omega
        subst hi00
        have HK := Lib.hid hk0
        clear hk0
        go_wp2_with (first | (go_at_call 20; refine (HN.out _).mono ?_; rintro e w5 ⟨rfl, rfl⟩) | (go_at_call 19; refine (HWX.out _).mono ?_; rintro e w6 ⟨rfl, hb6⟩; have HB6 := Lib.hid hb6))
        go_roundw
        case rel =>
          refine ⟨_, 16, 1, rfl, rfl, rfl, by omega, by omega, ?_, (HB6.out.cell (p := ⟨w.heap.size, 0, none⟩) (show w.heap.size < _ by omega)).trans e0, (HB6.out.cell (p := ⟨w.heap.size, 3, none⟩) (show w.heap.size < _ by omega)).trans e3, HRB2.out.below HB6.out (by omega), by have := HB6.out.size; omega, HB3.out.trans (HB6.out.mono (by omega)), ?_⟩
          · rw [ByteArray.size_append, mk_size (hexD x)]; have := HK.out; omega
          · show _ = _
            have h1 := HT.out
            have h2 := HU.out
            rw [HK.out] at h1 h2
            rw [h1, ← h2]
            simp [ByteArray.data_append]
        case measure => simp [intOf] <;> omega
      · have hi0p : (0 : Int) < (i0 : Int) := by have := HI.out; omega
        have HK := Lib.hid hk0
        clear hk0
        go_wp2_with (first | (go_at_call 20; refine (HN.out _).mono ?_; rintro e w5 ⟨rfl, rfl⟩) | (go_at_call 19; refine (HWX.out _).mono ?_; rintro e w6 ⟨rfl, hb6⟩; have HB6 := Lib.hid hb6))
        go_roundw
        case rel =>
          refine ⟨_, i0 + 16, k + 1, rfl, by go_num, by show _ = _; have := HI.out; omega, by omega, by omega, ?_, (HB6.out.cell (p := ⟨w.heap.size, 0, none⟩) (show w.heap.size < _ by omega)).trans e0, (HB6.out.cell (p := ⟨w.heap.size, 3, none⟩) (show w.heap.size < _ by omega)).trans e3, HRB2.out.below HB6.out (by omega), by have := HB6.out.size; omega, HB3.out.trans (HB6.out.mono (by omega)), ?_⟩
          · rw [ByteArray.size_append, ByteArray.size_append, mk_size (hexD x)]; show _ + 1 + _ ≤ _; omega
          · show _ = _
            rw [HT.out, ← HU.out]
            simp [ByteArray.data_append, HK.out]
        case measure => simp [intOf] <;> omega
    · obtain rfl : k = 8 := by have := HI.out; omega
      have HU2 : Hid (u.data.toList = ptxt 58 hexD true ps) := by
        have := HU.out
        rwa [List.take_of_length_le (by rw [HLP.out]; exact Nat.le_refl _)] at this
      have hi32 : ¬ (i0 : Int) < 128 := by omega
      clear HU
      go_wp2_with (go_at_call 19; refine (HWN.out _).mono ?_; rintro e w6 ⟨rfl, hb6⟩; have HB6 := Lib.hid hb6)
      go_ret2
      exact ⟨ret_strb (ba_ext (by simp [ByteArray.data_append, HU2.out])), HB3.out.trans (HB6.out.mono (by omega))⟩
end Go.Proofs.YtnfkgnjeamnhfaaDoor
