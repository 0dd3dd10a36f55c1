import Derived.Test.YtnfkgnjeamnhfaaGreatUb
namespace Go.Proofs.YtnfkgnjeamnhfaaGreat
open Go.RowKit

theorem flt_cases {b0 y n c b12 b16 r : Nat} (h : (if b0 / 16 ≠ 4 then 2 else if b0 % 16 ≠ 5 then 3 else if y < 20 ∨ n < y then 4 else if c ≠ 0 then 5 else if mart b12 = true then 6 else if mart b16 = true then 6 else 0) = r) :
    (b0 / 16 ≠ 4 ∧ r = 2) ∨ (b0 / 16 = 4 ∧ b0 % 16 ≠ 5 ∧ r = 3) ∨ (b0 / 16 = 4 ∧ b0 % 16 = 5 ∧ (y < 20 ∨ n < y) ∧ r = 4) ∨ (b0 / 16 = 4 ∧ b0 % 16 = 5 ∧ 20 ≤ y ∧ y ≤ n ∧ c ≠ 0 ∧ r = 5) ∨ (b0 / 16 = 4 ∧ b0 % 16 = 5 ∧ 20 ≤ y ∧ y ≤ n ∧ c = 0 ∧ (b12 = 0 ∨ b12 = 127 ∨ 223 < b12 ∨ b16 = 0 ∨ b16 = 127 ∨ 223 < b16) ∧ r = 6) ∨ (b0 / 16 = 4 ∧ b0 % 16 = 5 ∧ 20 ≤ y ∧ y ≤ n ∧ c = 0 ∧ b12 ≠ 0 ∧ b12 ≠ 127 ∧ b12 ≤ 223 ∧ b16 ≠ 0 ∧ b16 ≠ 127 ∧ b16 ≤ 223 ∧ r = 0) := by
  by_cases h1 : b0 / 16 ≠ 4
  · rw [if_pos h1] at h; exact .inl ⟨h1, h.symm⟩
  rw [if_neg h1] at h
  have h1 : b0 / 16 = 4 := by omega
  by_cases h2 : b0 % 16 ≠ 5
  · rw [if_pos h2] at h; exact .inr (.inl ⟨h1, h2, h.symm⟩)
  rw [if_neg h2] at h
  have h2 : b0 % 16 = 5 := by omega
  by_cases h3 : y < 20 ∨ n < y
  · rw [if_pos h3] at h; exact .inr (.inr (.inl ⟨h1, h2, h3, h.symm⟩))
  rw [if_neg h3] at h
  have h4 : 20 ≤ y := by omega
  have h5 : y ≤ n := by omega
  by_cases h6 : c ≠ 0
  · rw [if_pos h6] at h; exact .inr (.inr (.inr (.inl ⟨h1, h2, h4, h5, h6, h.symm⟩)))
  rw [if_neg h6] at h
  have h6 : c = 0 := by omega
  unfold mart at h
  by_cases h7 : b12 = 0 ∨ b12 = 127 ∨ 223 < b12
  · rw [if_pos (decide_eq_true h7)] at h
    exact .inr (.inr (.inr (.inr (.inl ⟨h1, h2, h4, h5, h6, by omega, h.symm⟩))))
  rw [if_neg (by simp only [decide_eq_true_eq]; exact h7)] at h
  by_cases h8 : b16 = 0 ∨ b16 = 127 ∨ 223 < b16
  · rw [if_pos (decide_eq_true h8)] at h
    exact .inr (.inr (.inr (.inr (.inl ⟨h1, h2, h4, h5, h6, by omega, h.symm⟩))))
  rw [if_neg (by simp only [decide_eq_true_eq]; exact h8)] at h
  exact .inr (.inr (.inr (.inr (.inr ⟨h1, h2, h4, h5, h6, by omega, by omega, by omega, by omega, by omega, by omega, h.symm⟩))))
set_option maxRecDepth 4000 in
set_option maxHeartbeats 2000000 in
theorem faulty_any (s : ByteArray) (hs : s.size ≤ maxLen) (w : World) : Calls Tryz.prog 83 #[.string s] w fun e w' => e = .returned (.int .i64 ((if s.size < 20 then 1 else fltN (s.data.toList.take 20) s.size) : Nat)) ∧ w' = w := by
  by_cases h0 : s.size < 20
  · rw [if_pos h0]
    have q : (s.size : Int) < 20 := by omega
    go_enter Tryz.func83, Tryz.ntmps83
    go_wp2_with fail
    go_ret
    exact ⟨rfl, rfl⟩
  rw [if_neg h0]
  have hA := Lib.hid (fun w => fat_any s 2 2 (by decide) (by omega) (by decide) w)
  have hC := Lib.hid (fun w => rcheck_any (s.extract 0 20) w (by rw [ByteArray.size_extract]; omega))
  rw [at2] at hA
  rw [show (s.extract 0 20).data.toList = s.data.toList.take 20 by rw [ext_list]; simp] at hC
  obtain ⟨r, hr⟩ : ∃ r, fltN (s.data.toList.take 20) s.size = r := ⟨_, rfl⟩
  rw [hr]
  unfold fltN at hr
  rw [g1_take (by decide), g1_take (by decide), g1_take (by decide), g2_take (by decide), g1_b (by omega), g1_b (by omega), g1_b (by omega)] at hr
  have hck := ck_lt (s.data.toList.take 20)
  have hy : g2 s.data.toList 2 < 65536 := by have := g1_lt s.data.toList 2; have := g1_lt s.data.toList (2 + 1); unfold g2; omega
  generalize ck (s.data.toList.take 20) = c at *
  generalize g2 s.data.toList 2 = y at *
  have l0 : (0 : Nat) < s.size := by omega
  have l12 : (12 : Nat) < s.size := by omega
  have l16 : (16 : Nat) < s.size := by omega
  have l20 : (20 : Int) ≤ (s.size : Int) := by omega
  have b0 := (s[0]'l0).toNat_lt
  have b12 := (s[12]'l12).toNat_lt
  have b16 := (s[16]'l16).toNat_lt
  have HR := Lib.hid (flt_cases hr)
  clear hr
  have q : ¬ (s.size : Int) < 20 := by omega
  unfold maxLen at hs
  go_enter Tryz.func83, Tryz.ntmps83
  go_wp2_with fail
  refine (hA.out _).mono ?_
  rintro e w2 ⟨rfl, rfl⟩
  go_wp2_with fail
  refine (hC.out _).mono ?_
  rintro e w3 ⟨rfl, rfl⟩
  go_wp2_with fail
  all_goals
    go_ret
    refine ⟨ret_nat ?_, rfl⟩
    have hr := HR.out
    clear HR hA hC
    simp only [bne_iff_ne, ne_eq, beq_iff_eq, beq_eq_false_iff_ne, bne_eq_false_iff_eq] at *
    rcases hr with hr | hr | hr | hr | hr | hr <;> omega
end Go.Proofs.YtnfkgnjeamnhfaaGreat
namespace Go.Proofs.YtnfkgnjeamnhfaaGreat
open Go.RowKit

theorem ba_list {q : ByteArray} {l : List UInt8} (h : q = ⟨l.toArray⟩) : q.data.toList = l := by rw [h]
set_option maxHeartbeats 2000000 in
theorem rforward_no (T : Nat) (s : ByteArray) (w : World) (r : Nat) (hr : r ≠ 0) (HR : ∀ w, Calls Tryz.prog 83 #[.string s] w fun e w' => e = .returned (.int .i64 (r : Nat)) ∧ w' = w) :
    Calls Tryz.prog 33 #[.pointer (some ⟨T, 0, none⟩), .string s] w fun e w' => e = .returned (vV ⟨0, (r : Nat), 0, []⟩) ∧ Below w.heap.size w w' := by
  have HR1 := Lib.hid HR
  clear HR
  rw [vV_nil]
  have q1 : ((r : Int) != 0) = true := by simp; omega
  go_enter Tryz.func33, Tryz.ntmps33
  go_wp2_with fail
  refine (HR1.out _).mono ?_
  rintro e w2 ⟨rfl, hw2⟩
  have HK := Lib.hid (show w2.heap[w.heap.size]? = some (.cells #[.int .i64 0, .int .i64 0, .int .i64 0, .string ⟨#[]⟩] 83) by rw [hw2]; exact heap_alloc_last w _)
  have HB := Lib.hid (show Below w.heap.size w w2 by rw [hw2]; exact below1 _ _)
  have k0 := cl20 HK.out (j := 0) rfl
  have k1 := cl20 HK.out (j := 1) rfl
  have k2 := cl20 HK.out (j := 2) rfl
  have k3 := cl20 HK.out (j := 3) rfl
  have f0 := froz_row (j := 0) HK.out
  have f1 := froz_row (j := 1) HK.out
  have f2 := froz_row (j := 2) HK.out
  have f3 := froz_row (j := 3) HK.out
  clear hw2
  go_wp2_with fail
  exact bodyV rfl rfl HK.out ⟨rfl, below4 HB.out (Nat.le_refl _) _ _ _ _⟩
set_option maxRecDepth 4000 in
set_option maxHeartbeats 4000000 in
theorem rforward_yes (T own : Nat) (ho : own < 4294967296) (s : ByteArray) (h20 : 20 ≤ s.size) (y : Nat) (hy : g2 s.data.toList 2 = y) (hy1 : 20 ≤ y) (hy2 : y ≤ s.size) (hy3 : y < 65536) (w : World) (hT : w.cell? ⟨T, 2, none⟩ = some (.int .u32 own)) (ph pe : Int)
    (HR : ∀ w, Calls Tryz.prog 83 #[.string s] w fun e w' => e = .returned (.int .i64 0) ∧ w' = w)
    (HP : ∀ w1, Below w.heap.size w w1 → Calls Tryz.prog 31 #[.pointer (some ⟨T, 0, none⟩), .agg #[.int .i64 4, .int .u64 0, .int .u64 (g4 (s.data.toList.take 20) 16 : Nat)], .int .u64 (flN (s.data.toList.take 20) : Nat)] w1 fun e w' => e = .returned (.tuple #[.int .i64 ph, .int .i64 pe]) ∧ Below w1.heap.size w1 w') :
    Calls Tryz.prog 33 #[.pointer (some ⟨T, 0, none⟩), .string s] w fun e w' => e = .returned (vV (goV own (s.data.toList.take 20) ((s.data.toList.take y).drop 20) pe ph)) ∧ Below w.heap.size w w' := by
  have hTl := World.block_lt_of_cell? w _ hT
  have HR1 := Lib.hid HR
  have HP1 := Lib.hid HP
  have HA0 := Lib.hid (fun w => fat_any s 2 2 (by decide) (by omega) (by decide) w)
  rw [at2, hy] at HA0
  obtain ⟨p, hp⟩ : ∃ p, p = s.extract 0 y := ⟨_, rfl⟩
  have hps : p.size = y := by rw [hp, ByteArray.size_extract]; omega
  have hpl : p.data.toList = s.data.toList.take y := by rw [hp, ext_list]; simp
  have hp20 : p.data.toList.take 20 = s.data.toList.take 20 := by rw [hpl, List.take_take, Nat.min_eq_left hy1]
  have HA1 := Lib.hid (fun w => fat_any p 16 4 (by decide) (by omega) (by decide) w)
  have HA2 := Lib.hid (fun w => fat_any p 12 4 (by decide) (by omega) (by decide) w)
  rw [at4, ← g4_take (n := 20) (by decide)] at HA1 HA2
  have g9 : g1 (p.data.toList.take 20) 9 = (p[9]'(by omega)).toNat := by rw [g1_take (by decide), g1_b]
  have g8 : g1 (p.data.toList.take 20) 8 = (p[8]'(by omega)).toNat := by rw [g1_take (by decide), g1_b]
  have HAn := Lib.hid (fun (r : Int) w => ranswer_any p (by omega) (by omega) r own ho w)
  rw [hp20] at HA1 HA2 g9 g8 HAn
  rw [hpl] at HAn
  have Hp20 := Lib.hid hp20
  have HLB := Lib.hid (show p.data.toList = s.data.toList.take 20 ++ (s.data.toList.take y).drop 20 by rw [← hp20, ← hpl]; exact (List.take_append_drop 20 _).symm)
  have hp' := hp.symm
  have hpl2 := hpl
  clear HR HP hpl hp20 hy hp
  have hfl := flN_eq (s.data.toList.take 20)
  rw [g9] at hfl
  have HHd := Lib.hid (fun (h : 1 < g1 (s.data.toList.take 20) 8) => show sumL ((p.data.toList.take 8) ++ textL ((p[8]'(by omega)).toNat - 1) 1 ++ (p.data.toList.take 20).drop 9) 10 = sealL (lessL (s.data.toList.take 20)) by
    have e := less_sum p.data.toList (by rw [blen]; omega) (by rw [← g1_take (n := 20) (by decide), Hp20.out]; exact h)
    rw [g1_b (by omega)] at e
    rw [e, Hp20.out, seal_sum (lessL_len.trans (by rw [List.length_take, blen]; omega))])
  have Hpl := Lib.hid hpl2
  obtain ⟨V, hV⟩ : ∃ V, goV own (s.data.toList.take 20) ((s.data.toList.take y).drop 20) pe ph = V := ⟨_, rfl⟩
  rw [hV]
  unfold goV at hV
  rw [g8] at hV HHd
  generalize s.data.toList.take 20 = l at *
  generalize (s.data.toList.take y).drop 20 = b at *
  have l8 : (8 : Nat) < p.size := by omega
  have l9 : (9 : Nat) < p.size := by omega
  have b8 := (p[8]'l8).toNat_lt
  have b9 := (p[9]'l9).toNat_lt
  have hg12 := g4_lt l 12
  generalize g4 l 16 = tg at *
  generalize g4 l 12 = sr at *
  generalize flN l = fl at *
  have HV := Lib.hid hV
  clear hV hpl2 g9 g8
  have q1 : (y : Int) ≤ (s.size : Int) := by omega
  have x1 : IntKind.u64.wrap ((sr : Int) * 4294967296) = (sr : Int) * 4294967296 := by rw [IntKind.wrap_u64]; omega
  have x2 : IntKind.u64.wrap ((p[9]'l9).toNat : Int) = ((p[9]'l9).toNat : Int) := by rw [IntKind.wrap_u64]; omega
  have x3 : IntKind.u64.wrap (((p[9]'l9).toNat : Int) * 72057594037927936) = ((p[9]'l9).toNat : Int) * 72057594037927936 := by rw [IntKind.wrap_u64]; omega
  go_enter Tryz.func33, Tryz.ntmps33
  go_wp2_with fail
  refine (HR1.out _).mono ?_
  rintro e w2 ⟨rfl, hw2⟩
  have HK2 := Lib.hid (show w2.heap[w.heap.size]? = some (.cells #[.int .i64 0, .int .i64 0, .int .i64 0, .string ⟨#[]⟩] 83) by rw [hw2]; exact heap_alloc_last w _)
  have HB2 := Lib.hid (show Below w.heap.size w w2 by rw [hw2]; exact below1 _ _)
  clear hw2 HR1
  go_wp2_with fail
  refine (HA0.out _).mono ?_
  rintro e w3 ⟨rfl, rfl⟩
  go_wp2_with fail
  refine (HA1.out _).mono ?_
  rintro e w4 ⟨rfl, rfl⟩
  go_wp2_with fail
  go_cut [8] (fun v wx => v = .int .u64 (fl : Int) ∧ Hid (Below w4.heap.size w4 wx))
  case first =>
    go_region_with (go_at_call 84; refine (HA2.out _).mono ?_; rintro e wx ⟨rfl, rfl⟩)
    all_goals
      go_wp2_with fail
      go_meet
      exact ⟨rfl, ⟨rfl, rfl, rfl, Nat.le_refl _, fun _ _ => rfl⟩⟩
  case rest =>
  obtain ⟨rfl, Hbc⟩ := hcut
  have hb5 := Hbc.out
  generalize wc = w5 at *
  have HK5 := Lib.hid (row_below hb5 HK2.out ((Array.getElem?_eq_some_iff.1 HK2.out).1))
  have HB5 := Lib.hid (HB2.out.trans (hb5.mono HB2.out.size))
  clear hb5 Hbc HB2 HK2 HA0 HA1 HA2 hfl
  go_wp2_with fail
  refine (HP1.out _ HB5.out).mono ?_
  rintro e w6 ⟨rfl, hb6⟩
  have HK6 := Lib.hid (row_below hb6 HK5.out ((Array.getElem?_eq_some_iff.1 HK5.out).1))
  have HB6 := Lib.hid (HB5.out.trans (hb6.mono HB5.out.size))
  have cT := (HB6.out.cell (p := ⟨T, 2, none⟩) hTl).trans hT
  have HcT := Lib.hid cT
  clear hb6 HB5 HK5 HP1 hT
  have hV := HV.out
  by_cases h1 : pe = 0
  case neg =>
    rw [if_pos h1] at hV
    have q2 : (pe != 0) = true := by simp [h1]
    clear HV
    go_wp2_with fail
    refine (HAn.out 7 _).mono ?_
    rintro e w7 ⟨rfl, hb7⟩
    have HK7 := Lib.hid (row_below hb7 HK6.out ((Array.getElem?_eq_some_iff.1 HK6.out).1))
    have HB7 := Lib.hid (HB6.out.trans (hb7.mono HB6.out.size))
    have k0 := cl20 HK7.out (j := 0) rfl
    have k1 := cl20 HK7.out (j := 1) rfl
    have k2 := cl20 HK7.out (j := 2) rfl
    have k3 := cl20 HK7.out (j := 3) rfl
    have f0 := froz_row (j := 0) HK7.out
    have f1 := froz_row (j := 1) HK7.out
    have f2 := froz_row (j := 2) HK7.out
    have f3 := froz_row (j := 3) HK7.out
    rw [hV]
    clear hb7 HAn hV cT
    unfold vV
    go_wp2_with fail
    exact sendV rfl rfl HK7.out ⟨rfl, below4 HB7.out (Nat.le_refl _) _ _ _ _⟩
  subst h1
  rw [if_neg (by simp)] at hV
  by_cases h2 : ph = 0
  case pos =>
    subst h2
    rw [if_pos rfl] at hV
    clear HV cT HAn
    subst hV
    have k0 := cl20 HK6.out (j := 0) rfl
    have k1 := cl20 HK6.out (j := 1) rfl
    have k2 := cl20 HK6.out (j := 2) rfl
    have k3 := cl20 HK6.out (j := 3) rfl
    have f0 := froz_row (j := 0) HK6.out
    have f1 := froz_row (j := 1) HK6.out
    have f2 := froz_row (j := 2) HK6.out
    have f3 := froz_row (j := 3) HK6.out
    go_wp2_with fail
    exact bodyV rfl rfl HK6.out ⟨by rw [← ba_of HLB.out]; rfl, below4 HB6.out (Nat.le_refl _) _ _ _ _⟩
  rw [if_neg h2] at hV
  have q2 : (ph == 0) = false := ine_beq h2
  by_cases h3 : 1 < (p[8]'l8).toNat
  case neg =>
    rw [if_neg h3] at hV
    have q3 : ((p[8]'l8).toNat : Int) < 2 := by omega
    clear HV
    go_wp2_with fail
    refine (HAn.out 8 _).mono ?_
    rintro e w7 ⟨rfl, hb7⟩
    have HK7 := Lib.hid (row_below hb7 HK6.out ((Array.getElem?_eq_some_iff.1 HK6.out).1))
    have HB7 := Lib.hid (HB6.out.trans (hb7.mono HB6.out.size))
    have k0 := cl20 HK7.out (j := 0) rfl
    have k1 := cl20 HK7.out (j := 1) rfl
    have k2 := cl20 HK7.out (j := 2) rfl
    have k3 := cl20 HK7.out (j := 3) rfl
    have f0 := froz_row (j := 0) HK7.out
    have f1 := froz_row (j := 1) HK7.out
    have f2 := froz_row (j := 2) HK7.out
    have f3 := froz_row (j := 3) HK7.out
    rw [hV]
    clear hb7 HAn hV cT
    unfold vV
    go_wp2_with fail
    exact sendV rfl rfl HK7.out ⟨rfl, below4 HB7.out (Nat.le_refl _) _ _ _ _⟩
  rw [if_pos h3] at hV
  have q3 : ¬ ((p[8]'l8).toNat : Int) < 2 := by omega
  have hsum := HHd.out h3
  obtain ⟨m8, hm8⟩ : ∃ m : Int, ((p[8]'l8).toNat : Int) - 1 = m := ⟨_, rfl⟩
  obtain ⟨b1, hb1⟩ : ∃ x : ByteArray, x = ⟨(textL ((p[8]'l8).toNat - 1) 1).toArray⟩ := ⟨_, rfl⟩
  have e1 : b1.data.toList = textL ((p[8]'l8).toNat - 1) 1 := ba_list hb1
  have zb1 : b1.size = 1 := by rw [← blen, e1, textL_len]
  have zp1 : (p.extract 0 8).size = 8 := by rw [ByteArray.size_extract]; omega
  have zp2 : (p.extract 9 20).size = 11 := by rw [ByteArray.size_extract]; omega
  have zp3 : (p.extract 20 y).size = y - 20 := by rw [ByteArray.size_extract]; omega
  have es : ((p.extract 0 8 ++ b1) ++ p.extract 9 20).data.toList = (p.data.toList.take 8) ++ textL ((p[8]'l8).toNat - 1) 1 ++ (p.data.toList.take 20).drop 9 := by
    rw [bapp, bapp, e1, ext_list, ext_list]; simp
  obtain ⟨S, hS⟩ : ∃ x : ByteArray, x = ⟨(sealL (lessL l)).toArray⟩ := ⟨_, rfl⟩
  have eS : S.data.toList = sealL (lessL l) := ba_list hS
  have hll : l.length = 20 := by rw [← Hp20.out, List.length_take, blen]; omega
  have zS : S.size = 20 := by rw [← blen, eS, sealL_len, lessL_len, hll]
  have hps2 : ((p.extract 0 8 ++ b1) ++ p.extract 9 20).size = 20 := by rw [ByteArray.size_append, ByteArray.size_append, zp1, zb1, zp2]
  have HT1 := Lib.hid (fun w => rtext_ex ((p[8]'l8).toNat - 1) 1 (by omega) (by decide) w)
  rw [show (((p[8]'l8).toNat - 1 : Nat) : Int) = m8 by rw [← hm8]; omega, ← hb1] at HT1
  have HS1 := Lib.hid (fun w => summed_ex ((p.extract 0 8 ++ b1) ++ p.extract 9 20) 10 (by rw [hps2]; decide) (by rw [hps2]; decide) w)
  rw [es, hsum, ← hS] at HS1
  have HLS := Lib.hid (show (S ++ p.extract 20 y).data.toList = sealL (lessL l) ++ b by
    rw [bapp, eS, ext_list, List.take_of_length_le (by rw [blen]; omega), HLB.out, List.drop_append_of_le_length (by omega), List.drop_of_length_le (by omega), List.nil_append])
  have qw : IntKind.i64.wrap m8 = m8 := by
    have hm : m8 = (((p[8]'l8).toNat - 1 : Nat) : Int) := by omega
    rw [hm]; exact wrap_i64_nat (by omega)
  have y1 : IntKind.i64.wrap ((p[8]'l8).toNat : Int) = ((p[8]'l8).toNat : Int) := wrap_i64_nat (by omega)
  have q4 : (20 : Int) ≤ (y : Int) := by omega
  have q5 : (8 : Int) < (y : Int) := by omega
  have q6 : (8 : Int) ≤ (y : Int) := by omega
  have q7 : 8 ≤ y := by omega
  have q8 : 8 < y := by omega
  have r1 : ¬ 9223372036854775807 < 20 + (y - 20) := by omega
  have hb0 : Below w6.heap.size w6 w6.drew := (Below.refl _ _).drew
  have Hb0 := Lib.hid hb0
  clear HV HAn HHd hsum hb1 e1 es hS eS hps2 hb0 cT hll
  subst hV
  go_wp2_with fail
  go_cut [11] (fun v wx => v = .string ((p.extract 0 8 ++ b1) ++ p.extract 9 20) ∧ Hid (Below w6.heap.size w6 wx))
  case first =>
    go_region_with (go_at_call_of 86 (Value.int IntKind.i64 m8); refine (HT1.out _).mono ?_; rintro e wx ⟨rfl, hbx⟩; have HBx := Lib.hid (show Below w6.heap.size w6 wx from ⟨hbx.os, hbx.tape, hbx.output, hbx.size, hbx.block⟩); clear hbx)
    all_goals
      go_wp2_with fail
      go_meet
      exact ⟨rfl, HBx⟩
  case rest =>
  obtain ⟨rfl, Hbc⟩ := hcut
  have hb8 := Hbc.out
  generalize wc = w8 at *
  have HK8 := Lib.hid (row_below hb8 HK6.out ((Array.getElem?_eq_some_iff.1 HK6.out).1))
  have HB8 := Lib.hid (HB6.out.trans (hb8.mono HB6.out.size))
  clear hb8 Hbc HB6 HK6 HT1 Hb0
  generalize (p.extract 0 8 ++ b1) ++ p.extract 9 20 = hd at *
  go_wp2_with fail
  go_region_with (go_at_call 87; refine (HS1.out _).mono ?_; rintro e w7 ⟨rfl, hb7⟩; have HK7 := Lib.hid (row_below hb7 HK8.out ((Array.getElem?_eq_some_iff.1 HK8.out).1)); have HB7 := Lib.hid (HB8.out.drew.trans (hb7.mono HB8.out.size)); have k0 := cl20 HK7.out (j := 0) rfl; have k1 := cl20 HK7.out (j := 1) rfl; have k2 := cl20 HK7.out (j := 2) rfl; have k3 := cl20 HK7.out (j := 3) rfl; have f0 := froz_row (j := 0) HK7.out; have f1 := froz_row (j := 1) HK7.out; have f2 := froz_row (j := 2) HK7.out; have f3 := froz_row (j := 3) HK7.out; clear hb7)
  all_goals
    go_wp2_with fail
    exact bodyV rfl rfl HK7.out ⟨by rw [← ba_of HLS.out]; rfl, below4 HB7.out (Nat.le_refl _) _ _ _ _⟩
theorem rforward_any (T own : Nat) (ho : own < 4294967296) (s : ByteArray) (hs : s.size ≤ maxLen) (w : World) (hT : w.cell? ⟨T, 2, none⟩ = some (.int .u32 own)) (pe : Nat → Int) (ph : Nat → Nat → Int)
    (HP : ∀ (tg fl : Nat) (w1 : World), tg < 4294967296 → fl ≤ 18446744073709551615 → Below w.heap.size w w1 → Calls Tryz.prog 31 #[.pointer (some ⟨T, 0, none⟩), .agg #[.int .i64 4, .int .u64 0, .int .u64 tg], .int .u64 fl] w1 fun e w' => e = .returned (.tuple #[.int .i64 (ph tg fl), .int .i64 (pe tg)]) ∧ Below w1.heap.size w1 w') :
    Calls Tryz.prog 33 #[.pointer (some ⟨T, 0, none⟩), .string s] w fun e w' => e = .returned (vV (fwdV own s.data.toList pe ph)) ∧ Below w.heap.size w w' := by
  have HF := fun w => faulty_any s hs w
  unfold fwdV
  rw [blen]
  by_cases h1 : s.size < 20
  · rw [if_pos h1]
    rw [if_pos h1] at HF
    exact rforward_no T s w 1 (by decide) HF
  · rw [if_neg h1]
    rw [if_neg h1] at HF
    by_cases h2 : fltN (s.data.toList.take 20) s.size ≠ 0
    · rw [if_pos h2]
      exact rforward_no T s w _ h2 HF
    · rw [if_neg h2]
      have h3 : fltN (s.data.toList.take 20) s.size = 0 := by omega
      rw [h3] at HF
      have hl := flt_len h3
      have hg : g2 (s.data.toList.take 20) 2 < 65536 := by have := g1_lt (s.data.toList.take 20) 2; have := g1_lt (s.data.toList.take 20) (2 + 1); unfold g2; omega
      exact rforward_yes T own ho s (by omega) (g2 (s.data.toList.take 20) 2) (g2_take (by decide)).symm hl.1 hl.2 hg w hT _ _ HF (fun w1 hb => HP _ _ w1 (g4_lt _ _) (flN_lt _) hb)
end Go.Proofs.YtnfkgnjeamnhfaaGreat
