import Derived.Test.YtnfkgnjeamnhfabKg
import Derived.Deep.RegionWith
import Derived.Deep.DeepCutAuto
namespace Go.Proofs.Ytnfkgnjeamnhfab
open Go.RowKit Go.Sort

theorem neqK_rt (r : Rt) (w : World) : Sem.run Try.prog (binOp BinOp.neq 45 (.agg #[.int .i64 r.f, .int .u64 r.hi, .int .u64 r.lo, .int .i64 r.n, .int .i64 r.g]) (.agg #[.int .i64 r.f, .int .u64 r.hi, .int .u64 r.lo, .int .i64 r.n, .int .i64 r.g])) w = .ok (.bool false) w := by
  simp [go_sem]
theorem neqK_en (r : En) (w : World) : Sem.run Try.prog (binOp BinOp.neq 119 (.agg #[.int .i64 r.a.1, .int .u64 r.a.2.1, .int .u64 r.a.2.2, .int .i64 r.g, .int .i64 r.k, .int .i64 r.b]) (.agg #[.int .i64 r.a.1, .int .u64 r.a.2.1, .int .u64 r.a.2.2, .int .i64 r.g, .int .i64 r.k, .int .i64 r.b])) w = .ok (.bool false) w := by
  simp [go_sem]
theorem RwE.far {w w' : World} {N B : Nat} {v : Value} {es : List En} (h : RwE w N v es) (hb : Below B w w') (hv : ∀ k, v.ownBlock = some k → k < B) : RwE w' N v es := rowE_far h hb hv
theorem gd_famK {r : Rt} (h : Gd r) : r.f = 4 ∨ r.f = 6 := by
  rcases chk_ok h.ok with h1 | h1
  · exact .inl h1.1
  · exact .inr h1.1
theorem gd_lenEK {r : Rt} (h : Gd r) : H.lenE r.f r.n = 0 := by
  have h1 := wid_gd h
  have h2 := gd_famK h
  unfold H.lenE
  unfold wid at h1
  rcases h2 with h2 | h2
  · rw [if_pos h2, if_neg (by rw [if_pos h2] at h1; omega)]
  · rw [if_neg (by omega), if_pos h2, if_neg (by rw [if_neg (by omega)] at h1; omega)]
theorem entsK_len {cs : List Rt} {fam m : Int} (h : cs.length ≤ 256) : (entsT cs fam m).length ≤ 256 := by
  unfold entsT
  split
  · rw [List.length_map, ← eadK_all]
    exact Nat.le_trans (eadK_le _ (Nat.le_refl _)) (Nat.le_trans (famF_le cs fam) h)
  · simp
set_option maxRecDepth 4000 in
set_option maxHeartbeats 4000000 in
theorem same_any {N : Nat} {ρ : Nat → Nat} {w : World} {T U r1 r2 : Nat} {gs gs2 : Nat → List Int} {rs : List Rt} {lim lim2 : Int} (hT : Kt N ρ w T r1 gs rs lim) (hU : Kt N ρ w U r2 gs2 rs lim2) (a1 : 8 ≤ r1) (a2 : r1 ≤ 11) (b1 : 8 ≤ r2) (b2 : r2 ≤ 11) (fm : Int) (hfm : fm = 4 ∨ fm = 6) :
    Calls Try.prog 48 #[.pointer (some ⟨T, 0, none⟩), .pointer (some ⟨U, 0, none⟩), .int .i64 fm] w fun e w' => e = .returned (.bool true) ∧ Below w.heap.size w w' := by
  have hD : dumpT rs fm = famF rs fm := by unfold dumpT; rw [if_pos hfm]
  have hE0 : famE fm = 0 := by unfold famE; rw [if_pos hfm]
  have HD1 := Lib.hid (fun (w1 : World) (hb : Below w.heap.size w w1) => kt_dump (hT.below hb a1 a2) fm)
  have HD2 := Lib.hid (fun (w1 : World) (hb : Below w.heap.size w w1) => kt_dump (hU.below hb b1 b2) fm)
  rw [hD, hE0] at HD1 HD2
  have HN1 := Lib.hid (fun (w1 : World) (hb : Below w.heap.size w w1) (r : Rt) (hr : r ∈ famF rs fm) => kt_ents (hT.below hb a1 a2) fm r.n)
  have HN2 := Lib.hid (fun (w1 : World) (hb : Below w.heap.size w w1) (r : Rt) (hr : r ∈ famF rs fm) => kt_ents (hU.below hb b1 b2) fm r.n)
  have HLe := Lib.hid (show ∀ r ∈ famF rs fm, H.lenE fm r.n = 0 from fun r hr => by rw [← (famF_mem.1 hr).2]; exact gd_lenEK (hT.ok.gd r (famF_mem.1 hr).1))
  have hl256 : (famF rs fm).length ≤ 256 := Nat.le_trans (famF_le rs fm) hT.ok.len256
  have hes : ∀ m, (entsT rs fm m).length ≤ 256 := fun m => entsK_len hT.ok.len256
  generalize famF rs fm = l at *
  clear hT hU hD hE0 hfm
  go_enter Try.func48, Try.ntmps48
  go_wp2_with fail
  refine (HD1.out w (Below.refl _ _)).mono ?_
  rintro e w1 ⟨lo1, y1, lc1, rfl, hy1, hrw1, hb1⟩
  have HB1 := Lib.hid hb1
  have HR1 := Lib.hid hrw1
  have Hy := Lib.hid hy1
  have hy256 : y1 ≤ 256 := by rw [hy1]; exact hl256
  clear hrw1 hb1 hy1
  go_wp2_with fail
  refine (HD2.out w1 HB1.out).mono ?_
  rintro e w2 ⟨lo2, y2, lc2, rfl, hy2, hrw2, hb2⟩
  obtain rfl : y1 = y2 := Hy.out.trans hy2.symm
  have HB2 := Lib.hid (HB1.out.trans (hb2.mono HB1.out.size))
  have HR12 := Lib.hid (RwO.far HR1.out hb2 (fun g hg => (World.ownsRow.lt HR1.out g hg).2))
  have HR2 := Lib.hid hrw2
  clear hrw2 hb2 hy2
  go_wp2
  go_loopw [11] (fun iv wr => ∃ i : Nat, i ≤ y1 ∧ iv = .int .i64 i ∧ Hid (Below w2.heap.size w2 wr)) (fun iv _ => y1 - (intOf iv).toNat)
  case atStart => exact ⟨0, Nat.zero_le _, rfl, Below.refl _ _⟩
  case round =>
    obtain ⟨i, hi, rfl, HBr⟩ := hrel
    have HBw := Lib.hid (HB2.out.trans (HBr.out.mono HB2.out.size))
    by_cases hiy : i < y1
    · obtain ⟨r, hr⟩ : ∃ r, l[i]? = some r := ⟨_, List.getElem?_eq_getElem (by rw [← Hy.out]; exact hiy)⟩
      have hmem := List.mem_of_getElem? hr
      obtain ⟨g1, rfl, hat1, -, -, hg1⟩ := RwO.at HR12.out hr
      obtain ⟨g2, rfl, hat2, -, -, hg2⟩ := RwO.at HR2.out hr
      have c0 := (HBr.out.cell (p := ⟨g1, i * 5, none⟩) hg1).trans hat1.c0
      have c1 := (HBr.out.cell (p := ⟨g1, i * 5 + 1, none⟩) hg1).trans hat1.c1
      have c2 := (HBr.out.cell (p := ⟨g1, i * 5 + 2, none⟩) hg1).trans hat1.c2
      have c3 := (HBr.out.cell (p := ⟨g1, i * 5 + 3, none⟩) hg1).trans hat1.c3
      have c4 := (HBr.out.cell (p := ⟨g1, i * 5 + 4, none⟩) hg1).trans hat1.c4
      have d0 := (HBr.out.cell (p := ⟨g2, i * 5, none⟩) hg2).trans hat2.c0
      have d1 := (HBr.out.cell (p := ⟨g2, i * 5 + 1, none⟩) hg2).trans hat2.c1
      have d2 := (HBr.out.cell (p := ⟨g2, i * 5 + 2, none⟩) hg2).trans hat2.c2
      have d3 := (HBr.out.cell (p := ⟨g2, i * 5 + 3, none⟩) hg2).trans hat2.c3
      have d4 := (HBr.out.cell (p := ⟨g2, i * 5 + 4, none⟩) hg2).trans hat2.c4
      have he := neqK_rt r
      have q1 : (i : Int) < (y1 : Int) := by omega
      have q0 : (0 : Int) ≤ (i : Int) := by omega
      have HE1 := Lib.hid (fun (wz : World) (hb : Below wr.heap.size wr wz) => HN1.out wz (HBw.out.trans (hb.mono HBw.out.size)) r hmem)
      have HE2 := Lib.hid (fun (wz : World) (hb : Below wr.heap.size wr wz) => HN2.out wz (HBw.out.trans (hb.mono HBw.out.size)) r hmem)
      rw [HLe.out r hmem] at HE1 HE2
      have hes1 := hes r.n
      generalize entsT rs fm r.n = es at *
      clear hat1 hat2 hr hmem
      go_wp2_with fail
      go_quiet (fail)
      obtain ⟨wd, hwd⟩ : ∃ wd, wd = wr.drewN nq := ⟨_, rfl⟩
      have HBd := Lib.hid (show Below wr.heap.size wr wd by rw [hwd]; exact ⟨rfl, rfl, rfl, Nat.le_refl _, fun _ _ => rfl⟩)
      have e3 : wd.cell? ⟨g1, i * 5 + 3, none⟩ = some (.int .i64 r.n) := by rw [hwd]; exact c3
      rw [← hwd]
      clear hwd c0 c1 c2 c3 c4 d0 d1 d2 d3 d4
      go_wp2_with fail
      refine (HE1.out wd HBd.out).mono ?_
      rintro e w3 ⟨p1, z1, pc1, rfl, hz1, hro1, hb3⟩
      have HB3 := Lib.hid (HBd.out.trans (hb3.mono HBd.out.size))
      have HO1 := Lib.hid hro1
      have Hz := Lib.hid hz1
      have hz256 : z1 ≤ 256 := by rw [hz1]; exact hes1
      have f3 : w3.cell? ⟨g1, i * 5 + 3, none⟩ = some (.int .i64 r.n) := (hb3.cell (p := ⟨g1, i * 5 + 3, none⟩) (World.block_lt_of_cell? wd _ e3)).trans e3
      clear hro1 hb3 hz1 e3
      go_wp2_with fail
      refine (HE2.out w3 HB3.out).mono ?_
      rintro e w4 ⟨p2, z2, pc2, rfl, hz2, hro2, hb4⟩
      obtain rfl : z1 = z2 := Hz.out.trans hz2.symm
      have HB4 := Lib.hid (HB3.out.trans (hb4.mono HB3.out.size))
      have HO12 := Lib.hid (RwE.far HO1.out hb4 (fun g hg => (World.ownsRow.lt HO1.out g hg).2))
      have HO2 := Lib.hid hro2
      clear hro2 hb4 hz2 f3
      go_wp2
      go_loopw [16] (fun kv wq => ∃ (k d : Nat), k ≤ z1 ∧ kv = .int .i64 k ∧ wq = w4.drewN d) (fun kv _ => z1 - (intOf kv).toNat)
      case atStart => exact ⟨0, 0, Nat.zero_le _, rfl, rfl⟩
      case round =>
        obtain ⟨k, d, hk, rfl, rfl⟩ := hrel
        by_cases hkz : k < z1
        · obtain ⟨t, ht⟩ : ∃ t, es[k]? = some t := ⟨_, List.getElem?_eq_getElem (by rw [← Hz.out]; exact hkz)⟩
          obtain ⟨h1, rfl, -, hat1, -, -, -⟩ := RwE.at HO12.out ht
          obtain ⟨h2, rfl, -, hat2, -, -, -⟩ := RwE.at HO2.out ht
          have m0 := hat1 0 _ rfl
          have m1 := hat1 1 _ rfl
          have m2 := hat1 2 _ rfl
          have m3 := hat1 3 _ rfl
          have m4 := hat1 4 _ rfl
          have m5 := hat1 5 _ rfl
          have n0 := hat2 0 _ rfl
          have n1 := hat2 1 _ rfl
          have n2 := hat2 2 _ rfl
          have n3 := hat2 3 _ rfl
          have n4 := hat2 4 _ rfl
          have n5 := hat2 5 _ rfl
          rw [Nat.add_zero] at m0 n0
          have he2 := neqK_en t
          have q3 : (k : Int) < (z1 : Int) := by omega
          have q4 : (0 : Int) ≤ (k : Int) := by omega
          clear hat1 hat2 ht
          go_wp2_with fail
          go_quiet (fail)
          go_wp2
          exact ⟨⟨k + 1, _, by omega, by go_num, rfl⟩, by simp [intOf]; omega⟩
        · obtain rfl : k = z1 := by omega
          have HBn := Lib.hid (show Below w2.heap.size w2 (w4.drewN d) from by
            have h := HBr.out.trans (HB4.out.mono HBr.out.size)
            exact ⟨h.os, h.tape, h.output, h.size, h.block⟩)
          go_wp2
          exact ⟨⟨i + 1, by omega, by go_num, HBn⟩, by simp [intOf]; omega⟩
    · obtain rfl : i = y1 := by omega
      go_wp2
      go_ret
      exact ⟨rfl, HBw.out⟩
/-- Two tables' Hops of a group tell the same. -/
theorem hops_two {N : Nat} {ρ : Nat → Nat} {w : World} {T U r1 r2 : Nat} {gs gs2 : Nat → List Int} {rs rs2 : List Rt} {lim lim2 : Int} (hT : Kt N ρ w T r1 gs rs lim) (hU : Kt N ρ w U r2 gs2 rs2 lim2) (b1 : 8 ≤ r2) (b2 : r2 ≤ 11) (k : Nat) (hk : k < 32) (hgg : gs2 k = gs k) :
    Calls Try.prog 16 #[.pointer (some ⟨T, 0, none⟩), .int .i64 k] w fun e w1 => ∃ (c : Int) (a1 : Option Addr) (n c1 : Nat) (xs : List Int), e = .returned (.tuple #[.slice a1 n c1, .int .i64 c]) ∧ n = xs.length ∧ n ≤ 8 ∧
      Calls Try.prog 16 #[.pointer (some ⟨U, 0, none⟩), .int .i64 k] w1 fun e w2 => ∃ (a2 : Option Addr) (c2 : Nat), e = .returned (.tuple #[.slice a2 n c2, .int .i64 c]) ∧ Rd w2 a1 n xs ∧ Rd w2 a2 n xs ∧ Below w.heap.size w w2 := by
  have hn8 : (gs k).length ≤ 8 := by obtain ⟨f, hf⟩ := hT.t; exact (hf.ls k hk).2
  have hhb : hasB gs2 (k : Int) = hasB gs (k : Int) := by unfold hasB; rw [Int.toNat_natCast, hgg]
  refine (kt_hops hT k).mono ?_
  rintro e w1 (⟨h1, rfl, hb1⟩ | ⟨h1, g, cp, rfl, -, hgl, hrow, hb1⟩)
  · refine ⟨7, none, 0, 0, [], rfl, rfl, by omega, (kt_hops (hU.below hb1 b1 b2) k).mono ?_⟩
    rintro e w2 (⟨h2, rfl, hb2⟩ | ⟨h2, g2, cp2, rfl, -, hgl2, hrow2, hb2⟩)
    · exact ⟨none, 0, rfl, ⟨rfl, .inl rfl⟩, ⟨rfl, .inl rfl⟩, hb1.trans (hb2.mono hb1.size)⟩
    · rw [hhb, h1] at h2; cases h2
  · refine ⟨0, _, _, cp, gs k, rfl, by rw [Int.toNat_natCast], by rw [Int.toNat_natCast]; exact hn8, (kt_hops (hU.below hb1 b1 b2) k).mono ?_⟩
    rintro e w2 (⟨h2, rfl, hb2⟩ | ⟨h2, g2, cp2, rfl, -, hgl2, hrow2, hb2⟩)
    · rw [hhb, h1] at h2; cases h2
    · rw [Int.toNat_natCast] at hrow hrow2 ⊢
      rw [hgg] at hrow2 ⊢
      exact ⟨_, cp2, rfl, rd_row (rowE_far hrow hb2 (fun g hg => (World.ownsRow.lt hrow g hg).2)) rfl, rd_row hrow2 rfl, hb1.trans (hb2.mono hb1.size)⟩
set_option maxRecDepth 4000 in
set_option maxHeartbeats 4000000 in
theorem alike_any {N : Nat} {ρ : Nat → Nat} {w : World} {T U r1 r2 : Nat} {gs gs2 : Nat → List Int} {rs : List Rt} {lim lim2 : Int} (hT : Kt N ρ w T r1 gs rs lim) (hU : Kt N ρ w U r2 gs2 rs lim2) (hgg : ∀ j, j < 32 → gs2 j = gs j) (a1 : 8 ≤ r1) (a2 : r1 ≤ 11) (b1 : 8 ≤ r2) (b2 : r2 ≤ 11) :
    Calls Try.prog 21 #[.pointer (some ⟨T, 0, none⟩), .pointer (some ⟨U, 0, none⟩)] w fun e w' => e = .returned (.bool true) ∧ Below w.heap.size w w' := by
  have HS4 := Lib.hid (fun (w1 : World) (hb : Below w.heap.size w w1) => same_any (hT.below hb a1 a2) (hU.below hb b1 b2) a1 a2 b1 b2 4 (.inl rfl))
  have HS6 := Lib.hid (fun (w1 : World) (hb : Below w.heap.size w w1) => same_any (hT.below hb a1 a2) (hU.below hb b1 b2) a1 a2 b1 b2 6 (.inr rfl))
  have HH := Lib.hid (fun (w1 : World) (hb : Below w.heap.size w w1) (k : Nat) (hk : k < 32) => hops_two (hT.below hb a1 a2) (hU.below hb b1 b2) b1 b2 k hk (hgg k hk))
  clear hT hU hgg
  go_enter Try.func21, Try.ntmps21
  go_wp2_with fail
  refine (HS4.out w (Below.refl _ _)).mono ?_
  rintro e w1 ⟨rfl, hb1⟩
  have HB1 := Lib.hid hb1
  clear hb1
  go_wp2_with fail
  refine (HS6.out w1 HB1.out).mono ?_
  rintro e w2 ⟨rfl, hb2⟩
  have HB2 := Lib.hid (HB1.out.trans (hb2.mono HB1.out.size))
  clear hb2
  go_wp2
  go_loopw [7] (fun iv wr => ∃ k : Nat, k ≤ 32 ∧ iv = .int .i64 k ∧ Hid (Below w.heap.size w wr)) (fun iv _ => 32 - (intOf iv).toNat)
  case atStart => exact ⟨0, Nat.zero_le _, rfl, HB2⟩
  case round =>
    obtain ⟨k, hk, rfl, HBr⟩ := hrel
    by_cases hk2 : k < 32
    · have q1 : (k : Int) < 32 := by omega
      have H1 := Lib.hid (HH.out wr HBr.out k hk2)
      go_wp2_with fail
      refine H1.out.mono ?_
      rintro e w3 ⟨c, o1, n, c1, xs, rfl, hn, hn8, hU2⟩
      have H2 := Lib.hid hU2
      have Hn := Lib.hid hn
      clear hU2 hn H1
      go_wp2_with fail
      refine H2.out.mono ?_
      rintro e w4 ⟨o2, c2, rfl, hr1, hr2, hb4⟩
      have HR1 := Lib.hid hr1
      have HR2 := Lib.hid hr2
      have HB4 := Lib.hid (HBr.out.trans (hb4.mono HBr.out.size))
      have q2 : (c != c) = false := by simp
      clear hr1 hr2 hb4 H2
      go_wp2
      go_loopw [12] (fun iv wq => ∃ (j d : Nat), j ≤ n ∧ iv = .int .i64 j ∧ wq = w4.drewN d) (fun iv _ => n - (intOf iv).toNat)
      case atStart => exact ⟨0, 0, Nat.zero_le _, rfl, rfl⟩
      case round =>
        obtain ⟨j, d, hj, rfl, rfl⟩ := hrel
        by_cases hjn : j < n
        · obtain ⟨g1, f1, rfl, -, -⟩ := HR1.out.at (by omega)
          obtain ⟨g2, f2, rfl, -, -⟩ := HR2.out.at (by omega)
          obtain ⟨x, hx, m1⟩ := HR1.out.cell hjn
          obtain ⟨x', hx', m2⟩ := HR2.out.cell hjn
          rw [hx] at hx'
          cases hx'
          have q3 : (j : Int) < (n : Int) := by omega
          have q4 : (0 : Int) ≤ (j : Int) := by omega
          have q5 : (x != x) = false := by simp
          clear hx
          go_wp2_with fail
          go_quiet (fail)
          go_wp2
          exact ⟨⟨j + 1, _, by omega, by go_num, rfl⟩, by simp [intOf]; omega⟩
        · obtain rfl : j = n := by omega
          have HBn := Lib.hid (show Below w.heap.size w (w4.drewN d) from ⟨HB4.out.os, HB4.out.tape, HB4.out.output, HB4.out.size, HB4.out.block⟩)
          go_wp2
          exact ⟨⟨k + 1, by omega, by go_num, HBn⟩, by simp [intOf]; omega⟩
    · obtain rfl : k = 32 := by omega
      go_wp2
      go_ret
      exact ⟨rfl, HBr.out⟩
end Go.Proofs.Ytnfkgnjeamnhfab
