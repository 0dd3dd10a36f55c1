import Derived.Test.YtnfkgnjeamnhfabKy
namespace Go.Proofs.Ytnfkgnjeamnhfab
open Go.RowKit Go.Sort

theorem mem_fin0 (r : Rt) (rs : List Rt) : ((r ∈ rs ∧ ((1 ≤ 0 ∧ r.f = 4) ∨ (2 ≤ 0 ∧ r.f = 6))) ∨ (r ∈ rs ∧ r.f = 4)) ↔ (r ∈ rs ∧ ((1 ≤ 1 ∧ r.f = 4) ∨ (2 ≤ 1 ∧ r.f = 6))) := by
  constructor
  · rintro (⟨h1, h2⟩ | ⟨h1, h2⟩)
    · omega
    · exact ⟨h1, .inl ⟨by decide, h2⟩⟩
  · rintro ⟨h1, h2⟩
    exact .inr ⟨h1, by omega⟩
theorem mem_fin1 (r : Rt) (rs : List Rt) : ((r ∈ rs ∧ ((1 ≤ 1 ∧ r.f = 4) ∨ (2 ≤ 1 ∧ r.f = 6))) ∨ (r ∈ rs ∧ r.f = 6)) ↔ (r ∈ rs ∧ ((1 ≤ 2 ∧ r.f = 4) ∨ (2 ≤ 2 ∧ r.f = 6))) := by
  constructor
  · rintro (⟨h1, h2⟩ | ⟨h1, h2⟩)
    · exact ⟨h1, by omega⟩
    · exact ⟨h1, by omega⟩
  · rintro ⟨h1, h2⟩
    by_cases h4 : r.f = 4
    · exact .inl ⟨h1, by omega⟩
    · exact .inr ⟨h1, by omega⟩
theorem family_any (b : Bool) (w : World) : Calls Try.prog 19 #[.bool b] w fun e w' => e = .returned (.int .i64 (if b then 6 else 4)) ∧ w' = w := by
  cases b
  · go_enter Try.func19, Try.ntmps19
    go_wp2
    go_ret
    exact ⟨rfl, rfl⟩
  · go_enter Try.func19, Try.ntmps19
    go_wp2
    go_ret
    exact ⟨rfl, rfl⟩
set_option maxRecDepth 4000 in
set_option maxHeartbeats 8000000 in
theorem ordered_law (limit : Int) (so : Option Addr) (z scap : Nat) (ops : List AOp) (a : Ad) (hfit : FitA a) (w : World) (hz : ops.length = z) (hz2 : z ≤ 1400000000000) (hS : ScrK w.heap.size w so ops) :
    Calls Try.prog 5 #[.int .i64 limit, .slice so z scap, adV a] w fun e w' => e = .returned (.bool true) ∧ Below w.heap.size w w' := by
  by_cases hlim : limit < 1 ∨ 256 < limit
  · have H1 := Lib.hid (fun w => begin_no limit 11 12 w hlim)
    clear hlim hS
    go_enter Try.func5, Try.ntmps5
    go_wp2_with fail
    refine (H1.out _).mono ?_
    rintro e w1 ⟨rfl, hb1⟩
    have HB1 := Lib.hid ((box1 w _).trans (hb1.mono (box1 w _).size))
    clear hb1
    go_wp2_with fail
    refine (H1.out w1).mono ?_
    rintro e w2 ⟨rfl, hb2⟩
    have HB2 := Lib.hid (HB1.out.trans (hb2.mono HB1.out.size))
    clear hb2
    go_wp2
    go_ret
    exact ⟨rfl, HB2.out⟩
  · obtain ⟨w0, hw0⟩ : ∃ w0, w0 = w.alloc (.cells #[.int .i64 a.1, .int .u64 a.2.1, .int .u64 a.2.2] 25) := ⟨_, rfl⟩
    obtain ⟨ba, hba⟩ : ∃ x, x = w.heap.size := ⟨_, rfl⟩
    obtain ⟨ρ1, b1, b2, b3⟩ := kt_box (wh0 w) (.cells #[.int .i64 a.1, .int .u64 a.2.1, .int .u64 a.2.2] 25)
    have hSt : St w0 ba 3 (adF a) := by rw [hw0, hba]; exact ad_at a _ rfl
    rw [← hw0] at b1 b3
    rw [← hba] at b2
    have HB := Lib.hid (fun (ρ : Nat → Nat) (rS : Nat) (w1 : World) (hW : Wh w.heap.size ρ w1) (h8 : 8 ≤ rS) (h11 : rS ≤ 11) => begin_any w.heap.size ρ rS limit 11 12 w1 hW h8 h11 (by unfold Rg; decide) (by omega) (by omega))
    have hz0 : ∀ b, b < w.heap.size → ρ1 b = 0 := fun b hb => by rw [(b3 (fun _ => False)).role b hb (by simp [rho0, hb])]; simp [rho0, hb]
    have HS0 := Lib.hid (hS.ev (Nat.le_refl _) (b3 (fun _ => False)) (fun b hb => by simp [rho0, hb]) id)
    have HE0 := Lib.hid (b3 (fun q => 1 ≤ q))
    have HX0 := Lib.hid (show (St w0 ba 3 (adF a) ∧ ρ1 ba = 13) ∧ (∀ b, b < w.heap.size → ρ1 b = 0) ∧ w.heap.size ≤ w0.heap.size from ⟨⟨hSt, b2⟩, hz0, b1.n⟩)
    have HBg := Lib.hid (HB.out ρ1 8 w0 b1 (by decide) (by decide))
    have Hw0 := Lib.hid hw0
    have Hba := Lib.hid hba
    clear hw0 hba hSt b1 b2 b3 hz0 hS hlim
    go_enter Try.func5, Try.ntmps5
    go_wp2_with fail
    rw [← Hw0.out, ← Hba.out]
    refine HBg.out.mono ?_
    rintro e w1 ⟨T, rfl, ρ2, k1, k2, k3⟩
    have HK1 := Lib.hid (And.intro k1 k3)
    have HBg2 := Lib.hid (HB.out ρ2 9 w1 k2 (by decide) (by decide))
    clear k1 k2 k3 HBg
    go_wp2_with fail
    refine HBg2.out.mono ?_
    rintro e w2 ⟨U, rfl, ρ3, k1, k2, k3⟩
    have hev : ∀ R, Ev R ρ1 w0 ρ3 w2 := fun R => (HK1.out.2 R).trans (k3 R)
    have kT := HK1.out.1.evs k3 (by decide) (by decide)
    have HP := Lib.hid (play_any w.heap.size ρ3 w2 T 8 (gz 11 12) [] limit so z scap ops hz hz2 kT k2 (by decide) (by decide) (fun b hb => by rw [(hev (fun _ => False)).role b (Nat.lt_of_lt_of_le hb HX0.out.2.2) (by rw [HX0.out.2.1 b hb]; decide)]; exact HX0.out.2.1 b hb) (HS0.out.ev HX0.out.2.2 (hev (fun _ => False)) HX0.out.2.1 id))
    have HKU := Lib.hid (And.intro k1 (And.intro (box_ev HX0.out.1 (hev (fun _ => False)) id) (HE0.out.trans (hev (fun q => 1 ≤ q)))))
    clear k1 k2 k3 kT hev HBg2 HK1
    go_wp2_with fail
    refine HP.out.mono ?_
    rintro e w3 ⟨rfl, ρ4, gs, rs, k1, k2, -, k4⟩
    have HO := Lib.hid (show O2 w.heap.size (rho0 w.heap.size) w T U limit a ba gs rs (gz 11 12) [] w3 from ⟨ρ4, k1, HKU.out.1.ev k4 (by decide) (by decide) (by decide) (by decide) (by decide), k2, box_ev HKU.out.2.1 k4 (by decide), HKU.out.2.2.trans (k4.mono (fun q h => by omega))⟩)
    have HOk := Lib.hid k1.ok
    have HI0 := Lib.hid (show Inv1 gs (gz 11 12) 0 from ⟨fun j hj => by omega, fun j _ hj => gz_nil hj⟩)
    clear k1 k2 k4 HP HKU HS0 HE0 HX0 HB
    go_wp2
    go_loopw [11] (fun iv wr => ∃ k : Nat, k ≤ 32 ∧ iv = .int .i64 k ∧ Hid (∃ gU, Inv1 gs gU k ∧ O2 w.heap.size (rho0 w.heap.size) w T U limit a ba gs rs gU [] wr)) (fun iv _ => 32 - (intOf iv).toNat)
    case atStart => exact ⟨0, Nat.zero_le _, rfl, ⟨_, HI0.out, HO.out⟩⟩
    case round =>
      obtain ⟨k, hk, rfl, HK⟩ := hrel
      obtain ⟨gU, hI, hO⟩ := HK.out
      by_cases hk2 : k < 32
      · have q1 : (k : Int) < 32 := by omega
        have HH := Lib.hid (hO.hops k hk2)
        have HI := Lib.hid hI
        clear hI hO HK
        go_wp2_with fail
        refine HH.out.mono ?_
        rintro e w4 ⟨c, ao, n, cap, rfl, hc, hO4⟩
        rcases hc with ⟨hb, rfl, hrd, hn8⟩ | ⟨hb, rfl⟩
        · have HG := Lib.hid (hO4.group (cap := cap) hrd (by unfold maxLen; omega))
          clear hrd hO4 HH
          go_wp2_with fail
          refine HG.out.mono ?_
          rintro e w5 ⟨x, y, gU', rfl, hg, hO5⟩
          obtain ⟨rfl, rfl, hI'⟩ := HI.out.step HOk.out hk2 hg
          have HN := Lib.hid (show ∃ gU, Inv1 gs gU (k + 1) ∧ O2 w.heap.size (rho0 w.heap.size) w T U limit a ba gs rs gU [] w5 from ⟨_, hI', hO5⟩)
          clear hg hO5 hI' HG
          go_wp2
          exact ⟨⟨k + 1, by omega, by go_num, HN⟩, by simp [intOf]; omega⟩
        · have e1 : grK gs k = [1] := by unfold grK; rw [hb]; rfl
          have HG := Lib.hid ((hO4.below (box1 w4 (.cells #[.int .i64 1] 3))).group (cap := 1) (rd_one w4) (by unfold maxLen; omega))
          rw [← e1] at HG
          clear hO4 HH e1
          go_wp2_with fail
          refine HG.out.mono ?_
          rintro e w5 ⟨x, y, gU', rfl, hg, hO5⟩
          obtain ⟨rfl, rfl, hI'⟩ := HI.out.step HOk.out hk2 hg
          have HN := Lib.hid (show ∃ gU, Inv1 gs gU (k + 1) ∧ O2 w.heap.size (rho0 w.heap.size) w T U limit a ba gs rs gU [] w5 from ⟨_, hI', hO5⟩)
          clear hg hO5 hI' HG
          go_wp2
          exact ⟨⟨k + 1, by omega, by go_num, HN⟩, by simp [intOf]; omega⟩
      · obtain rfl : k = 32 := by omega
        have HN0 := Lib.hid (show ∃ gU, Inv2 gs gU 0 ∧ O2 w.heap.size (rho0 w.heap.size) w T U limit a ba gs rs gU [] wr from ⟨gU, hI.end, hO⟩)
        clear hI hO HK
        rw [show ((32 : Nat) : Int) = 32 from rfl]
        go_wp2
        go_loopw [16] (fun iv wq => ∃ k : Nat, k ≤ 32 ∧ iv = .int .i64 k ∧ Hid (∃ gU, Inv2 gs gU k ∧ O2 w.heap.size (rho0 w.heap.size) w T U limit a ba gs rs gU [] wq)) (fun iv _ => 32 - (intOf iv).toNat)
        case atStart => exact ⟨0, Nat.zero_le _, rfl, HN0⟩
        case round =>
          obtain ⟨k, hk, rfl, HK⟩ := hrel
          obtain ⟨gU, hI, hO⟩ := HK.out
          by_cases hk2 : k < 32
          · have q1 : (k : Int) < 32 := by omega
            have HH := Lib.hid (hO.hops k hk2)
            have HI := Lib.hid hI
            clear hI hO HK
            go_wp2_with fail
            refine HH.out.mono ?_
            rintro e w4 ⟨c, ao, n, cap, rfl, hc, hO4⟩
            rcases hc with ⟨hb, rfl, -, -⟩ | ⟨hb, rfl⟩
            · have HN := Lib.hid (show ∃ gU, Inv2 gs gU (k + 1) ∧ O2 w.heap.size (rho0 w.heap.size) w T U limit a ba gs rs gU [] w4 from ⟨_, HI.out.keep hk2 hb, hO4⟩)
              clear hO4 HH
              go_wp2
              exact ⟨⟨k + 1, by omega, by go_num, HN⟩, by simp [intOf]; omega⟩
            · have HD := Lib.hid (hO4.drop k)
              clear hO4 HH
              go_wp2_with fail
              refine HD.out.mono ?_
              rintro e w5 ⟨c, gU', rfl, hd, hO5⟩
              have HN := Lib.hid (show ∃ gU, Inv2 gs gU (k + 1) ∧ O2 w.heap.size (rho0 w.heap.size) w T U limit a ba gs rs gU [] w5 from ⟨_, HI.out.drop hk2 hb hd, hO5⟩)
              clear hd hO5 HD
              go_wp2
              exact ⟨⟨k + 1, by omega, by go_num, HN⟩, by simp [intOf]; omega⟩
          · obtain rfl : k = 32 := by omega
            have HGG := Lib.hid (show ∀ j, j < 32 → gU j = gs j from hI.1)
            have HN0 := Lib.hid (show ∃ rU, (∀ r, r ∈ rU ↔ r ∈ rs ∧ ((1 ≤ 0 ∧ r.f = 4) ∨ (2 ≤ 0 ∧ r.f = 6))) ∧ O2 w.heap.size (rho0 w.heap.size) w T U limit a ba gs rs gU rU wr from ⟨[], fun r => by simp, hO⟩)
            have HFm := Lib.hid family_any
            clear hI hO HK
            rw [show ((32 : Nat) : Int) = 32 from rfl]
            go_wp2
            go_loopw [19] (fun iv wq => ∃ s : Nat, s ≤ 2 ∧ iv = .int .i64 s ∧ Hid (∃ rU, (∀ r, r ∈ rU ↔ r ∈ rs ∧ ((1 ≤ s ∧ r.f = 4) ∨ (2 ≤ s ∧ r.f = 6))) ∧ O2 w.heap.size (rho0 w.heap.size) w T U limit a ba gs rs gU rU wq)) (fun iv _ => 2 - (intOf iv).toNat)
            case atStart => exact ⟨0, Nat.zero_le _, rfl, HN0⟩
            case round =>
              obtain ⟨s, hs, rfl, HK⟩ := hrel
              obtain ⟨rU, hm, hO⟩ := HK.out
              rcases (show s = 0 ∨ s = 1 ∨ s = 2 by omega) with rfl | rfl | rfl
              · rw [show ((0 : Nat) : Int) = 0 from rfl]
                have HD := Lib.hid (hO.dump 4 (by decide))
                have HM := Lib.hid hm
                clear hO hm HK
                go_wp2_with (first | (go_at_call 19; refine (HFm.out _ _).mono ?_; rintro e wf ⟨rfl, rfl⟩))
                refine HD.out.mono ?_
                rintro e w4 ⟨lo, y, lc, rfl, hy, hy256, hO3⟩
                obtain ⟨l, hl⟩ : ∃ l, l = famF rs 4 := ⟨_, rfl⟩
                rw [← hl] at hO3 hy
                have Hl := Lib.hid hl
                have Hy := Lib.hid hy
                have HO3 := Lib.hid (show ∃ rV, (∀ r, r ∈ rV ↔ r ∈ rU ∨ r ∈ l.drop y) ∧ O3 w.heap.size (rho0 w.heap.size) w T U limit a ba gs rs gU rV (.slice lo y lc) l wf.heap.size w4 from ⟨rU, fun r => by rw [hy, List.drop_length]; simp, hO3⟩)
                generalize wf.heap.size = M at HO3
                have q9 : IntKind.i64.wrap ((y : Int) - 1) = (y : Int) - 1 := by simp [IntKind.wrap, IntKind.bits, IntKind.signed]; omega
                clear hO3 hy hl HD
                go_wp2
                go_loopw [21, 22] (fun ev iv wq => ∃ j : Nat, j ≤ y ∧ iv = .int .i64 ((j : Int) - 1) ∧ ev = .int .i64 0 ∧ Hid (∃ rV, (∀ r, r ∈ rV ↔ r ∈ rU ∨ r ∈ l.drop j) ∧ O3 w.heap.size (rho0 w.heap.size) w T U limit a ba gs rs gU rV (.slice lo y lc) l M wq)) (fun _ iv _ => (intOf iv + 1).toNat)
                case atStart => exact ⟨y, Nat.le_refl _, rfl, rfl, HO3⟩
                case round =>
                  obtain ⟨j, hj, rfl, rfl, HR⟩ := hrel
                  obtain ⟨rV, hmV, hV⟩ := HR.out
                  by_cases hj0 : j = 0
                  · subst hj0
                    have HN := Lib.hid (show ∃ rU, (∀ r, r ∈ rU ↔ r ∈ rs ∧ ((1 ≤ 1 ∧ r.f = 4) ∨ (2 ≤ 1 ∧ r.f = 6))) ∧ O2 w.heap.size (rho0 w.heap.size) w T U limit a ba gs rs gU rU wr from ⟨rV, fun r => by
                      rw [hmV r, HM.out r, List.drop_zero, Hl.out, famF_mem]
                      exact mem_fin0 _ _, hV.two⟩)
                    clear hmV hV HR
                    go_wp2
                    exact ⟨⟨1, by omega, rfl, HN⟩, by simp [intOf]⟩
                  · obtain ⟨i, rfl⟩ : ∃ i, j = i + 1 := ⟨j - 1, by omega⟩
                    obtain ⟨r, hr⟩ : ∃ r, l[i]? = some r := ⟨_, List.getElem?_eq_getElem (by rw [← Hy.out]; omega)⟩
                    have hmem : r ∈ famF rs 4 := by rw [← Hl.out]; exact List.mem_of_getElem? hr
                    obtain ⟨hrs, hrf⟩ := famF_mem.1 hmem
                    obtain ⟨g, rfl, hat⟩ := hV.at hr
                    have hnr : r ∉ rV := fun hc => by
                      rcases (hmV r).1 hc with h1 | h1
                      · rw [HM.out r] at h1
                        omega
                      · obtain ⟨t, ht⟩ := List.getElem?_of_mem h1
                        rw [List.getElem?_drop] at ht
                        have hs := (fam_of HOk.out.srt HOk.out.gd 4).srt
                        rw [← Hl.out] at hs
                        have := Srt.uniq hs ht hr rfl
                        omega
                    obtain ⟨hp1, hp2⟩ := put_new HOk.out hV.two.okU HGG.out (fun s hs => by
                      rcases (hmV s).1 hs with h1 | h1
                      · exact ((HM.out s).1 h1).1
                      · exact (famF_mem.1 (show s ∈ famF rs 4 by rw [← Hl.out]; exact List.mem_of_mem_drop h1)).1) hrs hnr
                    have HPt := Lib.hid (hV.put r (HOk.out.gd r hrs).fit)
                    rw [hp1] at HPt
                    have hd : l.drop i = r :: l.drop (i + 1) := by
                      have e : l[i]'((List.getElem?_eq_some_iff.1 hr).1) = r := (List.getElem?_eq_some_iff.1 hr).2
                      rw [← e, List.getElem_cons_drop]
                    have HM2 := Lib.hid (show ∀ s, s ∈ (putT gU limit rV r).2 ↔ s ∈ rU ∨ s ∈ l.drop i from fun s => by
                      rw [hp2 s, hmV s, hd, List.mem_cons]
                      constructor
                      · rintro (h | h | h)
                        · exact .inr (.inl h)
                        · exact .inl h
                        · exact .inr (.inr h)
                      · rintro (h | h | h)
                        · exact .inr (.inl h)
                        · exact .inl h
                        · exact .inr (.inr h))
                    have c0 := hat.c0
                    have c1 := hat.c1
                    have c2 := hat.c2
                    have c3 := hat.c3
                    have c4 := hat.c4
                    have q1 : (i : Int) < (y : Int) := by omega
                    have q0 : (0 : Int) ≤ (i : Int) := by omega
                    have q2 : ((i + 1 : Nat) : Int) - 1 = (i : Int) := by omega
                    rw [q2]
                    clear hat hV hmV HR hr hmem hrs hrf hnr hp1 hp2 hd q2
                    go_wp2_with (go_at_call 20; refine HPt.out.mono ?_; rintro e w5 ⟨rfl, hO5⟩; have HO5 := Lib.hid hO5; clear hO5)
                    go_roundw
                    case rel => exact ⟨i, by omega, by go_num, rfl, ⟨_, HM2.out, HO5.out⟩⟩
                    case measure => simp [intOf]
              · rw [show ((1 : Nat) : Int) = 1 from rfl]
                have HD := Lib.hid (hO.dump 6 (by decide))
                have HM := Lib.hid hm
                clear hO hm HK
                go_wp2_with (first | (go_at_call 19; refine (HFm.out _ _).mono ?_; rintro e wf ⟨rfl, rfl⟩))
                refine HD.out.mono ?_
                rintro e w4 ⟨lo, y, lc, rfl, hy, hy256, hO3⟩
                obtain ⟨l, hl⟩ : ∃ l, l = famF rs 6 := ⟨_, rfl⟩
                rw [← hl] at hO3 hy
                have Hl := Lib.hid hl
                have Hy := Lib.hid hy
                have HO3 := Lib.hid (show ∃ rV, (∀ r, r ∈ rV ↔ r ∈ rU ∨ r ∈ l.drop y) ∧ O3 w.heap.size (rho0 w.heap.size) w T U limit a ba gs rs gU rV (.slice lo y lc) l wf.heap.size w4 from ⟨rU, fun r => by rw [hy, List.drop_length]; simp, hO3⟩)
                generalize wf.heap.size = M at HO3
                have q9 : IntKind.i64.wrap ((y : Int) - 1) = (y : Int) - 1 := by simp [IntKind.wrap, IntKind.bits, IntKind.signed]; omega
                clear hO3 hy hl HD
                go_wp2
                go_loopw [21, 22] (fun ev iv wq => ∃ j : Nat, j ≤ y ∧ iv = .int .i64 ((j : Int) - 1) ∧ ev = .int .i64 0 ∧ Hid (∃ rV, (∀ r, r ∈ rV ↔ r ∈ rU ∨ r ∈ l.drop j) ∧ O3 w.heap.size (rho0 w.heap.size) w T U limit a ba gs rs gU rV (.slice lo y lc) l M wq)) (fun _ iv _ => (intOf iv + 1).toNat)
                case atStart => exact ⟨y, Nat.le_refl _, rfl, rfl, HO3⟩
                case round =>
                  obtain ⟨j, hj, rfl, rfl, HR⟩ := hrel
                  obtain ⟨rV, hmV, hV⟩ := HR.out
                  by_cases hj0 : j = 0
                  · subst hj0
                    have HN := Lib.hid (show ∃ rU, (∀ r, r ∈ rU ↔ r ∈ rs ∧ ((1 ≤ 2 ∧ r.f = 4) ∨ (2 ≤ 2 ∧ r.f = 6))) ∧ O2 w.heap.size (rho0 w.heap.size) w T U limit a ba gs rs gU rU wr from ⟨rV, fun r => by
                      rw [hmV r, HM.out r, List.drop_zero, Hl.out, famF_mem]
                      exact mem_fin1 _ _, hV.two⟩)
                    clear hmV hV HR
                    go_wp2
                    exact ⟨⟨2, by omega, rfl, HN⟩, by simp [intOf]⟩
                  · obtain ⟨i, rfl⟩ : ∃ i, j = i + 1 := ⟨j - 1, by omega⟩
                    obtain ⟨r, hr⟩ : ∃ r, l[i]? = some r := ⟨_, List.getElem?_eq_getElem (by rw [← Hy.out]; omega)⟩
                    have hmem : r ∈ famF rs 6 := by rw [← Hl.out]; exact List.mem_of_getElem? hr
                    obtain ⟨hrs, hrf⟩ := famF_mem.1 hmem
                    obtain ⟨g, rfl, hat⟩ := hV.at hr
                    have hnr : r ∉ rV := fun hc => by
                      rcases (hmV r).1 hc with h1 | h1
                      · rw [HM.out r] at h1
                        omega
                      · obtain ⟨t, ht⟩ := List.getElem?_of_mem h1
                        rw [List.getElem?_drop] at ht
                        have hs := (fam_of HOk.out.srt HOk.out.gd 6).srt
                        rw [← Hl.out] at hs
                        have := Srt.uniq hs ht hr rfl
                        omega
                    obtain ⟨hp1, hp2⟩ := put_new HOk.out hV.two.okU HGG.out (fun s hs => by
                      rcases (hmV s).1 hs with h1 | h1
                      · exact ((HM.out s).1 h1).1
                      · exact (famF_mem.1 (show s ∈ famF rs 6 by rw [← Hl.out]; exact List.mem_of_mem_drop h1)).1) hrs hnr
                    have HPt := Lib.hid (hV.put r (HOk.out.gd r hrs).fit)
                    rw [hp1] at HPt
                    have hd : l.drop i = r :: l.drop (i + 1) := by
                      have e : l[i]'((List.getElem?_eq_some_iff.1 hr).1) = r := (List.getElem?_eq_some_iff.1 hr).2
                      rw [← e, List.getElem_cons_drop]
                    have HM2 := Lib.hid (show ∀ s, s ∈ (putT gU limit rV r).2 ↔ s ∈ rU ∨ s ∈ l.drop i from fun s => by
                      rw [hp2 s, hmV s, hd, List.mem_cons]
                      constructor
                      · rintro (h | h | h)
                        · exact .inr (.inl h)
                        · exact .inl h
                        · exact .inr (.inr h)
                      · rintro (h | h | h)
                        · exact .inr (.inl h)
                        · exact .inl h
                        · exact .inr (.inr h))
                    have c0 := hat.c0
                    have c1 := hat.c1
                    have c2 := hat.c2
                    have c3 := hat.c3
                    have c4 := hat.c4
                    have q1 : (i : Int) < (y : Int) := by omega
                    have q0 : (0 : Int) ≤ (i : Int) := by omega
                    have q2 : ((i + 1 : Nat) : Int) - 1 = (i : Int) := by omega
                    rw [q2]
                    clear hat hV hmV HR hr hmem hrs hrf hnr hp1 hp2 hd q2
                    go_wp2_with (go_at_call 20; refine HPt.out.mono ?_; rintro e w5 ⟨rfl, hO5⟩; have HO5 := Lib.hid hO5; clear hO5)
                    go_roundw
                    case rel => exact ⟨i, by omega, by go_num, rfl, ⟨_, HM2.out, HO5.out⟩⟩
                    case measure => simp [intOf]
              · rw [show ((2 : Nat) : Int) = 2 from rfl]
                obtain rfl : rU = rs := srt_ext hO.okU.srt HOk.out.srt (fun r => by
                  rw [hm r]
                  exact ⟨fun h => h.1, fun h => ⟨h, by rcases gd_famK (HOk.out.gd r h) with h1 | h1 <;> omega⟩⟩)
                have HL1 := Lib.hid (hO.lookT hfit (Below.refl _ _))
                have HL2 := Lib.hid (fun (w1 : World) (hb : Below wr.heap.size wr w1) => hO.lookU hfit hb)
                have HAl := Lib.hid (fun (w1 : World) (hb : Below wr.heap.size wr w1) => hO.alike HGG.out hb)
                have HEv := Lib.hid hO.evs
                have hbx := hO.box
                have a0 : wr.cell? ⟨ba, 0, none⟩ = some (.int .i64 a.1) := (hbx 0 (by decide)).1
                have a1 : wr.cell? ⟨ba, 1, none⟩ = some (.int .u64 a.2.1) := (hbx 1 (by decide)).1
                have a2 : wr.cell? ⟨ba, 2, none⟩ = some (.int .u64 a.2.2) := (hbx 2 (by decide)).1
                have HBx := Lib.hid hbx
                have hA129 : (lookAT rU a).length ≤ 129 := by
                  unfold lookAT
                  split
                  · exact Nat.le_trans (vis_len _ _) (Nat.le_trans (dig_mono 129 _ 129 (Nat.le_refl _) (by unfold lnsT; exact lensC_le _ _)) (by decide))
                  · simp
                generalize lookLT rU a = ln at *
                generalize lookGT rU a = gn at *
                generalize lookAT rU a = A at *
                generalize H.adrE a.1 a.2.1 a.2.2 = er at *
                clear hm hO HK hbx
                go_wp2_with fail
                refine HL1.out.mono ?_
                rintro e w4 ⟨ao, n, cap, rfl, hn, hrow, hb4⟩
                obtain ⟨w5, hw5⟩ : ∃ w5, w5 = w4.alloc (.cells #[.int .i64 ln, .int .i64 gn, .slice ao n cap] 33) := ⟨_, rfl⟩
                obtain ⟨bx, hbx⟩ : ∃ x, x = w4.heap.size := ⟨_, rfl⟩
                have hb45 : Below w4.heap.size w4 w5 := by rw [hw5]; exact box1 _ _
                have hb5 : Below wr.heap.size wr w5 := hb4.trans (hb45.mono hb4.size)
                have HF5 := Lib.hid (show St w5 bx 3 (fun j => if j = 0 then .int .i64 ln else if j = 1 then .int .i64 gn else .slice ao n cap) by
                  rw [hw5, hbx]
                  refine (St.new w4 _ _).congr fun j hj => ?_
                  have hj : j < 3 := hj
                  iterate 3 (rcases j with _ | j; · rfl)
                  omega)
                have HR5 := Lib.hid (rowE_far hrow hb45 (fun g hg => (World.ownsRow.lt hrow g hg).2))
                have HB5 := Lib.hid hb5
                have hx4 := HBx.out.below hb4 (HBx.out.lt (by decide))
                have hlt4 := hx4.lt (by decide)
                have c0 : w4.cell? ⟨ba, 0, none⟩ = some (.int .i64 a.1) := (hx4 0 (by decide)).1
                have c1 : w4.cell? ⟨ba, 1, none⟩ = some (.int .u64 a.2.1) := (hx4 1 (by decide)).1
                have c2 : w4.cell? ⟨ba, 2, none⟩ = some (.int .u64 a.2.2) := (hx4 2 (by decide)).1
                have Hw5 := Lib.hid hw5
                have Hbx := Lib.hid hbx
                have Hn := Lib.hid hn
                have hn129 : n ≤ 129 := by rw [hn]; exact hA129
                clear hw5 hbx hb45 hb4 hb5 hx4 hrow a0 a1 a2 hn
                go_wp2_with fail
                rw [← Hw5.out, ← Hbx.out]
                refine (HL2.out w5 HB5.out).mono ?_
                rintro e w6 ⟨ao2, n2, cap2, rfl, hn2, hrow2, hb6⟩
                obtain rfl : n = n2 := Hn.out.trans hn2.symm
                obtain ⟨w7, hw7⟩ : ∃ w7, w7 = w6.alloc (.cells #[.int .i64 ln, .int .i64 gn, .slice ao2 n cap2] 33) := ⟨_, rfl⟩
                obtain ⟨by2, hby⟩ : ∃ x, x = w6.heap.size := ⟨_, rfl⟩
                have hb67 : Below w6.heap.size w6 w7 := by rw [hw7]; exact box1 _ _
                have hb57 : Below w5.heap.size w5 w7 := hb6.trans (hb67.mono hb6.size)
                have HG7 := Lib.hid (show St w7 by2 3 (fun j => if j = 0 then .int .i64 ln else if j = 1 then .int .i64 gn else .slice ao2 n cap2) by
                  rw [hw7, hby]
                  refine (St.new w6 _ _).congr fun j hj => ?_
                  have hj : j < 3 := hj
                  iterate 3 (rcases j with _ | j; · rfl)
                  omega)
                have HF7 := Lib.hid (HF5.out.below hb57 (HF5.out.lt (by decide)))
                have HRA := Lib.hid (rd_row (rowE_far HR5.out hb57 (fun g hg => (World.ownsRow.lt HR5.out g hg).2)) Hn.out)
                have HRB := Lib.hid (rd_row (rowE_far hrow2 hb67 (fun g hg => (World.ownsRow.lt hrow2 g hg).2)) Hn.out)
                have HB7 := Lib.hid (HB5.out.trans (hb57.mono HB5.out.size))
                have hxl6 : bx < w6.heap.size := Nat.lt_of_lt_of_le (HF5.out.lt (by decide)) hb6.size
                have hf6 := HF5.out.below hb6 (HF5.out.lt (by decide))
                have d0 : w6.cell? ⟨bx, 0, none⟩ = some (.int .i64 ln) := (hf6 0 (by decide)).1
                have d1 : w6.cell? ⟨bx, 1, none⟩ = some (.int .i64 gn) := (hf6 1 (by decide)).1
                have d2 : w6.cell? ⟨bx, 2, none⟩ = some (.slice ao n cap) := (hf6 2 (by decide)).1
                have Hw7 := Lib.hid hw7
                have Hby := Lib.hid hby
                have q1 : (er != er) = false := by simp
                have q2 : (ln != ln) = false := by simp
                have q3 : (gn != gn) = false := by simp
                clear hw7 hby hb67 hb57 hb6 hrow2 hn2 hf6 c0 c1 c2 hlt4
                go_wp2_with fail
                rw [← Hw7.out, ← Hby.out]
                have f2 : w7.cell? ⟨bx, 2, none⟩ = some (.slice ao n cap) := (HF7.out 2 (by decide)).1
                have g2 : w7.cell? ⟨by2, 2, none⟩ = some (.slice ao2 n cap2) := (HG7.out 2 (by decide)).1
                have HBd := Lib.hid (fun (d : Nat) => show Below wr.heap.size wr (w7.drewN d) from ⟨HB7.out.os, HB7.out.tape, HB7.out.output, HB7.out.size, HB7.out.block⟩)
                clear d0 d1 d2 hxl6 q1 q2 q3
                go_loopw [27] (fun iv wq => ∃ (i d : Nat), i ≤ n ∧ iv = .int .i64 i ∧ wq = w7.drewN d) (fun iv _ => n - (intOf iv).toNat)
                case atStart => exact ⟨0, 0, Nat.zero_le _, rfl, rfl⟩
                case round =>
                  obtain ⟨i, d, hi, rfl, rfl⟩ := hrel
                  by_cases hin : i < n
                  · obtain ⟨g1, f1, rfl, -, -⟩ := HRA.out.at (by omega)
                    obtain ⟨g3, f3, rfl, -, -⟩ := HRB.out.at (by omega)
                    obtain ⟨x, hx, m1⟩ := HRA.out.cell hin
                    obtain ⟨x', hx', m2⟩ := HRB.out.cell hin
                    rw [hx] at hx'
                    cases hx'
                    have q3 : (i : Int) < (n : Int) := by omega
                    have q4 : (0 : Int) ≤ (i : Int) := by omega
                    have q5 : (x != x) = false := by simp
                    clear hx
                    go_wp2_with fail
                    go_quiet (fail)
                    go_wp2
                    exact ⟨⟨i + 1, _, by omega, by go_num, rfl⟩, by simp [intOf]; omega⟩
                  · obtain rfl : i = n := by omega
                    have HA1 := Lib.hid (HAl.out (w7.drewN d) (HBd.out d))
                    go_wp2_with fail
                    refine HA1.out.mono ?_
                    rintro e w8 ⟨rfl, hb8⟩
                    obtain ⟨ρ', hev⟩ := HEv.out
                    have HE := Lib.hid (below_ev (hev.trans (Ev.of_below ρ' ((HBd.out d).trans (hb8.mono (HBd.out d).size)))))
                    clear hb8 hev
                    go_wp2
                    go_ret
                    exact ⟨rfl, HE.out⟩
end Go.Proofs.Ytnfkgnjeamnhfab
