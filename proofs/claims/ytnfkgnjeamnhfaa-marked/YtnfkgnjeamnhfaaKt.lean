import Derived.Test.YtnfkgnjeamnhfaaKk
import Derived.Deep.RegionWith
import Derived.Deep.DeepCutAuto
namespace Go.Proofs.Ytnfkgnjeamnhfaa
open Go.RowKit Go.Sort

theorem lenE_of {fm m : Int} (hfm : fm = 4 ∨ fm = 6) (h : 0 ≤ m ∧ m ≤ wid fm) : H.lenE fm m = 0 := by
  unfold H.lenE
  unfold wid at h
  rcases hfm with h2 | h2
  · rw [if_pos h2, if_neg (by rw [if_pos h2] at h; omega)]
  · rw [if_neg (by omega), if_pos h2, if_neg (by rw [if_neg (by omega)] at h; omega)]
/-- What a longest route says of an entry. -/
theorem ent_arms {l : List Rt} {fam : Int} {L : List Int} (h : Fam l fam) (hL : LensOf L l) {m : Int} (h0 : 0 ≤ m) {a : Ad} (ha : a ∈ eadC l L m) {bi : Int} (hb : LgK l a m l.length bi) :
    (bi = -1 ∧ bst l a m = -1 ∧ grpOf l a m = -1 ∧ 0 < mks l L a m) ∨
    (∃ (j : Nat) (r : Rt), bi = (j : Int) ∧ l[j]? = some r ∧ bst l a m = r.n ∧ ((r.n = m ∧ grpOf l a m = r.g ∧ 0 ≤ r.g) ∨ (r.n ≠ m ∧ grpOf l a m = -1 ∧ 0 < mks l L a m))) := by
  unfold LgK at hb
  rw [List.take_length] at hb
  rcases hb with ⟨rfl, h1⟩ | ⟨j, r, rfl, h1, h2, h3⟩
  · have := ent_mark h hL h0 ha (by rw [h1]; omega)
    exact .inl ⟨rfl, h1, this⟩
  · refine .inr ⟨j, r, rfl, h1, h3.symm, ?_⟩
    by_cases e : r.n = m
    · exact .inl ⟨e, ent_own h ha (List.mem_of_getElem? h1) h2 e, (h.gd r (List.mem_of_getElem? h1)).g0⟩
    · exact .inr ⟨e, ent_mark h hL h0 ha (by rw [← h3]; exact e)⟩
theorem ead_fit {l : List Rt} {fam : Int} {L : List Int} (h : Fam l fam) {m : Int} {a : Ad} (ha : a ∈ eadC l L m) : a.1 = fam ∧ FitA a := by
  obtain ⟨r, hr, -, rfl⟩ := ((ead_all L h m).2 a).1 ha
  exact ⟨(cutD_fam _ _).trans (h.fam r hr), cut_fit (a := adR r) (h.gd r hr).fit _⟩
set_option maxRecDepth 4000 in
set_option maxHeartbeats 40000000 in
theorem marked_any {N : Nat} {ρ : Nat → Nat} {w : World} {T r1 : Nat} {gs : Nat → List Int} {rs : List Rt} {lim : Int} (hT : Kt N ρ w T r1 gs rs lim) (a1 : 8 ≤ r1) (a2 : r1 ≤ 11) (fm : Int) (hfm : fm = 4 ∨ fm = 6) :
    Calls Try.prog 11 #[.pointer (some ⟨T, 0, none⟩), .int .i64 fm] w fun e w' => e = .returned (.bool true) ∧ Below w.heap.size w w' := by
  have hD : dumpT rs fm = famF rs fm := by unfold dumpT; rw [if_pos hfm]
  have hLn : lensT rs fm = lnsT rs fm := by unfold lensT; rw [if_pos hfm]
  have hE0 : famE fm = 0 := by unfold famE; rw [if_pos hfm]
  have hF := fam_of hT.ok.srt hT.ok.gd fm
  have hL : LensOf (lnsT rs fm) (famF rs fm) := lensC_of (fun r hr => by have := (hF.gd r hr).len; omega)
  have hL200 : (lnsT rs fm).length ≤ 200 := by unfold lnsT; have := lensC_le (famF rs fm) 129; omega
  have hl256 : (famF rs fm).length ≤ 256 := Nat.le_trans (famF_le rs fm) hT.ok.len256
  have HD1 := Lib.hid (kt_dump hT fm)
  rw [hD, hE0] at HD1
  have HLn := Lib.hid (fun (w1 : World) (hb : Below w.heap.size w w1) => kt_lens (hT.below hb a1 a2) fm)
  rw [hLn, hE0] at HLn
  have HN := Lib.hid (fun (w1 : World) (hb : Below w.heap.size w w1) (m : Int) (hm : m ∈ lnsT rs fm) => show Calls Try.prog 16 #[.pointer (some ⟨T, 0, none⟩), .int .i64 fm, .int .i64 m] w1 fun e w' => ∃ ao n cap, e = .returned (.tuple #[.slice ao n cap, .int .i64 0]) ∧ n = (eadC (famF rs fm) (lnsT rs fm) m).length ∧ RwE w' w1.heap.size (.slice ao n cap) ((eadC (famF rs fm) (lnsT rs fm) m).map (enOf (famF rs fm) (lnsT rs fm) m)) ∧ Below w1.heap.size w1 w' from by
    have h := kt_ents (hT.below hb a1 a2) fm m
    have he := lenE_of hfm (lens0 hF hL hm)
    rw [he] at h
    rw [show entsT rs fm m = (eadC (famF rs fm) (lnsT rs fm) m).map (enOf (famF rs fm) (lnsT rs fm) m) by unfold entsT; rw [if_pos he], List.length_map] at h
    exact h)
  generalize lnsT rs fm = L at *
  generalize famF rs fm = l at *
  clear hT hD hE0 hLn
  have HF := Lib.hid hF
  have HL := Lib.hid hL
  have Hfm := Lib.hid hfm
  have hLU := hL.up
  clear hF hL hfm
  go_enter Try.func11, Try.ntmps11
  go_wp2_with fail
  refine HD1.out.mono ?_
  rintro e w1 ⟨lo, y, lc, rfl, hy, hrw1, hb1⟩
  have HB1 := Lib.hid hb1
  have HR1 := Lib.hid hrw1
  have Hy := Lib.hid hy
  have hy256 : y ≤ 256 := by rw [hy]; exact hl256
  clear hrw1 hb1 hy HD1
  go_wp2_with fail
  refine (HLn.out w1 HB1.out).mono ?_
  rintro e w2 ⟨no, n, nc, rfl, hn, hrn, hb2⟩
  have HB2 := Lib.hid (HB1.out.trans (hb2.mono HB1.out.size))
  have HR := Lib.hid (RwO.far HR1.out hb2 (fun g hg => (World.ownsRow.lt HR1.out g hg).2))
  have HRn := Lib.hid (rd_row hrn hn)
  have Hn := Lib.hid hn
  have hn200 : n ≤ 200 := by rw [hn]; exact hL200
  clear hrn hb2 hn HLn HR1 HB1
  have HC := Lib.hid (fun (k : Nat) (x : Int) (wz : World) (hx : L[k]? = some x) => marks_any L n k x wz Hn.out hn200 hLU hx)
  have HCl := Lib.hid (fun x => show cnt (way L x) x ≤ 200 from Nat.le_trans (cnt_le hLU x) hL200)
  have HLU := Lib.hid hLU
  clear hLU
  go_wp2
  go_loopw [9, 10] (fun wv iv wr => ∃ (i s d : Nat), i ≤ y ∧ iv = .int .i64 i ∧ wv = .int .i64 s ∧ wr = w2.drewN d ∧ s ≤ i * 200 ∧ Hid (s = sumN (l.take i) (fun r => cnt (way L r.n) r.n))) (fun _ iv _ => y - (intOf iv).toNat)
  case atStart => exact ⟨0, 0, 0, Nat.zero_le _, rfl, rfl, rfl, Nat.zero_le _, rfl⟩
  case round =>
    obtain ⟨i, s, d, hi, rfl, rfl, rfl, hs, HS⟩ := hrel
    by_cases hiy : i < y
    · obtain ⟨r, hr⟩ : ∃ r, l[i]? = some r := ⟨_, List.getElem?_eq_getElem (by rw [← Hy.out]; exact hiy)⟩
      have hmem := List.mem_of_getElem? hr
      obtain ⟨g1, rfl, hat1, -, -, hg1⟩ := RwO.at HR.out hr
      have c3 := hat1.c3
      have q1 : (i : Int) < (y : Int) := by omega
      have q0 : (0 : Int) ≤ (i : Int) := by omega
      have hrL := (HL.out.mem r.n).2 ⟨r, hmem, rfl⟩
      have HrL := Lib.hid hrL
      have HS1 := Lib.hid (show s + cnt (way L r.n) r.n = sumN (l.take (i + 1)) (fun r => cnt (way L r.n) r.n) by rw [sumN_take hr, ← HS.out])
      have hcl := HCl.out r.n
      have HC1 := Lib.hid (fun (k : Nat) (wz : World) (hx : L[k]? = some r.n) => HC.out k r.n wz hx)
      generalize cnt (way L r.n) r.n = C at *
      generalize r.n = rn at *
      clear hat1 hr hmem hrL
      go_wp2
      go_loopw [11] (fun kv wq => ∃ (k d : Nat), k ≤ n ∧ kv = .int .i64 k ∧ wq = w2.drewN d ∧ Hid (∀ j, j < k → L[j]? ≠ some rn)) (fun kv _ => n - (intOf kv).toNat)
      case atStart => exact ⟨0, d, Nat.zero_le _, rfl, rfl, fun j hj => by omega⟩
      case round =>
        obtain ⟨k, d, hk, rfl, rfl, HJ⟩ := hrel
        have hkn : k < n := by
          rcases Nat.lt_or_ge k n with h | h
          · exact h
          · obtain ⟨j, hj⟩ := List.getElem?_of_mem HrL.out
            have := (List.getElem?_eq_some_iff.1 hj).1
            rw [← Hn.out] at this
            exact absurd hj (HJ.out j (by omega))
        obtain ⟨b, off, rfl, hbl, hcell⟩ := HRn.out.at (by omega)
        obtain ⟨x, hx⟩ : ∃ x, L[k]? = some x := ⟨_, List.getElem?_eq_getElem (by rw [← Hn.out]; exact hkn)⟩
        have d0 := hcell k x hx
        have q2 : (k : Int) < (n : Int) := by omega
        have q3 : (0 : Int) ≤ (k : Int) := by omega
        clear hcell
        by_cases hxr : x = rn
        · subst hxr
          have HC2 := Lib.hid (fun wz => HC1.out k wz hx)
          have q4 : ((k : Int) == (n : Int)) = false := ine_beq (by omega)
          clear hx
          go_wp2_with fail
          go_quiet (fail)
          go_wp2_with fail
          refine (HC2.out _).mono ?_
          rintro e w3 ⟨rfl, rfl⟩
          go_wp2
          exact ⟨⟨i + 1, s + C, _, by omega, by go_num, by go_num, rfl, by omega, HS1⟩, by simp [intOf]; omega⟩
        · have q4 : (x != rn) = true := by simp [hxr]
          have HJ1 := Lib.hid (show ∀ j, j < k + 1 → L[j]? ≠ some rn from fun j hj => by
            rcases Nat.lt_or_ge j k with h | h
            · exact HJ.out j h
            · rw [show j = k by omega, hx]; intro e; cases e; exact hxr rfl)
          clear hx
          go_wp2_with fail
          go_quiet (fail)
          go_wp2
          exact ⟨⟨k + 1, _, by omega, by go_num, rfl, HJ1⟩, by simp [intOf]; omega⟩
    · obtain rfl : i = y := by omega
      have HWant := Lib.hid (show s = sumN L (mkAt l L) by rw [marks_sum HF.out HL.out, HS.out, Hy.out, List.take_length])
      have hs2 : s ≤ 51200 := by omega
      clear HS HC HCl hs
      have HBd := Lib.hid (show Below w.heap.size w (w2.drewN d) from ⟨HB2.out.os, HB2.out.tape, HB2.out.output, HB2.out.size, HB2.out.block⟩)
      have HRd := Lib.hid (show RwO (w2.drewN d) w.heap.size (.slice lo i lc) l from HR.out)
      have HRnd := Lib.hid (show Rd (w2.drewN d) no n L from HRn.out)
      generalize w2.drewN d = w3 at *
      have HLg := Lib.hid (fun (wz : World) (hb : Below w3.heap.size w3 wz) (m : Int) (a : Ad) (ha : a ∈ eadC l L m) => longest_any w.heap.size lo i lc l a m wz (RwO.far HRd.out hb (fun g hg => (World.ownsRow.lt HRd.out g hg).2)) Hy.out (by omega) HF.out.gd (fun r hr => (HF.out.fam r hr).trans (ead_fit HF.out ha).1.symm) (by rw [(ead_fit HF.out ha).1]; exact Hfm.out) (ead_fit HF.out ha).2)
      go_wp2
      go_loopw [12, 13, 14] (fun sv cv kv wr => ∃ (k t c : Nat), k ≤ n ∧ kv = .int .i64 k ∧ sv = .int .i64 t ∧ cv = .int .i64 c ∧ t ≤ k * 65536 ∧ c ≤ k * 256 ∧ Hid (t = sumN (L.take k) (mkAt l L)) ∧ Hid (c = sumN (L.take k) (rtAt l L)) ∧ Hid (Below w3.heap.size w3 wr)) (fun _ _ kv _ => n - (intOf kv).toNat)
      case atStart => exact ⟨0, 0, 0, Nat.zero_le _, rfl, rfl, rfl, Nat.zero_le _, Nat.zero_le _, rfl, rfl, Below.refl _ _⟩
      case round =>
        obtain ⟨k, t, c, hk, rfl, rfl, rfl, ht, hc, HT, HC, HBr⟩ := hrel
        by_cases hkn : k < n
        · obtain ⟨b, off, rfl, hbl, hcell⟩ := HRnd.out.at (by omega)
          obtain ⟨x, hx⟩ : ∃ x, L[k]? = some x := ⟨_, List.getElem?_eq_getElem (by rw [← Hn.out]; exact hkn)⟩
          have hxL := List.mem_of_getElem? hx
          have d0 := (HBr.out.cell (p := ⟨b, off + k, none⟩) hbl).trans (hcell k x hx)
          have q2 : (k : Int) < (n : Int) := by omega
          have q3 : (0 : Int) ≤ (k : Int) := by omega
          have hx0 := (lens0 HF.out HL.out hxL).1
          have HT1 := Lib.hid (show t + mkAt l L x = sumN (L.take (k + 1)) (mkAt l L) by rw [sumN_take hx, ← HT.out])
          have HC1 := Lib.hid (show c + rtAt l L x = sumN (L.take (k + 1)) (rtAt l L) by rw [sumN_take hx, ← HC.out])
          have hpos := rt_pos HF.out HL.out hxL
          have HBw := Lib.hid (HBd.out.trans (HBr.out.mono HBd.out.size))
          have HE := Lib.hid (fun (wz : World) (hb : Below wr.heap.size wr wz) => HN.out wz (HBw.out.trans (hb.mono HBw.out.size)) x hxL)
          have Hx := Lib.hid hx
          have hprev : k = 0 ∨ (0 < k ∧ ∃ v, wr.cell? ⟨b, off + (k - 1), none⟩ = some (.int .i64 v) ∧ v < x) := by
            rcases Nat.eq_zero_or_pos k with h | h
            · exact .inl h
            · obtain ⟨v, hv⟩ : ∃ v, L[k - 1]? = some v := ⟨_, List.getElem?_eq_getElem (by rw [← Hn.out]; omega)⟩
              exact .inr ⟨h, v, (HBr.out.cell (p := ⟨b, off + (k - 1), none⟩) hbl).trans (hcell (k - 1) v hv), up_get HLU.out hv hx (by omega)⟩
          clear hcell hx hxL
          go_wp2_with fail
          go_cut [94] (fun sb wx => sb = .bool false ∧ Hid (Below wr.heap.size wr wx))
          case first =>
            rcases hprev with h0 | ⟨h0, v, dv, hv⟩
            case' inl =>
              have q5 : ¬ (0 : Int) < (k : Int) := by omega
              have q56 : ¬ 0 < k := by omega
              have q6 : decide ((0 : Int) < (k : Int)) = false := decide_eq_false q5
              clear h0
            case' inr =>
              obtain ⟨kp, hkp⟩ : ∃ kp, kp = k - 1 := ⟨_, rfl⟩
              rw [← hkp] at dv
              have q5 : (0 : Int) < (k : Int) := by omega
              have q6 : IntKind.i64.wrap ((k : Int) - 1) = (kp : Int) := by rw [show (k : Int) - 1 = (kp : Int) by omega]; simp [IntKind.wrap, IntKind.bits, IntKind.signed]; omega
              have q7 : (0 : Int) ≤ (kp : Int) := by omega
              have q8 : (kp : Int) < (n : Int) := by omega
              have q9 : ¬ x ≤ v := by omega
              have q10 : decide (x ≤ v) = false := decide_eq_false q9
              clear hkp
            all_goals
              go_wp2_with fail
              go_quiet (fail)
              go_wp2_with fail
              go_meet
              exact ⟨rfl, ⟨rfl, rfl, rfl, Nat.le_refl _, fun _ _ => rfl⟩⟩
          case rest =>
            obtain ⟨rfl, HBq⟩ := hcut
            clear hprev
            generalize wc = wd at *
            have e0 : wd.cell? ⟨b, off + k, none⟩ = some (.int .i64 x) := (HBq.out.cell (p := ⟨b, off + k, none⟩) (World.block_lt_of_cell? wr _ d0)).trans d0
            clear d0
            go_wp2_with fail
            refine (HE.out wd HBq.out).mono ?_
            rintro e w4 ⟨eo, z, ec, rfl, hz, hre, hb4⟩
            have hz256 : z ≤ 256 := by rw [hz]; exact Nat.le_trans ead_len hl256
            have HRe := Lib.hid hre
            have Hz := Lib.hid hz
            have HB4 := Lib.hid (show Below w3.heap.size w3 w4 from (HBr.out.trans (HBq.out.mono HBr.out.size)).trans (hb4.mono (Nat.le_trans HBr.out.size HBq.out.size)))
            have e1 : w4.cell? ⟨b, off + k, none⟩ = some (.int .i64 x) := (hb4.cell (p := ⟨b, off + k, none⟩) (World.block_lt_of_cell? wd _ e0)).trans e0
            clear hre hz hb4 e0 HE
            go_wp2
            go_loopw [12, 17, 18] (fun sv hv iv wq => ∃ (q u h : Nat), q ≤ z ∧ iv = .int .i64 q ∧ sv = .int .i64 u ∧ hv = .int .i64 h ∧ u ≤ t + q * 256 ∧ h ≤ q ∧ Hid (u = t + sumN ((eadC l L x).take q) (fun a => mks l L a x)) ∧ Hid (h = sumN ((eadC l L x).take q) (fun a => if bst l a x = x then 1 else 0)) ∧ Hid (Below w4.heap.size w4 wq)) (fun _ _ iv _ => z - (intOf iv).toNat)
            case atStart => exact ⟨0, t, 0, Nat.zero_le _, rfl, rfl, rfl, by omega, Nat.zero_le _, rfl, rfl, Below.refl _ _⟩
            case round =>
              obtain ⟨q, u, h, hq, rfl, rfl, rfl, hu, hh, HU, HH, HB5⟩ := hrel
              have HB6 := Lib.hid (HB4.out.trans (HB5.out.mono HB4.out.size))
              by_cases hqz : q < z
              · obtain ⟨a, ha⟩ : ∃ a, (eadC l L x)[q]? = some a := ⟨_, List.getElem?_eq_getElem (by rw [← Hz.out]; exact hqz)⟩
                have haM := List.mem_of_getElem? ha
                obtain ⟨ge, rfl, -, hate, -, -, hge⟩ := RwE.at HRe.out (k := q) (r := enOf l L x a) (by rw [List.getElem?_map, ha]; rfl)
                have hM := Nat.le_trans (mks_le l L a x) hl256
                have HU1 := Lib.hid (show u + mks l L a x = t + sumN ((eadC l L x).take (q + 1)) (fun a => mks l L a x) by rw [sumN_take ha, HU.out]; omega)
                have HH1 := Lib.hid (show h + (if bst l a x = x then 1 else 0) = sumN ((eadC l L x).take (q + 1)) (fun a => if bst l a x = x then 1 else 0) by rw [sumN_take ha, HH.out])
                have HAr := Lib.hid (fun bi (hb : LgK l a x l.length bi) => ent_arms HF.out HL.out hx0 haM hb)
                have HLg1 := Lib.hid (fun (wz : World) (hb : Below wr.heap.size wr wz) => HLg.out wz (HB6.out.trans (hb.mono HB6.out.size)) x a haM)
                have m0 := (HB5.out.cell (p := ⟨ge, q * 6 + 0, none⟩) hge).trans (hate 0 (.int .i64 a.1) rfl)
                have m1 := (HB5.out.cell (p := ⟨ge, q * 6 + 1, none⟩) hge).trans (hate 1 (.int .u64 a.2.1) rfl)
                have m2 := (HB5.out.cell (p := ⟨ge, q * 6 + 2, none⟩) hge).trans (hate 2 (.int .u64 a.2.2) rfl)
                have m3 := (HB5.out.cell (p := ⟨ge, q * 6 + 3, none⟩) hge).trans (hate 3 (.int .i64 (grpOf l a x)) rfl)
                have m4 := (HB5.out.cell (p := ⟨ge, q * 6 + 4, none⟩) hge).trans (hate 4 (.int .i64 (mks l L a x : Nat)) rfl)
                have m5 := (HB5.out.cell (p := ⟨ge, q * 6 + 5, none⟩) hge).trans (hate 5 (.int .i64 (bst l a x)) rfl)
                rw [Nat.add_zero] at m0
                have e2 := (HB5.out.cell (p := ⟨b, off + k, none⟩) (World.block_lt_of_cell? w4 _ e1)).trans e1
                have hgq := Nat.lt_of_lt_of_le hge HB5.out.size
                generalize mks l L a x = M at *
                generalize grpOf l a x = G at *
                generalize bst l a x = bb at *
                have p1 : (q : Int) < (z : Int) := by omega
                have p0 : (0 : Int) ≤ (q : Int) := by omega
                have HM3 := Lib.hid m3
                have HM4 := Lib.hid m4
                have HM5 := Lib.hid m5
                clear hate ha haM m3 m5
                go_wp2_with fail
                go_cut [19] (fun sb wx => ∃ bi, sb = .int .i64 bi ∧ Hid (LgK l a x l.length bi) ∧ Hid (Below wr.heap.size wr wx))
                case first =>
                  go_region_with (go_at_call 27; refine (HLg1.out _ (by exact ⟨rfl, rfl, rfl, Nat.le_refl _, fun _ _ => rfl⟩)).mono ?_; rintro e w5 ⟨bi, rfl, hlg, hb5⟩; have Hb5 := Lib.hid (show Below wr.heap.size wr w5 from ⟨hb5.os, hb5.tape, hb5.output, hb5.size, hb5.block⟩); have Hlg := Lib.hid hlg; clear hb5 hlg)
                  all_goals
                    go_wp2_with fail
                    go_meet
                    exact ⟨bi, rfl, Hlg, ⟨Hb5.out.os, Hb5.out.tape, Hb5.out.output, Hb5.out.size, Hb5.out.block⟩⟩
                case rest =>
                obtain ⟨bi, rfl, Hlg, Hb5⟩ := hcut
                have e3 := (Hb5.out.cell (p := ⟨b, off + k, none⟩) (World.block_lt_of_cell? wr _ e2)).trans e2
                have n3 := (Hb5.out.cell (p := ⟨ge, q * 6 + 3, none⟩) hgq).trans HM3.out
                have n4 := (Hb5.out.cell (p := ⟨ge, q * 6 + 4, none⟩) hgq).trans HM4.out
                have n5 := (Hb5.out.cell (p := ⟨ge, q * 6 + 5, none⟩) hgq).trans HM5.out
                have HB7 := Lib.hid (HB5.out.trans (Hb5.out.mono HB5.out.size))
                have HB8 := Lib.hid (HB4.out.trans (HB7.out.mono HB4.out.size))
                have harm := HAr.out bi Hlg.out
                clear HAr Hlg HM3 HM4 HM5 m0 m1 m2 m4 e2 HLg1
                generalize wc = w5 at *
                rcases harm with ⟨rfl, rfl, rfl, hMp⟩ | ⟨j, r, rfl, hj, rfl, ⟨e4, rfl, hg0⟩ | ⟨e4, rfl, hMp⟩⟩
                · have p2 : ((-1 : Int) == x) = false := ine_beq (by omega)
                  have p3 : ¬ (M : Int) < 1 := by omega
                  have p4 : ¬ (M : Int) < 0 := by omega
                  have p5 : ¬ M < 1 := by omega
                  have HH2 := Lib.hid (show h = _ from (by rw [← HH1.out, if_neg (by omega)]; rfl : h = sumN ((eadC l L x).take (q + 1)) (fun a => if bst l a x = x then 1 else 0)))
                  have t3 : decide ((M : Int) < 1) = false := decide_eq_false (by omega)
                  have t4 : decide ((M : Int) < 0) = false := decide_eq_false (by omega)
                  go_wp2_with fail
                  go_big_quiet (fail)
                  go_wp2
                  exact ⟨⟨q + 1, u + M, h, by omega, by go_num, by go_num, rfl, by omega, by omega, HU1, HH2, ⟨HB7.out.os, HB7.out.tape, HB7.out.output, HB7.out.size, HB7.out.block⟩⟩, by simp [intOf]; omega⟩
                · obtain ⟨g1, rfl, hat1, -, -, hg1⟩ := RwO.at HRd.out hj
                  have hji : j < i := by rw [Hy.out]; exact (List.getElem?_eq_some_iff.1 hj).1
                  have c3 := (HB8.out.cell (p := ⟨g1, j * 5 + 3, none⟩) hg1).trans hat1.c3
                  have c4 := (HB8.out.cell (p := ⟨g1, j * 5 + 4, none⟩) hg1).trans hat1.c4
                  rw [e4] at c3 n5
                  have HH2 := Lib.hid (show h + 1 = _ from (by rw [← HH1.out, if_pos e4] : h + 1 = sumN ((eadC l L x).take (q + 1)) (fun a => if bst l a x = x then 1 else 0)))
                  clear hat1 hj HH1 e4
                  generalize r.g = rg at *
                  have p2 : (j : Int) < (i : Int) := by omega
                  have p3 : (0 : Int) ≤ (j : Int) := by omega
                  have p4 : ¬ (M : Int) < 0 := by omega
                  have p5 : (rg != -1) = true := by simp; omega
                  have p6 : (rg == -1) = false := ine_beq (by omega)
                  have t4 : decide ((M : Int) < 0) = false := decide_eq_false (by omega)
                  go_wp2_with fail
                  go_big_quiet (fail)
                  go_wp2
                  exact ⟨⟨q + 1, u + M, h + 1, by omega, by go_num, by go_num, by go_num, by omega, by omega, HU1, HH2, ⟨HB7.out.os, HB7.out.tape, HB7.out.output, HB7.out.size, HB7.out.block⟩⟩, by simp [intOf]; omega⟩
                · obtain ⟨g1, rfl, hat1, -, -, hg1⟩ := RwO.at HRd.out hj
                  have hji : j < i := by rw [Hy.out]; exact (List.getElem?_eq_some_iff.1 hj).1
                  have c3 := (HB8.out.cell (p := ⟨g1, j * 5 + 3, none⟩) hg1).trans hat1.c3
                  have HH2 := Lib.hid (show h = _ from (by rw [← HH1.out, if_neg e4]; rfl : h = sumN ((eadC l L x).take (q + 1)) (fun a => if bst l a x = x then 1 else 0)))
                  clear hat1 hj HH1
                  generalize r.n = rn at *
                  have p2 : (j : Int) < (i : Int) := by omega
                  have p3 : (0 : Int) ≤ (j : Int) := by omega
                  have p4 : ¬ (M : Int) < 0 := by omega
                  have p5 : ¬ (M : Int) < 1 := by omega
                  have p6 : (rn == x) = false := ine_beq e4
                  have p7 : ¬ M < 1 := by omega
                  have t3 : decide ((M : Int) < 1) = false := decide_eq_false (by omega)
                  have t4 : decide ((M : Int) < 0) = false := decide_eq_false (by omega)
                  go_wp2_with fail
                  go_big_quiet (fail)
                  go_wp2
                  exact ⟨⟨q + 1, u + M, h, by omega, by go_num, by go_num, rfl, by omega, by omega, HU1, HH2, ⟨HB7.out.os, HB7.out.tape, HB7.out.output, HB7.out.size, HB7.out.block⟩⟩, by simp [intOf]; omega⟩
              · obtain rfl : q = z := by omega
                have HA := Lib.hid (show u = t + mkAt l L x by rw [HU.out, Hz.out, List.take_length]; rfl)
                have HB := Lib.hid (show h = rtAt l L x by rw [HH.out, Hz.out, List.take_length]; rfl)
                have hpos2 : 0 < h := by rw [HB.out]; exact hpos
                have p3 : ((h : Int) == 0) = false := ine_beq (by omega)
                have HT2 := Lib.hid (show u = sumN (L.take (k + 1)) (mkAt l L) by rw [HA.out, HT1.out])
                have HC2 := Lib.hid (show c + h = sumN (L.take (k + 1)) (rtAt l L) by rw [HB.out, HC1.out])
                clear HA HB HT1 HC1 hpos
                go_wp2
                exact ⟨⟨k + 1, u, c + h, by omega, by go_num, rfl, by go_num, by omega, by omega, HT2, HC2, HB6⟩, by simp [intOf]; omega⟩
        · obtain rfl : k = n := by omega
          have HA := Lib.hid (show t = s by rw [HWant.out, HT.out, Hn.out, List.take_length])
          have HB := Lib.hid (show c = i by rw [HC.out, Hn.out, List.take_length, rts_sum HF.out HL.out, Hy.out])
          have HBw := Lib.hid (HBd.out.trans (HBr.out.mono HBd.out.size))
          obtain rfl := HA.out
          obtain rfl := HB.out
          clear HA HB
          go_wp2
          go_ret
          exact ⟨rfl, HBw.out⟩
end Go.Proofs.Ytnfkgnjeamnhfaa
