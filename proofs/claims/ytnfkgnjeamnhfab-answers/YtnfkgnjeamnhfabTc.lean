import Derived.Test.YtnfkgnjeamnhfabTa
namespace Go.Proofs.Ytnfkgnjeamnhfab
open Go.RowKit Go.Sort

/-- What lies in a tree's box. -/
def loOf (b : Nat) (w : World) : Nat := (intOf ((w.cell? ⟨b, 0, none⟩).getD undef)).toNat
def hiOf (b : Nat) (w : World) : Nat := (intOf ((w.cell? ⟨b, 1, none⟩).getD undef)).toNat
theorem loOf_eq {b lo : Nat} {w : World} (h : w.cell? ⟨b, 0, none⟩ = some (.int .i64 lo)) : loOf b w = lo := by unfold loOf; rw [h]; simp [intOf]
theorem hiOf_eq {b hi : Nat} {w : World} (h : w.cell? ⟨b, 1, none⟩ = some (.int .i64 hi)) : hiOf b w = hi := by unfold hiOf; rw [h]; simp [intOf]
/-- A tree's box: its two places. -/
abbrev trF (lo hi : Nat) : Nat → Value := fun j => if j = 0 then .int .i64 lo else .int .i64 hi
theorem tr_new (w : World) (lo hi : Nat) (t : TypeId) : St (w.alloc (.cells #[.int .i64 lo, .int .i64 hi] t)) w.heap.size 2 (trF lo hi) := by
  intro j hj
  rcases (by omega : j = 0 ∨ j = 1) with rfl | rfl <;> simp [trF]
theorem tr_set {w : World} {b lo hi lo' hi' : Nat} (h : St w b 2 (trF lo hi)) : St ((w.setCell ⟨b, 0, none⟩ (.int .i64 lo')).setCell ⟨b, 1, none⟩ (.int .i64 hi')) b 2 (trF lo' hi') := by
  refine ((h.set (k := 0) (by decide) _).set (k := 1) (by decide) _).congr ?_
  intro j hj
  rcases (by omega : j = 0 ∨ j = 1) with rfl | rfl <;> simp [upd, trF]
theorem tr_meas {wr w' : World} {b lo hi lo' hi' : Nat} (c0 : wr.cell? ⟨b, 0, none⟩ = some (.int .i64 lo)) (c1 : wr.cell? ⟨b, 1, none⟩ = some (.int .i64 hi)) (h : St w' b 2 (trF lo' hi')) (hlt : hi' - lo' < hi - lo) : hiOf b w' - loOf b w' < hiOf b wr - loOf b wr := by
  rw [hiOf_eq (h 1 (by decide)).1, loOf_eq (h 0 (by decide)).1, hiOf_eq c1, loOf_eq c0]; exact hlt
/-- The places lo to hi - 1 of a list. -/
def slc (L : List Int) (lo hi : Nat) : List Int := (L.take hi).drop lo
theorem slc_len {L : List Int} {lo hi : Nat} (h : hi ≤ L.length) : (slc L lo hi).length = hi - lo := by unfold slc; rw [List.length_drop, List.length_take]; omega
theorem slc_all (L : List Int) : slc L 0 L.length = L := by unfold slc; simp
theorem slc_none {L : List Int} {lo hi : Nat} (h : hi ≤ lo) : slc L lo hi = [] := by unfold slc; apply List.drop_eq_nil_of_le; rw [List.length_take]; omega
theorem slc_mid {L : List Int} {lo hi : Nat} (hlt : lo < hi) (h : hi ≤ L.length) : (slc L lo hi)[(slc L lo hi).length / 2]? = L[(lo + hi) / 2]? := by
  rw [slc_len h]
  unfold slc
  rw [List.getElem?_drop, List.getElem?_take, if_pos (by omega)]
  congr 1; omega
theorem slc_low {L : List Int} {lo hi : Nat} (hlt : lo < hi) (h : hi ≤ L.length) : (slc L lo hi).take ((slc L lo hi).length / 2) = slc L lo ((lo + hi) / 2) := by
  rw [slc_len h]
  unfold slc
  rw [List.take_drop, List.take_take]
  congr 2
  omega
theorem slc_high {L : List Int} {lo hi : Nat} (hlt : lo < hi) (h : hi ≤ L.length) : (slc L lo hi).drop ((slc L lo hi).length / 2 + 1) = slc L ((lo + hi) / 2 + 1) hi := by
  rw [slc_len h]
  unfold slc
  rw [List.drop_drop]
  congr 1; omega
theorem way_slc {L : List Int} {lo hi : Nat} {x n : Int} (hlt : lo < hi) (h : hi ≤ L.length) (hx : L[(lo + hi) / 2]? = some x) : way (slc L lo hi) n = x :: (if n < x then way (slc L lo ((lo + hi) / 2)) n else if x < n then way (slc L ((lo + hi) / 2 + 1) hi) n else []) := by
  have := way_cons (l := slc L lo hi) (x := x) (n := n) (by rw [slc_mid hlt h]; exact hx)
  rw [slc_low hlt h, slc_high hlt h] at this
  exact this
theorem asks_slc {p : Int → Bool} {L : List Int} {lo hi : Nat} {x : Int} (hlt : lo < hi) (h : hi ≤ L.length) (hx : L[(lo + hi) / 2]? = some x) : asks p (slc L lo hi) = x :: (if p x then asks p (slc L ((lo + hi) / 2 + 1) hi) else asks p (slc L lo ((lo + hi) / 2))) := by
  have := asks_cons (p := p) (l := slc L lo hi) (x := x) (by rw [slc_mid hlt h]; exact hx)
  rw [slc_low hlt h, slc_high hlt h] at this
  exact this

set_option maxHeartbeats 4000000 in
theorem onWay_any (ao : Option Addr) (z cap : Nat) (L : List Int) (m n : Int) (w : World) (hr : Rd w ao z L) (hz : z ≤ 200) :
    Calls Try.prog 97 #[.slice ao z cap, .int .i64 m, .int .i64 n] w fun e w' => e = .returned (.bool (decide (m ∈ way L n))) ∧ Below w.heap.size w w' := by
  have hlen := hr.1
  have HR := Lib.hid hr
  clear hr
  have HO := Lib.hid (fun (w : World) => over_any z w)
  have HE := Lib.hid (fun (lo hi : Nat) (w : World) => empty_any lo hi w)
  have HNo := Lib.hid (fun (lo hi : Nat) (w : World) (h : lo + hi ≤ 1000) => node_any lo hi w h)
  have HLo := Lib.hid (fun (lo hi : Nat) (w : World) (h : lo + hi ≤ 1000) => longer_any lo hi w h)
  have HSh := Lib.hid (fun (lo hi : Nat) (w : World) (h : lo + hi ≤ 1000) => shorter_any lo hi w h)
  obtain ⟨t, ht⟩ : ∃ t, t = decide (m ∈ way L n) := ⟨_, rfl⟩
  rw [← ht]
  have Ht := Lib.hid ht
  have Hlen := Lib.hid hlen
  clear ht hlen
  go_enter Try.func97, Try.ntmps97
  go_wp2_with (first | (go_at_call 61; refine (HO.out _).mono ?_; rintro e w1 ⟨rfl, hb1⟩; have Hb1 := Lib.hid hb1; clear hb1))
  obtain ⟨bt, hbt⟩ : ∃ bt, bt = w1.heap.size := ⟨_, rfl⟩
  rw [← hbt]
  have Hbt := Lib.hid (show w.heap.size ≤ bt by rw [hbt]; exact Hb1.out.size)
  have Hbt0 := Lib.hid hbt
  clear hbt
  go_loopw [] (fun wr => ∃ lo hi : Nat, lo ≤ hi ∧ hi ≤ z ∧ Hid (St wr bt 2 (trF lo hi)) ∧ Hid (Below w.heap.size w wr) ∧ Hid (t = decide (m ∈ way (slc L lo hi) n))) (fun wr => hiOf bt wr - loOf bt wr)
  case atStart =>
    refine ⟨0, z, Nat.zero_le _, Nat.le_refl _, ?_, Hb1.out.trans ((box1 _ _).mono Hb1.out.size), ?_⟩
    · rw [Hbt0.out]; exact tr_new _ _ _ _
    · show t = _; rw [Ht.out, ← Hlen.out, slc_all]
  case round =>
    obtain ⟨lo, hi, hlh, hhz, HS, HB, HT⟩ := hrel
    have c0 : wr.cell? ⟨bt, 0, none⟩ = some (.int .i64 lo) := (HS.out 0 (by decide)).1
    have c1 : wr.cell? ⟨bt, 1, none⟩ = some (.int .i64 hi) := (HS.out 1 (by decide)).1
    have hbz : bt < wr.heap.size := HS.out.lt (by decide)
    by_cases hlt : lo < hi
    · have qe : decide (hi ≤ lo) = false := decide_eq_false (by omega)
      obtain ⟨k, hk⟩ : ∃ k, k = (lo + hi) / 2 := ⟨_, rfl⟩
      have hkz : k < z := by omega
      obtain ⟨x, hx⟩ : ∃ x, L[k]? = some x := ⟨_, List.getElem?_eq_getElem (by rw [Hlen.out]; exact hkz)⟩
      obtain ⟨b, off, rfl, hbl, hcl⟩ := HR.out.at (by omega)
      have cx := (HB.out.cell (p := ⟨b, off + k, none⟩) hbl).trans (hcl k x hx)
      have hbl2 : b < wr.heap.size := Nat.lt_of_lt_of_le hbl HB.out.size
      have q0 : (0 : Int) ≤ (k : Int) := by omega
      have q1 : (k : Int) < (z : Int) := by omega
      have HW := Lib.hid (way_slc (n := n) hlt (by rw [Hlen.out]; exact hhz) (by rw [← hk]; exact hx))
      have HN1 := Lib.hid (fun (w : World) => HNo.out lo hi w (by omega))
      have HL1 := Lib.hid (fun (w : World) => HLo.out lo hi w (by omega))
      have HS1 := Lib.hid (fun (w : World) => HSh.out lo hi w (by omega))
      rw [← hk] at HN1 HL1 HS1 HW
      have Hk := Lib.hid hk
      have HE1 := Lib.hid (fun (w : World) => HE.out lo hi w)
      rw [qe] at HE1
      clear hcl hx hk qe
      by_cases h1 : x = m
      · have p1 : (x == m) = true := by rw [h1]; simp
        go_wp2_with (first | (go_at_call 62; refine (HE1.out _).mono ?_; rintro e w3 ⟨rfl, hb3⟩; have e0 := (hb3.cell (p := ⟨bt, 0, none⟩) hbz).trans c0; have e1 := (hb3.cell (p := ⟨bt, 1, none⟩) hbz).trans c1; have ex := (hb3.cell (p := ⟨b, off + k, none⟩) hbl2).trans cx; have hz3 := Nat.lt_of_lt_of_le hbz hb3.size; have hl3 := Nat.lt_of_lt_of_le hbl2 hb3.size; have HB3 := Lib.hid (HB.out.trans (hb3.mono HB.out.size)); clear hb3) | (go_at_call 63; refine (HN1.out _).mono ?_; rintro e w4 ⟨rfl, hb4⟩; have f0 := (hb4.cell (p := ⟨bt, 0, none⟩) hz3).trans e0; have f1 := (hb4.cell (p := ⟨bt, 1, none⟩) hz3).trans e1; have fx := (hb4.cell (p := ⟨b, off + k, none⟩) hl3).trans ex; have HB4 := Lib.hid (HB3.out.trans (hb4.mono HB3.out.size)); clear hb4))
        go_ret
        refine ⟨?_, HB4.out⟩
        rw [HT.out, HW.out, h1]
        simp
      · have p1 : (x == m) = false := ine_beq h1
        by_cases h2 : x = n
        · have p2 : (x == n) = true := by rw [h2]; simp
          go_wp2_with (first | (go_at_call 62; refine (HE1.out _).mono ?_; rintro e w3 ⟨rfl, hb3⟩; have e0 := (hb3.cell (p := ⟨bt, 0, none⟩) hbz).trans c0; have e1 := (hb3.cell (p := ⟨bt, 1, none⟩) hbz).trans c1; have ex := (hb3.cell (p := ⟨b, off + k, none⟩) hbl2).trans cx; have hz3 := Nat.lt_of_lt_of_le hbz hb3.size; have hl3 := Nat.lt_of_lt_of_le hbl2 hb3.size; have HB3 := Lib.hid (HB.out.trans (hb3.mono HB.out.size)); have HS3 := Lib.hid (HS.out.below hb3 hbz); clear hb3) | (go_at_call 63; refine (HN1.out _).mono ?_; rintro e w4 ⟨rfl, hb4⟩; have f0 := (hb4.cell (p := ⟨bt, 0, none⟩) hz3).trans e0; have f1 := (hb4.cell (p := ⟨bt, 1, none⟩) hz3).trans e1; have fx := (hb4.cell (p := ⟨b, off + k, none⟩) hl3).trans ex; have hz4 := Nat.lt_of_lt_of_le hz3 hb4.size; have HB4 := Lib.hid (HB3.out.trans (hb4.mono HB3.out.size)); have HS4 := Lib.hid (HS3.out.below hb4 hz3); clear hb4))
          go_ret
          refine ⟨?_, HB4.out⟩
          rw [HT.out, HW.out, h2, if_neg (by omega), if_neg (by omega)]
          simp
          intro e; exact h1 (h2.trans e.symm)
        · have p2 : (x == n) = false := ine_beq h2
          have hne : ¬ m = x := fun e => h1 e.symm
          by_cases h3 : x < n
          · have HT2 := Lib.hid (show t = decide (m ∈ way (slc L (k + 1) hi) n) by rw [HT.out, HW.out, if_neg (by omega), if_pos h3]; simp [hne])
            go_wp2_with (first | (go_at_call 62; refine (HE1.out _).mono ?_; rintro e w3 ⟨rfl, hb3⟩; have e0 := (hb3.cell (p := ⟨bt, 0, none⟩) hbz).trans c0; have e1 := (hb3.cell (p := ⟨bt, 1, none⟩) hbz).trans c1; have ex := (hb3.cell (p := ⟨b, off + k, none⟩) hbl2).trans cx; have hz3 := Nat.lt_of_lt_of_le hbz hb3.size; have hl3 := Nat.lt_of_lt_of_le hbl2 hb3.size; have HB3 := Lib.hid (HB.out.trans (hb3.mono HB.out.size)); have HS3 := Lib.hid (HS.out.below hb3 hbz); clear hb3) | (go_at_call 63; refine (HN1.out _).mono ?_; rintro e w4 ⟨rfl, hb4⟩; have f0 := (hb4.cell (p := ⟨bt, 0, none⟩) hz3).trans e0; have f1 := (hb4.cell (p := ⟨bt, 1, none⟩) hz3).trans e1; have fx := (hb4.cell (p := ⟨b, off + k, none⟩) hl3).trans ex; have hz4 := Nat.lt_of_lt_of_le hz3 hb4.size; have HB4 := Lib.hid (HB3.out.trans (hb4.mono HB3.out.size)); have HS4 := Lib.hid (HS3.out.below hb4 hz3); clear hb4) | (go_at_call 67; refine (HL1.out _).mono ?_; rintro e w5 ⟨rfl, hb5⟩; have g0 := (hb5.cell (p := ⟨bt, 0, none⟩) hz4).trans f0; have g1 := (hb5.cell (p := ⟨bt, 1, none⟩) hz4).trans f1; have HB5 := Lib.hid (HB4.out.trans (hb5.mono HB4.out.size)); have HS5 := Lib.hid (HS4.out.below hb5 hz4); have r0 := (HS5.out 0 (by decide)).2; have r1 := (HS5.out 1 (by decide)).2; clear hb5))
            go_roundw
            case rel => exact ⟨k + 1, hi, by have := Hk.out; omega, hhz, tr_set HS5.out, below_set (below_set HB5.out Hbt.out _) Hbt.out _, HT2⟩
            case measure => exact tr_meas c0 c1 (tr_set (lo' := k + 1) (hi' := hi) HS5.out) (by have := Hk.out; omega)
          · have HT2 := Lib.hid (show t = decide (m ∈ way (slc L lo k) n) by rw [HT.out, HW.out, if_pos (by omega)]; simp [hne])
            have p3 : n ≤ x := by omega
            go_wp2_with (first | (go_at_call 62; refine (HE1.out _).mono ?_; rintro e w3 ⟨rfl, hb3⟩; have e0 := (hb3.cell (p := ⟨bt, 0, none⟩) hbz).trans c0; have e1 := (hb3.cell (p := ⟨bt, 1, none⟩) hbz).trans c1; have ex := (hb3.cell (p := ⟨b, off + k, none⟩) hbl2).trans cx; have hz3 := Nat.lt_of_lt_of_le hbz hb3.size; have hl3 := Nat.lt_of_lt_of_le hbl2 hb3.size; have HB3 := Lib.hid (HB.out.trans (hb3.mono HB.out.size)); have HS3 := Lib.hid (HS.out.below hb3 hbz); clear hb3) | (go_at_call 63; refine (HN1.out _).mono ?_; rintro e w4 ⟨rfl, hb4⟩; have f0 := (hb4.cell (p := ⟨bt, 0, none⟩) hz3).trans e0; have f1 := (hb4.cell (p := ⟨bt, 1, none⟩) hz3).trans e1; have fx := (hb4.cell (p := ⟨b, off + k, none⟩) hl3).trans ex; have hz4 := Nat.lt_of_lt_of_le hz3 hb4.size; have HB4 := Lib.hid (HB3.out.trans (hb4.mono HB3.out.size)); have HS4 := Lib.hid (HS3.out.below hb4 hz3); clear hb4) | (go_at_call 68; refine (HS1.out _).mono ?_; rintro e w5 ⟨rfl, hb5⟩; have g0 := (hb5.cell (p := ⟨bt, 0, none⟩) hz4).trans f0; have g1 := (hb5.cell (p := ⟨bt, 1, none⟩) hz4).trans f1; have HB5 := Lib.hid (HB4.out.trans (hb5.mono HB4.out.size)); have HS5 := Lib.hid (HS4.out.below hb5 hz4); have r0 := (HS5.out 0 (by decide)).2; have r1 := (HS5.out 1 (by decide)).2; clear hb5))
            go_roundw
            case rel => exact ⟨lo, k, by have := Hk.out; omega, by omega, tr_set HS5.out, below_set (below_set HB5.out Hbt.out _) Hbt.out _, HT2⟩
            case measure => exact tr_meas c0 c1 (tr_set (lo' := lo) (hi' := k) HS5.out) (by have := Hk.out; omega)
    · have qe : decide (hi ≤ lo) = true := decide_eq_true (by omega)
      have HE1 := Lib.hid (fun (w : World) => HE.out lo hi w)
      rw [qe] at HE1
      clear qe
      go_wp2_with (first | (go_at_call 62; refine (HE1.out _).mono ?_; rintro e w3 ⟨rfl, hb3⟩; have HB3 := Lib.hid (HB.out.trans (hb3.mono HB.out.size)); clear hb3))
      go_ret
      refine ⟨?_, HB3.out⟩
      rw [HT.out, slc_none (by omega)]
      rfl
end Go.Proofs.Ytnfkgnjeamnhfab
namespace Go.Proofs.Ytnfkgnjeamnhfab
open Go.RowKit Go.Sort

abbrev adV (a : Ad) : Value := .agg #[.int .i64 a.1, .int .u64 a.2.1, .int .u64 a.2.2]
abbrev prV (a : Ad) (n : Int) : Value := .agg #[.int .i64 a.1, .int .u64 a.2.1, .int .u64 a.2.2, .int .i64 n]
/-- How many bits the addresses of a family have. -/
def wid (f : Int) : Int := if f = 4 then 32 else 128
theorem cut_any (a : Ad) (n : Int) (w : World) (hf : a.1 = 4 ∨ a.1 = 6) (hfit : FitA a) (h0 : 0 ≤ n) (h1 : n ≤ wid a.1) :
    Calls Try.prog 64 #[adV a, .int .i64 n] w fun e w' => e = .returned (adV (cutD a n)) ∧ Below w.heap.size w w' := by
  obtain ⟨f, hi, lo⟩ := a
  unfold wid at h1
  rcases hf with h | h
  · simp only [] at h
    subst h
    exact H.cut_4 hi lo n w hfit.1 hfit.2 h0 h1
  · simp only [] at h
    subst h
    exact H.cut_6 hi lo n w hfit.1 hfit.2 h0 h1
theorem eql_ad (a b : Ad) (w : World) : Sem.run Try.prog (binOp BinOp.eql 25 (adV a) (adV b)) w = .ok (.bool (decide (a = b))) w := by
  obtain ⟨f, hi, lo⟩ := a
  obtain ⟨f', hi', lo'⟩ := b
  simp [go_sem]
  by_cases h1 : f = f' <;> by_cases h2 : hi = hi' <;> by_cases h3 : lo = lo' <;> simp [h1, h2, h3, cast_eq]
theorem neq_ad (a b : Ad) (w : World) : Sem.run Try.prog (binOp BinOp.neq 25 (adV a) (adV b)) w = .ok (.bool (!decide (a = b))) w := by
  obtain ⟨f, hi, lo⟩ := a
  obtain ⟨f', hi', lo'⟩ := b
  simp [go_sem]
  by_cases h1 : f = f' <;> by_cases h2 : hi = hi' <;> by_cases h3 : lo = lo' <;> simp [h1, h2, h3, cast_eq]
theorem eql_pr (a b : Ad) (n m : Int) (w : World) : Sem.run Try.prog (binOp BinOp.eql 43 (prV a n) (prV b m)) w = .ok (.bool (decide (a = b ∧ n = m))) w := by
  obtain ⟨f, hi, lo⟩ := a
  obtain ⟨f', hi', lo'⟩ := b
  simp [go_sem]
  by_cases h1 : f = f' <;> by_cases h2 : hi = hi' <;> by_cases h3 : lo = lo' <;> by_cases h4 : n = m <;> simp [h1, h2, h3, h4, cast_eq]
/-- A prefix's box. -/
abbrev prF (a : Ad) (n : Int) : Nat → Value := fun j => if j = 0 then .int .i64 a.1 else if j = 1 then .int .u64 a.2.1 else if j = 2 then .int .u64 a.2.2 else .int .i64 n
theorem pr_new (w : World) (a : Ad) (n : Int) (t : TypeId) : St (w.alloc (.cells #[.int .i64 a.1, .int .u64 a.2.1, .int .u64 a.2.2, .int .i64 n] t)) w.heap.size 4 (prF a n) := by
  intro j hj
  rcases (by omega : j = 0 ∨ j = 1 ∨ j = 2 ∨ j = 3) with rfl | rfl | rfl | rfl <;> simp [prF]
/-- Two prefixes' boxes. -/
theorem pr_two (w : World) (a b : Ad) (n m : Int) (t : TypeId) : ∃ w0 b0 b1, w0 = (w.alloc (.cells #[.int .i64 a.1, .int .u64 a.2.1, .int .u64 a.2.2, .int .i64 n] t)).alloc (.cells #[.int .i64 b.1, .int .u64 b.2.1, .int .u64 b.2.2, .int .i64 m] t) ∧ b0 = w.heap.size ∧ b1 = w.heap.size + 1 ∧ St w0 b0 4 (prF a n) ∧ St w0 b1 4 (prF b m) ∧ Below w.heap.size w w0 := by
  refine ⟨_, _, _, rfl, rfl, rfl, (pr_new w a n t).alloc (by decide) _, ?_, two_boxes _ _ _⟩
  have := pr_new (w.alloc (.cells #[.int .i64 a.1, .int .u64 a.2.1, .int .u64 a.2.2, .int .i64 n] t)) b m t
  rw [World.size_alloc] at this
  exact this

/-- Contains the one prefix the other? -/
def ctn (p : Ad) (n : Int) (q : Ad) (m : Int) : Bool := decide (n ≤ m) && decide (cutD q n = p)
set_option maxHeartbeats 2000000 in
theorem contains_any (p : Ad) (n : Int) (q : Ad) (m : Int) (w : World) (hf : q.1 = 4 ∨ q.1 = 6) (hfit : FitA q) (h0 : 0 ≤ n) (h1 : n ≤ wid q.1) :
    Calls Try.prog 89 #[prV p n, prV q m] w fun e w' => e = .returned (.bool (ctn p n q m)) ∧ Below w.heap.size w w' := by
  have HC := Lib.hid (fun (w : World) => cut_any q n w hf hfit h0 h1)
  obtain ⟨t, ht⟩ : ∃ t, t = decide (cutD q n = p) := ⟨_, rfl⟩
  have hE := eql_ad (cutD q n) p
  rw [← ht] at hE
  unfold ctn
  rw [← ht]
  obtain ⟨w0, b0, b1, hw0, hb0, hb1, hS0, hS1, hB0⟩ := pr_two w p q n m 43
  have k0 : w0.cell? ⟨b0, 0, none⟩ = some (.int .i64 p.1) := (hS0 0 (by decide)).1
  have k1 : w0.cell? ⟨b0, 1, none⟩ = some (.int .u64 p.2.1) := (hS0 1 (by decide)).1
  have k2 : w0.cell? ⟨b0, 2, none⟩ = some (.int .u64 p.2.2) := (hS0 2 (by decide)).1
  have k3 : w0.cell? ⟨b0, 3, none⟩ = some (.int .i64 n) := (hS0 3 (by decide)).1
  have l0 : w0.cell? ⟨b1, 0, none⟩ = some (.int .i64 q.1) := (hS1 0 (by decide)).1
  have l1 : w0.cell? ⟨b1, 1, none⟩ = some (.int .u64 q.2.1) := (hS1 1 (by decide)).1
  have l2 : w0.cell? ⟨b1, 2, none⟩ = some (.int .u64 q.2.2) := (hS1 2 (by decide)).1
  have l3 : w0.cell? ⟨b1, 3, none⟩ = some (.int .i64 m) := (hS1 3 (by decide)).1
  generalize cutD q n = c at *
  have HB0 := Lib.hid hB0
  have Hw := Lib.hid hw0
  have Hb0 := Lib.hid hb0
  have Hb1 := Lib.hid hb1
  clear hw0 hb0 hb1 hS0 hS1 hB0 hf hfit h0 h1 ht
  by_cases h : n ≤ m
  · rw [decide_eq_true h, Bool.true_and]
    go_enter Try.func89, Try.ntmps89
    go_wp2_with fail
    rw [← Hw.out, ← Hb1.out, ← Hb0.out]
    go_wp2_with fail
    have cA : ∀ d os, Calls Try.prog 64 #[adV q, .int .i64 n] (grow (redrawn w0 d) os) fun e w'' => e = .returned (adV c) ∧ ∃ q : Regrown, w'' = grow (redrawn w0 q.d) q.os := fun d os => Calls.regrown_of (HC.out _)
    have e0 := cell_regrown k0
    have e1 := cell_regrown k1
    have e2 := cell_regrown k2
    have e3 := cell_regrown k3
    have f0 := cell_regrown l0
    have f1 := cell_regrown l1
    have f2 := cell_regrown l2
    have f3 := cell_regrown l3
    refine wp_region_quiet_below (by kernel_rfl) (by kernel_rfl) ?_
    repeat (go_big_quiet_step (first | exact cA _ _))
    refine wpQuiet_nil ?_
    intro _ hw'
    obtain ⟨⟨dq, osq⟩, hw''⟩ := hw'
    subst hw''
    have HB3 := Lib.hid (below_regrown w0 dq osq)
    generalize grow (redrawn w0 dq) osq = w3 at HB3 ⊢
    clear e0 e1 e2 e3 f0 f1 f2 f3 cA
    go_wp2
    go_ret
    exact ⟨rfl, HB0.out.trans (HB3.out.mono HB0.out.size)⟩
  · rw [decide_eq_false h, Bool.false_and]
    have h' : m < n := by omega
    go_enter Try.func89, Try.ntmps89
    go_wp2
    go_ret
    rw [← Hw.out]
    exact ⟨rfl, HB0.out⟩
/-- A route's prefix. -/
abbrev prR (r : Rt) : Value := prV (adR r) r.n
set_option maxHeartbeats 2000000 in
theorem hasMark_any (ao : Option Addr) (z cap : Nat) (L : List Int) (r : Rt) (a : Ad) (m : Int) (w : World) (hr : Rd w ao z L) (hz : z ≤ 200) (hf : r.f = 4 ∨ r.f = 6) (hfit : FitA (adR r)) (h0 : 0 ≤ m) (h1 : m ≤ wid r.f) :
    Calls Try.prog 88 #[.slice ao z cap, prR r, prV a m] w fun e w' => e = .returned (.bool (mrk L a m r)) ∧ Below w.heap.size w w' := by
  have HC := Lib.hid (fun (w : World) => contains_any a m (adR r) r.n w hf hfit h0 h1)
  have HO := Lib.hid (fun (w1 : World) (hb : Below w.heap.size w w1) => onWay_any ao z cap L m r.n w1 (hr.below hb) hz)
  obtain ⟨t, ht⟩ : ∃ t, t = mrk L a m r := ⟨_, rfl⟩
  rw [← ht]
  obtain ⟨w0, b0, b1, hw0, hb0, hb1, hS0, hS1, hB0⟩ := pr_two w (adR r) a r.n m 43
  have k0 : w0.cell? ⟨b0, 0, none⟩ = some (.int .i64 (adR r).1) := (hS0 0 (by decide)).1
  have k1 : w0.cell? ⟨b0, 1, none⟩ = some (.int .u64 (adR r).2.1) := (hS0 1 (by decide)).1
  have k2 : w0.cell? ⟨b0, 2, none⟩ = some (.int .u64 (adR r).2.2) := (hS0 2 (by decide)).1
  have k3 : w0.cell? ⟨b0, 3, none⟩ = some (.int .i64 r.n) := (hS0 3 (by decide)).1
  have l0 : w0.cell? ⟨b1, 0, none⟩ = some (.int .i64 a.1) := (hS1 0 (by decide)).1
  have l1 : w0.cell? ⟨b1, 1, none⟩ = some (.int .u64 a.2.1) := (hS1 1 (by decide)).1
  have l2 : w0.cell? ⟨b1, 2, none⟩ = some (.int .u64 a.2.2) := (hS1 2 (by decide)).1
  have l3 : w0.cell? ⟨b1, 3, none⟩ = some (.int .i64 m) := (hS1 3 (by decide)).1
  have hz0 := hS0.lt (by decide)
  have hz1 := hS1.lt (by decide)
  have Ht := Lib.hid ht
  have HB0 := Lib.hid hB0
  have Hw := Lib.hid hw0
  have Hb0 := Lib.hid hb0
  have Hb1 := Lib.hid hb1
  clear hw0 hb0 hb1 hS0 hS1 hB0 hf hfit h0 h1 ht hr
  by_cases h : r.n = m
  · have q : (r.n == m) = true := by rw [h]; simp
    have Ht2 := Lib.hid (show t = false by rw [Ht.out]; unfold mrk; rw [decide_eq_false (by omega)]; rfl)
    clear h
    go_enter Try.func88, Try.ntmps88
    go_wp2
    go_ret
    rw [Ht2.out]
    exact ⟨rfl, two_boxes _ _ _⟩
  · have q : (r.n == m) = false := ine_beq h
    obtain ⟨c, hc⟩ : ∃ c, c = ctn a m (adR r) r.n := ⟨_, rfl⟩
    rw [← hc] at HC
    have Hc := Lib.hid hc
    have Hh := Lib.hid h
    clear hc h
    go_enter Try.func88, Try.ntmps88
    go_wp2_with fail
    rw [← Hw.out, ← Hb1.out, ← Hb0.out]
    refine (HC.out _).mono ?_
    rintro e w1 ⟨rfl, hb1⟩
    have e3 := (hb1.cell (p := ⟨b0, 3, none⟩) hz0).trans k3
    have f3 := (hb1.cell (p := ⟨b1, 3, none⟩) hz1).trans l3
    have HB1 := Lib.hid (HB0.out.trans (hb1.mono HB0.out.size))
    clear hb1
    have HO1 := Lib.hid (HO.out w1 HB1.out)
    cases hcc : c with
    | false =>
      have Ht2 := Lib.hid (show t = false by
        have h := Hc.out
        rw [hcc] at h
        rw [Ht.out, Bool.eq_false_iff]
        intro e
        unfold mrk at e
        simp only [Bool.and_eq_true, decide_eq_true_eq] at e
        unfold ctn at h
        rw [decide_eq_true (by omega), decide_eq_true e.1.2] at h
        cases h)
      go_wp2
      go_ret
      rw [Ht2.out]
      exact ⟨rfl, HB1.out⟩
    | true =>
      have Ht2 := Lib.hid (show decide (m ∈ way L r.n) = t by
        have h := Hc.out
        rw [hcc] at h
        unfold ctn at h
        have h := h.symm
        simp only [Bool.and_eq_true, decide_eq_true_eq] at h
        have hne := Hh.out
        rw [Ht.out]
        unfold mrk
        rw [decide_eq_true h.2, decide_eq_true (by omega : m < r.n)]
        rfl)
      go_wp2_with (first | (go_at_call 97; refine HO1.out.mono ?_; rintro e w2 ⟨rfl, hb2⟩))
      go_ret
      rw [Ht2.out]
      exact ⟨rfl, HB1.out.trans (hb2.mono HB1.out.size)⟩
end Go.Proofs.Ytnfkgnjeamnhfab
