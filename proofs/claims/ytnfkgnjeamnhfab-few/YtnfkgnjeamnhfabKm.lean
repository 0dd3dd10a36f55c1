import Derived.Test.YtnfkgnjeamnhfabKh
namespace Go.Proofs.Ytnfkgnjeamnhfab
open Go.RowKit Go.Sort

set_option maxHeartbeats 1000000 in
theorem digits_any (n : Nat) (w : World) (hn : n ≤ 1000) : Calls Try.prog 15 #[.int .i64 n] w fun e w' => e = .returned (.int .i64 (dig n : Nat)) ∧ w' = w := by
  go_enter Try.func15, Try.ntmps15
  go_wp2
  go_loop [0, 3] (fun x y => ∃ m c : Nat, x = .int .i64 m ∧ y = .int .i64 c ∧ c + m ≤ 1000 ∧ Hid (c + dig m = dig n)) (fun x _ => (intOf x).toNat)
  case atStart => exact ⟨n, 0, rfl, rfl, by omega, Nat.zero_add _⟩
  case round =>
    obtain ⟨m, c, rfl, rfl, hm, HD⟩ := hrel
    by_cases h0 : 0 < m
    · have q : (0 : Int) < (m : Int) := by omega
      have q2 : ((m : Int).tdiv 2) = ((m / 2 : Nat) : Int) := rfl
      have HD2 := Lib.hid (show (c + 1) + dig (m / 2) = dig n by rw [← HD.out, dig_half h0]; omega)
      go_wp2
      exact ⟨⟨m / 2, c + 1, by go_num, by go_num, by omega, HD2⟩, by simp [intOf]; omega⟩
    · obtain rfl : m = 0 := by omega
      have HD2 := Lib.hid (show c = dig n by have := HD.out; rw [show dig 0 = 0 from rfl] at this; omega)
      go_wp2
      go_ret
      exact ⟨by rw [← HD2.out]; rfl, rfl⟩
theorem any_succ {L : List Int} {j : Nat} {v x : Int} {b : Bool} (hv : L[j]? = some v) (hb : b = (L.take j).any (fun t => t == x)) : (b || v == x) = (L.take (j + 1)).any (fun t => t == x) := by
  rw [List.take_add_one, hv, List.any_append, hb]; simp
theorem any_succ_not {L : List Int} {j : Nat} {v x : Int} {b : Bool} (hv : L[j]? = some v) (hb : b = !(L.take j).any (fun t => t == x)) : (b && !(v == x)) = !(L.take (j + 1)).any (fun t => t == x) := by
  rw [List.take_add_one, hv, List.any_append, hb]; simp
theorem nodup_none {A : List Int} {k : Nat} {x : Int} (h : A.Nodup) (hx : A[k]? = some x) : (A.take k).any (fun t => t == x) = false := by
  rw [Bool.eq_false_iff]
  intro hc
  obtain ⟨t, ht, e⟩ := List.any_eq_true.1 hc
  have e : t = x := by simpa using e
  subst e
  obtain ⟨i, hi⟩ := List.getElem?_of_mem ht
  have hik : i < k := by have := (List.getElem?_eq_some_iff.1 hi).1; rw [List.length_take] at this; omega
  rw [List.getElem?_take_of_lt hik] at hi
  have h1 := (List.getElem?_eq_some_iff.1 hi).1
  have := (List.getElem?_inj h1 h).1 (hi.trans hx.symm)
  omega
set_option maxRecDepth 4000 in
set_option maxHeartbeats 4000000 in
theorem few_law (limit : Int) (so : Option Addr) (z scap : Nat) (ops : List AOp) (a : Ad) (hfit : FitA a) (w : World) (hz : ops.length = z) (hz2 : z ≤ 1400000000000) (hS : ScrK w.heap.size w so ops) :
    Calls Try.prog 4 #[.int .i64 limit, .slice so z scap, adV a] w fun e w' => e = .returned (.bool true) ∧ Below w.heap.size w w' := by
  by_cases hlim : limit < 1 ∨ 256 < limit
  · have H1 := Lib.hid (fun w => begin_no limit 3 4 w hlim)
    clear hlim hS
    go_enter Try.func4, Try.ntmps4
    go_wp2_with (go_at_call 8; refine (H1.out _).mono ?_; rintro e w1 ⟨rfl, hb⟩; have HB := Lib.hid hb; clear hb)
    go_ret
    exact ⟨rfl, (box1 w _).trans (HB.out.mono (box1 w _).size)⟩
  · obtain ⟨w0, hw0⟩ : ∃ w0, w0 = w.alloc (.cells #[.int .i64 a.1, .int .u64 a.2.1, .int .u64 a.2.2] 25) := ⟨_, rfl⟩
    obtain ⟨ba, hba⟩ : ∃ x, x = w.heap.size := ⟨_, rfl⟩
    obtain ⟨ρ1, b1, b2, b3⟩ := kt_box (wh0 w) (.cells #[.int .i64 a.1, .int .u64 a.2.1, .int .u64 a.2.2] 25)
    have hSt : St w0 ba 3 (adF a) := by rw [hw0, hba]; exact ad_at a _ rfl
    rw [← hw0] at b1 b3
    rw [← hba] at b2
    have H1 := Lib.hid (begin_any w.heap.size ρ1 8 limit 3 4 w0 b1 (by decide) (by decide) (by unfold Rg; decide) (by omega) (by omega))
    have hz0 : ∀ b, b < w.heap.size → ρ1 b = 0 := fun b hb => by rw [(b3 (fun _ => False)).role b hb (by simp [rho0, hb])]; simp [rho0, hb]
    have HS0 := Lib.hid (hS.ev (Nat.le_refl _) (b3 (fun _ => False)) (fun b hb => by simp [rho0, hb]) id)
    have HE0 := Lib.hid (b3 (fun q => 1 ≤ q))
    have HX0 := Lib.hid (show St w0 ba 3 (adF a) ∧ ρ1 ba = 13 ∧ (∀ b, b < w.heap.size → ρ1 b = 0) ∧ w.heap.size ≤ w0.heap.size from ⟨hSt, b2, hz0, b1.n⟩)
    have Hw0 := Lib.hid hw0
    have Hba := Lib.hid hba
    clear hw0 hba hSt b1 b2 b3 hz0 hS hlim
    go_enter Try.func4, Try.ntmps4
    go_wp2_with fail
    rw [← Hw0.out, ← Hba.out]
    refine H1.out.mono ?_
    rintro e w1 ⟨T, rfl, ρ2, k1, k2, k3⟩
    have HP := Lib.hid (play_any w.heap.size ρ2 w1 T 8 (gz 3 4) [] limit so z scap ops hz hz2 k1 k2 (by decide) (by decide) (fun b hb => by rw [(k3 (fun _ => False)).role b (Nat.lt_of_lt_of_le hb HX0.out.2.2.2) (by rw [HX0.out.2.2.1 b hb]; decide)]; exact HX0.out.2.2.1 b hb) (HS0.out.ev HX0.out.2.2.2 (k3 (fun _ => False)) HX0.out.2.2.1 id))
    have HX1 := Lib.hid (show St w1 ba 3 (adF a) ∧ ρ2 ba = 13 from ⟨HX0.out.1.ev (by decide) (k3 (fun _ => False)) id (by rw [HX0.out.2.1]; decide), by rw [(k3 (fun _ => False)).role ba (HX0.out.1.lt (by decide)) (by rw [HX0.out.2.1]; decide)]; exact HX0.out.2.1⟩)
    have HE1 := Lib.hid (HE0.out.trans (k3 (fun q => 1 ≤ q)))
    clear k1 k2 k3
    go_wp2_with fail
    refine HP.out.mono ?_
    rintro e w2 ⟨rfl, ρ3, gs, rs, k1, k2, -, k4⟩
    have HX2 := Lib.hid (HX1.out.1.ev (by decide) k4 (by rw [HX1.out.2]; decide) (by rw [HX1.out.2]; decide))
    have HE2 := Lib.hid (below_ev (HE1.out.trans (k4.mono (fun q h => by omega))))
    have HK := Lib.hid k1
    have a0 : w2.cell? ⟨ba, 0, none⟩ = some (.int .i64 a.1) := (HX2.out 0 (by decide)).1
    have a1 : w2.cell? ⟨ba, 1, none⟩ = some (.int .u64 a.2.1) := (HX2.out 1 (by decide)).1
    have a2 : w2.cell? ⟨ba, 2, none⟩ = some (.int .u64 a.2.2) := (HX2.out 2 (by decide)).1
    have HL := Lib.hid (fun (w3 : World) (hb : Below w2.heap.size w2 w3) => kt_look (k1.below hb (by decide) (by decide)) a hfit)
    clear k1 k2 k4 HP HE1 HX1 HS0 HX0 HE0 H1
    go_wp2_with fail
    refine (HL.out w2 (Below.refl _ _)).mono ?_
    rintro e w3 ⟨ao, n, cap, rfl, rfl, hrow, hb3⟩
    obtain ⟨w4, hw4⟩ : ∃ w4, w4 = w3.alloc (.cells #[.int .i64 (lookLT rs a), .int .i64 (lookGT rs a), .slice ao (lookAT rs a).length cap] 33) := ⟨_, rfl⟩
    obtain ⟨bx, hbx⟩ : ∃ x, x = w3.heap.size := ⟨_, rfl⟩
    have hb4 : Below w2.heap.size w2 w4 := by rw [hw4]; exact hb3.trans ((box1 w3 _).mono hb3.size)
    have HX4 := Lib.hid (HX2.out.below hb4 (HX2.out.lt (by decide)))
    have HF4 := Lib.hid (show St w4 bx 3 (fun j => if j = 0 then .int .i64 (lookLT rs a) else if j = 1 then .int .i64 (lookGT rs a) else .slice ao (lookAT rs a).length cap) by
      rw [hw4, hbx]
      refine (St.new w3 _ _).congr fun j hj => ?_
      have hj : j < 3 := hj
      iterate 3 (rcases j with _ | j; · rfl)
      omega)
    have HB4 := Lib.hid hb4
    have Hw4 := Lib.hid hw4
    have Hbx := Lib.hid hbx
    have hx3 := HX2.out.below hb3 (HX2.out.lt (by decide))
    have hlt3 := hx3.lt (by decide)
    clear hw4 hbx hb4 a0 a1 a2
    have a0 : w3.cell? ⟨ba, 0, none⟩ = some (.int .i64 a.1) := (hx3 0 (by decide)).1
    have a1 : w3.cell? ⟨ba, 1, none⟩ = some (.int .u64 a.2.1) := (hx3 1 (by decide)).1
    have a2 : w3.cell? ⟨ba, 2, none⟩ = some (.int .u64 a.2.2) := (hx3 2 (by decide)).1
    clear hb3 hx3
    have HGd := Lib.hid (fun w => show Calls Try.prog 11 #[.agg #[.int .i64 a.1, .int .u64 a.2.1, .int .u64 a.2.2]] w fun e w' => e = .returned (.bool (decide (H.adrE a.1 a.2.1 a.2.2 = 0))) ∧ Below w.heap.size w w' from good_any a w)
    have hAT : ¬ H.adrE a.1 a.2.1 a.2.2 = 0 → lookAT rs a = [] := fun h => by unfold lookAT; rw [if_neg h]
    have hAT1 : H.adrE a.1 a.2.1 a.2.2 = 0 → lookAT rs a = asks (fnd (famF rs a.1) (lnsT rs a.1) a) (lnsT rs a.1) := fun h => by unfold lookAT; rw [if_pos h]
    have hfa : H.adrE a.1 a.2.1 a.2.2 = 0 → a.1 = 4 ∨ a.1 = 6 := fun h => adrE_ok h
    generalize lookLT rs a = ln at *
    generalize lookGT rs a = gn at *
    generalize lookAT rs a = A at *
    generalize H.adrE a.1 a.2.1 a.2.2 = er at *
    by_cases h0 : er = 0
    · have hfb := hfa h0
      have hA := hAT1 h0
      subst h0
      clear hAT hAT1 HGd
      have HLn := Lib.hid (kt_lens (HK.out.below HB4.out (by decide) (by decide)) a.1)
      rw [show lensT rs a.1 = lnsT rs a.1 by unfold lensT; rw [if_pos hfb], show famE a.1 = 0 by unfold famE; rw [if_pos hfb]] at HLn
      have HO4 := Lib.hid (rowE_far hrow (show Below w3.heap.size w3 w4 by rw [Hw4.out]; exact box1 _ _) (fun g hg => (World.ownsRow.lt hrow g hg).2))
      have hUp := lnsK_of HK.out.ok.gd a.1
      obtain ⟨L, hL⟩ : ∃ L, L = lnsT rs a.1 := ⟨_, rfl⟩
      rw [← hL] at HLn hA hUp
      have hL129 : L.length ≤ 129 := by rw [hL]; unfold lnsT; exact lensC_le _ _
      have hA1 : A.length ≤ dig L.length := by rw [hA]; exact vis_len _ _
      have hA2 : ∀ x ∈ A, x ∈ L := by rw [hA]; exact vis_sub _ _
      have hA3 : A.Nodup := by rw [hA]; exact vis_nodup _ _ hUp.up
      have hA4 : 0 < L.length → A.length ≠ 0 := fun h => by
        obtain ⟨x, hx⟩ : ∃ x, L[L.length / 2]? = some x := ⟨_, List.getElem?_eq_getElem (by omega)⟩
        rw [hA, asks_cons hx]; simp
      have HAs := Lib.hid (And.intro hA1 (And.intro hA2 (And.intro hA3 hA4)))
      have hA129 : A.length ≤ 129 := Nat.le_trans hA1 (Nat.le_trans (dig_mono 129 L.length 129 (Nat.le_refl _) hL129) (by decide))
      have HDg := Lib.hid (digits_any L.length)
      clear hA hUp hL hA1 hA2 hA3 hA4 hrow hfa hfb
      go_wp2_with fail
      rw [← Hw4.out, ← Hbx.out]
      refine HLn.out.mono ?_
      rintro e w5 ⟨lo, y, lc, rfl, hy, hrow5, hb5⟩
      have hf5 := HF4.out.below hb5 (HF4.out.lt (by decide))
      obtain ⟨u, hu⟩ : ∃ u, u = A.length := ⟨_, rfl⟩
      have x2 : w5.cell? ⟨bx, 2, none⟩ = some (.slice ao u cap) := by rw [hu]; exact (hf5 2 (by decide)).1
      have HRA := Lib.hid (show Rd w5 ao u A by rw [hu]; exact rd_row (rowE_far HO4.out hb5 (fun g hg => (World.ownsRow.lt HO4.out g hg).2)) rfl)
      have HRL := Lib.hid (rd_row hrow5 hy)
      have hB5 := HB4.out.trans (hb5.mono HB4.out.size)
      have HB5 := Lib.hid (HE2.out.trans (hB5.mono HE2.out.size))
      obtain ⟨hA1, hA2, hA3, hA4⟩ := HAs.out
      rw [← hy] at hA1 hA4 HDg hL129
      rw [← hu] at hA1 hA4 hA129 ⊢
      obtain ⟨D, hD⟩ : ∃ D, D = dig y := ⟨_, rfl⟩
      rw [← hD] at hA1 HDg
      have HDq := Lib.hid (fun (w : World) => HDg.out w (by omega))
      have q1 : ¬ (D : Int) < (u : Int) := by omega
      have q2 : decide ((D : Int) < (u : Int)) = false := decide_eq_false q1
      have q1n : ¬ D < u := by omega
      have HG2 := Lib.hid (And.intro hA2 hA3)
      have Hu := Lib.hid hu
      have Hy := Lib.hid hy
      clear hA1 hA2 hA3 HDg HAs hD hu hy a0 a1 a2 hb5 hf5 hB5 hrow5
      go_wp2_with fail
      go_cut [77] (fun s77 wx => s77 = .bool false ∧ ∃ d, wx = w5.drewN d)
      case first =>
        by_cases hL0 : y = 0
        · subst hL0
          clear hA4
          go_quiet ((go_at_call 15; exact Calls.quiet_of_same (HDq.out _)))
          go_wp2_with fail
          go_meet
          exact ⟨rfl, _, rfl⟩
        · have hA0 := hA4 (by omega)
          have q3 : ((u : Int) == 0) = false := ine_beq (by omega)
          have q5 : (0 : Int) < (y : Int) := by omega
          have q6 : 0 < y := by omega
          clear hL0 hA4
          go_quiet ((go_at_call 15; exact Calls.quiet_of_same (HDq.out _)))
          go_wp2_with fail
          go_meet
          exact ⟨rfl, _, rfl⟩
      case rest =>
      obtain ⟨rfl, d, rfl⟩ := hcut
      clear q1 q2 q1n HDq hA4
      go_wp2
      go_loopw [13] (fun i wr => ∃ k : Nat, k ≤ u ∧ i = .int .i64 k ∧ ∃ d, wr = w5.drewN d) (fun i _ => u - (intOf i).toNat)
      case atStart => exact ⟨0, Nat.zero_le _, rfl, d, rfl⟩
      case round =>
        obtain ⟨k, hk, rfl, dd, rfl⟩ := hrel
        by_cases hlt : k < u
        · obtain ⟨bA, oA, rfl, hbA, -⟩ := HRA.out.at (by omega)
          obtain ⟨x, hxk, hxc⟩ := HRA.out.cell hlt
          have hxL := HG2.out.1 x (List.mem_of_getElem? hxk)
          have hy0 : 0 < y := by rw [Hy.out]; exact List.length_pos_of_mem hxL
          obtain ⟨bL, oL, rfl, hbL, -⟩ := HRL.out.at hy0
          have q1 : (k : Int) < (u : Int) := by omega
          have q0 : (0 : Int) ≤ (k : Int) := by omega
          have HRL2 := Lib.hid HRL.out
          have HxL := Lib.hid hxL
          have Hxk := Lib.hid hxk
          clear hxL hxk
          go_wp2
          go_loopw [14, 15] (fun hv kv wq => ∃ (j : Nat) (b : Bool), j ≤ y ∧ kv = .int .i64 j ∧ hv = .bool b ∧ Hid (b = (L.take j).any (fun t => t == x)) ∧ ∃ d, wq = w5.drewN d) (fun _ kv _ => y - (intOf kv).toNat)
          case atStart => exact ⟨0, false, Nat.zero_le _, rfl, rfl, rfl, dd, rfl⟩
          case round =>
            obtain ⟨j, b, hj, rfl, rfl, Hb, de, rfl⟩ := hrel
            by_cases hjy : j < y
            · obtain ⟨v, hv, hvc⟩ := HRL2.out.cell hjy
              have q3 : (j : Int) < (y : Int) := by omega
              have q4 : (0 : Int) ≤ (j : Int) := by omega
              have Hb2 := Lib.hid (any_succ hv Hb.out)
              clear hv Hb
              cases b
              · cases hvx : (v == x)
                · rw [hvx] at Hb2
                  go_wp2_with fail
                  go_quiet (fail)
                  go_wp2
                  exact ⟨⟨j + 1, false, by omega, by go_num, rfl, Hb2, _, rfl⟩, by simp [intOf]; omega⟩
                · rw [hvx] at Hb2
                  go_wp2_with fail
                  go_quiet (fail)
                  go_wp2
                  exact ⟨⟨j + 1, true, by omega, by go_num, rfl, Hb2, _, rfl⟩, by simp [intOf]; omega⟩
              · go_wp2_with fail
                go_quiet (fail)
                go_wp2
                exact ⟨⟨j + 1, true, by omega, by go_num, rfl, Hb2, _, rfl⟩, by simp [intOf]; omega⟩
            · obtain rfl : j = y := by omega
              obtain rfl : b = true := by
                rw [Hb.out, Hy.out, List.take_length]
                exact List.any_eq_true.2 ⟨x, HxL.out, by simp⟩
              clear Hb hjy
              go_wp2
              go_loopw [14, 16] (fun hv kv wq => ∃ (i : Nat) (b : Bool), i ≤ k ∧ kv = .int .i64 i ∧ hv = .bool b ∧ Hid (b = !(A.take i).any (fun t => t == x)) ∧ ∃ d, wq = w5.drewN d) (fun _ kv _ => k - (intOf kv).toNat)
              case atStart => exact ⟨0, true, Nat.zero_le _, rfl, rfl, rfl, de, rfl⟩
              case round =>
                obtain ⟨i, b, hi, rfl, rfl, Hb, df, rfl⟩ := hrel
                by_cases hik : i < k
                · obtain ⟨v, hv, hvc⟩ := HRA.out.cell (j := i) (by omega)
                  have q3 : (i : Int) < (k : Int) := by omega
                  have q4 : (0 : Int) ≤ (i : Int) := by omega
                  have q5 : (i : Int) < (u : Int) := by omega
                  have Hb2 := Lib.hid (any_succ_not hv Hb.out)
                  clear hv Hb
                  cases b
                  · go_wp2_with fail
                    go_quiet (fail)
                    go_wp2
                    exact ⟨⟨i + 1, false, by omega, by go_num, rfl, Hb2, _, rfl⟩, by simp [intOf]; omega⟩
                  · cases hvx : (v == x)
                    · rw [hvx] at Hb2
                      have hvn : (v != x) = true := by rw [bne, hvx]; rfl
                      go_wp2_with fail
                      go_quiet (fail)
                      go_wp2
                      exact ⟨⟨i + 1, true, by omega, by go_num, rfl, Hb2, _, rfl⟩, by simp [intOf]; omega⟩
                    · rw [hvx] at Hb2
                      have hvn : (v != x) = false := by rw [bne, hvx]; rfl
                      go_wp2_with fail
                      go_quiet (fail)
                      go_wp2
                      exact ⟨⟨i + 1, false, by omega, by go_num, rfl, Hb2, _, rfl⟩, by simp [intOf]; omega⟩
                · obtain rfl : i = k := by omega
                  obtain rfl : b = true := by
                    rw [Hb.out, nodup_none HG2.out.2 Hxk.out]; rfl
                  clear Hb hik
                  go_wp2
                  exact ⟨⟨i + 1, by omega, by go_num, df, rfl⟩, by simp [intOf]; omega⟩
        · obtain rfl : k = u := by omega
          go_wp2
          go_ret
          refine ⟨rfl, ?_⟩
          have h := HB5.out
          exact ⟨h.os, h.tape, h.output, h.size, h.block⟩
    · have hA := hAT h0
      have d0 : decide (er = 0) = false := decide_eq_false h0
      have d1 : (er == 0) = false := ine_beq h0
      subst hA
      clear hAT hAT1
      rw [show ([] : List Int).length = 0 from rfl] at Hw4 HF4
      go_wp2_with fail
      rw [← Hw4.out, ← Hbx.out]
      refine (HGd.out w4).mono ?_
      rintro e w5 ⟨rfl, hb5⟩
      have hf5 := HF4.out.below hb5 (HF4.out.lt (by decide))
      have x2 : w5.cell? ⟨bx, 2, none⟩ = some (.slice ao 0 cap) := (hf5 2 (by decide)).1
      have hB5 := HB4.out.trans (hb5.mono HB4.out.size)
      have HB5 := Lib.hid (HE2.out.trans (hB5.mono HE2.out.size))
      clear hb5 hf5 hB5 a0 a1 a2
      go_wp2
      go_ret
      exact ⟨rfl, HB5.out⟩
end Go.Proofs.Ytnfkgnjeamnhfab
