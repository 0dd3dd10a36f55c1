import Derived.Test.YtnfkgnjeamnhfabKg
import Derived.Deep.RegionWith
import Derived.Deep.DeepCutAuto
namespace Go.Proofs.Ytnfkgnjeamnhfab
open Go.RowKit Go.Sort

theorem lnsK_of {cs : List Rt} (hg : ∀ r ∈ cs, Gd r) (fam : Int) : LensOf (lnsT cs fam) (famF cs fam) :=
  lensC_of (fun r hr => by have := (hg r (famF_mem.1 hr).1).len; omega)
theorem good_any (a : Ad) (w : World) : Calls Try.prog 11 #[adV a] w fun e w' => e = .returned (.bool (decide (H.adrE a.1 a.2.1 a.2.2 = 0))) ∧ Below w.heap.size w w' := by
  obtain ⟨f, hi, lo⟩ := a
  simp only []
  unfold H.adrE
  by_cases h4 : f = 4
  · subst h4
    rw [if_pos rfl]
    by_cases h0 : hi = 0
    · subst h0
      by_cases hl : lo < 4294967296
      · rw [if_pos ⟨rfl, hl⟩]; exact H.good_4y lo w hl
      · rw [if_neg (by omega)]; exact H.good_4n lo w hl
    · rw [if_neg (by omega)]; exact H.good_4h hi lo w (ine_beq (by omega))
  · rw [if_neg h4]
    by_cases h6 : f = 6
    · subst h6; rw [if_pos rfl]; exact H.good_6 hi lo w
    · rw [if_neg h6]; exact H.good_no f hi lo w (ine_beq h4) (ine_beq h6)
theorem kt_look {N : Nat} {ρ : Nat → Nat} {w : World} {T rS : Nat} {gs : Nat → List Int} {rs : List Rt} {lim : Int} (h : Kt N ρ w T rS gs rs lim) (a : Ad) (hfit : FitA a) :
    Calls Try.prog 10 #[.pointer (some ⟨T, 0, none⟩), .agg #[.int .i64 a.1, .int .u64 a.2.1, .int .u64 a.2.2]] w fun e w' => ∃ ao n cap, e = .returned (.tuple #[.agg #[.int .i64 (lookLT rs a), .int .i64 (lookGT rs a), .slice ao n cap], .int .i64 (H.adrE a.1 a.2.1 a.2.2)]) ∧ n = (lookAT rs a).length ∧ w'.ownsRow w.heap.size 3 1 (.slice ao n cap) n (ints (lookAT rs a)) ∧ Below w.heap.size w w' := by
  obtain ⟨f, hf⟩ := h.t
  have := h.ok.len256
  exact tlook_any hf (by omega) h.ok.srt h.ok.gd a hfit
/-- What Lookup finds is the longest. -/
theorem look_lgk {gs : Nat → List Int} {rs : List Rt} {lim : Int} (h : Ok gs rs lim) {a : Ad} (h0 : H.adrE a.1 a.2.1 a.2.2 = 0) {bi : Int} (hl : LgK (famF rs a.1) a 128 (famF rs a.1).length bi) :
    (bi = -1 ∧ lookLT rs a = -1 ∧ lookGT rs a = -1) ∨ ∃ (j : Nat) (r : Rt), bi = (j : Int) ∧ (famF rs a.1)[j]? = some r ∧ lookLT rs a = r.n ∧ lookGT rs a = r.g := by
  have hF := fam_of h.srt h.gd a.1
  unfold lookLT lookGT
  rw [if_pos h0, if_pos h0, lk_best hF (lnsK_of h.gd a.1) a]
  rcases hl with ⟨rfl, hb⟩ | ⟨j, r, rfl, hj, hm, hb⟩
  · rw [List.take_length] at hb
    rw [hb]
    exact .inl ⟨rfl, rfl, gof_none (fun r hr => (hF.gd r hr).len.1) (by decide)⟩
  · rw [List.take_length] at hb
    rw [← hb]
    exact .inr ⟨j, r, rfl, hj, rfl, gof_some hF.ones (fun s hs => (famF_mem.1 hs).2) (List.mem_of_getElem? hj) rfl hm.2⟩
set_option maxRecDepth 4000 in
set_option maxHeartbeats 2000000 in
theorem longest_law (limit : Int) (so : Option Addr) (z scap : Nat) (ops : List AOp) (a : Ad) (hfit : FitA a) (w : World) (hz : ops.length = z) (hz2 : z ≤ 1400000000000) (hS : ScrK w.heap.size w so ops) :
    Calls Try.prog 3 #[.int .i64 limit, .slice so z scap, adV a] w fun e w' => e = .returned (.bool true) ∧ Below w.heap.size w w' := by
  by_cases hlim : limit < 1 ∨ 256 < limit
  · have H1 := Lib.hid (fun w => begin_no limit 1 2 w hlim)
    clear hlim hS
    go_enter Try.func3, Try.ntmps3
    go_wp2_with (go_at_call 8; refine (H1.out _).mono ?_; rintro e w1 ⟨rfl, hb⟩; have HB := Lib.hid hb; clear hb)
    go_ret
    exact ⟨rfl, (box1 w _).trans (HB.out.mono (box1 w _).size)⟩
  · obtain ⟨w0, hw0⟩ : ∃ w0, w0 = w.alloc (.cells #[.int .i64 a.1, .int .u64 a.2.1, .int .u64 a.2.2] 25) := ⟨_, rfl⟩
    obtain ⟨ba, hba⟩ : ∃ x, x = w.heap.size := ⟨_, rfl⟩
    obtain ⟨ρ1, b1, b2, b3⟩ := kt_box (wh0 w) (.cells #[.int .i64 a.1, .int .u64 a.2.1, .int .u64 a.2.2] 25)
    have hSt : St w0 ba 3 (adF a) := by rw [hw0, hba]; exact ad_at a _ rfl
    rw [← hw0] at b1 b3
    rw [← hba] at b2
    have H1 := Lib.hid (begin_any w.heap.size ρ1 8 limit 1 2 w0 b1 (by decide) (by decide) (by unfold Rg; decide) (by omega) (by omega))
    have hz0 : ∀ b, b < w.heap.size → ρ1 b = 0 := fun b hb => by rw [(b3 (fun _ => False)).role b hb (by simp [rho0, hb])]; simp [rho0, hb]
    have HS0 := Lib.hid (hS.ev (Nat.le_refl _) (b3 (fun _ => False)) (fun b hb => by simp [rho0, hb]) id)
    have HE0 := Lib.hid (b3 (fun q => 1 ≤ q))
    have HX0 := Lib.hid (show St w0 ba 3 (adF a) ∧ ρ1 ba = 13 ∧ (∀ b, b < w.heap.size → ρ1 b = 0) ∧ w.heap.size ≤ w0.heap.size from ⟨hSt, b2, hz0, b1.n⟩)
    have Hw0 := Lib.hid hw0
    have Hba := Lib.hid hba
    clear hw0 hba hSt b1 b2 b3 hz0 hS hlim
    go_enter Try.func3, Try.ntmps3
    go_wp2_with fail
    rw [← Hw0.out, ← Hba.out]
    refine H1.out.mono ?_
    rintro e w1 ⟨T, rfl, ρ2, k1, k2, k3⟩
    have HP := Lib.hid (play_any w.heap.size ρ2 w1 T 8 (gz 1 2) [] limit so z scap ops hz hz2 k1 k2 (by decide) (by decide) (fun b hb => by rw [(k3 (fun _ => False)).role b (Nat.lt_of_lt_of_le hb HX0.out.2.2.2) (by rw [HX0.out.2.2.1 b hb]; decide)]; exact HX0.out.2.2.1 b hb) (HS0.out.ev HX0.out.2.2.2 (k3 (fun _ => False)) HX0.out.2.2.1 id))
    have HX1 := Lib.hid (show St w1 ba 3 (adF a) ∧ ρ2 ba = 13 from ⟨HX0.out.1.ev (by decide) (k3 (fun _ => False)) id (by rw [HX0.out.2.1]; decide), by rw [(k3 (fun _ => False)).role ba (HX0.out.1.lt (by decide)) (by rw [HX0.out.2.1]; decide)]; exact HX0.out.2.1⟩)
    have HE1 := Lib.hid (HE0.out.trans (k3 (fun q => 1 ≤ q)))
    clear k1 k2 k3
    go_wp2_with fail
    refine HP.out.mono ?_
    rintro e w2 ⟨rfl, ρ3, gs, rs, k1, k2, -, k4⟩
    have HX2 := Lib.hid (HX1.out.1.ev (by decide) k4 (by rw [HX1.out.2]; decide) (by rw [HX1.out.2]; decide))
    have HE2 := Lib.hid (below_ev (HE1.out.trans (k4.mono (fun q h => by omega))))
    have HK := Lib.hid k1
    have a0 : w2.cell? ⟨ba, 0, none⟩ = some (.int .i64 a.1) := (HX2.out 0 (by decide)).1
    have a1 : w2.cell? ⟨ba, 1, none⟩ = some (.int .u64 a.2.1) := (HX2.out 1 (by decide)).1
    have a2 : w2.cell? ⟨ba, 2, none⟩ = some (.int .u64 a.2.2) := (HX2.out 2 (by decide)).1
    have HL := Lib.hid (fun (w3 : World) (hb : Below w2.heap.size w2 w3) => kt_look (k1.below hb (by decide) (by decide)) a hfit)
    clear k1 k2 k4 HP HE1 HX1 HS0 HX0 HE0 H1
    go_wp2_with fail
    refine (HL.out w2 (Below.refl _ _)).mono ?_
    rintro e w3 ⟨ao, n, cap, rfl, rfl, hrow, hb3⟩
    obtain ⟨w4, hw4⟩ : ∃ w4, w4 = w3.alloc (.cells #[.int .i64 (lookLT rs a), .int .i64 (lookGT rs a), .slice ao (lookAT rs a).length cap] 33) := ⟨_, rfl⟩
    obtain ⟨bx, hbx⟩ : ∃ x, x = w3.heap.size := ⟨_, rfl⟩
    have hb4 : Below w2.heap.size w2 w4 := by rw [hw4]; exact hb3.trans ((box1 w3 _).mono hb3.size)
    have HX4 := Lib.hid (HX2.out.below hb4 (HX2.out.lt (by decide)))
    have HF4 := Lib.hid (show St w4 bx 3 (fun j => if j = 0 then .int .i64 (lookLT rs a) else if j = 1 then .int .i64 (lookGT rs a) else .slice ao (lookAT rs a).length cap) by
      rw [hw4, hbx]
      refine (St.new w3 _ _).congr fun j hj => ?_
      have hj : j < 3 := hj
      iterate 3 (rcases j with _ | j; · rfl)
      omega)
    have HB4 := Lib.hid hb4
    have Hw4 := Lib.hid hw4
    have Hbx := Lib.hid hbx
    have HGd := Lib.hid (fun w => show Calls Try.prog 11 #[.agg #[.int .i64 a.1, .int .u64 a.2.1, .int .u64 a.2.2]] w fun e w' => e = .returned (.bool (decide (H.adrE a.1 a.2.1 a.2.2 = 0))) ∧ Below w.heap.size w w' from good_any a w)
    have hx3 := HX2.out.below hb3 (HX2.out.lt (by decide))
    have hlt3 := hx3.lt (by decide)
    clear hw4 hbx hb4 hrow a0 a1 a2
    have a0 : w3.cell? ⟨ba, 0, none⟩ = some (.int .i64 a.1) := (hx3 0 (by decide)).1
    have a1 : w3.cell? ⟨ba, 1, none⟩ = some (.int .u64 a.2.1) := (hx3 1 (by decide)).1
    have a2 : w3.cell? ⟨ba, 2, none⟩ = some (.int .u64 a.2.2) := (hx3 2 (by decide)).1
    clear hb3 hx3
    obtain ⟨er, her⟩ : ∃ er, er = H.adrE a.1 a.2.1 a.2.2 := ⟨_, rfl⟩
    rw [← her] at HGd ⊢
    have Her := Lib.hid her
    have HLk := Lib.hid (fun (h0 : er = 0) (bi : Int) (hl : LgK (famF rs a.1) a 128 (famF rs a.1).length bi) => look_lgk HK.out.ok (h0 ▸ her).symm hl)
    have hcs : er = 0 ∨ er = 2 ∨ er = 4 := by rw [her]; unfold H.adrE; split; split <;> simp; split <;> simp
    generalize lookLT rs a = ln at *
    generalize lookGT rs a = gn at *
    clear her
    go_wp2_with fail
    rw [← Hw4.out, ← Hbx.out]
    refine (HGd.out w4).mono ?_
    rintro e w5 ⟨rfl, hb5⟩
    have HX5 := Lib.hid (HX4.out.below hb5 (HX4.out.lt (by decide)))
    have HF5 := Lib.hid (HF4.out.below hb5 (HF4.out.lt (by decide)))
    have HB5 := Lib.hid (HB4.out.trans (hb5.mono HB4.out.size))
    clear hb5 a0 a1 a2 hlt3
    by_cases h0 : er = 0
    · have HLk1 := Lib.hid (HLk.out h0)
      subst h0
      clear hcs HLk
      have a0 : w5.cell? ⟨ba, 0, none⟩ = some (.int .i64 a.1) := (HX5.out 0 (by decide)).1
      have HD := Lib.hid (kt_dump (HK.out.below HB5.out (by decide) (by decide)) a.1)
      have hfa := adrE_ok Her.out.symm
      rw [show dumpT rs a.1 = famF rs a.1 by unfold dumpT; rw [if_pos hfa], show famE a.1 = 0 by unfold famE; rw [if_pos hfa]] at HD
      go_wp2_with fail
      refine HD.out.mono ?_
      rintro e w6 ⟨lo, y, lc, rfl, hy, hrw, hb6⟩
      have HX6 := Lib.hid (HX5.out.below hb6 (HX5.out.lt (by decide)))
      have HF6 := Lib.hid (HF5.out.below hb6 (HF5.out.lt (by decide)))
      have HB6 := Lib.hid (HB5.out.trans (hb6.mono HB5.out.size))
      have HRw := Lib.hid hrw
      have Hy := Lib.hid hy
      have hlen : y ≤ 1000 := by rw [hy]; exact Nat.le_trans (famF_le rs a.1) (Nat.le_trans HK.out.ok.len256 (by decide))
      have HLg := Lib.hid (show Calls Try.prog 13 #[.slice lo y lc, .agg #[.int .i64 a.1, .int .u64 a.2.1, .int .u64 a.2.2], .int .i64 128] w6 fun e w' => ∃ bi : Int, e = .returned (.int .i64 bi) ∧ LgK (famF rs a.1) a 128 (famF rs a.1).length bi ∧ Below w6.heap.size w6 w' from longest_any w5.heap.size lo y lc (famF rs a.1) a 128 w6 hrw hy hlen (fun r hr => HK.out.ok.gd r (famF_mem.1 hr).1) (fun r hr => (famF_mem.1 hr).2) hfa hfit)
      clear hb6 hrw hy a0
      have a0 : w6.cell? ⟨ba, 0, none⟩ = some (.int .i64 a.1) := (HX6.out 0 (by decide)).1
      have a1 : w6.cell? ⟨ba, 1, none⟩ = some (.int .u64 a.2.1) := (HX6.out 1 (by decide)).1
      have a2 : w6.cell? ⟨ba, 2, none⟩ = some (.int .u64 a.2.2) := (HX6.out 2 (by decide)).1
      go_wp2_with fail
      refine HLg.out.mono ?_
      rintro e w7 ⟨bi, rfl, hlg, hb7⟩
      have hf7 := HF6.out.below hb7 (HF6.out.lt (by decide))
      have hB7 := HB6.out.trans (hb7.mono HB6.out.size)
      have HB7 := Lib.hid (HE2.out.trans (hB7.mono HE2.out.size))
      have x0 : w7.cell? ⟨bx, 0, none⟩ = some (.int .i64 ln) := (hf7 0 (by decide)).1
      have x1 : w7.cell? ⟨bx, 1, none⟩ = some (.int .i64 gn) := (hf7 1 (by decide)).1
      have hrw7 := RwO.far HRw.out hb7 (fun g hg => (World.ownsRow.lt HRw.out g hg).2)
      clear a0 a1 a2 hb7 hf7 hB7 HLg HX6 HF6
      rcases HLk1.out bi hlg with ⟨rfl, rfl, rfl⟩ | ⟨j, r, rfl, hj, rfl, rfl⟩
      · clear hrw7 hlg
        go_wp2
        go_ret
        exact ⟨rfl, HB7.out⟩
      · obtain ⟨g, rfl, hat, -, -, hgl⟩ := hrw7.at hj
        have hjy : j < y := by rw [Hy.out]; exact (List.getElem?_eq_some_iff.1 hj).1
        have q1 : (j : Int) < (y : Int) := by omega
        have qj : ¬ (j : Int) < 0 := by omega
        have q0 : (0 : Int) ≤ (j : Int) := by omega
        have z3 := hat.c3
        have z4 := hat.c4
        clear hat hrw7 hlg hj
        go_wp2_with fail
        go_quiet (fail)
        go_wp2
        go_ret
        exact ⟨rfl, ⟨HB7.out.os, HB7.out.tape, HB7.out.output, HB7.out.size, HB7.out.block⟩⟩
    · have d0 : decide (er = 0) = false := decide_eq_false h0
      clear HLk
      rcases hcs with h | rfl | rfl
      · exact absurd h h0
      · go_wp2
        go_ret
        exact ⟨rfl, HE2.out.trans (HB5.out.mono HE2.out.size)⟩
      · go_wp2
        go_ret
        exact ⟨rfl, HE2.out.trans (HB5.out.mono HE2.out.size)⟩
end Go.Proofs.Ytnfkgnjeamnhfab
