import Derived.Test.YtnfkgnjeamnhfaaKu
namespace Go.Proofs.Ytnfkgnjeamnhfaa
open Go.RowKit Go.Sort

theorem u3_begun {N : Nat} {ρ : Nat → Nat} {w w1 w2 w3 : World} {T U V : Nat} {lim s1 o1 : Int} (h1 : BegK N ρ w T 8 lim s1 o1 w1) {ρ1 : Nat → Nat} (hk1 : Kt N ρ1 w1 T 8 (gz s1 o1) [] lim) (he1 : ∀ R, Ev R ρ w ρ1 w1) {ρ2 : Nat → Nat} (hk2 : Kt N ρ2 w2 U 9 (gz s1 o1) [] lim) (he2 : ∀ R, Ev R ρ1 w1 ρ2 w2) (h3 : BegK N ρ2 w2 V 10 lim s1 o1 w3) :
    U3 N ρ w T U V lim (gz s1 o1) [] (gz s1 o1) [] (gz s1 o1) [] w3 := by
  have _ := h1
  obtain ⟨ρ3, k1, k2, k3⟩ := h3
  exact ⟨ρ3, (hk1.evs he2 (by decide) (by decide)).evs k3 (by decide) (by decide), hk2.evs k3 (by decide) (by decide), k1, k2, ((he1 _).trans (he2 _)).trans (k3 _)⟩
/-- The loop's state. -/
def UnL (N : Nat) (ρ : Nat → Nat) (w : World) (T U V : Nat) (lim : Int) (gs : Nat → List Int) (rs rT : List Rt) (ch : List Ch) (i : Nat) (wr : World) : Prop :=
  ∃ rV, runS (stepT gs lim) rs (ch.take i) = some rV ∧ U3 N ρ w T U V lim gs rT gs rs gs rV wr
set_option maxRecDepth 4000 in
set_option maxHeartbeats 4000000 in
theorem undone_law (limit : Int) (so : Option Addr) (z scap : Nat) (ops : List AOp) (co : Option Addr) (y cap : Nat) (ch : List Ch) (w : World) (hz : ops.length = z) (hz2 : z ≤ 1400000000000) (hS : ScrK w.heap.size w so ops) (hr : RdC w co y ch) (hA : InN w.heap.size co y) (hfit : ∀ c ∈ ch, Fit c.r) (hy : y ≤ 2932031007317) :
    Calls Try.prog 3 #[.int .i64 limit, .slice so z scap, .slice co y cap] w fun e w' => e = .returned (.bool true) ∧ Below w.heap.size w w' := by
  by_cases hlim : limit < 1 ∨ 256 < limit
  · have H1 := Lib.hid (fun w => begin_no limit 7 8 w hlim)
    clear hlim hS hr hA hfit
    go_enter Try.func3, Try.ntmps3
    go_wp2_with fail
    refine (H1.out w).mono ?_
    rintro e w1 ⟨rfl, hb1⟩
    have HB1 := Lib.hid hb1
    clear hb1
    go_wp2_with fail
    refine (H1.out w1).mono ?_
    rintro e w2 ⟨rfl, hb2⟩
    have HB2 := Lib.hid (HB1.out.trans (hb2.mono HB1.out.size))
    clear hb2
    go_wp2_with fail
    refine (H1.out w2).mono ?_
    rintro e w3 ⟨rfl, hb3⟩
    have HB3 := Lib.hid (HB2.out.trans (hb3.mono HB2.out.size))
    clear hb3
    go_wp2
    go_ret
    exact ⟨rfl, HB3.out⟩
  · have hz0 : ∀ b, b < w.heap.size → rho0 w.heap.size b = 0 := fun b hb => by simp [rho0, hb]
    have HB := Lib.hid (fun (ρ : Nat → Nat) (rS : Nat) (w1 : World) (hW : Wh w.heap.size ρ w1) (h8 : 8 ≤ rS) (h11 : rS ≤ 11) => begin_any w.heap.size ρ rS limit 7 8 w1 hW h8 h11 (by unfold Rg; decide) (by omega) (by omega))
    have HS := Lib.hid hS
    have HR := Lib.hid (And.intro hr (And.intro hA hfit))
    have HZ := Lib.hid (And.intro hz hz2)
    have HZ0 := Lib.hid hz0
    have Hy := Lib.hid hr.1
    clear hlim hS hr hA hfit hz hz2 hz0
    go_enter Try.func3, Try.ntmps3
    go_wp2_with fail
    refine (HB.out (rho0 w.heap.size) 8 w (wh0 w) (by decide) (by decide)).mono ?_
    rintro e w1 ⟨T, rfl, hbeg1⟩
    have HG1 := Lib.hid hbeg1
    clear hbeg1
    obtain ⟨ρ1, k1, k2, k3⟩ := HG1.out
    have HK1 := Lib.hid (And.intro k1 k3)
    have HBg2 := Lib.hid (HB.out ρ1 9 w1 k2 (by decide) (by decide))
    clear k1 k2 k3
    go_wp2_with fail
    refine HBg2.out.mono ?_
    rintro e w2 ⟨U, rfl, ρ2, k1, k2, k3⟩
    have HK2 := Lib.hid (And.intro k1 k3)
    have HBg3 := Lib.hid (HB.out ρ2 10 w2 k2 (by decide) (by decide))
    clear k1 k2 k3 HBg2
    go_wp2_with fail
    refine HBg3.out.mono ?_
    rintro e w3 ⟨V, rfl, hbeg3⟩
    have HU := Lib.hid (u3_begun HG1.out HK1.out.1 HK1.out.2 HK2.out.1 HK2.out.2 hbeg3)
    have HP1 := Lib.hid (HU.out.playT (scap := scap) (Nat.le_refl _) HZ0.out HZ.out.1 HZ.out.2 HS.out)
    clear hbeg3 HBg3 HK1 HK2 HG1 HU
    go_wp2_with fail
    refine HP1.out.mono ?_
    rintro e w4 ⟨rfl, gs, rs, hp1, hu⟩
    have HPa := Lib.hid hp1
    have HP2 := Lib.hid (hu.playU (scap := scap) (Nat.le_refl _) HZ0.out HZ.out.1 HZ.out.2 HS.out)
    clear hp1 hu HP1
    go_wp2_with fail
    refine HP2.out.mono ?_
    rintro e w5 ⟨rfl, g2, r2, hp2, hu⟩
    obtain ⟨rfl, rfl⟩ := HPa.out.one hp2
    have HP3 := Lib.hid (hu.playV (scap := scap) (Nat.le_refl _) HZ0.out HZ.out.1 HZ.out.2 HS.out)
    clear hp2 hu HP2
    go_wp2_with fail
    refine HP3.out.mono ?_
    rintro e w6 ⟨rfl, g3, r3, hp3, hu⟩
    obtain ⟨rfl, rfl⟩ := HPa.out.one hp3
    have HBt := Lib.hid (hu.batch (cap := cap) HZ0.out HR.out.1 HR.out.2.1 HR.out.2.2 hy)
    clear hp3 hu HP3
    go_wp2_with fail
    refine HBt.out.mono ?_
    rintro e w7 ⟨a, b, rT, rfl, hbt, hu⟩
    have HBat := Lib.hid hbt
    have HL0 := Lib.hid (show UnL w.heap.size (rho0 w.heap.size) w T U V limit gs rs rT ch 0 w7 from ⟨rs, rfl, hu⟩)
    clear hbt hu HBt
    go_wp2
    go_loopw [15] (fun iv wr => ∃ i : Nat, i ≤ y ∧ iv = .int .i64 i ∧ Hid (UnL w.heap.size (rho0 w.heap.size) w T U V limit gs rs rT ch i wr)) (fun iv _ => y - (intOf iv).toNat)
    case atStart => exact ⟨0, Nat.zero_le _, rfl, HL0⟩
    case round =>
      obtain ⟨i, hi, rfl, HL⟩ := hrel
      obtain ⟨rV, hrun, hu⟩ := HL.out
      by_cases hiy : i < y
      · obtain ⟨c, hc⟩ : ∃ c, ch[i]? = some c := ⟨_, List.getElem?_eq_getElem (by rw [Hy.out]; exact hiy)⟩
        have hrd := hu.read HZ0.out HR.out.1 HR.out.2.1
        rcases hrd.2 with h0 | ⟨b0, off, rfl, -, hcs⟩
        · omega
        have hat := hcs i c hc
        have ck := hat.ck
        have c0 := hat.c0
        have c1 := hat.c1
        have c2 := hat.c2
        have c3 := hat.c3
        have c4 := hat.c4
        have q1 : (i : Int) < (y : Int) := by omega
        have q0 : (0 : Int) ≤ (i : Int) := by omega
        have HCh := Lib.hid (hu.change c (HR.out.2.2 c (List.mem_of_getElem? hc)))
        have HRun := Lib.hid (And.intro hrun hc)
        obtain ⟨f, hf⟩ : ∃ f, f = (stepT gs limit rV c).1 := ⟨_, rfl⟩
        rw [← hf] at HCh
        have Hf := Lib.hid hf
        clear hrd hcs hat hu hrun hc hf HL
        go_wp2_with fail
        refine HCh.out.mono ?_
        rintro e w8 ⟨rfl, hu2⟩
        by_cases hf0 : f = 0
        · have HN := Lib.hid (show UnL w.heap.size (rho0 w.heap.size) w T U V limit gs rs rT ch (i + 1) w8 from ⟨_, by rw [List.take_add_one, HRun.out.2]; exact runS_snoc HRun.out.1 (Hf.out.symm.trans hf0), hu2⟩)
          clear hu2 HCh
          subst hf0
          go_wp2
          exact ⟨⟨i + 1, by omega, by go_num, HN⟩, by simp [intOf]; omega⟩
        · obtain ⟨ha, hb, hrt⟩ := HBat.out.one (Bat.stop HRun.out.1 HRun.out.2 (by rw [← Hf.out]; exact hf0))
          rw [← Hf.out] at hb
          subst hrt
          have HSt := Lib.hid hu2.still
          have d0 : (f == 0) = false := ine_beq hf0
          have d1 : (f == f) = true := by simp
          subst ha hb
          clear hu2 HCh hf0
          go_wp2_with fail
          refine HSt.out.mono ?_
          rintro e w9 ⟨rfl, ρ', hev⟩
          have HE := Lib.hid (below_ev hev)
          clear hev
          go_wp2
          go_ret
          exact ⟨rfl, HE.out⟩
      · obtain rfl : i = y := by omega
        obtain ⟨ha, hb, hrt⟩ := HBat.out.one (Bat.all (by rw [← Hy.out, List.take_length] at hrun; exact hrun))
        rw [Hy.out] at ha
        subst ha hb hrt
        have HSt := Lib.hid hu.done
        clear hu hrun HL
        go_wp2_with fail
        refine HSt.out.mono ?_
        rintro e w9 ⟨rfl, ρ', hev⟩
        have HE := Lib.hid (below_ev hev)
        clear hev
        go_wp2
        go_ret
        exact ⟨rfl, HE.out⟩
end Go.Proofs.Ytnfkgnjeamnhfaa
