import Derived.Test.YtnfkgnjeamnhfaaKt
import Derived.Test.YtnfkgnjeamnhfaaKe
namespace Go.Proofs.Ytnfkgnjeamnhfaa
open Go.ChangeShapes Go.WideShapes Go.ChangeAt Go.RowKit

set_option maxHeartbeats 4000000 in
theorem marked_law (limit : Int) (so : Option Addr) (z scap : Nat) (ops : List AOp) (w : World) (hz : ops.length = z) (hz2 : z ≤ 1400000000000) (hS : ScrK w.heap.size w so ops) :
    Calls Try.prog 4 #[.int .i64 limit, .slice so z scap] w fun e w' => e = .returned (.bool true) ∧ Below w.heap.size w w' := by
  by_cases hlim : limit < 1 ∨ 256 < limit
  · have H1 := Lib.hid (begin_no limit 5 6 w hlim)
    clear hlim hS
    go_enter Try.func4, Try.ntmps4
    go_wp2_with (go_at_call 6; refine H1.out.mono ?_; rintro e w1 ⟨rfl, hb⟩; have HB := Lib.hid hb; clear hb)
    go_ret
    exact ⟨rfl, HB.out⟩
  · have H1 := Lib.hid (begin_any w.heap.size (rho0 w.heap.size) 8 limit 5 6 w (wh0 w) (by decide) (by decide) (by unfold Rg; decide) (by omega) (by omega))
    have HS0 := Lib.hid hS
    clear hlim hS
    go_enter Try.func4, Try.ntmps4
    go_wp2_with fail
    refine H1.out.mono ?_
    rintro e w1 ⟨T, rfl, ρ2, k1, k2, k3⟩
    have hz0 : ∀ b, b < w.heap.size → rho0 w.heap.size b = 0 := fun b hb => by simp [rho0, hb]
    have HP := Lib.hid (play_any w.heap.size ρ2 w1 T 8 (gz 5 6) [] limit so z scap ops hz hz2 k1 k2 (by decide) (by decide) (fun b hb => by rw [(k3 (fun _ => False)).role b hb (by rw [hz0 b hb]; decide)]; exact hz0 b hb) (HS0.out.ev (Nat.le_refl _) (k3 (fun _ => False)) hz0 id))
    have HE1 := Lib.hid (k3 (fun q => 1 ≤ q))
    clear k1 k2 k3
    go_wp2_with fail
    refine HP.out.mono ?_
    rintro e w2 ⟨rfl, ρ3, gs, rs, k1, -, -, k4⟩
    have HB2 := Lib.hid (below_ev (HE1.out.trans (k4.mono (fun q h => by omega))))
    have HM4 := Lib.hid (marked_any k1 (by decide) (by decide) 4 (.inl rfl))
    have HM6 := Lib.hid (fun w3 (hb : Below w2.heap.size w2 w3) => marked_any (k1.below hb (by decide) (by decide)) (by decide) (by decide) 6 (.inr rfl))
    clear k1 k4 HP HE1 HS0 H1 hz0
    go_wp2_with fail
    refine HM4.out.mono ?_
    rintro e w3 ⟨rfl, hb3⟩
    have HB3 := Lib.hid hb3
    clear hb3
    go_wp2_with fail
    refine (HM6.out w3 HB3.out).mono ?_
    rintro e w4 ⟨rfl, hb4⟩
    have HB4 := Lib.hid ((HB2.out.trans (HB3.out.mono HB2.out.size)).trans (hb4.mono (Nat.le_trans HB2.out.size HB3.out.size)))
    clear hb4
    go_wp2
    go_ret
    exact ⟨rfl, HB4.out⟩

set_option maxRecDepth 100000 in
theorem marked_lifted (os : Os) (started : os.Started) (H : Type) (enc : TypeId × Value → H) :
    ReturnsInHanded {} Try.checked os 4 .any (Rows.markedSpec.pre6 enc Try.prog Try.f4 Rows.markedRow.domain false) (Rows.markedSpec.post enc Try.prog Try.f4 false true false false) := by
  refine returnsInHanded_of_change_sized (C := Try.checked) Q.own started (by kernel_rfl) Try.func4
    (ChangeSpec.witness6 (enc := enc) (C := Try.checked) false ⟨#[], #[.int .i64 0, .slice none 0 0], []⟩ 8 (by kernel_rfl) (by kernel_rfl) (by kernel_rfl) (by kernel_rfl)) ?_
  intro W base args ds gs before hval0 hW _ hsz0 _
  have hsz : (DataW.weightsEach Try.prog (Try.f4.params.toList ++ Rows.markedSpec.plain.varTypes Try.prog) (ds ++ gs)).all (· ≤ reachBytes) = true := hsz0
  clear hsz0
  have hval : ∀ (j : Nat) t v, Try.f4.params[j]? = some t → args[j]? = some v → Value.okWide Try.prog W .any base t v := hval0
  have hW' := hW
  obtain ⟨p, q, hA0, hV, rfl, _, _⟩ := hW
  have hA : DataW.TrodAll enc Try.prog W 0 (fun _ => true) true Try.f4.params.toList args.toList ds p := hA0
  rw [Try.params4] at hA hval hsz
  obtain ⟨v0, vs0, d0, ds0, p0, q0, hargs, rfl, rfl, h0, r0⟩ := trodAll_cons hA
  obtain ⟨v1, vs1, d1, ds1, p1, q1, rfl, rfl, rfl, h1, r1⟩ := trodAll_cons r0
  obtain ⟨rfl, rfl, rfl⟩ := trodAll_nil r1
  obtain rfl : args = #[v0, v1] := by cases args; simp_all
  obtain ⟨rfl, rfl⟩ := trodVars_none hV
  obtain ⟨limit, rfl, rfl, rfl, w0⟩ := open_int Try.underlying3 (hval 0 3 v0 rfl rfl) h0
  obtain ⟨so, z, cap, rfl⟩ := okWide_slice Try.underlying22 (hval 1 22 v1 rfl rfl)
  clear hA0 hval0
  simp only [List.append_nil, List.nil_append] at hW'
  have hlt1 : ∀ x ∈ p1, x.block < W.heap.size := fun x hx => hW'.lt x (by simp [hx])
  obtain ⟨ops, hz, hS, hz2⟩ := Q.open_scrK h1 (fun m hm => by
    have := List.all_eq_true.1 hsz _ (DataW.weights_mem_each (j := 1) (t := 22) (d := d1) rfl rfl m hm)
    simpa using this)
  refine (marked_law limit so z cap ops W hz hz2 hS).mono fun e W' ⟨he, hb⟩ => ?_
  subst he
  refine ⟨_, rfl, _, _, _, [], [] ++ (p1 ++ []), [], hW', ?_, ?_, rfl, hb.frame _, fun h => by cases h⟩
  · exact trodAll_cons_mk (shut_bool Try.underlying4 _) trodAll_mk0
  · exact trodAll_cons_mk (shut_int Try.underlying3 w0) (trodAll_cons_mk (Below.trod Q.laidOut (by kernel_rfl) (of_decide_eq_true (by kernel_rfl)) h1 hb hlt1) trodAll_mk0)

theorem marked_holds : Rows.MarkedSaid :=
  OpenClaim.holds_of_wide 4 Try.f4 rfl rfl rfl rfl rfl rfl rfl ⟨rfl, rfl, rfl, rfl, rfl⟩ rfl rfl rfl rfl rfl (by kernel_rfl) Try.func4 (by kernel_rfl)
    (of_decide_eq_true (by kernel_rfl)) (by unfold Func.isWrapper; first | (rw [if_pos (by decide +kernel)]; kernel_rfl) | (rw [if_neg (by decide +kernel)]; exact ⟨rfl, rfl⟩))
    (fun os started H enc _ => marked_lifted os started H enc)
end Go.Proofs.Ytnfkgnjeamnhfaa
