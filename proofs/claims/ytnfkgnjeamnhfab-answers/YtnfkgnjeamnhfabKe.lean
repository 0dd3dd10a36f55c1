import Derived.Test.YtnfkgnjeamnhfabKd
namespace Go.Proofs.Ytnfkgnjeamnhfab
open Go.RowKit Go.Sort

set_option maxHeartbeats 1000000 in
theorem begin_no (limit seed own : Int) (w : World) (h : limit < 1 ∨ 256 < limit) :
    Calls Try.prog 8 #[.int .i64 limit, .int .u64 seed, .int .u32 own] w fun e w' => e = .returned (.tuple #[.pointer none, .bool true]) ∧ Below w.heap.size w w' := by
  have H1 := Lib.hid (sure_any w)
  have H2 := Lib.hid (fun w => new_no limit seed own w h)
  have q : (decide (limit < 1) || decide (256 < limit)) = true := by simp; exact h
  by_cases h1 : limit < 1
  · clear h q
    go_enter Try.func8, Try.ntmps8
    go_wp2_with (first | (go_at_call 31; refine H1.out.mono ?_; rintro e w1 ⟨rfl, hb⟩; have HB := Lib.hid hb; clear hb) | (go_at_call 32; refine (H2.out _).mono ?_; rintro e w2 ⟨rfl, rfl⟩))
    go_ret2
    exact ⟨rfl, HB.out⟩
  · have h2 : 256 < limit := by omega
    clear h q
    go_enter Try.func8, Try.ntmps8
    go_wp2_with (first | (go_at_call 31; refine H1.out.mono ?_; rintro e w1 ⟨rfl, hb⟩; have HB := Lib.hid hb; clear hb) | (go_at_call 32; refine (H2.out _).mono ?_; rintro e w2 ⟨rfl, rfl⟩))
    go_ret2
    exact ⟨rfl, HB.out⟩
/-- What begin leaves. -/
def BegK (N : Nat) (ρ : Nat → Nat) (w : World) (T rS : Nat) (lim seed own : Int) (w' : World) : Prop := ∃ ρ', Kt N ρ' w' T rS (gz seed own) [] lim ∧ Wh N ρ' w' ∧ (∀ R, Ev R ρ w ρ' w')
set_option maxHeartbeats 1000000 in
theorem begin_any (N : Nat) (ρ : Nat → Nat) (rS : Nat) (limit seed own : Int) (w : World) (hW : Wh N ρ w) (h8 : 8 ≤ rS) (h11 : rS ≤ 11) (hsn : Rg seed own) (h1 : ¬ limit < 1) (h2 : ¬ 256 < limit) :
    Calls Try.prog 8 #[.int .i64 limit, .int .u64 seed, .int .u32 own] w fun e w' => ∃ T, e = .returned (.tuple #[.pointer (some ⟨T, 0, none⟩), .bool true]) ∧ BegK N ρ w T rS limit seed own w' := by
  have H1 := Lib.hid (sure_any w)
  have H2 := Lib.hid (fun w => newq_any limit seed own w h1 h2)
  have HW := Lib.hid hW
  have HSN := Lib.hid hsn
  clear hW hsn
  go_enter Try.func8, Try.ntmps8
  go_wp2_with (first | (go_at_call 31; refine H1.out.mono ?_; rintro e w1 ⟨rfl, hb⟩; have HB := Lib.hid hb; clear hb) | (go_at_call 32; refine (H2.out _).mono ?_; rintro e w2 ⟨rfl, hn⟩; have HN := Lib.hid hn; clear hn))
  go_ret2
  obtain ⟨ρ', k1, k2, k3⟩ := kt_new HSN.out h8 h11 (HW.out.below HB.out) (by omega) (by omega) HN.out
  exact ⟨_, rfl, ρ', k1, k2, fun R => (Ev.of_below ρ HB.out).trans (k3 R)⟩
/-- What a script leaves. -/
def PlK (N : Nat) (ρ : Nat → Nat) (w : World) (T rS : Nat) (lim : Int) (gs0 : Nat → List Int) (rs0 : List Rt) (ops : List AOp) (w' : World) : Prop := ∃ ρ' gs rs, Kt N ρ' w' T rS gs rs lim ∧ Wh N ρ' w' ∧ playA lim gs0 rs0 ops gs rs ∧ Ev (fun q => q = rS ∨ q = rS + 24) ρ w ρ' w'
set_option maxRecDepth 4000 in
set_option maxHeartbeats 4000000 in
theorem play_any (N : Nat) (ρ : Nat → Nat) (w : World) (T rS : Nat) (gs0 : Nat → List Int) (rs0 : List Rt) (lim : Int) (so : Option Addr) (z scap : Nat) (ops : List AOp) (hz : ops.length = z) (hz2 : z ≤ 1400000000000) (hT : Kt N ρ w T rS gs0 rs0 lim) (hW : Wh N ρ w) (h8 : 8 ≤ rS) (h11 : rS ≤ 11) (hρ : ∀ b, b < N → ρ b = 0) (hS : ScrK N w so ops) :
    Calls Try.prog 9 #[.pointer (some ⟨T, 0, none⟩), .slice so z scap] w fun e w' => e = .returned (.tuple #[]) ∧ PlK N ρ w T rS lim gs0 rs0 ops w' := by
  have HT := Lib.hid hT
  have HW := Lib.hid hW
  have HP := Lib.hid hρ
  have HS := Lib.hid hS
  have Hz := Lib.hid hz
  clear hT hW hρ hS hz
  go_enter Try.func9, Try.ntmps9
  go_wp2
  go_loopw [4] (fun i wr => ∃ k : Nat, k ≤ z ∧ i = .int .i64 k ∧ Hid (PlK N ρ w T rS lim gs0 rs0 (ops.take k) wr)) (fun i _ => z - (intOf i).toNat)
  case atStart => exact ⟨0, Nat.zero_le _, rfl, ⟨ρ, gs0, rs0, HT.out, HW.out, by rw [List.take_zero]; exact ⟨rfl, rfl⟩, Ev.refl _ _ _⟩⟩
  case round =>
    obtain ⟨k, hk, rfl, HK⟩ := hrel
    by_cases hlt : k < z
    · obtain ⟨o, ho⟩ : ∃ o, ops[k]? = some o := ⟨_, List.getElem?_eq_getElem (by rw [Hz.out]; exact hlt)⟩
      obtain ⟨b, off, rfl, hop⟩ := HS.out k o ho
      obtain ⟨ρ1, gs, rs, k1, k2, k3, k4⟩ := HK.out
      have hop1 := hop.ev HW.out.n k4 HP.out (by omega)
      have HPL := Lib.hid (fun (gs' : Nat → List Int) (rs' : List Rt) (w' : World) (hst : stepA lim gs rs o gs' rs') (hth : KThen N ρ1 wr T rS gs' rs' lim w') => show PlK N ρ w T rS lim gs0 rs0 (ops.take (k + 1)) w' from by
        obtain ⟨ρ2, j1, j2, j3⟩ := hth
        refine ⟨ρ2, gs', rs', j1, j2, ?_, k4.trans j3⟩
        rw [List.take_add_one, ho]
        exact playA.snoc k3 hst)
      obtain ⟨ao, n, cap, c7, h7, h7m, h7n⟩ := hop1.hops
      obtain ⟨co, y, ccap, c8, l2, l3, l4, l5⟩ := hop1.list
      have c0 := hop1.c0
      have c1 := hop1.c1
      have c2 := hop1.c2
      have c3 := hop1.c3
      have c4 := hop1.c4
      have c5 := hop1.c5
      have c6 := hop1.c6
      have hfit := hop1.fit
      have q1 : (k : Int) < (z : Int) := by omega
      have q0 : (0 : Int) ≤ (k : Int) := by omega
      have hbx := fun (ob : Obj) => box1 wr ob
      have HG := Lib.hid (fun (ob : Obj) => kt_group (cap := cap) (k1.below (hbx ob) h8 h11) (k2.below (hbx ob)) h8 h11 (Rd.below h7 (hbx ob)) h7m)
      have HD := Lib.hid (fun (ob : Obj) => kt_drop (k1.below (hbx ob) h8 h11) (k2.below (hbx ob)) h8 h11 o.n)
      have HPt := Lib.hid (fun (ob : Obj) => kt_put (k1.below (hbx ob) h8 h11) (k2.below (hbx ob)) h8 h11 o.r hfit)
      have HTk := Lib.hid (fun (ob : Obj) => kt_take (k1.below (hbx ob) h8 h11) (k2.below (hbx ob)) h8 h11 o.r hfit)
      have HBt := Lib.hid (fun (ob : Obj) => kt_batch (cap := ccap) (k1.below (hbx ob) h8 h11) (k2.below (hbx ob)) h8 h11 (RdC.below l2 (hbx ob)) l3 (by omega))
      have HSame := Lib.hid (fun (ob : Obj) => show KThen N ρ1 wr T rS gs rs lim (wr.alloc ob) from ⟨ρ1, k1.below (hbx ob) h8 h11, k2.below (hbx ob), Ev.of_below ρ1 (hbx ob)⟩)
      have HOf := Lib.hid (fun (ob : Obj) (gs' : Nat → List Int) (rs' : List Rt) (w' : World) (h : KThen N ρ1 (wr.alloc ob) T rS gs' rs' lim w') => KThen.of (hbx ob) h)
      clear hop hop1 k1 k2 k3 k4 HK ho h7 h7m h7n l2 l3 l4 l5 hbx hfit
      obtain ⟨kk, nn, ⟨rf, rhi, rlo, rn, rg⟩, xs, cs⟩ := o
      simp only [] at c0 c1 c2 c3 c4 c5 c6 HG HD HPt HTk HBt HPL
      by_cases e1 : kk = 1
      · subst e1
        go_wp2_with (go_at_call 17; refine (HG.out _).mono ?_; rintro e w2 ⟨a, bb, gs', rfl, hg, hth⟩; have HX := Lib.hid (HPL.out gs' rs w2 (stepA_group rfl hg) (HOf.out _ _ _ _ hth)); clear hg hth)
        go_roundw
        case rel => exact ⟨k + 1, by omega, by go_num, HX⟩
        case measure => simp [intOf]; omega
      · have d1 : (kk == 1) = false := ine_beq e1
        by_cases e2 : kk = 2
        · subst e2
          go_wp2_with (go_at_call 18; refine (HD.out _).mono ?_; rintro e w2 ⟨c, gs', rfl, hg, hth⟩; have HX := Lib.hid (HPL.out gs' rs w2 (stepA_drop rfl hg) (HOf.out _ _ _ _ hth)); clear hg hth)
          go_roundw
          case rel => exact ⟨k + 1, by omega, by go_num, HX⟩
          case measure => simp [intOf]; omega
        · have d2 : (kk == 2) = false := ine_beq e2
          by_cases e3 : kk = 3
          · subst e3
            go_wp2_with (go_at_call 20; refine (HPt.out _).mono ?_; rintro e w2 ⟨rfl, hth⟩; have HX := Lib.hid (HPL.out gs _ w2 (stepA_put rfl) (HOf.out _ _ _ _ hth)); clear hth)
            go_roundw
            case rel => exact ⟨k + 1, by omega, by go_num, HX⟩
            case measure => simp [intOf]; omega
          · have d3 : (kk == 3) = false := ine_beq e3
            by_cases e4 : kk = 4
            · subst e4
              go_wp2_with (go_at_call 33; refine (HTk.out _).mono ?_; rintro e w2 ⟨rfl, hth⟩; have HX := Lib.hid (HPL.out gs _ w2 (stepA_take rfl) (HOf.out _ _ _ _ hth)); clear hth)
              go_roundw
              case rel => exact ⟨k + 1, by omega, by go_num, HX⟩
              case measure => simp [intOf]; omega
            · have d4 : (kk == 4) = false := ine_beq e4
              by_cases e5 : kk = 5
              · subst e5
                go_wp2_with (go_at_call 34; refine (HBt.out _).mono ?_; rintro e w2 ⟨a, bb, rs', rfl, hg, hth⟩; have HX := Lib.hid (HPL.out gs rs' w2 (stepA_batch rfl hg) (HOf.out _ _ _ _ hth)); clear hg hth)
                go_roundw
                case rel => exact ⟨k + 1, by omega, by go_num, HX⟩
                case measure => simp [intOf]; omega
              · have d5 : (kk == 5) = false := ine_beq e5
                have HX := Lib.hid (fun (ob : Obj) => HPL.out gs rs (wr.alloc ob) (by unfold stepA; rw [if_neg e1, if_neg e2, if_neg e3, if_neg e4, if_neg e5]; exact ⟨rfl, rfl⟩) (HSame.out ob))
                clear HG HD HPt HTk HBt HOf HSame HPL
                go_wp2
                go_roundw
                case rel => exact ⟨k + 1, by omega, by go_num, HX.out _⟩
                case measure => simp [intOf]; omega
    · obtain rfl : k = z := by omega
      have HE := Lib.hid (show PlK N ρ w T rS lim gs0 rs0 ops wr by have := HK.out; rw [← Hz.out, List.take_length] at this; exact this)
      clear HK
      go_wp2
      refine bodyPost_end (results_none rfl _ _ _) rfl ?_
      exact ⟨rfl, HE.out⟩
end Go.Proofs.Ytnfkgnjeamnhfab
