import Derived.Test.YtnfkgnjeamnhfabKnc
import Derived.Test.YtnfkgnjeamnhfabKe
namespace Go.Proofs.Ytnfkgnjeamnhfab
open Go.RowKit

theorem ready_no (limit seed own : Int) (so : Option Addr) (z scap : Nat) (w : World) (h : limit < 1 ∨ 256 < limit) :
    Calls Try.prog 22 #[.int .i64 limit, .int .u64 seed, .int .u32 own, .slice so z scap] w fun e w' => e = .returned (.tuple #[.pointer none, .bool true]) ∧ Below w.heap.size w w' := by
  have H1 := Lib.hid (begin_no limit seed own w h)
  clear h
  go_enter Try.func22, Try.ntmps22
  go_wp2_with fail
  refine H1.out.mono ?_
  rintro e w1 ⟨rfl, hb⟩
  have HB := Lib.hid hb
  clear hb
  go_wp2
  go_ret2
  exact ⟨rfl, HB.out⟩
set_option maxHeartbeats 1000000 in
theorem ready_any (N : Nat) (ρ : Nat → Nat) (rS : Nat) (limit seed own : Int) (so : Option Addr) (z scap : Nat) (ops : List AOp) (w : World) (hW : Wh N ρ w) (h8 : 8 ≤ rS) (h11 : rS ≤ 11) (hsn : Rg seed own) (h1 : ¬ limit < 1) (h2 : ¬ 256 < limit) (hz : ops.length = z) (hz2 : z ≤ 1400000000000) (hρ : ∀ b, b < N → ρ b = 0) (hS : ScrK N w so ops) :
    Calls Try.prog 22 #[.int .i64 limit, .int .u64 seed, .int .u32 own, .slice so z scap] w fun e w' => ∃ T, e = .returned (.tuple #[.pointer (some ⟨T, 0, none⟩), .bool true]) ∧ ∃ ρ' gs rs, Kt N ρ' w' T rS gs rs limit ∧ Wh N ρ' w' ∧ playA limit (gz seed own) [] ops gs rs ∧ Ev (fun q => q = rS ∨ q = rS + 24) ρ w ρ' w' := by
  have H1 := Lib.hid (begin_any N ρ rS limit seed own w hW h8 h11 hsn h1 h2)
  have HS := Lib.hid hS
  have HN := Lib.hid hW.n
  have HP := Lib.hid hρ
  clear hW hS hρ hsn h1 h2
  go_enter Try.func22, Try.ntmps22
  go_wp2_with fail
  refine H1.out.mono ?_
  rintro e w1 ⟨T, rfl, ρ2, k1, k2, k3⟩
  have HPl := Lib.hid (play_any N ρ2 w1 T rS (gz seed own) [] limit so z scap ops hz hz2 k1 k2 h8 h11 (fun b hb => by rw [(k3 (fun _ => False)).role b (Nat.lt_of_lt_of_le hb HN.out) (by rw [HP.out b hb]; decide)]; exact HP.out b hb) (HS.out.ev HN.out (k3 (fun _ => False)) HP.out id))
  have HE := Lib.hid (k3 (fun q => q = rS ∨ q = rS + 24))
  clear k1 k2 k3
  go_wp2_with fail
  refine HPl.out.mono ?_
  rintro e w2 ⟨rfl, ρ3, gs, rs, k1, k2, k3, k4⟩
  have HR := Lib.hid (show ∃ ρ' gs rs, Kt N ρ' w2 T rS gs rs limit ∧ Wh N ρ' w2 ∧ playA limit (gz seed own) [] ops gs rs ∧ Ev (fun q => q = rS ∨ q = rS + 24) ρ w ρ' w2 from ⟨ρ3, gs, rs, k1, k2, k3, HE.out.trans k4⟩)
  clear k1 k2 k3 k4
  go_wp2
  go_ret2
  exact ⟨T, rfl, HR.out⟩
/-- Seed and own address are kept. -/
theorem stepA.kept {lim : Int} {gs gs' : Nat → List Int} {rs rs' : List Rt} {o : AOp} (h : stepA lim gs rs o gs' rs') (j : Nat) (hj : 32 ≤ j) : gs' j = gs j := by
  unfold stepA at h
  split at h
  · obtain ⟨⟨a, b, h⟩, -⟩ := h
    rcases h with ⟨-, -, -, rfl⟩ | ⟨-, -, -, -, rfl⟩ | ⟨-, i, h2, -, -, -, -, rfl⟩
    · rfl
    · rfl
    · unfold updG; rw [if_neg (by omega)]
  · split at h
    · obtain ⟨⟨c, h⟩, -⟩ := h
      rcases h with ⟨-, -, rfl⟩ | ⟨-, -, -, rfl⟩ | ⟨h1, -, -, rfl⟩
      · rfl
      · rfl
      · have h2 : o.n.toNat < 32 := by
          unfold hasB at h1
          simp only [decide_eq_true_eq] at h1
          omega
        unfold updG; rw [if_neg (by omega)]
    · split at h
      · rw [h.1]
      · split at h
        · rw [h.1]
        · split at h
          · rw [h.1]
          · rw [h.1]
theorem playA.kept {lim : Int} : ∀ {l : List AOp} {gs gs' : Nat → List Int} {rs rs' : List Rt}, playA lim gs rs l gs' rs' → ∀ j, 32 ≤ j → gs' j = gs j
  | [], _, _, _, _, h, _, _ => by rw [h.1]
  | _ :: _, _, _, _, _, ⟨_, _, h1, h2⟩, j, hj => (playA.kept h2 j hj).trans (h1.kept j hj)
end Go.Proofs.Ytnfkgnjeamnhfab
