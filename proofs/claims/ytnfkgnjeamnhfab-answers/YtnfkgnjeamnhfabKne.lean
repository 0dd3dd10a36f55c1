import Derived.Test.YtnfkgnjeamnhfabKnd
import Derived.Test.YtnfkgnjeamnhfabPa
namespace Go.Proofs.Ytnfkgnjeamnhfab
open Go.RowKit

def ownN (gs : Nat → List Int) : Nat := ((gs 33).headD 0 % 4294967296).toNat
theorem ownN_eq (gs : Nat → List Int) : sd gs 2 = .int .u32 (ownN gs : Nat) ∧ ownN gs < 4294967296 := by
  have h1 : 0 ≤ (gs 33).headD 0 % 4294967296 := Int.emod_nonneg _ (by decide)
  have h2 : (gs 33).headD 0 % 4294967296 < 4294967296 := Int.emod_lt_of_pos _ (by decide)
  unfold ownN
  refine ⟨?_, by omega⟩
  show Value.int .u32 _ = _
  rw [Int.toNat_of_nonneg h1]
/-- Forward on a table. -/
theorem kt_forward {N : Nat} {ρ : Nat → Nat} {w : World} {T rS : Nat} {gs : Nat → List Int} {rs : List Rt} {lim : Int} (h : Kt N ρ w T rS gs rs lim) (h8 : 8 ≤ rS) (h11 : rS ≤ 11) (s : ByteArray) :
    Calls Try.prog 24 #[.pointer (some ⟨T, 0, none⟩), .string s] w fun e w' => e = .returned (vV (fwdV (ownN gs) s.data.toList (fun tg => pkE rs (4, 0, tg)) (fun tg fl => pkH gs rs (4, 0, tg) fl))) ∧ Below w.heap.size w w' := by
  obtain ⟨f, hf⟩ := h.t
  obtain ⟨hown, hol⟩ := ownN_eq gs
  have hlen := h.ok.len256
  have cT : w.cell? ⟨T, 2, none⟩ = some (.int .u32 (ownN gs : Nat)) := by have h := (hf.rq.st 2 (by decide)).1; rw [hf.one 2 (.inr rfl), hown] at h; exact h
  exact forward_any T (ownN gs) hol s w cT _ _ (fun tg fl w2 h1 h2 hb2 => tpick_any (hf.ev (Ev.of_below (R := fun _ => False) ρ hb2) id id id (ro_of h8 h11)) (by omega) h.ok.srt h.ok.gd h.ok.grp (4, 0, tg) ⟨Nat.zero_le _, by show tg ≤ _; omega⟩ fl h2 (ro_of h8 h11))
/-- A sum with two bytes in its midst. -/
theorem cs_mid (p q : List UInt8) (x y : UInt8) (hp : p.length = 10) : cs 0 (p ++ x :: y :: q) = cs 0 p + (x.toNat * 256 + (y.toNat + cs 12 q)) := by
  rw [cs_append, hp]
  rfl
/-- A sealed head's sum. -/
theorem seal_cs {l : List UInt8} (hl : l.length = 20) : cs 0 (sealL l) = cs 0 (zs l) + ck (zs l) := by
  obtain ⟨b0, b1, b2, b3, b4, b5, b6, b7, b8, b9, b10, b11, b12, b13, b14, b15, b16, b17, b18, b19, rfl⟩ := list20 hl
  have hk := ck_lt (zs [b0, b1, b2, b3, b4, b5, b6, b7, b8, b9, b10, b11, b12, b13, b14, b15, b16, b17, b18, b19])
  have ez : zs [b0, b1, b2, b3, b4, b5, b6, b7, b8, b9, b10, b11, b12, b13, b14, b15, b16, b17, b18, b19] = [b0, b1, b2, b3, b4, b5, b6, b7, b8, b9] ++ 0 :: 0 :: [b12, b13, b14, b15, b16, b17, b18, b19] := rfl
  have es : sealL [b0, b1, b2, b3, b4, b5, b6, b7, b8, b9, b10, b11, b12, b13, b14, b15, b16, b17, b18, b19] = [b0, b1, b2, b3, b4, b5, b6, b7, b8, b9] ++ UInt8.ofNat (ck (zs [b0, b1, b2, b3, b4, b5, b6, b7, b8, b9, b10, b11, b12, b13, b14, b15, b16, b17, b18, b19]) / 256) :: UInt8.ofNat (ck (zs [b0, b1, b2, b3, b4, b5, b6, b7, b8, b9, b10, b11, b12, b13, b14, b15, b16, b17, b18, b19]) % 256) :: [b12, b13, b14, b15, b16, b17, b18, b19] := rfl
  rw [es, cs_mid _ _ _ _ rfl]
  generalize ck (zs [b0, b1, b2, b3, b4, b5, b6, b7, b8, b9, b10, b11, b12, b13, b14, b15, b16, b17, b18, b19]) = c at *
  rw [ez, cs_mid _ _ _ _ rfl]
  have e1 : (UInt8.ofNat (c / 256)).toNat = c / 256 := by simp; omega
  have e2 : (UInt8.ofNat (c % 256)).toNat = c % 256 := by simp
  have e3 : (0 : UInt8).toNat = 0 := rfl
  rw [e1, e2, e3]
  omega
theorem seal_ck {l : List UInt8} (hl : l.length = 20) : ck (sealL l) = 0 := by
  unfold ck
  rw [seal_cs hl]
  unfold ck
  rw [fold_whole]
theorem seal_sum {l : List UInt8} (hl : l.length = 20) : fold (cs 0 (sealL l)) = 65535 := by
  rw [seal_cs hl]
  unfold ck
  exact fold_whole _
end Go.Proofs.Ytnfkgnjeamnhfab
