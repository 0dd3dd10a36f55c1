import Derived.Test.YtnfkgnjeamnhfabKng
import Derived.Test.YtnfkgnjeamnhfabKne
import Derived.Test.YtnfkgnjeamnhfabKh
namespace Go.Proofs.Ytnfkgnjeamnhfab
open Go.RowKit Go.Sort

/-! ### A built packet's head. -/
def pt (p : Pk) : List UInt8 := sealL (hdL p) ++ bdL p ++ p.m.data.toList
theorem hd_len (p : Pk) : (hdL p).length = 20 := rfl
theorem hs_len (p : Pk) : (sealL (hdL p)).length = 20 := by rw [sealL_len, hd_len]
theorem bd_len (p : Pk) : (bdL p).length ≤ 1000 := by unfold bdL; rw [List.length_take]; omega
theorem nP_le (p : Pk) : nP p ≤ 1020 := by unfold nP; have := bd_len p; omega
theorem u8_of {v : Nat} (h : v < 256) : (UInt8.ofNat v).toNat = v := by simp; omega
theorem u8_ch (a : UInt8) : a.toNat < 256 := a.toNat_lt
theorem hs_0 (p : Pk) : g1 (sealL (hdL p)) 0 = 69 := rfl
theorem hs_8 (p : Pk) : g1 (sealL (hdL p)) 8 = p.life.toNat := rfl
theorem hs_9 (p : Pk) : g1 (sealL (hdL p)) 9 = p.proto.toNat := rfl
theorem hs_n (p : Pk) : g2 (sealL (hdL p)) 2 = nP p := by
  show (UInt8.ofNat (nP p / 256)).toNat * 256 + (UInt8.ofNat (nP p % 256)).toNat = nP p
  have := nP_le p
  rw [u8_of (by omega), u8_of (by omega)]; omega
theorem hs_part {p : Pk} (hp : PkFit p) : g2 (sealL (hdL p)) 6 = p.part := by
  show (UInt8.ofNat (p.part / 256)).toNat * 256 + (UInt8.ofNat (p.part % 256)).toNat = p.part
  have := hp.part
  rw [u8_of (by omega), u8_of (by omega)]; omega
theorem hs_12 {p : Pk} (hp : PkFit p) : g1 (sealL (hdL p)) 12 = p.src / 16777216 := by
  show (UInt8.ofNat (p.src / 65536 / 256)).toNat = _
  have := hp.src
  rw [u8_of (by omega)]; omega
theorem hs_16 {p : Pk} (hp : PkFit p) : g1 (sealL (hdL p)) 16 = p.dst / 16777216 := by
  show (UInt8.ofNat (p.dst / 65536 / 256)).toNat = _
  have := hp.dst
  rw [u8_of (by omega)]; omega
theorem hs_dst {p : Pk} (hp : PkFit p) : g4 (sealL (hdL p)) 16 = p.dst := by
  show (((UInt8.ofNat (p.dst / 65536 / 256)).toNat * 256 + (UInt8.ofNat (p.dst / 65536 % 256)).toNat) * 256 + (UInt8.ofNat (p.dst % 65536 / 256)).toNat) * 256 + (UInt8.ofNat (p.dst % 65536 % 256)).toNat = p.dst
  have := hp.dst
  rw [u8_of (by omega), u8_of (by omega), u8_of (by omega), u8_of (by omega)]; omega
theorem pt_len (p : Pk) : nP p ≤ (pt p).length ∧ 20 ≤ nP p := by
  unfold pt nP
  rw [List.length_append, List.length_append, hs_len]; omega
theorem pt_take (p : Pk) : (pt p).take 20 = sealL (hdL p) := by
  unfold pt
  rw [List.append_assoc, List.take_left' (hs_len p)]
theorem pt_body (p : Pk) : ((pt p).take (nP p)).drop 20 = bdL p := by
  unfold pt nP
  rw [List.take_left' (by rw [List.length_append, hs_len]), List.drop_left' (hs_len p)]
theorem pt_whole (p : Pk) : (pt p).take (nP p) = sealL (hdL p) ++ bdL p := by
  unfold pt nP
  rw [List.take_left' (by rw [List.length_append, hs_len])]
theorem pt_flt {p : Pk} (hp : PkFit p) : fltN (sealL (hdL p)) (pt p).length = if mart (p.src / 16777216) = true then 6 else if mart (p.dst / 16777216) = true then 6 else 0 := by
  unfold fltN
  have h := pt_len p
  rw [hs_0, hs_n, seal_ck (hd_len p), hs_12 hp, hs_16 hp, if_neg (by decide), if_neg (by decide), if_neg (by omega), if_neg (by decide)]
/-- A packet from or to where none goes. -/
theorem fwd_mart {p : Pk} (hp : PkFit p) (own : Nat) (pe : Nat → Int) (ph : Nat → Nat → Int) (h : mart (p.src / 16777216) = true ∨ mart (p.dst / 16777216) = true) : fwdV own (pt p) pe ph = ⟨0, 6, 0, []⟩ := by
  unfold fwdV
  have h1 := pt_len p
  rw [if_neg (by omega), pt_take, pt_flt hp]
  rcases h with h | h
  · rw [if_pos h]; rfl
  · rw [if_pos h]
    split <;> rfl
theorem fwd_good {p : Pk} (hp : PkFit p) (own : Nat) (pe : Nat → Int) (ph : Nat → Nat → Int) (h1 : mart (p.src / 16777216) = false) (h2 : mart (p.dst / 16777216) = false) : fwdV own (pt p) pe ph = goV own (sealL (hdL p)) (bdL p) (pe p.dst) (ph p.dst (flN (sealL (hdL p)))) := by
  unfold fwdV
  have h := pt_len p
  rw [if_neg (by omega), pt_take, pt_flt hp, h1, h2, hs_n, pt_body, hs_dst hp]
  rfl
/-! ### Groups. -/
theorem hop_in {gs : Nat → List Int} {g : Int} (h : hasB gs g = true) (k : Nat) : hopN gs g k ∈ gs g.toNat := by
  obtain ⟨j, rfl, -, h0⟩ := hasB_some h
  unfold hopN
  rw [Int.toNat_natCast]
  have hlt := Nat.mod_lt k h0
  rw [List.getElem?_eq_getElem hlt]
  exact List.getElem_mem _
theorem adr4 {v : Nat} (h : v < 4294967296) : H.adrE 4 0 v = 0 := by
  unfold H.adrE
  rw [if_pos rfl, if_pos ⟨rfl, h⟩]
theorem pkE_4 (rs : List Rt) {v : Nat} (h : v < 4294967296) : pkE rs (4, 0, v) = if lookGT rs (4, 0, v) = -1 then 8 else 0 := by
  unfold pkE; rw [if_pos (adr4 h)]
theorem pkH_4 (gs : Nat → List Int) (rs : List Rt) {v : Nat} (h : v < 4294967296) (fl : Nat) : pkH gs rs (4, 0, v) fl = if lookGT rs (4, 0, v) = -1 then 0 else hopN gs (lookGT rs (4, 0, v)) (mixN (fl ^^^ sdN gs)) := by
  unfold pkH; rw [if_pos (adr4 h)]
end Go.Proofs.Ytnfkgnjeamnhfab
