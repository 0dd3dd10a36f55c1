import Derived.Test.YtnfkgnjeamnhfaaDoorRfM
import Derived.Test.YtnfkgnjeamnhfaaDoorRfF
import Derived.Test.YtnfkgnjeamnhfaaDoorRfG
namespace Go.Proofs.YtnfkgnjeamnhfaaDoor
open Go.RowKit

def rparseF (l : List UInt8) : Option (Int × Nat × Nat × Int) :=
  match splitG 47 [] l with
  | [la, lb] =>
    if (splitG 46 [] la).length = 4 then (f4 (splitG 46 [] la) 0).bind fun lo => fin 4 0 lo (valF 10 128 lb)
    else if (splitG 58 [] la).length = 8 then (f6 (splitG 58 [] la) 0 0 0).bind fun a => fin 6 a.1 a.2 (valF 10 128 lb)
    else none
  | _ => none
theorem rparse_all (l : List UInt8) (w : World) (hs : l.length ≤ 1048576) :
    Calls Tryd.prog 6 #[.string ⟨l.toArray⟩] w fun e w' => RPost (rparseF l) e ∧ Below w.heap.size w w' := by
  have zero : (splitG 47 [] l).length ≠ 2 → Calls Tryd.prog 6 #[.string ⟨l.toArray⟩] w fun e w' => e = .returned (.tuple #[pref 0 0 0 0, .int .i64 5]) ∧ Below w.heap.size w w' := fun h => rparse_0 l w hs _ rfl (ne_beq (b := 2) h)
  rcases h : splitG 47 [] l with _ | ⟨la, _ | ⟨lb, _ | ⟨lc, r⟩⟩⟩
  · have e : rparseF l = none := by unfold rparseF; rw [h]
    rw [e]; exact zero (by rw [h]; simp)
  · have e : rparseF l = none := by unfold rparseF; rw [h]
    rw [e]; exact zero (by rw [h]; simp)
  · by_cases h4 : (splitG 46 [] la).length = 4
    · have e : rparseF l = (f4 (splitG 46 [] la) 0).bind fun lo => fin 4 0 lo (valF 10 128 lb) := by unfold rparseF; rw [h]; exact if_pos h4
      rw [e]; exact rparse_4 l la lb w hs h _ rfl h4
    · by_cases h8 : (splitG 58 [] la).length = 8
      · have e : rparseF l = (f6 (splitG 58 [] la) 0 0 0).bind fun a => fin 6 a.1 a.2 (valF 10 128 lb) := by unfold rparseF; rw [h]; exact (if_neg h4).trans (if_pos h8)
        rw [e]; exact rparse_6 l la lb w hs h _ rfl _ rfl (ne_beq (b := 4) h4) _ rfl h8
      · have e : rparseF l = none := by unfold rparseF; rw [h]; exact (if_neg h4).trans (if_neg h8)
        rw [e]; exact rparse_n l la lb w hs h _ rfl _ rfl (ne_beq (b := 4) h4) _ rfl _ rfl (ne_beq (b := 8) h8)
  · have e : rparseF l = none := by unfold rparseF; rw [h]
    rw [e]; exact zero (by rw [h]; simp)

theorem not_in_dig {b : Nat} {dig : Nat → List UInt8} {ch : Nat → UInt8} (N : Numer b dig ch) (c : UInt8) (hc : b ≤ dgt c.toNat) : ∀ v, c ∉ dig v := by
  intro v
  induction v using Nat.strongRecOn with
  | _ v ih =>
    have h2 := N.two
    have one : ∀ d, d < b → c ∉ [ch d] := by
      intro d hd hm
      have := List.mem_singleton.1 hm
      have h3 := N.worth d hd
      rw [← this] at h3; omega
    by_cases h : v < b
    · rw [N.one v h]; exact one v h
    · rw [N.more v h]
      intro hm
      rcases List.mem_append.1 hm with hm | hm
      · exact ih (v / b) (Nat.div_lt_self (by omega) (by omega)) hm
      · exact one _ (Nat.mod_lt _ (by omega)) hm
theorem not_in_ptxt (c sep : UInt8) (dig : Nat → List UInt8) (h1 : c ≠ sep) (h2 : ∀ v, c ∉ dig v) : ∀ (vs : List Nat) (b : Bool), c ∉ ptxt sep dig b vs
  | [], b => by simp [ptxt]
  | v :: vs, b => by
    have h3 := not_in_ptxt c sep dig h1 h2 vs false
    cases b <;> simp [ptxt, h1, h2 v, h3]
theorem dec_len5 (v : Nat) (h : v ≤ 1000) : (Lib.decDigits v).length ≤ 5 := by have := decDigits_1000 v h; omega
theorem hex_len5 (v : Nat) (h : v ≤ 65535) : (hexD v).length ≤ 5 := by have := hexD_65535 v h; omega
theorem v10 {g v : Nat} (h : v ≤ g) (hg : g ≤ 1000) : valF 10 g (Lib.decDigits v) = v := val_dig numer10 h (dec_len5 v (by omega))
theorem v16 {v : Nat} (h : v ≤ 65535) : valF 16 65535 (hexD v) = v := val_dig numer16 h (hex_len5 v h)
theorem f4_vals (a b c d : Nat) (ha : a ≤ 255) (hb : b ≤ 255) (hc : c ≤ 255) (hd : d ≤ 255) : f4 [Lib.decDigits a, Lib.decDigits b, Lib.decDigits c, Lib.decDigits d] 0 = some (256 * (256 * (256 * (256 * 0 + a) + b) + c) + d) := by
  simp only [f4, v10 ha (by decide), v10 hb (by decide), v10 hc (by decide), v10 hd (by decide), Int.toNat_natCast]
  rw [if_neg (by omega), if_neg (by omega), if_neg (by omega), if_neg (by omega)]
theorem f6_up {v k hi lo : Nat} {r : List (List UInt8)} (hv : v ≤ 65535) (hk : k < 4) : f6 (hexD v :: r) k hi lo = f6 r (k + 1) (65536 * hi + v) lo := by
  simp only [f6, v16 hv, Int.toNat_natCast]
  rw [if_neg (by omega), if_pos hk]
theorem f6_dn {v k hi lo : Nat} {r : List (List UInt8)} (hv : v ≤ 65535) (hk : ¬ k < 4) : f6 (hexD v :: r) k hi lo = f6 r (k + 1) hi (65536 * lo + v) := by
  simp only [f6, v16 hv, Int.toNat_natCast]
  rw [if_neg (by omega), if_neg hk]
theorem f6_vals (a b c d e f g i : Nat) (ha : a ≤ 65535) (hb : b ≤ 65535) (hc : c ≤ 65535) (hd : d ≤ 65535) (he : e ≤ 65535) (hf : f ≤ 65535) (hg : g ≤ 65535) (hi : i ≤ 65535) :
    f6 [hexD a, hexD b, hexD c, hexD d, hexD e, hexD f, hexD g, hexD i] 0 0 0 = some (65536 * (65536 * (65536 * (65536 * 0 + a) + b) + c) + d, 65536 * (65536 * (65536 * (65536 * 0 + e) + f) + g) + i) := by
  rw [f6_up ha (by decide), f6_up hb (by decide), f6_up hc (by decide), f6_up hd (by decide), f6_dn he (by decide), f6_dn hf (by decide), f6_dn hg (by decide), f6_dn hi (by decide)]
  rfl
theorem rp_two {x y : List UInt8} (hx : (47 : UInt8) ∉ x) (hy : (47 : UInt8) ∉ y) : splitG 47 [] (x ++ 47 :: y) = [x, y] := by
  rw [split_one 47 x [] y hx, split_none 47 y [] hy]; simp
theorem no47d : ∀ v, (47 : UInt8) ∉ Lib.decDigits v := not_in_dig numer10 47 (by decide)
theorem rp_format4 (lo n : Nat) (hl : lo < 4294967296) (hn : n ≤ 32) (h : chk 4 0 lo n = 0) : rparseF (txt4 lo ++ 47 :: Lib.decDigits n) = some (4, 0, lo, (n : Int)) := by
  have h47 : (47 : UInt8) ∉ txt4 lo := by rw [txt4_eq]; exact not_in_ptxt 47 46 _ (by decide) no47d _ _
  have hs : splitG 46 [] (txt4 lo) = (parts4 lo).map Lib.decDigits := by rw [txt4_eq]; exact split_ptxt 46 _ (not_in_dig numer10 46 (by decide)) _ _
  unfold rparseF
  rw [rp_two h47 (no47d n)]
  simp only []
  rw [hs, if_pos (by rfl)]
  have := f4_vals (lo / 256 / 256 / 256 % 256) (lo / 256 / 256 % 256) (lo / 256 % 256) (lo % 256) (by omega) (by omega) (by omega) (by omega)
  rw [show (parts4 lo).map Lib.decDigits = [Lib.decDigits (lo / 256 / 256 / 256 % 256), Lib.decDigits (lo / 256 / 256 % 256), Lib.decDigits (lo / 256 % 256), Lib.decDigits (lo % 256)] from rfl, this, v10 (by omega : n ≤ 128) (by decide)]
  rw [show 256 * (256 * (256 * (256 * 0 + lo / 256 / 256 / 256 % 256) + lo / 256 / 256 % 256) + lo / 256 % 256) + lo % 256 = lo by omega]
  simp only [Option.bind_some, fin]
  rw [if_pos h]
theorem f6_list {vs : List Nat} (h8 : vs.length = 8) (hv : ∀ v ∈ vs, v ≤ 65535) : ∃ hi lo, f6 (vs.map hexD) 0 0 0 = some (hi, lo) ∧ hi * 18446744073709551616 + lo = vs.foldl (fun n v => n * 65536 + v) 0 ∧ hi ≤ 18446744073709551615 ∧ lo ≤ 18446744073709551615 := by
  obtain ⟨a, b, c, d, e, f, g, i, rfl⟩ := len8 h8
  have ha := hv a (by simp)
  have hb := hv b (by simp)
  have hc := hv c (by simp)
  have hd := hv d (by simp)
  have he := hv e (by simp)
  have hf := hv f (by simp)
  have hg := hv g (by simp)
  have hi := hv i (by simp)
  clear hv h8
  refine ⟨_, _, f6_vals a b c d e f g i ha hb hc hd he hf hg hi, ?_, ?_, ?_⟩
  · simp only [List.foldl_cons, List.foldl_nil]; omega
  · omega
  · omega
theorem rp_core6 (vs : List Nat) (h8 : vs.length = 8) (hv : ∀ v ∈ vs, v ≤ 65535) (hi lo n : Nat) (hf : hi * 18446744073709551616 + lo = vs.foldl (fun n v => n * 65536 + v) 0) (_hh : hi ≤ 18446744073709551615) (hl : lo ≤ 18446744073709551615) (hn : n ≤ 128) (h : chk 6 hi lo n = 0) :
    rparseF (ptxt 58 hexD true vs ++ 47 :: Lib.decDigits n) = some (6, hi, lo, (n : Int)) := by
  have n47 := not_in_dig numer16 47 (by decide)
  have n46 := not_in_dig numer16 46 (by decide)
  have n58 := not_in_dig numer16 58 (by decide)
  have h47 : (47 : UInt8) ∉ ptxt 58 hexD true vs := not_in_ptxt 47 58 _ (by decide) n47 _ _
  have h46 : (46 : UInt8) ∉ ptxt 58 hexD true vs := not_in_ptxt 46 58 _ (by decide) n46 _ _
  have hs : splitG 58 [] (ptxt 58 hexD true vs) = vs.map hexD := by
    cases vs with
    | nil => simp at h8
    | cons a vs => exact split_ptxt 58 hexD n58 vs a
  obtain ⟨h', l', e1, e2, b1, b2⟩ := f6_list h8 hv
  have e3 : h' = hi := by omega
  have e4 : l' = lo := by omega
  rw [e3, e4] at e1
  have hlen : (vs.map hexD).length = 8 := by rw [List.length_map]; exact h8
  unfold rparseF
  rw [rp_two h47 (no47d n)]
  simp only []
  rw [split_none 46 _ [] h46, if_neg (by simp), hs, if_pos hlen, e1, v10 hn (by decide)]
  simp only [Option.bind_some, fin]
  rw [if_pos h]
theorem nn_eq (hi lo : Nat) : nn (hi, lo) = hi * 18446744073709551616 + lo := by unfold nn; simp only []
theorem rp_format6 (hi lo n : Nat) (hh : hi ≤ 18446744073709551615) (hl : lo ≤ 18446744073709551615) (hn : n ≤ 128) (h : chk 6 hi lo n = 0) : rparseF (txt6 hi lo ++ 47 :: Lib.decDigits n) = some (6, hi, lo, (n : Int)) := by
  rw [txt6_eq]
  have hN := nn_eq hi lo
  generalize nn (hi, lo) = N at hN ⊢
  refine rp_core6 _ (parts6_len N) (parts6_le N) hi lo n ?_ hh hl hn h
  rw [parts6_fold N (by omega)]; exact hN.symm
theorem rp_format {f : Int} {hi lo n : Nat} (hh : hi ≤ 18446744073709551615) (hl : lo ≤ 18446744073709551615) (h : chk f hi lo n = 0) : rparseF (formatF f hi lo n) = some (f, hi, lo, (n : Int)) := by
  rcases chk_family h with rfl | rfl
  · obtain ⟨rfl, h2, _, h4⟩ := chk_bounds4 h
    rw [formatF_4]
    exact rp_format4 lo n h2 (by omega) h
  · obtain ⟨_, h4⟩ := chk_bounds6 h
    rw [formatF_6]
    exact rp_format6 hi lo n hh hl (by omega) h
end Go.Proofs.YtnfkgnjeamnhfaaDoor
