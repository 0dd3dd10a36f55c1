import Derived.Test.YtnfkgnjeamnhfaaDoorRfN
namespace Go.Proofs.YtnfkgnjeamnhfaaDoor
open Go.RowKit

theorem f4_step {x : List UInt8} {r : List (List UInt8)} {acc lo : Nat} (h : f4 (x :: r) acc = some lo) : ∃ v, v ≤ 255 ∧ x = Lib.decDigits v ∧ f4 r (256 * acc + v) = some lo := by
  simp only [f4] at h
  split at h
  · cases h
  · rename_i hn
    obtain ⟨h1, h2⟩ := val_inv numer10 (g := 255) (l := x) (by omega)
    exact ⟨_, h2, h1, h⟩
theorem f6_step {x : List UInt8} {r : List (List UInt8)} {k hi lo : Nat} {o : Nat × Nat} (h : f6 (x :: r) k hi lo = some o) : ∃ v, v ≤ 65535 ∧ x = hexD v ∧ (if k < 4 then f6 r (k + 1) (65536 * hi + v) lo else f6 r (k + 1) hi (65536 * lo + v)) = some o := by
  simp only [f6] at h
  split at h
  · cases h
  · rename_i hn
    obtain ⟨h1, h2⟩ := val_inv numer16 (g := 65535) (l := x) (by omega)
    exact ⟨_, h2, h1, h⟩
theorem f4_all : ∀ (ws : List (List UInt8)) (acc lo : Nat), f4 ws acc = some lo → ∃ vs : List Nat, ws = vs.map Lib.decDigits ∧ (∀ v ∈ vs, v ≤ 255) ∧ lo = vs.foldl (fun a v => 256 * a + v) acc
  | [], acc, lo, h => by simp [f4] at h; exact ⟨[], rfl, by simp, by simp [h]⟩
  | x :: r, acc, lo, h => by
    obtain ⟨v, h1, rfl, h3⟩ := f4_step h
    obtain ⟨vs, rfl, k2, k3⟩ := f4_all r _ lo h3
    refine ⟨v :: vs, rfl, ?_, by simpa using k3⟩
    intro y hy
    rcases List.mem_cons.1 hy with rfl | hy
    · exact h1
    · exact k2 y hy
theorem f6_all : ∀ (ws : List (List UInt8)) (k hi lo : Nat) (o : Nat × Nat), f6 ws k hi lo = some o → ∃ vs : List Nat, ws = vs.map hexD ∧ (∀ v ∈ vs, v ≤ 65535)
  | [], k, hi, lo, o, h => ⟨[], rfl, by simp⟩
  | x :: r, k, hi, lo, o, h => by
    obtain ⟨v, h1, rfl, h3⟩ := f6_step h
    have : ∃ vs : List Nat, r = vs.map hexD ∧ (∀ v ∈ vs, v ≤ 65535) := by
      split at h3
      · exact f6_all r _ _ _ o h3
      · exact f6_all r _ _ _ o h3
    obtain ⟨vs, rfl, k2⟩ := this
    refine ⟨v :: vs, rfl, ?_⟩
    intro y hy
    rcases List.mem_cons.1 hy with rfl | hy
    · exact h1
    · exact k2 y hy
theorem fin_some {f : Int} {hi lo : Nat} {n : Int} {q : Int × Nat × Nat × Int} (h : fin f hi lo n = some q) : chk f hi lo n = 0 ∧ q = (f, hi, lo, n) := by
  unfold fin at h
  split at h
  · rename_i hc; cases h; exact ⟨hc, rfl⟩
  · cases h
theorem lenOf128 {lb : List UInt8} (h : 0 ≤ valF 10 128 lb) : ∃ m : Nat, valF 10 128 lb = (m : Int) ∧ lb = Lib.decDigits m := by
  obtain ⟨h1, _⟩ := val_inv numer10 h
  exact ⟨_, by omega, h1⟩
theorem txt4_of (vs : List Nat) (h4 : vs.length = 4) (hv : ∀ v ∈ vs, v ≤ 255) : txt4 (vs.foldl (fun a v => 256 * a + v) 0) = joinC 46 (vs.map Lib.decDigits) := by
  obtain ⟨a, b, c, d, rfl⟩ := len4 h4
  have ha := hv a (by simp)
  have hb := hv b (by simp)
  have hc := hv c (by simp)
  have hd := hv d (by simp)
  clear hv h4
  rw [txt4_eq, join_ptxt]
  congr 1
  simp only [List.foldl_cons, List.foldl_nil, parts4, List.cons.injEq, and_true]
  refine ⟨?_, ?_, ?_, ?_⟩ <;> omega
theorem txt6_of (vs : List Nat) (h8 : vs.length = 8) (hv : ∀ v ∈ vs, v ≤ 65535) (hi lo : Nat) (hf : hi * 18446744073709551616 + lo = vs.foldl (fun n v => n * 65536 + v) 0) : txt6 hi lo = joinC 58 (vs.map hexD) := by
  rw [txt6_eq]
  have hN := nn_eq hi lo
  generalize nn (hi, lo) = N at hN ⊢
  have e : parts6 N = vs := by rw [hN, hf]; exact fold6_parts h8 hv
  rw [e]
  cases vs with
  | nil => simp at h8
  | cons a vs => rw [join_ptxt]
/-- What the document's Parse reads is what Format writes. -/
theorem rp_inv {l : List UInt8} {q : Int × Nat × Nat × Int} (h : rparseF l = some q) : ∃ (f : Int) (hi lo m : Nat), q = (f, hi, lo, (m : Int)) ∧ l = formatF f hi lo m ∧ chk f hi lo m = 0 ∧ hi ≤ 18446744073709551615 ∧ lo ≤ 18446744073709551615 := by
  unfold rparseF at h
  split at h
  · rename_i la lb hsp
    have hl := join_split 47 l []
    rw [hsp] at hl
    have hl' : l = la ++ 47 :: lb := by simpa [joinC] using hl.symm
    split at h
    · rename_i h4
      obtain ⟨lo, e1, e2⟩ := Option.bind_eq_some_iff.1 h
      obtain ⟨hc, rfl⟩ := fin_some e2
      obtain ⟨_, hlo, hn0, _⟩ := chk_bounds4 hc
      obtain ⟨m, em, rfl⟩ := lenOf128 hn0
      obtain ⟨vs, k1, k2, rfl⟩ := f4_all _ _ _ e1
      have hj := join_split 46 la []
      rw [k1, List.nil_append] at hj
      have hlen : vs.length = 4 := by rw [k1, List.length_map] at h4; exact h4
      rw [em] at hc ⊢
      refine ⟨4, 0, _, m, rfl, ?_, hc, by decide, by omega⟩
      rw [formatF_4, txt4_of vs hlen k2, hj]; exact hl'
    · split at h
      · rename_i h4 h8
        obtain ⟨⟨hi, lo⟩, e1, e2⟩ := Option.bind_eq_some_iff.1 h
        obtain ⟨hc, rfl⟩ := fin_some e2
        obtain ⟨hn0, _⟩ := chk_bounds6 hc
        obtain ⟨m, em, rfl⟩ := lenOf128 hn0
        obtain ⟨vs, k1, k2⟩ := f6_all _ _ _ _ _ e1
        have hj := join_split 58 la []
        rw [k1, List.nil_append] at hj
        have hlen : vs.length = 8 := by rw [k1, List.length_map] at h8; exact h8
        obtain ⟨h', l', e3, e4, b1, b2⟩ := f6_list hlen k2
        rw [k1, e3] at e1
        simp only [Option.some.injEq, Prod.mk.injEq] at e1
        obtain ⟨rfl, rfl⟩ := e1
        rw [em] at hc ⊢
        refine ⟨6, _, _, m, rfl, ?_, hc, b1, b2⟩
        rw [formatF_6, txt6_of vs hlen k2 _ _ e4, hj]; exact hl'
      · cases h
  · cases h
/-- The document's Parse, whole: as the program's. -/
theorem rparse_any (l : List UInt8) (w : World) (hs : l.length ≤ 1048576) :
    Calls Tryd.prog 6 #[.string ⟨l.toArray⟩] w fun e w' => ParsePost (parseF l) e ∧ Below w.heap.size w w' := by
  refine (rparse_all l w hs).mono ?_
  rintro e w' ⟨hp, hb⟩
  refine ⟨?_, hb⟩
  rcases h : parseF l with _ | ⟨f, hi, lo, n⟩
  · rcases hr : rparseF l with _ | q
    · rw [hr] at hp; exact hp
    · obtain ⟨f, hi, lo, m, rfl, h1, h2, h3, h4⟩ := rp_inv hr
      rw [h1, parse_format h3 h4 h2] at h; cases h
  · obtain ⟨h1, h2, h3, h4⟩ := format_parse h
    have := rp_format h3 h4 h2
    rw [h1] at this
    rw [this] at hp; exact hp
set_option maxHeartbeats 4000000 in
theorem rformat_bad (f : Int) (hi lo : Nat) (n z : Int) (w : World) (hz : (z == 0) = false)
    (HC : Hid (∀ w, Calls Tryd.prog 16 #[pref f hi lo n] w fun e w' => e = .returned (.int .i64 z) ∧ Below w.heap.size w w')) :
    Calls Tryd.prog 9 #[pref f hi lo n] w fun e w' => e = .returned (.tuple #[.string ⟨#[]⟩, .int .i64 z]) ∧ Below w.heap.size w w' := by
  go_enter Tryd.func9, Tryd.ntmps9
  go_wp2_with (first | (go_at_call 16; refine (HC.out _).mono ?_; rintro e w1 ⟨rfl, hb1⟩))
  go_ret2
  exact ⟨rfl, ((Below.refl _ _).alloc (Nat.le_refl _) _).trans (hb1.mono (by simp))⟩
theorem rformat_good (f : Int) (hi lo n : Nat) (w : World) (hh : hi ≤ 18446744073709551615) (hl : lo ≤ 18446744073709551615) (h : chk f hi lo n = 0) :
    Calls Tryd.prog 9 #[pref f hi lo n] w fun e w' => e = .returned (.tuple #[.string ⟨(formatF f hi lo n).toArray⟩, .int .i64 0]) ∧ Below w.heap.size w w' := by
  have hg := fun w => rgood_any f hi lo n w hh hl
  rw [h] at hg
  rcases chk_family h with rfl | rfl
  · obtain ⟨rfl, h2, _, h4⟩ := chk_bounds4 h
    rw [formatF_4, txt4_eq]
    exact rformat_4 lo n w h2 (by omega) hg
  · obtain ⟨_, h4⟩ := chk_bounds6 h
    rw [formatF_6, txt6_eq]
    exact rformat_6 hi lo n w hh hl (by omega) hg
theorem rformat_no (f : Int) (hi lo : Nat) (n : Int) (w : World) (hh : hi ≤ 18446744073709551615) (hl : lo ≤ 18446744073709551615) (h : ¬ chk f hi lo n = 0) :
    Calls Tryd.prog 9 #[pref f hi lo n] w fun e w' => e = .returned (.tuple #[.string ⟨#[]⟩, .int .i64 (chk f hi lo n)]) ∧ Below w.heap.size w w' :=
  rformat_bad f hi lo n _ w (z_beq h) (fun w => rgood_any f hi lo n w hh hl)
end Go.Proofs.YtnfkgnjeamnhfaaDoor
