import Derived.Test.YtnfkgnjeamnhfaaDoorRef7
namespace Go.Proofs.YtnfkgnjeamnhfaaDoor
open Go.RowKit

/-- The digits of a text. -/
def digsF (base : Nat) : Nat → List UInt8 → Option Nat
  | v, [] => some v
  | v, c :: r => if base ≤ dgt c.toNat then none else digsF base (base * v + dgt c.toNat) r
/-- The document's value. -/
def valF (base most : Nat) (l : List UInt8) : Int :=
  if l.length = 0 ∨ 5 < l.length ∨ (1 < l.length ∧ l.head? = some 48) then -1
  else match digsF base 0 l with
    | none => -1
    | some v => if most < v then -1 else v
def endV (most : Nat) : Option Nat → Int
  | none => -1
  | some v => if most < v then -1 else v
theorem dg_index (d : Nat) (h : d < 16) (W : World) : (Instr.index 9 (.string DG) (.int .i64 (d : Int))).run Tryd.prog W = .ok (.int .u8 ((hexc d).toNat : Int)) W := by
  have all : ∀ i : Fin 16, DG[i.val]'(by have := i.isLt; show _ < 16; omega) = hexc i.val := by decide +kernel
  rw [run_index_string W 9 DG .i64 (d : Int) Tryd.underlying9, dif_pos ⟨by omega, by show (d : Int) < ((16 : Nat) : Int); omega⟩]
  have := all ⟨d, h⟩
  simp only [Int.toNat_natCast]
  rw [this]
theorem t_index (t : ByteArray) (k : Nat) (c : UInt8) (h : t.data.toList[k]? = some c) (W : World) : (Instr.index 9 (.string t) (.int .i64 (k : Int))).run Tryd.prog W = .ok (.int .u8 (c.toNat : Int)) W := by
  have hk : k < t.size := by rw [Lib.size_eq]; exact (List.getElem?_eq_some_iff.1 h).1
  rw [run_index_string W 9 t .i64 (k : Int) Tryd.underlying9, dif_pos ⟨by omega, by omega⟩]
  have := Lib.data_getElem? t k hk
  rw [h] at this
  simp only [Int.toNat_natCast]
  rw [← Option.some.inj this]
theorem hexc_eq (c : UInt8) (d : Nat) (hd : d < 16) : (hexc d = c) ↔ dgt c.toNat = d := by
  constructor
  · rintro rfl; exact numer16.worth d hd
  · intro h; have := numer16.letter c (by omega); rw [h] at this; exact this
theorem hexc_ne (c : UInt8) (d : Nat) (hd : d < 16) (h : dgt c.toNat ≠ d) : (((hexc d).toNat : Int) == (c.toNat : Int)) = false := by
  rw [Bool.eq_false_iff]; intro e
  simp at e
  exact h ((hexc_eq c d hd).1 (UInt8.toNat_inj.1 (by omega)))
theorem hexc_yes (c : UInt8) (d : Nat) (hd : d < 16) (h : dgt c.toNat = d) : (((hexc d).toNat : Int) == (c.toNat : Int)) = true := by
  rw [(hexc_eq c d hd).2 h]; simp

set_option maxHeartbeats 2000000 in
theorem value10_no (t : ByteArray) (most : Nat) (w : World) (h : t.data.toList.length = 0 ∨ 5 < t.data.toList.length ∨ (1 < t.data.toList.length ∧ t.data.toList.head? = some 48)) (hs : t.size ≤ maxLen) :
    Calls Tryd.prog 15 #[.string t, .int .i64 10, .int .i64 most] w fun e w' => e = .returned (.int .i64 (-1)) ∧ Below w.heap.size w w' := by
  rw [← Lib.size_eq] at h
  unfold maxLen at hs
  rcases h with h | h | ⟨h, h'⟩
  · have h1 : ((t.size : Int) == 0) = true := by rw [h]; rfl
    go_enter Tryd.func15, Tryd.ntmps15
    go_wp2
    go_ret
    exact ⟨rfl, Below.refl _ _⟩
  · have h1 : ((t.size : Int) == 0) = false := ne_beq (b := 0) (by omega)
    have h2 : (5 : Int) < (t.size : Int) := by omega
    go_enter Tryd.func15, Tryd.ntmps15
    go_wp2
    go_ret
    exact ⟨rfl, Below.refl _ _⟩
  · by_cases h5 : 5 < t.size
    · have h1 : ((t.size : Int) == 0) = false := ne_beq (b := 0) (by omega)
      have h2 : (5 : Int) < (t.size : Int) := by omega
      go_enter Tryd.func15, Tryd.ntmps15
      go_wp2
      go_ret
      exact ⟨rfl, Below.refl _ _⟩
    · have h1 : ((t.size : Int) == 0) = false := ne_beq (b := 0) (by omega)
      have h2 : ¬ (5 : Int) < (t.size : Int) := by omega
      have h3 : (1 : Int) < (t.size : Int) := by omega
      have hx : ∀ W, (Instr.index 9 (.string t) (.int .i64 0)).run Tryd.prog W = .ok (.int .u8 48) W := fun W => t_index t 0 48 (by rw [← List.head?_eq_getElem?]; exact h') W
      go_enter Tryd.func15, Tryd.ntmps15
      go_wp2
      all_goals go_ret
      all_goals exact ⟨rfl, Below.refl _ _⟩

set_option maxHeartbeats 2000000 in
theorem value16_no (t : ByteArray) (most : Nat) (w : World) (h : t.data.toList.length = 0 ∨ 5 < t.data.toList.length ∨ (1 < t.data.toList.length ∧ t.data.toList.head? = some 48)) (hs : t.size ≤ maxLen) :
    Calls Tryd.prog 15 #[.string t, .int .i64 16, .int .i64 most] w fun e w' => e = .returned (.int .i64 (-1)) ∧ Below w.heap.size w w' := by
  rw [← Lib.size_eq] at h
  unfold maxLen at hs
  rcases h with h | h | ⟨h, h'⟩
  · have h1 : ((t.size : Int) == 0) = true := by rw [h]; rfl
    go_enter Tryd.func15, Tryd.ntmps15
    go_wp2
    go_ret
    exact ⟨rfl, Below.refl _ _⟩
  · have h1 : ((t.size : Int) == 0) = false := ne_beq (b := 0) (by omega)
    have h2 : (5 : Int) < (t.size : Int) := by omega
    go_enter Tryd.func15, Tryd.ntmps15
    go_wp2
    go_ret
    exact ⟨rfl, Below.refl _ _⟩
  · by_cases h5 : 5 < t.size
    · have h1 : ((t.size : Int) == 0) = false := ne_beq (b := 0) (by omega)
      have h2 : (5 : Int) < (t.size : Int) := by omega
      go_enter Tryd.func15, Tryd.ntmps15
      go_wp2
      go_ret
      exact ⟨rfl, Below.refl _ _⟩
    · have h1 : ((t.size : Int) == 0) = false := ne_beq (b := 0) (by omega)
      have h2 : ¬ (5 : Int) < (t.size : Int) := by omega
      have h3 : (1 : Int) < (t.size : Int) := by omega
      have hx : ∀ W, (Instr.index 9 (.string t) (.int .i64 0)).run Tryd.prog W = .ok (.int .u8 48) W := fun W => t_index t 0 48 (by rw [← List.head?_eq_getElem?]; exact h') W
      go_enter Tryd.func15, Tryd.ntmps15
      go_wp2
      all_goals go_ret
      all_goals exact ⟨rfl, Below.refl _ _⟩

set_option maxHeartbeats 4000000 in
theorem value10_yes (t : ByteArray) (most : Nat) (w : World) (h1 : 1 ≤ t.size) (h5 : t.size ≤ 5) (hz : ¬ (1 < t.size ∧ t.data.toList.head? = some 48)) (o : Option Nat) (HO : Hid (o = digsF 10 0 t.data.toList)) :
    Calls Tryd.prog 15 #[.string t, .int .i64 10, .int .i64 most] w fun e w' => e = .returned (.int .i64 (endV most o)) ∧ Below w.heap.size w w' := by
  obtain ⟨c0, hc0⟩ : ∃ c0, t.data.toList[0]? = some c0 := ⟨_, List.getElem?_eq_getElem (by rw [← Lib.size_eq]; omega)⟩
  have g1 : ((t.size : Int) == 0) = false := ne_beq (b := 0) (by omega)
  have g2 : ¬ (5 : Int) < (t.size : Int) := by omega
  have hx : ∀ W, (Instr.index 9 (.string t) (.int .i64 0)).run Tryd.prog W = .ok (.int .u8 (c0.toNat : Int)) W := fun W => t_index t 0 c0 hc0 W
  have start : Hid (decide ((1 : Int) < (t.size : Int)) = false ∨ (decide ((1 : Int) < (t.size : Int)) = true ∧ ((c0.toNat : Int) == 48) = false)) := by
    by_cases h : 1 < t.size
    · refine Or.inr ⟨decide_eq_true (by omega), ne_beq (b := 48) (fun e => hz ⟨h, ?_⟩)⟩
      rw [List.head?_eq_getElem?, hc0, show c0 = 48 from UInt8.toNat_inj.1 e]
    · exact Or.inl (decide_eq_false (by omega))
  clear hz hc0
  rcases start.out with hg | ⟨hg, hg2⟩
  all_goals
    go_enter Tryd.func15, Tryd.ntmps15
    go_wp2
    go_loopw [7, 8] (fun x i wr => ∃ v k : Nat, x = .int .i64 v ∧ i = .int .i64 k ∧ k ≤ t.size ∧ v < 16 ^ k ∧ Hid (o = digsF 10 v (t.data.toList.drop k)) ∧ Below w.heap.size w wr) (fun _ i _ => t.size - (intOf i).toNat)
    case atStart => exact ⟨0, 0, rfl, rfl, Nat.zero_le _, by simp, HO, Below.refl _ _⟩
    case round =>
      obtain ⟨v, k, rfl, rfl, hk, hv, HR, hb⟩ := hrel
      have HB := Lib.hid hb
      clear hb
      by_cases hlt : k < t.size
      · obtain ⟨c, hc⟩ : ∃ c, t.data.toList[k]? = some c := ⟨_, List.getElem?_eq_getElem (by rw [← Lib.size_eq]; exact hlt)⟩
        have hv2 : v ≤ 1048575 := by
          have : 16 ^ k ≤ 16 ^ 5 := Nat.pow_le_pow_right (by decide) (by omega)
          omega
        have hdrop : t.data.toList.drop k = c :: t.data.toList.drop (k + 1) := by
          rw [List.drop_eq_getElem_cons (by rw [← Lib.size_eq]; exact hlt)]
          congr 1
          rw [List.getElem?_eq_getElem (by rw [← Lib.size_eq]; exact hlt)] at hc
          exact Option.some.inj hc
        have HDR := Lib.hid hdrop
        have hxk := t_index t k c hc
        have hdg : dgt c.toNat ≤ 16 := by unfold dgt; repeat' split
                                          all_goals omega
        have hv3 := Lib.hid hv
        clear hdrop hc hv
        go_wp2
        go_loopw [9] (fun y wr2 => ∃ d : Nat, y = .int .i64 d ∧ d ≤ 10 ∧ d ≤ dgt c.toNat ∧ Below w.heap.size w wr2) (fun y _ => 10 - (intOf y).toNat)
        case atStart => exact ⟨0, rfl, Nat.zero_le _, Nat.zero_le _, HB.out⟩
        case round =>
          obtain ⟨d, rfl, hd1, hd2, hb2⟩ := hrel
          have HB2 := Lib.hid hb2
          clear hb2
          by_cases hdB : d < 10
          · have hdi := dg_index d (by omega)
            have q1 : (d : Int) < 10 := by omega
            by_cases he : dgt c.toNat = d
            · have q2 := hexc_yes c d (by omega) he
              have q3 : ((d : Int) == 10) = false := ne_beq (b := 10) (by omega)
              go_wp2
              go_quiet (fail)
              go_wp2
              go_roundw
              case rel =>
                refine ⟨10 * v + d, k + 1, by go_num, by go_num, by omega, ?_, ?_, below_drewN HB2.out _⟩
                · rw [Nat.pow_succ]; have := hv3.out; omega
                · show _ = _
                  rw [HR.out, HDR.out]
                  simp only [digsF]
                  rw [if_neg (by omega), he]
              case measure => simp [intOf] <;> omega
            · have q2 := hexc_ne c d (by omega) he
              go_wp2
              go_quiet (fail)
              go_wp2
              go_roundw
              case rel => exact ⟨d + 1, by go_num, by omega, by omega, below_drewN HB2.out _⟩
              case measure => simp [intOf] <;> omega
          · obtain rfl : d = 10 := by omega
            have q1 : decide ((((10 : Nat)) : Int) < 10) = false := by decide
            go_wp2
            go_quiet (fail)
            go_wp2
            go_ret
            refine ⟨?_, below_drewN HB2.out _⟩
            have hr := HR.out
            rw [HDR.out] at hr
            simp only [digsF] at hr
            rw [if_pos hd2] at hr
            rw [hr]; rfl
      · obtain rfl : k = t.size := by omega
        have hr : o = some v := by
          rw [HR.out, Lib.size_eq, List.drop_length]; rfl
        subst hr
        have hv2 : v ≤ 1048575 := by
          have : 16 ^ t.size ≤ 16 ^ 5 := Nat.pow_le_pow_right (by decide) (by omega)
          omega
        clear hv HR HO
        by_cases hmm : most < v
        · have q : (most : Int) < (v : Int) := by omega
          go_wp2
          go_ret
          exact ⟨by simp [endV, hmm], HB.out⟩
        · have q : ¬ (most : Int) < (v : Int) := by omega
          go_wp2
          go_ret
          exact ⟨by simp [endV, hmm], HB.out⟩

set_option maxHeartbeats 4000000 in
theorem value16_yes (t : ByteArray) (most : Nat) (w : World) (h1 : 1 ≤ t.size) (h5 : t.size ≤ 5) (hz : ¬ (1 < t.size ∧ t.data.toList.head? = some 48)) (o : Option Nat) (HO : Hid (o = digsF 16 0 t.data.toList)) :
    Calls Tryd.prog 15 #[.string t, .int .i64 16, .int .i64 most] w fun e w' => e = .returned (.int .i64 (endV most o)) ∧ Below w.heap.size w w' := by
  obtain ⟨c0, hc0⟩ : ∃ c0, t.data.toList[0]? = some c0 := ⟨_, List.getElem?_eq_getElem (by rw [← Lib.size_eq]; omega)⟩
  have g1 : ((t.size : Int) == 0) = false := ne_beq (b := 0) (by omega)
  have g2 : ¬ (5 : Int) < (t.size : Int) := by omega
  have hx : ∀ W, (Instr.index 9 (.string t) (.int .i64 0)).run Tryd.prog W = .ok (.int .u8 (c0.toNat : Int)) W := fun W => t_index t 0 c0 hc0 W
  have start : Hid (decide ((1 : Int) < (t.size : Int)) = false ∨ (decide ((1 : Int) < (t.size : Int)) = true ∧ ((c0.toNat : Int) == 48) = false)) := by
    by_cases h : 1 < t.size
    · refine Or.inr ⟨decide_eq_true (by omega), ne_beq (b := 48) (fun e => hz ⟨h, ?_⟩)⟩
      rw [List.head?_eq_getElem?, hc0, show c0 = 48 from UInt8.toNat_inj.1 e]
    · exact Or.inl (decide_eq_false (by omega))
  clear hz hc0
  rcases start.out with hg | ⟨hg, hg2⟩
  all_goals
    go_enter Tryd.func15, Tryd.ntmps15
    go_wp2
    go_loopw [7, 8] (fun x i wr => ∃ v k : Nat, x = .int .i64 v ∧ i = .int .i64 k ∧ k ≤ t.size ∧ v < 16 ^ k ∧ Hid (o = digsF 16 v (t.data.toList.drop k)) ∧ Below w.heap.size w wr) (fun _ i _ => t.size - (intOf i).toNat)
    case atStart => exact ⟨0, 0, rfl, rfl, Nat.zero_le _, by simp, HO, Below.refl _ _⟩
    case round =>
      obtain ⟨v, k, rfl, rfl, hk, hv, HR, hb⟩ := hrel
      have HB := Lib.hid hb
      clear hb
      by_cases hlt : k < t.size
      · obtain ⟨c, hc⟩ : ∃ c, t.data.toList[k]? = some c := ⟨_, List.getElem?_eq_getElem (by rw [← Lib.size_eq]; exact hlt)⟩
        have hv2 : v ≤ 1048575 := by
          have : 16 ^ k ≤ 16 ^ 5 := Nat.pow_le_pow_right (by decide) (by omega)
          omega
        have hdrop : t.data.toList.drop k = c :: t.data.toList.drop (k + 1) := by
          rw [List.drop_eq_getElem_cons (by rw [← Lib.size_eq]; exact hlt)]
          congr 1
          rw [List.getElem?_eq_getElem (by rw [← Lib.size_eq]; exact hlt)] at hc
          exact Option.some.inj hc
        have HDR := Lib.hid hdrop
        have hxk := t_index t k c hc
        have hdg : dgt c.toNat ≤ 16 := by unfold dgt; repeat' split
                                          all_goals omega
        have hv3 := Lib.hid hv
        clear hdrop hc hv
        go_wp2
        go_loopw [9] (fun y wr2 => ∃ d : Nat, y = .int .i64 d ∧ d ≤ 16 ∧ d ≤ dgt c.toNat ∧ Below w.heap.size w wr2) (fun y _ => 16 - (intOf y).toNat)
        case atStart => exact ⟨0, rfl, Nat.zero_le _, Nat.zero_le _, HB.out⟩
        case round =>
          obtain ⟨d, rfl, hd1, hd2, hb2⟩ := hrel
          have HB2 := Lib.hid hb2
          clear hb2
          by_cases hdB : d < 16
          · have hdi := dg_index d (by omega)
            have q1 : (d : Int) < 16 := by omega
            by_cases he : dgt c.toNat = d
            · have q2 := hexc_yes c d (by omega) he
              have q3 : ((d : Int) == 16) = false := ne_beq (b := 16) (by omega)
              go_wp2
              go_quiet (fail)
              go_wp2
              go_roundw
              case rel =>
                refine ⟨16 * v + d, k + 1, by go_num, by go_num, by omega, ?_, ?_, below_drewN HB2.out _⟩
                · rw [Nat.pow_succ]; have := hv3.out; omega
                · show _ = _
                  rw [HR.out, HDR.out]
                  simp only [digsF]
                  rw [if_neg (by omega), he]
              case measure => simp [intOf] <;> omega
            · have q2 := hexc_ne c d (by omega) he
              go_wp2
              go_quiet (fail)
              go_wp2
              go_roundw
              case rel => exact ⟨d + 1, by go_num, by omega, by omega, below_drewN HB2.out _⟩
              case measure => simp [intOf] <;> omega
          · obtain rfl : d = 16 := by omega
            have q1 : decide ((((16 : Nat)) : Int) < 16) = false := by decide
            go_wp2
            go_quiet (fail)
            go_wp2
            go_ret
            refine ⟨?_, below_drewN HB2.out _⟩
            have hr := HR.out
            rw [HDR.out] at hr
            simp only [digsF] at hr
            rw [if_pos hd2] at hr
            rw [hr]; rfl
      · obtain rfl : k = t.size := by omega
        have hr : o = some v := by
          rw [HR.out, Lib.size_eq, List.drop_length]; rfl
        subst hr
        have hv2 : v ≤ 1048575 := by
          have : 16 ^ t.size ≤ 16 ^ 5 := Nat.pow_le_pow_right (by decide) (by omega)
          omega
        clear hv HR HO
        by_cases hmm : most < v
        · have q : (most : Int) < (v : Int) := by omega
          go_wp2
          go_ret
          exact ⟨by simp [endV, hmm], HB.out⟩
        · have q : ¬ (most : Int) < (v : Int) := by omega
          go_wp2
          go_ret
          exact ⟨by simp [endV, hmm], HB.out⟩
/-- value, whole. -/
theorem value10_any (t : ByteArray) (most : Nat) (w : World) (hs : t.size ≤ maxLen) :
    Calls Tryd.prog 15 #[.string t, .int .i64 10, .int .i64 most] w fun e w' => e = .returned (.int .i64 (valF 10 most t.data.toList)) ∧ Below w.heap.size w w' := by
  by_cases h : t.data.toList.length = 0 ∨ 5 < t.data.toList.length ∨ (1 < t.data.toList.length ∧ t.data.toList.head? = some 48)
  · have e : valF 10 most t.data.toList = -1 := if_pos h
    rw [e]
    exact value10_no t most w h hs
  · have e : valF 10 most t.data.toList = endV most (digsF 10 0 t.data.toList) := by
      unfold valF
      rw [if_neg h]
      cases digsF 10 0 t.data.toList <;> rfl
    rw [e]
    rw [← Lib.size_eq] at h
    exact value10_yes t most w (by omega) (by omega) (fun h' => h (Or.inr (Or.inr h'))) _ rfl
/-- value, whole. -/
theorem value16_any (t : ByteArray) (most : Nat) (w : World) (hs : t.size ≤ maxLen) :
    Calls Tryd.prog 15 #[.string t, .int .i64 16, .int .i64 most] w fun e w' => e = .returned (.int .i64 (valF 16 most t.data.toList)) ∧ Below w.heap.size w w' := by
  by_cases h : t.data.toList.length = 0 ∨ 5 < t.data.toList.length ∨ (1 < t.data.toList.length ∧ t.data.toList.head? = some 48)
  · have e : valF 16 most t.data.toList = -1 := if_pos h
    rw [e]
    exact value16_no t most w h hs
  · have e : valF 16 most t.data.toList = endV most (digsF 16 0 t.data.toList) := by
      unfold valF
      rw [if_neg h]
      cases digsF 16 0 t.data.toList <;> rfl
    rw [e]
    rw [← Lib.size_eq] at h
    exact value16_yes t most w (by omega) (by omega) (fun h' => h (Or.inr (Or.inr h'))) _ rfl
end Go.Proofs.YtnfkgnjeamnhfaaDoor
