import Derived.Test.YteocfjiijmdjcaaGreatGb
namespace Go.Proofs.YteocfjiijmdjcaaGreat
open Go.RowKit

abbrev two (a b : Int) : Ending := .returned (.tuple #[.int .i64 a, .int .i64 b])
/-- What a call of Group leaves: T's lists lie from offset o on. -/
def GPost (T o : Nat) (f : Nat → Value) (gs : Nat → List Int) (xs : List Int) (w : World) (e : Ending) (w' : World) : Prop :=
  (goodB xs = false ∧ e = two 0 6 ∧ Below w.heap.size w w') ∨
  (goodB xs = true ∧ (∀ j, j < 32 → (gs j).length ≠ 0) ∧ e = two 0 9 ∧ Below w.heap.size w w') ∨
  (goodB xs = true ∧ ∃ i g c, i < 32 ∧ (∀ j, j < i → (gs j).length ≠ 0) ∧ (gs i).length = 0 ∧ e = two i 0 ∧ w.heap.size ≤ g ∧ w'.ownsRow w.heap.size 3 1 (.slice (some ⟨g, 0, none⟩) xs.length c) xs.length (ints xs) ∧
    w.grownBy w' (some T) ∧ St w' T 36 (upd f (o + i) (.slice (some ⟨g, 0, none⟩) xs.length c)))
theorem goodB_len {xs : List Int} (h : goodB xs = true) : 0 < xs.length ∧ xs.length ≤ 8 := by
  unfold goodB at h
  have := of_decide_eq_true h
  omega
theorem Below.grownBy {w w' : World} (h : Below w.heap.size w w') (row : Option Nat) : w.grownBy w' row := ⟨h.os, h.tape, h.output, h.size, fun k hk _ => h.block k hk⟩
theorem grownBy_set {w w' : World} {T k : Nat} (h : Below w.heap.size w w') (v : Value) : w.grownBy (w'.setCell ⟨T, k, none⟩ v) (some T) :=
  ⟨h.os, h.tape, h.output, by simp [World.setCell]; exact h.size, fun i hi hne => (Below.heap_setCell w' ⟨T, k, none⟩ v i (fun e => hne (by rw [e]))).trans (h.block i hi)⟩
theorem ownsRow_set {w : World} {base e size : Nat} {v : Value} {n : Nat} {xs : List Value} (h : w.ownsRow base e size v n xs) {a : Addr} (ha : a.block < base) (u : Value) : (w.setCell a u).ownsRow base e size v n xs := ownsRow_setCell_below h ha u
/-- Behind 'fresh' and a store into the table. -/
theorem stored {w w1 : World} {T k : Nat} {f : Nat → Value} {v : Value} (hs : St w T 36 f) (hb : Below w.heap.size w w1) (hk : k < 36) : St (w1.setCell ⟨T, k, none⟩ v) T 36 (upd f k v) :=
  (hs.below hb (hs.lt (by decide))).set hk v

set_option maxHeartbeats 2000000 in
theorem add_any (T : Nat) (f : Nat → Value) (gs : Nat → List Int) (ao : Option Addr) (n cap : Nat) (xs : List Int) (w : World) (hs : St w T 36 f) (hl : Ls w f 3 gs) (hr : Rd w ao n xs) (hm : n ≤ maxLen) :
    Calls Tryz.prog 58 #[.pointer (some ⟨T, 3, none⟩), .slice ao n cap] w (GPost T 3 f gs xs w) := by
  have HG := Lib.hid (goodHops_any ao n cap xs w hr hm)
  have HS := Lib.hid hs
  have HL := Lib.hid hl
  have HR := Lib.hid hr
  clear hs hl hr
  unfold maxLen at hm
  cases hg : goodB xs with
  | false =>
    rw [hg] at HG
    have HGG := Lib.hid hg
    clear hg
    go_enter Tryz.func58, Tryz.ntmps58
    go_wp2_with (go_at_call 90; refine HG.out.mono ?_; rintro e w1 ⟨rfl, rfl⟩)
    go_ret2
    exact .inl ⟨HGG.out, rfl, Below.refl _ _⟩
  | true =>
    rw [hg] at HG
    have HGG := Lib.hid hg
    have hlen := goodB_len hg
    rw [HR.out.1] at hlen
    obtain ⟨hn0, hn8⟩ := hlen
    have HF := Lib.hid (fun w' (hb : Below w.heap.size w w') => fresh_any ao n cap xs w' (HR.out.below hb) hn0 hn8)
    have hT := HS.out.lt (by decide)
    clear hg
    go_enter Tryz.func58, Tryz.ntmps58
    go_wp2_with (go_at_call 90; refine HG.out.mono ?_; rintro e w1 ⟨rfl, rfl⟩)
    go_loop [6] (fun i => ∃ k : Nat, k ≤ 32 ∧ i = .int .i64 k ∧ Hid (∀ j, j < k → (gs j).length ≠ 0)) (fun i => 32 - (intOf i).toNat)
    case atStart => exact ⟨0, Nat.zero_le _, rfl, by intro j hj; omega⟩
    case round =>
      obtain ⟨k, hk, rfl, HK⟩ := hrel
      by_cases hlt : k < 32
      · obtain ⟨a1, n1, c1, hf, hr1, hn1, -⟩ := HL.out k hlt
        have hc := (HS.out (3 + k) (by omega)).1
        have hfz := (HS.out (3 + k) (by omega)).2
        rw [hf] at hc
        have HL1 := Lib.hid hr1.1
        have q0 : (0 : Int) ≤ (k : Int) := by omega
        have q1 : (k : Int) < 32 := by omega
        clear hf hr1
        by_cases h1 : n1 = 0
        · have q2 : ((n1 : Int) == 0) = true := by rw [h1]; rfl
          have H1 := Lib.hid h1
          clear h1
          go_wp2
          go_region_with (go_at_call 91; refine (HF.out _ (by exact ⟨rfl, rfl, rfl, Nat.le_refl _, fun _ _ => rfl⟩)).mono ?_; rintro e w2 ⟨g, c, rfl, hg0, hgz, hown, hb⟩; have s1 := (hb.cell (p := ⟨T, 3 + k, none⟩) (by exact hT)).trans hc; have s2 := (hb.frozen (p := ⟨T, 3 + k, none⟩) (by exact hT)).trans hfz)
          all_goals go_wp2
          all_goals go_ret2
          all_goals
            have hb' : Below w1.heap.size w1 w2 := ⟨hb.os, hb.tape, hb.output, hb.size, hb.block⟩
            refine .inr (.inr ⟨HGG.out, k, g, c, hlt, HK.out, by rw [HL1.out]; exact H1.out, rfl, hg0, ?_, ?_, ?_⟩)
            · rw [HR.out.1]; exact ownsRow_set hown hT _
            · exact grownBy_set hb' _
            · rw [HR.out.1]; exact stored HS.out hb' (by omega)
        · have q2 : ((n1 : Int) == 0) = false := ne_beq (b := 0) h1
          go_wp2
          go_round
          case rel =>
            refine ⟨k + 1, by omega, by go_num, ?_⟩
            intro j hj
            by_cases e : j = k
            · subst e; rw [HL1.out]; exact h1
            · exact HK.out j (by omega)
          case measure => simp [intOf]; omega
      · obtain rfl : k = 32 := by omega
        go_wp2
        go_ret2
        exact .inr (.inl ⟨HGG.out, HK.out, rfl, Below.refl _ _⟩)

set_option maxHeartbeats 1000000 in
theorem group_any (T : Nat) (f : Nat → Value) (gs : Nat → List Int) (ao : Option Addr) (n cap : Nat) (xs : List Int) (w : World) (hs : St w T 36 f) (hl : Ls w f 3 gs) (hr : Rd w ao n xs) (hm : n ≤ maxLen) :
    Calls Tryz.prog 24 #[.pointer (some ⟨T, 0, none⟩), .slice ao n cap] w (GPost T 3 f gs xs w) := by
  have H := Lib.hid (add_any T f gs ao n cap xs w hs hl hr hm)
  clear hs hl hr hm
  go_enter Tryz.func24, Tryz.ntmps24
  go_wp2_with fail
  refine H.out.mono ?_
  intro e w1 hp
  have HP := Lib.hid hp
  rcases hp with ⟨_, rfl, _⟩ | ⟨_, _, rfl, _⟩ | ⟨_, i, g, c, _, _, _, rfl, _⟩
  all_goals
    go_wp2
    go_ret2
    exact HP.out

/-- What a call of Hops leaves: a list of the table's, copied. -/
def HPost (gs : Nat → List Int) (k : Int) (w : World) (e : Ending) (w' : World) : Prop :=
  (hasB gs k = false ∧ e = .returned (.tuple #[nilS, .int .i64 7]) ∧ Below w.heap.size w w') ∨
  (hasB gs k = true ∧ ∃ g c, e = .returned (.tuple #[.slice (some ⟨g, 0, none⟩) (gs k.toNat).length c, .int .i64 0]) ∧ w.heap.size ≤ g ∧ g < w'.heap.size ∧
    w'.ownsRow w.heap.size 3 1 (.slice (some ⟨g, 0, none⟩) (gs k.toNat).length c) (gs k.toNat).length (ints (gs k.toNat)) ∧ Below w.heap.size w w')
theorem hasB_some {gs : Nat → List Int} {g : Int} (h : hasB gs g = true) : ∃ k : Nat, g = k ∧ k < 32 ∧ 0 < (gs k).length := by
  unfold hasB at h
  have h := of_decide_eq_true h
  refine ⟨g.toNat, by omega, by omega, by omega⟩

set_option maxHeartbeats 1000000 in
theorem ghops_any (T : Nat) (f : Nat → Value) (gs : Nat → List Int) (g : Int) (w : World) (hs : St w T 36 f) (hl : Ls w f 3 gs) :
    Calls Tryz.prog 59 #[.pointer (some ⟨T, 3, none⟩), .int .i64 g] w (HPost gs g w) := by
  have H := Lib.hid (has_any T f gs g w hs hl)
  cases hg : hasB gs g with
  | false =>
    rw [hg] at H
    have HG := Lib.hid hg
    clear hs hl hg
    go_enter Tryz.func59, Tryz.ntmps59
    go_wp2_with (go_at_call 61; refine H.out.mono ?_; rintro e w1 ⟨rfl, rfl⟩)
    go_ret2
    exact .inl ⟨HG.out, rfl, Below.refl _ _⟩
  | true =>
    rw [hg] at H
    have HG := Lib.hid hg
    obtain ⟨k, rfl, hk, hk0⟩ := hasB_some hg
    obtain ⟨ao, n, cap, hf, hr, hn8, -⟩ := hl k hk
    have hc := (hs (3 + k) (by omega)).1
    rw [hf] at hc
    rw [hr.1] at hk0
    have HF := Lib.hid (fresh_any ao n cap (gs k) w hr hk0 hn8)
    have HR := Lib.hid hr.1
    clear hs hl hg hf hr
    go_enter Tryz.func59, Tryz.ntmps59
    go_wp2_with (first | (go_at_call 61; refine H.out.mono ?_; rintro e w1 ⟨rfl, rfl⟩) | (go_at_call 91; refine HF.out.mono ?_; rintro e w2 ⟨g, c, rfl, hg0, hgz, hown, hb⟩))
    go_ret2
    refine .inr ⟨HG.out, g, c, ?_, hg0, hgz, ?_, hb⟩
    · rw [Int.toNat_natCast, HR.out]; rfl
    · rw [Int.toNat_natCast, HR.out]; exact hown

set_option maxHeartbeats 1000000 in
theorem hops_any (T : Nat) (f : Nat → Value) (gs : Nat → List Int) (g : Int) (w : World) (hs : St w T 36 f) (hl : Ls w f 3 gs) :
    Calls Tryz.prog 27 #[.pointer (some ⟨T, 0, none⟩), .int .i64 g] w (HPost gs g w) := by
  have H := Lib.hid (ghops_any T f gs g w hs hl)
  clear hs hl
  go_enter Tryz.func27, Tryz.ntmps27
  go_wp2_with fail
  refine H.out.mono ?_
  intro e w1 hp
  have HP := Lib.hid hp
  rcases hp with ⟨_, rfl, _⟩ | ⟨_, k, c, rfl, _⟩
  all_goals
    go_wp2
    go_ret2
    exact HP.out

/-- What a call of Drop leaves, where there is no route. -/
def DPost (T o : Nat) (f : Nat → Value) (gs : Nat → List Int) (k : Int) (w : World) (e : Ending) (w' : World) : Prop :=
  (hasB gs k = false ∧ e = .returned (.int .i64 7) ∧ Below w.heap.size w w') ∨
  (hasB gs k = true ∧ e = .returned (.int .i64 0) ∧ w.grownBy w' (some T) ∧ St w' T 36 (upd f (o + k.toNat) nilS))

set_option maxHeartbeats 1000000 in
theorem remove_any (T : Nat) (f : Nat → Value) (gs : Nat → List Int) (k : Nat) (w : World) (hs : St w T 36 f) (hl : Ls w f 3 gs) (hk : k < 32) (hg : hasB gs k = true) :
    Calls Tryz.prog 63 #[.pointer (some ⟨T, 3, none⟩), .int .i64 k] w fun e w' => e = .returned (.tuple #[]) ∧ w' = w.setCell ⟨T, 3 + k, none⟩ nilS := by
  have H := Lib.hid (has_any T f gs k w hs hl)
  rw [hg] at H
  obtain ⟨ao, n, cap, hf, -⟩ := hl k hk
  have hc := (hs (3 + k) (by omega)).1
  have hfz := (hs (3 + k) (by omega)).2
  rw [hf] at hc
  clear hs hl hf hg
  go_enter Tryz.func63, Tryz.ntmps63
  go_wp2_with (go_at_call 61; refine H.out.mono ?_; rintro e w1 ⟨rfl, rfl⟩)
  refine bodyPost_end (results_none rfl _ _ _) rfl ?_
  exact ⟨rfl, rfl⟩
set_option maxHeartbeats 1000000 in
theorem routeHas_none (T : Nat) (f : Nat → Value) (g : Int) (w : World) (hs : St w T 36 f) (h35 : f 35 = nilS) :
    Calls Tryz.prog 62 #[.pointer (some ⟨T, 35, none⟩), .int .i64 g] w fun e w' => e = .returned (.bool false) ∧ w' = w := by
  have hc := (hs 35 (by omega)).1
  rw [h35] at hc
  clear hs h35
  go_enter Tryz.func62, Tryz.ntmps62
  go_wp2
  go_loop [5] (fun i => i = .int .i64 0) (fun _ => 0)
  case atStart => rfl
  case round =>
    subst hrel
    go_wp2
    go_ret
    exact ⟨rfl, rfl⟩

set_option maxHeartbeats 1000000 in
theorem drop_any (T : Nat) (f : Nat → Value) (gs : Nat → List Int) (g : Int) (w : World) (hs : St w T 36 f) (hl : Ls w f 3 gs) (h35 : f 35 = nilS) :
    Calls Tryz.prog 31 #[.pointer (some ⟨T, 0, none⟩), .int .i64 g] w (DPost T 3 f gs g w) := by
  have H := Lib.hid (has_any T f gs g w hs hl)
  cases hg : hasB gs g with
  | false =>
    rw [hg] at H
    have HG := Lib.hid hg
    clear hs hl hg h35
    go_enter Tryz.func31, Tryz.ntmps31
    go_wp2_with (go_at_call 61; refine H.out.mono ?_; rintro e w1 ⟨rfl, rfl⟩)
    go_ret
    exact .inl ⟨HG.out, rfl, Below.refl _ _⟩
  | true =>
    rw [hg] at H
    have HG := Lib.hid hg
    obtain ⟨k, rfl, hk, hk0⟩ := hasB_some hg
    have HR := Lib.hid (routeHas_none T f k w hs h35)
    have HM := Lib.hid (remove_any T f gs k w hs hl hk hg)
    have HS := Lib.hid hs
    clear hs hl hg h35
    go_enter Tryz.func31, Tryz.ntmps31
    go_wp2_with (first | (go_at_call 61; refine H.out.mono ?_; rintro e w1 ⟨rfl, rfl⟩) | (go_at_call 62; refine HR.out.mono ?_; rintro e w1 ⟨rfl, rfl⟩) | (go_at_call 63; refine HM.out.mono ?_; rintro e w1 ⟨rfl, rfl⟩))
    go_ret
    refine .inr ⟨HG.out, rfl, grownBy_set (Below.refl _ _) _, ?_⟩
    rw [Int.toNat_natCast]
    exact HS.out.set (by omega) _
end Go.Proofs.YteocfjiijmdjcaaGreat
