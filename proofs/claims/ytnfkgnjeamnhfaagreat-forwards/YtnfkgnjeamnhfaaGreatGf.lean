import Derived.Test.YtnfkgnjeamnhfaaGreatGc
import Derived.Deep.RegionLaw
import Derived.Laws.CopyOwn
namespace Go.Proofs.YtnfkgnjeamnhfaaGreat
open Go.RowKit

/-! ### The document's table: its lists lie from offset 4 on, its routes at 3. -/
set_option maxHeartbeats 1000000 in
theorem there_any (T : Nat) (f : Nat → Value) (gs : Nat → List Int) (g : Int) (w : World) (hs : St w T 36 f) (hl : Ls w f 4 gs) :
    Calls Tryz.prog 90 #[.pointer (some ⟨T, 0, none⟩), .int .i64 g] w fun e w' => e = .returned (.bool (hasB gs g)) ∧ w' = w := by
  by_cases h0 : g < 0
  · have e : hasB gs g = false := by unfold hasB; rw [decide_eq_false]; rintro ⟨h, _⟩; omega
    have h0' : ¬ 0 ≤ g := by omega
    rw [e]
    clear hs hl
    go_enter Tryz.func90, Tryz.ntmps90
    go_wp2
    go_ret
    exact ⟨rfl, rfl⟩
  · by_cases h1 : 32 ≤ g
    · have e : hasB gs g = false := by unfold hasB; rw [decide_eq_false]; rintro ⟨_, h, _⟩; omega
      have h0' : 0 ≤ g := by omega
      have h1' : ¬ g < 32 := by omega
      rw [e]
      clear hs hl
      go_enter Tryz.func90, Tryz.ntmps90
      go_wp2
      go_ret
      exact ⟨rfl, rfl⟩
    · obtain ⟨k, rfl⟩ : ∃ k : Nat, g = k := ⟨g.toNat, by omega⟩
      have hk : k < 32 := by omega
      have hk2 : (k : Int) < 32 := by omega
      obtain ⟨ao, n, cap, hf, hr, hn8, hz⟩ := hl k hk
      have hc := (hs (4 + k) (by omega)).1
      rw [hf] at hc
      have hx : hasB gs k = decide (n ≠ 0) := by
        unfold hasB
        rw [Int.toNat_natCast, hr.1]
        exact decide_eq_decide.2 ⟨fun h => by omega, fun h => ⟨by omega, by omega, by omega⟩⟩
      rw [hx]
      by_cases hn : n = 0
      · obtain ⟨rfl, rfl⟩ := hz hn
        subst hn
        clear hs hl hf hr hx hz
        go_enter Tryz.func90, Tryz.ntmps90
        go_wp2
        go_ret
        exact ⟨rfl, rfl⟩
      · obtain ⟨b, off, rfl, -⟩ := hr.at (by omega)
        have hd : decide (n ≠ 0) = true := by simpa using hn
        rw [hd]
        clear hs hl hf hr hx hz hd
        go_enter Tryz.func90, Tryz.ntmps90
        go_wp2
        go_ret
        exact ⟨rfl, rfl⟩

set_option maxHeartbeats 1000000 in
/-- The document's Hops: the list itself. -/
theorem rhops_any (T : Nat) (f : Nat → Value) (gs : Nat → List Int) (g : Int) (w : World) (hs : St w T 36 f) (hl : Ls w f 4 gs) :
    Calls Tryz.prog 44 #[.pointer (some ⟨T, 0, none⟩), .int .i64 g] w fun e w' => ((hasB gs g = false ∧ e = .returned (.tuple #[nilS, .int .i64 7])) ∨ (hasB gs g = true ∧ e = .returned (.tuple #[f (4 + g.toNat), .int .i64 0]))) ∧ w' = w := by
  have H := Lib.hid (there_any T f gs g w hs hl)
  cases hg : hasB gs g with
  | false =>
    rw [hg] at H
    clear hs hl hg
    go_enter Tryz.func44, Tryz.ntmps44
    go_wp2_with (go_at_call 90; refine H.out.mono ?_; rintro e w1 ⟨rfl, rfl⟩)
    go_ret2
    exact ⟨.inl ⟨trivial, rfl⟩, rfl⟩
  | true =>
    rw [hg] at H
    obtain ⟨k, rfl, hk, hk0⟩ := hasB_some hg
    obtain ⟨ao, n, cap, hf, hr, hn8, -⟩ := hl k hk
    have hc := (hs (4 + k) (by omega)).1
    rw [Int.toNat_natCast, hf]
    rw [hf] at hc
    clear hs hl hg hf hr
    go_enter Tryz.func44, Tryz.ntmps44
    go_wp2_with (go_at_call 90; refine H.out.mono ?_; rintro e w1 ⟨rfl, rfl⟩)
    go_ret2
    exact ⟨.inr ⟨trivial, rfl⟩, rfl⟩

set_option maxHeartbeats 1000000 in
theorem rdrop_any (T : Nat) (f : Nat → Value) (gs : Nat → List Int) (g : Int) (w : World) (hs : St w T 36 f) (hl : Ls w f 4 gs) (h3 : f 3 = nilS) :
    Calls Tryz.prog 46 #[.pointer (some ⟨T, 0, none⟩), .int .i64 g] w (DPost T 4 f gs g w) := by
  have H := Lib.hid (there_any T f gs g w hs hl)
  cases hg : hasB gs g with
  | false =>
    rw [hg] at H
    have HG := Lib.hid hg
    clear hs hl hg h3
    go_enter Tryz.func46, Tryz.ntmps46
    go_wp2_with (go_at_call 90; refine H.out.mono ?_; rintro e w1 ⟨rfl, rfl⟩)
    go_ret
    exact .inl ⟨HG.out, rfl, Below.refl _ _⟩
  | true =>
    rw [hg] at H
    have HG := Lib.hid hg
    obtain ⟨k, rfl, hk, hk0⟩ := hasB_some hg
    obtain ⟨ao, n, cap, hf, -⟩ := hl k hk
    have hc := (hs (4 + k) (by omega)).1
    have hfz := (hs (4 + k) (by omega)).2
    rw [hf] at hc
    have hc3 := (hs 3 (by omega)).1
    rw [h3] at hc3
    have HS := Lib.hid hs
    clear hs hl hg h3 hf
    go_enter Tryz.func46, Tryz.ntmps46
    go_wp2_with (go_at_call 90; refine H.out.mono ?_; rintro e w1 ⟨rfl, rfl⟩)
    go_loop [6] (fun i => i = .int .i64 0) (fun _ => 0)
    case atStart => rfl
    case round =>
      subst hrel
      go_wp2
      go_ret
      refine .inr ⟨HG.out, rfl, grownBy_set (Below.refl _ _) _, ?_⟩
      rw [Int.toNat_natCast]
      exact HS.out.set (by omega) _

theorem good_bad {xs : List Int} {x : Int} (h : x ∈ xs) (hx : x < 0 ∨ 65535 < x) : goodB xs = false := by
  unfold goodB; rw [decide_eq_false]; rintro ⟨_, _, h'⟩
  have := h' x h; omega
/-- The document's test of hops. -/
def badB (xs : List Int) (k : Nat) : Bool := (decide (xs.length = 0) || decide (8 < xs.length)) || (xs.take k).any fun x => decide (x < 0) || decide (65535 < x)
theorem badB_all (xs : List Int) : badB xs xs.length = !goodB xs := by
  have h : badB xs xs.length = true ↔ goodB xs = false := by
    unfold badB goodB
    rw [List.take_of_length_le (Nat.le_refl _)]
    simp only [Bool.or_eq_true, decide_eq_true_eq, List.any_eq_true, decide_eq_false_iff_not]
    constructor
    · rintro ((h | h) | ⟨x, hx, h⟩) ⟨h1, h2, h3⟩
      · omega
      · omega
      · have := h3 x hx; omega
    · intro h
      by_cases h0 : xs.length = 0
      · exact .inl (.inl h0)
      · by_cases h8 : 8 < xs.length
        · exact .inl (.inr h8)
        · refine .inr ?_
          apply Classical.byContradiction
          intro hn
          refine h ⟨h0, by omega, fun x hx => ?_⟩
          apply Classical.byContradiction
          intro hb
          exact hn ⟨x, hx, by omega⟩
  cases hb : badB xs xs.length <;> cases hg : goodB xs <;> simp_all
theorem badB_succ {xs : List Int} {k : Nat} {x : Int} (h : xs[k]? = some x) : badB xs (k + 1) = ((badB xs k || decide (x < 0)) || decide (65535 < x)) := by
  unfold badB
  rw [List.take_add_one, h, List.any_append]
  simp [Bool.or_assoc]
theorem badB_zero (xs : List Int) : badB xs 0 = (decide (xs.length = 0) || decide (8 < xs.length)) := by simp [badB]

theorem eq_nil (w : World) : Sem.run Tryz.prog (binOp BinOp.eql 36 (.slice none 0 0) (.slice none 0 0)) w = .ok (.bool true) w := by kernel_rfl
theorem eq_some (w : World) (a : Addr) (n c : Nat) : Sem.run Tryz.prog (binOp BinOp.eql 36 (.slice (some a) n c) (.slice none 0 0)) w = .ok (.bool false) w := by kernel_rfl

theorem size_any (n : Int) (w : World) (h : n = 4 ∨ n = 6) : Calls Tryz.prog 62 #[.int .i64 n] w fun e w' => e = .returned (.int .i64 (if n = 4 then 32 else 128)) ∧ w' = w := by
  rcases h with rfl | rfl
  all_goals
    go_enter Tryz.func62, Tryz.ntmps62
    go_wp2
    go_ret
    exact ⟨rfl, rfl⟩
set_option maxHeartbeats 1000000 in
/-- The document's Lengths, where there is no route. -/
theorem lengths_none (T : Nat) (f : Nat → Value) (n : Int) (w : World) (h : n = 4 ∨ n = 6) (hs : St w T 36 f) (h3 : f 3 = nilS) :
    Calls Tryz.prog 63 #[.pointer (some ⟨T, 0, none⟩), .int .i64 n] w fun e w' => e = .returned nilS ∧ w' = w := by
  have hc := (hs 3 (by omega)).1
  rw [h3] at hc
  have HZ := Lib.hid (size_any n w h)
  obtain ⟨m, hm0, hm⟩ : ∃ m : Nat, m ≤ 128 ∧ (if n = 4 then 32 else 128 : Int) = m := by
    rcases h with rfl | rfl
    · exact ⟨32, by omega, rfl⟩
    · exact ⟨128, by omega, rfl⟩
  rw [hm] at HZ
  clear hs h3 h hm
  go_enter Tryz.func63, Tryz.ntmps63
  go_wp2
  go_loop [5, 6] (fun o i => o = nilS ∧ ∃ k : Nat, k ≤ m + 1 ∧ i = .int .i64 k) (fun _ i => m + 1 - (intOf i).toNat)
  case atStart => exact ⟨rfl, 0, Nat.zero_le _, rfl⟩
  case round =>
    obtain ⟨rfl, k, hk, rfl⟩ := hrel
    by_cases hlt : k ≤ m
    · go_wp2_with (go_at_call 62; refine HZ.out.mono ?_; rintro e w1 ⟨rfl, rfl⟩)
      go_loop [7, 8] (fun b i => b = .bool false ∧ i = .int .i64 0) (fun _ _ => 0)
      case atStart => exact ⟨rfl, rfl⟩
      case round =>
        obtain ⟨rfl, rfl⟩ := hrel
        go_wp2
        go_round
        case rel => exact ⟨rfl, k + 1, by omega, by go_num⟩
        case measure => simp [intOf]; omega
    · go_wp2_with (go_at_call 62; refine HZ.out.mono ?_; rintro e w1 ⟨rfl, rfl⟩)
      go_ret
      exact ⟨rfl, rfl⟩
set_option maxHeartbeats 1000000 in
theorem Lengths_none (T : Nat) (f : Nat → Value) (n : Int) (w : World) (h : n = 4 ∨ n = 6) (hs : St w T 36 f) (h3 : f 3 = nilS) :
    Calls Tryz.prog 20 #[.pointer (some ⟨T, 0, none⟩), .int .i64 n] w fun e w' => e = .returned (.tuple #[nilS, .int .i64 0]) ∧ w' = w := by
  have HZ := Lib.hid (size_any n w h)
  have HL := Lib.hid (lengths_none T f n w h hs h3)
  obtain ⟨m, hm0, hm⟩ : ∃ m : Nat, ((m : Int) == 0) = false ∧ (if n = 4 then 32 else 128 : Int) = m := by
    rcases h with rfl | rfl
    · exact ⟨32, rfl, rfl⟩
    · exact ⟨128, rfl, rfl⟩
  rw [hm] at HZ
  clear hs h3 h hm
  go_enter Tryz.func20, Tryz.ntmps20
  go_wp2_with (first | (go_at_call 62; refine HZ.out.mono ?_; rintro e w1 ⟨rfl, rfl⟩) | (go_at_call 63; refine HL.out.mono ?_; rintro e w1 ⟨rfl, rfl⟩))
  go_ret2
  exact ⟨rfl, rfl⟩

set_option maxRecDepth 4000 in
set_option maxHeartbeats 2000000 in
theorem rgroup_any (T : Nat) (f : Nat → Value) (gs : Nat → List Int) (ao : Option Addr) (n cap : Nat) (xs : List Int) (w : World) (hs : St w T 36 f) (hl : Ls w f 4 gs) (hr : Rd w ao n xs) (hm : n ≤ maxLen) :
    Calls Tryz.prog 41 #[.pointer (some ⟨T, 0, none⟩), .slice ao n cap] w (GPost T 4 f gs xs w) := by
  have HS := Lib.hid hs
  have HL := Lib.hid hl
  have HR := Lib.hid hr
  have hT := hs.lt (by decide)
  clear hs hl hr
  unfold maxLen at hm
  have hb0 : badB xs 0 = (decide (n = 0) || decide (8 < n)) := by rw [badB_zero, HR.out.1]
  have start : Hid (∃ b0 : Bool, badB xs 0 = b0 ∧ ((((n : Int) == 0) = true ∧ b0 = true) ∨ (((n : Int) == 0) = false ∧ b0 = decide ((8 : Int) < (n : Int))))) := by
    refine ⟨_, rfl, ?_⟩
    rw [hb0]
    by_cases h : n = 0
    · subst h; exact .inl ⟨rfl, by simp⟩
    · refine .inr ⟨ne_beq (b := 0) h, ?_⟩
      simp [h]
      omega
  clear hb0
  obtain ⟨b0, hb0, hst⟩ := start.out
  have HB0 := Lib.hid hb0
  clear hb0 start
  rcases hst with ⟨q1, q2⟩ | ⟨q1, q2⟩
  all_goals
    go_enter Tryz.func41, Tryz.ntmps41
    go_wp2
    go_loop [6, 7] (fun bd i => ∃ k : Nat, k ≤ n ∧ i = .int .i64 k ∧ bd = .bool (badB xs k)) (fun _ i => n - (intOf i).toNat)
    case atStart => exact ⟨0, Nat.zero_le _, rfl, by rw [HB0.out]; simp_all⟩
    case round =>
      clear q2
      obtain ⟨k, hk, rfl, rfl⟩ := hrel
      by_cases hlt : k < n
      · obtain ⟨b, off, rfl, hlt0, -⟩ := HR.out.at (by omega)
        obtain ⟨x, hx, hcx⟩ := HR.out.cell hlt
        have HX := Lib.hid (badB_succ hx)
        clear hx
        cases hbk : badB xs k with
        | true =>
          rw [hbk] at HX
          go_wp2
          go_round
          case rel => exact ⟨k + 1, by omega, by go_num, by rw [HX.out]; rfl⟩
          case measure => simp [intOf]; omega
        | false =>
          rw [hbk] at HX
          by_cases hx0 : x < 0
          · have d0 : decide (x < 0) = true := decide_eq_true hx0
            rw [d0] at HX
            go_wp2
            go_round
            case rel => exact ⟨k + 1, by omega, by go_num, by rw [HX.out]; rfl⟩
            case measure => simp [intOf]; omega
          · have d0 : decide (x < 0) = false := decide_eq_false hx0
            rw [d0] at HX
            go_wp2
            go_round
            case rel => exact ⟨k + 1, by omega, by go_num, by rw [HX.out]; rfl⟩
            case measure => simp [intOf]; omega
      · obtain rfl : k = n := by omega
        have hbk : badB xs k = !goodB xs := by rw [← HR.out.1]; exact badB_all xs
        cases hg : goodB xs with
        | false =>
          replace hbk : badB xs k = true := by rw [hbk, hg]; rfl
          rw [hbk]
          clear hbk
          have HGG := Lib.hid hg
          clear hg
          go_wp2
          go_ret2
          exact .inl ⟨HGG.out, rfl, Below.refl _ _⟩
        | true =>
          replace hbk : badB xs k = false := by rw [hbk, hg]; rfl
          rw [hbk]
          clear hbk
          have HGG := Lib.hid hg
          have hlen := goodB_len hg
          rw [HR.out.1] at hlen
          obtain ⟨hn0, hn8⟩ := hlen
          obtain ⟨b, off, rfl, hlt0, -⟩ := HR.out.at hn0
          obtain ⟨i0, hi, hz0, hz1, hz2⟩ := info3
          have HN := Lib.hid HR.out.news
          have HLN : Hid ((ints xs).length = k * 1) := by show _ = _; simp [HR.out.1]
          clear hg
          go_wp2
          go_loop [8] (fun i => ∃ j : Nat, j ≤ 32 ∧ i = .int .i64 j ∧ Hid (∀ l, l < j → (gs l).length ≠ 0)) (fun i => 32 - (intOf i).toNat)
          case atStart => exact ⟨0, Nat.zero_le _, rfl, by intro j hj; omega⟩
          case round =>
            obtain ⟨j, hj, rfl, HK⟩ := hrel
            by_cases hlt3 : j < 32
            · obtain ⟨a1, n1, c1, hf, hr1, hn1, hz⟩ := HL.out j hlt3
              have hc := (HS.out (4 + j) (by omega)).1
              have hfz := (HS.out (4 + j) (by omega)).2
              rw [hf] at hc
              have HL1 := Lib.hid hr1.1
              have q0 : (0 : Int) ≤ (j : Int) := by omega
              have q2 : (j : Int) < 32 := by omega
              by_cases h1 : n1 = 0
              · obtain ⟨rfl, rfl⟩ := hz h1
                subst h1
                have he := eq_nil
                clear hf hr1 hz
                go_wp2
                go_region_law (refine step_append_lies _ rfl (.tmp 57) (.tmp 58) 36 rfl w.heap.size 3 i0 (.int .i64 0) 1 8 Tryz.underlying36 hi hz0 hz1 hz2 rfl (by decide) nilS 0 [] (by simp [Act.eval]) (World.ownsRow_nil _ _ _ _) ⟨b, off, none⟩ k cap (ints xs) (by simp [Act.eval]) HLN.out HN.out (ints_one xs) hn0 (by unfold maxLen; omega) (by omega) (Nat.le_refl _) w.heap.size rfl ?_; intro g c w2 hown hgrow hat hgz; have s1 := (hgrow.cell_far ⟨T, 4 + j, none⟩ (by exact hT) (by simp [Value.ownBlock])).trans hc; have s2 := (hgrow.frozen_far ⟨T, 4 + j, none⟩ (by exact hT) (by simp [Value.ownBlock])).trans hfz)
                all_goals go_wp2
                all_goals go_ret2
                all_goals
                  have hb' : Below w.heap.size w w2 := ⟨hgrow.os, hgrow.tape, hgrow.output, hgrow.size, fun i hi => hgrow.block i hi (by simp [Value.ownBlock])⟩
                  refine .inr (.inr ⟨HGG.out, j, g, c, hlt3, HK.out, HL1.out, rfl, ?_, ?_, grownBy_set hb' _, ?_⟩)
                  · rcases hat with hat | hat
                    · simp [Value.ownBlock] at hat
                    · omega
                  · rw [HR.out.1]; simpa using ownsRow_set hown hT _
                  · rw [HR.out.1]; exact stored HS.out hb' (by omega)
              · obtain ⟨b1, off1, rfl, -, -⟩ := hr1.at (by omega)
                have he := eq_some
                clear hf hr1 hz
                go_wp2
                go_round
                case rel =>
                  refine ⟨j + 1, by omega, by go_num, ?_⟩
                  intro l hl
                  by_cases e : l = j
                  · subst e; rw [HL1.out]; exact h1
                  · exact HK.out l (by omega)
                case measure => simp [intOf]; omega
            · obtain rfl : j = 32 := by omega
              go_wp2
              go_ret2
              exact .inr (.inl ⟨HGG.out, HK.out, rfl, Below.refl _ _⟩)
end Go.Proofs.YtnfkgnjeamnhfaaGreat
namespace Go.Proofs.YtnfkgnjeamnhfaaGreat
open Go.RowKit

theorem num_any (n : Int) (w : World) : Calls Tryz.prog 23 #[.int .i64 n] w fun e w' => e = .returned (.int .i64 n) ∧ w' = w := by
  go_enter Tryz.func23, Tryz.ntmps23
  go_wp2
  go_ret
  exact ⟨rfl, rfl⟩

theorem St.new (w : World) (a : Array Value) (t : TypeId) : St (w.alloc (.cells a t)) w.heap.size a.size (fun j => a.getD j undef) := by
  intro j hj
  refine ⟨?_, World.frozen?_alloc_new _ _ _ _⟩
  rw [World.cell?_alloc_new]
  simp [hj]

/-- A new table: its lists lie from offset o on, its routes at r. -/
def NewT (o r : Nat) (w w' : World) : Prop :=
  ∃ f, St w' w.heap.size 36 f ∧ (∀ j, j < 32 → f (o + j) = nilS) ∧ f r = nilS ∧ Below w.heap.size w w' ∧ w'.heap.size = w.heap.size + 1

set_option maxHeartbeats 1000000 in
theorem new_any (limit seed own : Int) (w : World) (h1 : ¬ limit < 1) (h2 : ¬ 256 < limit) :
    Calls Tryz.prog 37 #[.int .i64 limit, .int .u64 seed, .int .u32 own] w fun e w' => e = .returned (.tuple #[.pointer (some ⟨w.heap.size, 0, none⟩), .int .i64 0]) ∧ NewT 3 35 w w' := by
  go_enter Tryz.func37, Tryz.ntmps37
  go_wp2
  go_ret2
  refine ⟨rfl, _, St.new w _ _, ?_, rfl, (Below.refl _ _).alloc (Nat.le_refl _) _, by simp⟩
  intro j hj
  iterate 32 (rcases j with _ | j; · rfl)
  omega
set_option maxHeartbeats 1000000 in
theorem new_no (limit seed own : Int) (w : World) (h1 : limit < 1 ∨ 256 < limit) :
    Calls Tryz.prog 37 #[.int .i64 limit, .int .u64 seed, .int .u32 own] w fun e w' => e = .returned (.tuple #[.pointer none, .int .i64 1]) ∧ w' = w := by
  rcases h1 with h | h
  · go_enter Tryz.func37, Tryz.ntmps37
    go_wp2
    go_ret2
    exact ⟨rfl, rfl⟩
  · have h' : ¬ limit < 1 := by omega
    go_enter Tryz.func37, Tryz.ntmps37
    go_wp2
    go_ret2
    exact ⟨rfl, rfl⟩
set_option maxHeartbeats 1000000 in
theorem rnew_any (limit seed own : Int) (w : World) (h1 : ¬ limit < 1) (h2 : ¬ 256 < limit) :
    Calls Tryz.prog 38 #[.int .i64 limit, .int .u64 seed, .int .u32 own] w fun e w' => e = .returned (.pointer (some ⟨w.heap.size, 0, none⟩)) ∧ NewT 4 3 w w' := by
  go_enter Tryz.func38, Tryz.ntmps38
  go_wp2
  go_ret
  refine ⟨rfl, _, St.new w _ _, ?_, rfl, (Below.refl _ _).alloc (Nat.le_refl _) _, by simp⟩
  intro j hj
  iterate 32 (rcases j with _ | j; · rfl)
  omega
set_option maxHeartbeats 1000000 in
theorem rnew_no (limit seed own : Int) (w : World) (h1 : limit < 1 ∨ 256 < limit) :
    Calls Tryz.prog 38 #[.int .i64 limit, .int .u64 seed, .int .u32 own] w fun e w' => e = .returned (.pointer none) ∧ w' = w := by
  rcases h1 with h | h
  · go_enter Tryz.func38, Tryz.ntmps38
    go_wp2
    go_ret
    exact ⟨rfl, rfl⟩
  · have h' : ¬ limit < 1 := by omega
    go_enter Tryz.func38, Tryz.ntmps38
    go_wp2
    go_ret
    exact ⟨rfl, rfl⟩

set_option maxHeartbeats 1000000 in
/-- Two lists that read alike. -/
theorem sameInts_yes (a1 a2 : Option Addr) (n c1 c2 : Nat) (xs : List Int) (w : World) (h1 : Rd w a1 n xs) (h2 : Rd w a2 n xs) (hm : n ≤ maxLen) :
    Calls Tryz.prog 21 #[.slice a1 n c1, .slice a2 n c2] w fun e w' => e = .returned (.bool true) ∧ ∃ d, w' = w.drewN d := by
  unfold maxLen at hm
  have q : ((n : Int) == (n : Int)) = true := by simp
  rcases Nat.eq_zero_or_pos n with h0 | h0
  · subst h0
    clear h1 h2
    go_enter Tryz.func21, Tryz.ntmps21
    go_wp2
    go_loop [5] (fun i => i = .int .i64 0) (fun _ => 0)
    case atStart => rfl
    case round =>
      subst hrel
      go_wp2
      go_ret
      exact ⟨rfl, 0, rfl⟩
  · obtain ⟨b1, o1, rfl, l1, -⟩ := h1.at h0
    obtain ⟨b2, o2, rfl, l2, -⟩ := h2.at h0
    have H1 := Lib.hid h1
    have H2 := Lib.hid h2
    clear h1 h2
    go_enter Tryz.func21, Tryz.ntmps21
    go_wp2
    go_loopw [5] (fun i wr => ∃ k d : Nat, k ≤ n ∧ i = .int .i64 k ∧ wr = w.drewN d) (fun i _ => n - (intOf i).toNat)
    case atStart => exact ⟨0, 0, Nat.zero_le _, rfl, rfl⟩
    case round =>
      obtain ⟨k, d, hk, rfl, rfl⟩ := hrel
      by_cases hlt : k < n
      · obtain ⟨x, hx, hc1⟩ := H1.out.cell hlt
        obtain ⟨y, hy, hc2⟩ := H2.out.cell hlt
        rw [hx] at hy
        cases hy
        clear hx
        have q2 : (x == x) = true := by simp
        go_wp2
        go_quiet (fail)
        go_wp2
        go_roundw
        case rel => exact ⟨k + 1, _, by omega, by go_num, rfl⟩
        case measure => simp [intOf]; omega
      · obtain rfl : k = n := by omega
        go_wp2
        go_ret
        exact ⟨rfl, d, rfl⟩
end Go.Proofs.YtnfkgnjeamnhfaaGreat
namespace Go.Proofs.YtnfkgnjeamnhfaaGreat
open Go.RowKit

theorem own_full {w : World} {base e g n : Nat} {xs : List Value} (h : w.ownsRow base e 1 (.slice (some ⟨g, 0, none⟩) n n) n xs) : w.heap[g]? = some (.cells xs.toArray e (0, 0)) ∧ base ≤ g := by
  rcases h.2 with ⟨h', _⟩ | ⟨g', cap, cur, hv, hb, hg, hnc, hcm, hcs, ht⟩
  · cases h'
  · simp only [Value.slice.injEq, Option.some.injEq, Addr.mk.injEq, and_true, true_and] at hv
    obtain ⟨rfl, rfl⟩ := hv
    rw [Nat.mul_one] at ht hcs
    rw [List.take_of_length_le (by simp; omega)] at ht
    refine ⟨?_, hb⟩
    rw [hg, ← ht]
theorem full_own {w : World} {base e g n : Nat} {xs : List Value} (h : w.heap[g]? = some (.cells xs.toArray e (0, 0))) (hb : base ≤ g) (hl : xs.length = n) (hm : n ≤ maxLen) : w.ownsRow base e 1 (.slice (some ⟨g, 0, none⟩) n n) n xs :=
  ⟨by rw [Nat.mul_one]; exact hl, .inr ⟨g, n, xs.toArray, rfl, hb, h, Nat.le_refl _, hm, by simp [hl], by rw [Nat.mul_one]; exact List.take_of_length_le (by simp [hl])⟩⟩
theorem below_of_grown {w w' : World} (h : w.grownBy w' none) : Below w.heap.size w w' := ⟨h.os, h.tape, h.output, h.size, fun i hi => h.block i hi (by simp)⟩
theorem info31 : (Tryz.prog.info? 3).map (·.size) = some 1 := by kernel_rfl
theorem madeInts (n : Nat) : (madeCells #[Value.int .i64 0] n).toList = ints (List.replicate n 0) := by
  rw [toList_madeCells_one]
  simp [ints]

theorem handed_eq (xs : List Int) (n : Nat) (h : xs.length = n) : (ints (xs ++ [0])).toArray.setIfInBounds n (Value.int .i64 (-7)) = (ints (xs ++ [-7])).toArray := by
  apply Array.ext'
  rw [Array.toList_setIfInBounds]
  subst h
  simp

set_option maxHeartbeats 1000000 in
theorem hand_any (ao : Option Addr) (n cap : Nat) (xs : List Int) (w : World) (hr : Rd w ao n xs) (hm : n ≤ 17592186044415) :
    Calls Tryz.prog 39 #[.slice ao n cap] w fun e w' => e = .returned (.slice (some ⟨w.heap.size, 0, none⟩) (n + 1) (n + 1)) ∧ w'.heap[w.heap.size]? = some (.cells (ints (xs ++ [-7])).toArray 3 (0, 0)) ∧ Below w.heap.size w w' := by
  obtain ⟨i0, hi, hz0, hz1, hz2⟩ := info3
  have HR := Lib.hid hr
  have HL := Lib.hid hr.1
  clear hr
  go_enter Tryz.func39, Tryz.ntmps39
  go_wp2_with (at_make; refine wpList_make_full _ rfl _ _ 36 rfl w.heap.size 3 i0 (.int .i64 0) 1 Tryz.underlying36 hi hz0 hz1 .i64 .i64 _ _ (n + 1) rfl rfl ?c1 ?c2 ?c3 ?c4 ?c5 ?_)
  case c1 => go_simp
  case c2 => go_simp
  case c3 => rw [hz2]; omega
  case c4 => unfold maxLen; omega
  case c5 => exact Nat.le_refl _
  intro w1 hown hgrow
  rw [madeInts] at hown
  have HG := Lib.hid (own_full hown).1
  have HB := Lib.hid (below_of_grown hgrow)
  have hz : w.heap.size < w1.heap.size := (Array.getElem?_eq_some_iff.1 (own_full hown).1).1
  clear hown hgrow
  go_wp2_with (refine wpList_copy_splice rfl _ _ 36 36 rfl 3 Tryz.underlying36 info31 _ _ _ _ _ _ rfl rfl w.heap.size 0 _ 3 HG.out (ints xs) ?c1 ?c2 ?c3 (ints_one xs) w.heap.size w HB.out (Nat.le_refl _) ?_)
  case c1 => simp [HL.out]
  case c2 =>
    intro hp
    have hp' : 0 < n := by simpa [HL.out] using hp
    obtain ⟨b, off, rfl, hlt, -⟩ := HR.out.at hp'
    exact ⟨_, rfl, fun j x hx => (HR.out.below HB.out).news j _ (by simp [hx])⟩
  case c3 => simp [HL.out]
  intro w2 HG2 hb2
  have e : splice (List.replicate (n + 1) (Value.int IntKind.i64 0)) 0 (ints xs) = ints (xs ++ [0]) := by
    simp [splice, HL.out]
  rw [e] at HG2
  have HB2 := Lib.hid hb2
  have hc : w2.cell? ⟨w.heap.size, n, none⟩ = some (.int .i64 0) := by
    rw [cell_of_row w2 w.heap.size n _ 3 (0, 0) HG2.out]
    simp [← HL.out]
  have hf : w2.frozen? ⟨w.heap.size, n, none⟩ = false := frozen_of_row w2 w.heap.size n _ 3 HG2.out
  have q : (n : Int) < (n : Int) + 1 := by omega
  clear hb2 e HG HB
  go_wp2
  go_ret
  refine ⟨rfl, ?_, HB2.out.setCell (Nat.le_refl _) _⟩
  rw [heap_setCell_same w2 w.heap.size n _ 3 _ HG2.out, handed_eq xs n HL.out]
end Go.Proofs.YtnfkgnjeamnhfaaGreat
