import Derived.Test.YteocfjiijmdjcaaGreatRs
namespace Go.Proofs.YteocfjiijmdjcaaGreat
open Go.RowKit Go.Sort

/-- Dump's error. -/
def famE (fam : Int) : Int := if fam = 4 ∨ fam = 6 then 0 else 2
/-- What the program's Dump tells. -/
def dumpT (rs : List Rt) (fam : Int) : List Rt := if fam = 4 ∨ fam = 6 then famF rs fam else []
/-- What the document's Dump tells. -/
def dumpR (rs : List Rt) (fam : Int) (out : List Rt) : Prop := if fam = 4 ∨ fam = 6 then Lays fam rs out else out = []

theorem width_fam (fam : Int) (w : World) (h : fam = 4 ∨ fam = 6) : ∃ x : Int, (x == 0) = false ∧ Calls Tryz.prog 69 #[.int .i64 fam] w fun e w' => e = .returned (.int .i64 x) ∧ w' = w := by
  rcases h with rfl | rfl
  · exact ⟨32, rfl, H.width_4 w⟩
  · exact ⟨128, rfl, H.width_6 w⟩

set_option maxHeartbeats 1000000 in
theorem tdump_any {N : Nat} {ρ : Nat → Nat} {w : World} {T rS rQ : Nat} {gs : Nat → List Int} {rs : List Rt} {lim : Int} {f : Nat → Value} (h : Tq N ρ w T rS rQ 3 35 gs rs lim f) (hlen : rs.length ≤ 1000) (fam : Int) :
    Calls Tryz.prog 37 #[.pointer (some ⟨T, 0, none⟩), .int .i64 fam] w fun e w' => ∃ ao n cap, e = .returned (.tuple #[.slice ao n cap, .int .i64 (famE fam)]) ∧ n = (dumpT rs fam).length ∧ RwO w' w.heap.size (.slice ao n cap) (dumpT rs fam) ∧ Below w.heap.size w w' := by
  unfold famE dumpT
  by_cases hf : fam = 4 ∨ fam = 6
  · rw [if_pos hf, if_pos hf]
    obtain ⟨x, hx, hw⟩ := width_fam fam w hf
    have HW := Lib.hid hw
    have HO := Lib.hid (of_any N T (f 35) rs fam w (h.rq.st 35 (by decide)).1 h.rq.row.1 hlen)
    clear h hw hf
    go_enter Tryz.func37, Tryz.ntmps37
    go_wp2_with (first | (go_at_call 69; refine HW.out.mono ?_; rintro e w1 ⟨rfl, rfl⟩) | (go_at_call 70; refine HO.out.mono ?_; rintro e w2 ⟨ao, n, cap, rfl, hn, hr, hb⟩; have Hn := Lib.hid hn; have Hr := Lib.hid hr; have Hb := Lib.hid hb; clear hn hr hb))
    go_ret2
    exact ⟨ao, n, cap, rfl, Hn.out, Hr.out, Hb.out⟩
  · rw [if_neg hf, if_neg hf]
    have HW := Lib.hid (H.width_no fam w (fun e => hf (.inl e)) (fun e => hf (.inr e)))
    clear h hf
    go_enter Tryz.func37, Tryz.ntmps37
    go_wp2_with (go_at_call 69; refine HW.out.mono ?_; rintro e w1 ⟨rfl, rfl⟩)
    go_ret2
    exact ⟨none, 0, 0, rfl, rfl, World.ownsRow_nil _ _ _ _, Below.refl _ _⟩

set_option maxHeartbeats 1000000 in
theorem rdump_all {N : Nat} {ρ : Nat → Nat} {w : World} {T rS rQ : Nat} {gs : Nat → List Int} {rs : List Rt} {lim : Int} {f : Nat → Value} (h : Tq N ρ w T rS rQ 4 3 gs rs lim f) (hlen : rs.length ≤ 1000) (fam : Int) :
    Calls Tryz.prog 38 #[.pointer (some ⟨T, 0, none⟩), .int .i64 fam] w fun e w' => ∃ ao n cap out, e = .returned (.tuple #[.slice ao n cap, .int .i64 (famE fam)]) ∧ dumpR rs fam out ∧ n = out.length ∧ RwO w' w.heap.size (.slice ao n cap) out ∧ Below w.heap.size w w' := by
  unfold famE dumpR
  by_cases hf : fam = 4 ∨ fam = 6
  · simp only [if_pos hf]
    exact rdump_any N T (f 3) rs fam w hf (h.rq.st 3 (by decide)).1 h.rq.row.1 hlen
  · simp only [if_neg hf]
    have HW := Lib.hid (H.rsize_no fam w (fun e => hf (.inl e)) (fun e => hf (.inr e)))
    clear h hf
    go_enter Tryz.func38, Tryz.ntmps38
    go_wp2_with (go_at_call 56; refine HW.out.mono ?_; rintro e w1 ⟨rfl, rfl⟩)
    go_ret2
    exact ⟨none, 0, 0, [], rfl, rfl, rfl, World.ownsRow_nil _ _ _ _, Below.refl _ _⟩

/-- Has a route of the family this length? -/
def hasL (rs : List Rt) (fam n : Int) : Bool := rs.any fun r => r.f == fam && r.n == n
/-- The lengths, as the document has them. -/
def lensF (rs : List Rt) (fam : Int) (k : Nat) : List Int := ((List.range k).filter fun n : Nat => hasL rs fam n).map fun n : Nat => (n : Int)
theorem hasL_succ {rs : List Rt} {fam n : Int} {k : Nat} {r : Rt} (h : rs[k]? = some r) : hasL (rs.take (k + 1)) fam n = (hasL (rs.take k) fam n || (r.f == fam && r.n == n)) := by
  unfold hasL; rw [take_snoc h, List.any_append]; simp
theorem lensF_yes {rs : List Rt} {fam : Int} {k : Nat} (h : hasL rs fam k = true) : lensF rs fam (k + 1) = lensF rs fam k ++ [(k : Int)] := by
  unfold lensF; rw [List.range_succ, List.filter_append, List.map_append]; simp [h]
theorem lensF_no {rs : List Rt} {fam : Int} {k : Nat} (h : hasL rs fam k = false) : lensF rs fam (k + 1) = lensF rs fam k := by
  unfold lensF; rw [List.range_succ, List.filter_append, List.map_append]; simp [h]
theorem lensF_le (rs : List Rt) (fam : Int) (k : Nat) : (lensF rs fam k).length ≤ k := by
  unfold lensF; rw [List.length_map]; have := List.length_filter_le (fun n : Nat => hasL rs fam n) (List.range k); rw [List.length_range] at this; exact this

set_option maxRecDepth 4000 in
set_option maxHeartbeats 4000000 in
theorem lengths_any (N T : Nat) (v : Value) (rs : List Rt) (fam : Int) (w : World) (hfam : fam = 4 ∨ fam = 6) (m : Nat) (hm128 : m ≤ 128) (hmm : (if fam = 4 then 32 else 128 : Int) = m) (hc : w.cell? ⟨T, 3, none⟩ = some v) (hr : RwO w N v rs) (hlen : rs.length ≤ 1000) :
    Calls Tryz.prog 57 #[.pointer (some ⟨T, 0, none⟩), .int .i64 fam] w fun e w' => ∃ ao n cap, e = .returned (.slice ao n cap) ∧ n = (lensF rs fam (m + 1)).length ∧ w'.ownsRow w.heap.size 3 1 (.slice ao n cap) n (ints (lensF rs fam (m + 1))) ∧ Below w.heap.size w w' := by
  obtain ⟨ao, cap, rfl, -⟩ := RwO.form hr
  have hT : T < w.heap.size := World.block_lt_of_cell? w ⟨T, 3, none⟩ hc
  have HR := Lib.hid hr
  obtain ⟨z, hz⟩ : ∃ z, z = rs.length := ⟨_, rfl⟩
  rw [← hz] at hc hlen
  have Hz := Lib.hid hz
  have Hc := Lib.hid hc
  have HZ := Lib.hid (fun (w : World) => size_any fam w hfam)
  rw [hmm] at HZ
  obtain ⟨i0, hi0, hz0, hz1, hz2⟩ := info3
  clear hr hz hc hfam hmm
  go_enter Tryz.func57, Tryz.ntmps57
  go_wp2
  go_loopw [5, 6] (fun lv i wr => ∃ (k n2 : Nat) (ao2 : Option Addr) (cap2 : Nat), k ≤ m + 1 ∧ i = .int .i64 k ∧ lv = .slice ao2 n2 cap2 ∧ n2 ≤ k ∧ Hid (wr.ownsRow w.heap.size 3 1 (.slice ao2 n2 cap2) n2 (ints (lensF rs fam k))) ∧ Hid (n2 = (lensF rs fam k).length) ∧ Hid (Below w.heap.size w wr)) (fun _ i _ => m + 1 - (intOf i).toNat)
  case atStart => exact ⟨0, 0, none, 0, Nat.zero_le _, rfl, rfl, Nat.le_refl _, World.ownsRow_nil _ _ _ _, rfl, Below.refl _ _⟩
  case round =>
    obtain ⟨k, n2, ao2, cap2, hk, rfl, rfl, hn2, HL, HN, HB⟩ := hrel
    by_cases hlt : k ≤ m
    · have cT := (HB.out.cell (p := ⟨T, 3, none⟩) hT).trans Hc.out
      go_wp2_with (go_at_call 56; refine (HZ.out _).mono ?_; rintro e w1 ⟨rfl, rfl⟩)
      go_loop [7, 8] (fun b i => ∃ (j : Nat) (t : Bool), j ≤ z ∧ b = .bool t ∧ i = .int .i64 j ∧ Hid (t = hasL (rs.take j) fam k)) (fun _ i => z - (intOf i).toNat)
      case atStart => exact ⟨0, false, Nat.zero_le _, rfl, rfl, rfl⟩
      case round =>
        obtain ⟨j, t, hj, rfl, rfl, Ht⟩ := hrel
        by_cases hlt2 : j < z
        · obtain ⟨r, hrj⟩ : ∃ r, rs[j]? = some r := ⟨_, List.getElem?_eq_getElem (by rw [← Hz.out]; exact hlt2)⟩
          obtain ⟨b, rfl, hat, -, -, hbl⟩ := RwO.at HR.out hrj
          have c0 := (HB.out.cell (p := ⟨b, j * 5, none⟩) hbl).trans hat.c0
          have c3 := (HB.out.cell (p := ⟨b, j * 5 + 3, none⟩) hbl).trans hat.c3
          have Hrj := Lib.hid hrj
          have q1 : (j : Int) < (z : Int) := by omega
          clear hat hrj
          cases ht : t with
          | true =>
            subst ht
            go_wp2
            go_round
            case rel => exact ⟨j + 1, true, by omega, rfl, by go_num, by show true = _; rw [hasL_succ Hrj.out, ← Ht.out, Bool.true_or]⟩
            case measure => simp [intOf]; omega
          | false =>
            subst ht
            cases hq : (r.f == fam) with
            | true =>
              cases hq2 : (r.n == (k : Int)) with
              | true =>
                have Hq := Lib.hid (And.intro hq hq2)
                go_wp2
                go_round
                case rel => exact ⟨j + 1, true, by omega, rfl, by go_num, by show true = _; rw [hasL_succ Hrj.out, Hq.out.1, Hq.out.2, Bool.true_and, Bool.or_true]⟩
                case measure => simp [intOf]; omega
              | false =>
                have Hq := Lib.hid (And.intro hq hq2)
                go_wp2
                go_round
                case rel => exact ⟨j + 1, false, by omega, rfl, by go_num, by show false = _; rw [hasL_succ Hrj.out, ← Ht.out, Hq.out.1, Hq.out.2]; rfl⟩
                case measure => simp [intOf]; omega
            | false =>
              have Hq := Lib.hid hq
              go_wp2
              go_round
              case rel => exact ⟨j + 1, false, by omega, rfl, by go_num, by show false = _; rw [hasL_succ Hrj.out, ← Ht.out, Hq.out]; rfl⟩
              case measure => simp [intOf]; omega
        · obtain rfl : j = z := by omega
          have HtA : Hid (t = hasL rs fam k) := by show _ = _; rw [Ht.out, Hz.out, List.take_length]
          cases ht : t with
          | true =>
            rw [ht] at HtA
            subst ht
            have hwl : w.heap.size ≤ w1.heap.size := HB.out.size
            go_wp2_with (at_builtin; refine wpList_append_lies _ rfl _ _ 36 rfl w.heap.size 3 i0 (.int .i64 0) 1 8 Tryz.underlying36 hi0 hz0 hz1 hz2 rfl (by decide) _ n2 (ints (lensF rs fam k)) rfl (HL.out.alloc _) ⟨w1.heap.size, 0, none⟩ 1 1 [.int .i64 k] rfl rfl (news_one _ _ _) ?c2 (by decide) ?c4 ?c5 ?c6 _ rfl ?_)
            case c2 => rfl
            case c4 => unfold maxLen; omega
            case c5 => omega
            case c6 => omega
            intro g3 cap3 w3 hown3 hgrow3 hat3 hgz3
            have HB3 := Lib.hid (below_grown (HB.out.trans (((Below.refl w1.heap.size w1).alloc (Nat.le_refl _) _).mono hwl)) hgrow3 (fun b hb => (World.ownsRow.lt HL.out b hb).1) (by simp; omega))
            have HO3 := Lib.hid (show w3.ownsRow w.heap.size 3 1 (.slice (some ⟨g3, 0, none⟩) (n2 + 1) cap3) (n2 + 1) (ints (lensF rs fam (k + 1))) by rw [lensF_yes HtA.out.symm, ints, List.map_append]; exact hown3)
            clear hown3 hgrow3 hat3
            go_wp2
            go_roundw
            case rel => exact ⟨k + 1, n2 + 1, _, cap3, by omega, by go_num, rfl, by omega, HO3, by show _ = _; rw [lensF_yes HtA.out.symm, List.length_append, ← HN.out]; rfl, HB3⟩
            case measure => simp [intOf]; omega
          | false =>
            rw [ht] at HtA
            subst ht
            go_wp2
            go_roundw
            case rel => exact ⟨k + 1, n2, ao2, cap2, by omega, by go_num, rfl, by omega, by show World.ownsRow _ _ _ _ _ _ _; rw [lensF_no HtA.out.symm]; exact HL.out, by show _ = _; rw [lensF_no HtA.out.symm]; exact HN.out, HB⟩
            case measure => simp [intOf]; omega
    · go_wp2_with (go_at_call 56; refine (HZ.out _).mono ?_; rintro e w1 ⟨rfl, rfl⟩)
      obtain rfl : k = m + 1 := by omega
      go_ret
      exact ⟨ao2, n2, cap2, rfl, HN.out, HL.out, HB.out⟩

set_option maxHeartbeats 1000000 in
theorem Lengths_any {N : Nat} {ρ : Nat → Nat} {w : World} {T rS rQ : Nat} {gs : Nat → List Int} {rs : List Rt} {lim : Int} {f : Nat → Value} (h : Tq N ρ w T rS rQ 4 3 gs rs lim f) (hlen : rs.length ≤ 1000) (fam : Int) (hfam : fam = 4 ∨ fam = 6) :
    Calls Tryz.prog 19 #[.pointer (some ⟨T, 0, none⟩), .int .i64 fam] w fun e w' => ∃ ao n cap, e = .returned (.tuple #[.slice ao n cap, .int .i64 0]) ∧ n ≤ 129 ∧ n = (lensF rs fam (if fam = 4 then 33 else 129)).length ∧ w'.ownsRow w.heap.size 3 1 (.slice ao n cap) n (ints (lensF rs fam (if fam = 4 then 33 else 129))) ∧ Below w.heap.size w w' := by
  have HZ := Lib.hid (size_any fam w hfam)
  obtain ⟨m, hm0, hm128, hm1, hm2⟩ : ∃ m : Nat, ((m : Int) == 0) = false ∧ m ≤ 128 ∧ (if fam = 4 then 32 else 128 : Int) = m ∧ (if fam = 4 then 33 else 129 : Nat) = m + 1 := by
    rcases hfam with rfl | rfl
    · exact ⟨32, rfl, by decide, rfl, rfl⟩
    · exact ⟨128, rfl, by decide, rfl, rfl⟩
  have HL := Lib.hid (lengths_any N T (f 3) rs fam w hfam m hm128 hm1 (h.rq.st 3 (by decide)).1 h.rq.row.1 hlen)
  rw [hm1] at HZ
  rw [hm2]
  have Hm := Lib.hid hm128
  clear h hfam hm1 hm2 hm128
  go_enter Tryz.func19, Tryz.ntmps19
  go_wp2_with (first | (go_at_call 56; refine HZ.out.mono ?_; rintro e w1 ⟨rfl, rfl⟩) | (go_at_call 57; refine HL.out.mono ?_; rintro e w2 ⟨ao, n, cap, rfl, hn, hr, hb⟩; have Hn := Lib.hid hn; have Hr := Lib.hid hr; have Hb := Lib.hid hb; clear hn hr hb))
  go_ret2
  exact ⟨ao, n, cap, rfl, by rw [Hn.out]; have h1 := lensF_le rs fam (m + 1); have h2 := Hm.out; omega, Hn.out, Hr.out, Hb.out⟩
end Go.Proofs.YteocfjiijmdjcaaGreat
