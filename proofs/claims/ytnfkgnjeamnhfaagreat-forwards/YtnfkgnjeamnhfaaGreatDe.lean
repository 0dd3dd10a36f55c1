import Derived.Test.YtnfkgnjeamnhfaaGreatDd
import Derived.Test.YtnfkgnjeamnhfaaGreatTi
namespace Go.Proofs.YtnfkgnjeamnhfaaGreat
open Go.RowKit Go.Sort

/-- The document's lengths of a family. -/
def lnsD (rs : List Rt) (fam : Int) : List Int := lensF rs fam (if fam = 4 then 33 else 129)
theorem lnsD_of {rs : List Rt} (hg : ∀ r ∈ rs, Gd r) (fam : Int) : LensOf (lnsD rs fam) (famF rs fam) := by
  unfold lnsD
  refine lensF_of (fun r hr => ?_)
  obtain ⟨h1, h2⟩ := famF_mem.1 hr
  have := (hg r h1).len
  split
  · rename_i h4
    have := this.2.2 (by rw [h2]; exact h4)
    omega
  · omega
/-- Of the first k of the routes in order. -/
def eadDK (l : List Rt) (t : Ad → Bool) (m : Int) (k : Nat) : List Ad := (l.take k).foldl (fldS (fun r => cutD (adR r) m) (fun r => t (cutD (adR r) m))) []
theorem eadDK_succ {l : List Rt} {t : Ad → Bool} {m : Int} {k : Nat} {r : Rt} (h : l[k]? = some r) : eadDK l t m (k + 1) = fldS (fun r => cutD (adR r) m) (fun r => t (cutD (adR r) m)) (eadDK l t m k) r := by
  unfold eadDK; rw [take_app h, List.foldl_append]; rfl
theorem eadDK_no {l : List Rt} {t : Ad → Bool} {m : Int} {k : Nat} {r : Rt} {c : Ad} (h : l[k]? = some r) (hc : c = cutD (adR r) m) (ht : t c = false) : eadDK l t m (k + 1) = eadDK l t m k := by
  rw [eadDK_succ h]; unfold fldS; rw [if_neg]
  rintro ⟨h1, -⟩
  subst hc
  have h2 : t (cutD (adR r) m) = true := h1
  rw [ht] at h2; cases h2
theorem eadDK_last {l : List Rt} {t : Ad → Bool} {m : Int} {k : Nat} {r : Rt} {c : Ad} (h : l[k]? = some r) (hc : c = cutD (adR r) m) (hl : (eadDK l t m k).getLast? = some c) : eadDK l t m (k + 1) = eadDK l t m k := by
  rw [eadDK_succ h]; unfold fldS; rw [if_neg]
  rintro ⟨-, h2⟩
  subst hc; exact h2 hl
theorem eadDK_yes {l : List Rt} {t : Ad → Bool} {m : Int} {k : Nat} {r : Rt} {c : Ad} (h : l[k]? = some r) (hc : c = cutD (adR r) m) (ht : t c = true) (hl : (eadDK l t m k).getLast? ≠ some c) : eadDK l t m (k + 1) = eadDK l t m k ++ [c] := by
  subst hc
  rw [eadDK_succ h]; unfold fldS; rw [if_pos ⟨ht, hl⟩]
theorem eadDK_all (l : List Rt) (t : Ad → Bool) (m : Int) : eadDK l t m l.length = eadD l t m := by unfold eadDK eadD; rw [List.take_length]
/-- The entries at a length, if it is one. -/
def entQ (dl all : List Rt) (L : List Int) (t : Ad → Bool) (m : Int) : List En := if m ∈ L then (eadD all t m).map (enOf dl L m) else []
/-- What the document's Entries tells. -/
def entsD (rs all : List Rt) (fam m : Int) : List En := if H.lenE fam m = 0 then entQ (famF rs fam) all (lnsD rs fam) (fun a => thr (famF rs fam) (lnsD rs fam) a m) m else []

set_option maxRecDepth 4000 in
set_option maxHeartbeats 2000000 in
theorem rents_go (N T : Nat) (v : Value) (rs : List Rt) (fam m : Int) (w : World) (hfam : fam = 4 ∨ fam = 6) (h0 : 0 ≤ m) (h1 : m ≤ wid fam) (hc : w.cell? ⟨T, 3, none⟩ = some v) (hr : RwO w N v rs) (hlen : rs.length ≤ 1000) (hg : ∀ r ∈ rs, Gd r) (hnd : rs.Pairwise fun a b => key a ≠ key b) :
    Calls Tryz.prog 25 #[.pointer (some ⟨T, 0, none⟩), .int .i64 fam, .int .i64 m] w fun e w' => ∃ ao n cap, e = .returned (.tuple #[.slice ao n cap, .int .i64 0]) ∧ Hid (∃ all, Lays fam rs all ∧ n = (entQ (famF rs fam) all (lnsD rs fam) (fun a => thr (famF rs fam) (lnsD rs fam) a m) m).length ∧ RwE w' w.heap.size (.slice ao n cap) (entQ (famF rs fam) all (lnsD rs fam) (fun a => thr (famF rs fam) (lnsD rs fam) a m) m) ∧ Below w.heap.size w w') := by
  have hT : T < w.heap.size := World.block_lt_of_cell? w ⟨T, 3, none⟩ hc
  have HZ := Lib.hid (size_any fam w hfam)
  obtain ⟨M, hM0, hM128, hM1, hM2, hM3⟩ : ∃ M : Nat, ((M : Int) == 0) = false ∧ M ≤ 128 ∧ (if fam = 4 then 32 else 128 : Int) = M ∧ (if fam = 4 then 33 else 129 : Nat) = M + 1 ∧ wid fam = M := by
    rcases hfam with rfl | rfl
    · exact ⟨32, rfl, by decide, rfl, rfl, rfl⟩
    · exact ⟨128, rfl, by decide, rfl, rfl, rfl⟩
  have HLn := Lib.hid (lengths_any N T v rs fam w hfam M hM128 hM1 hc hr hlen)
  have hLd : lensF rs fam (M + 1) = lnsD rs fam := by unfold lnsD; rw [hM2]
  rw [hLd] at HLn
  have HLO := Lib.hid (lnsD_of hg fam)
  have hL129 : (lnsD rs fam).length ≤ 129 := by rw [← hLd]; have := lensF_le rs fam (M + 1); omega
  obtain ⟨L, hL⟩ : ∃ L, L = lnsD rs fam := ⟨_, rfl⟩
  rw [← hL] at HLn HLO hL129 ⊢
  have HD := Lib.hid (fun (w1 : World) (hb : Below w.heap.size w w1) => rdump_any N T v rs fam w1 hfam ((hb.cell (p := ⟨T, 3, none⟩) hT).trans hc) (hr.far hb (fun g hg => (World.ownsRow.lt hr g hg).2)) hlen)
  have HEn := Lib.hid (fun (w1 : World) (hb : Below w.heap.size w w1) (lv : Value) (hl : RdL w1 lv L) (c : Ad) (hc1 : c.1 = fam) (ha : Adr c) => rentry_any N T v rs lv L c m w1 ((hb.cell (p := ⟨T, 3, none⟩) hT).trans hc) (hr.far hb (fun g hg => (World.ownsRow.lt hr g hg).2)) hlen hg ha hl HLO.out.up (fun r hr' hf => (HLO.out.mem _).2 ⟨r, famF_mem.2 ⟨hr', by rw [hf, hc1]⟩, rfl⟩) h0 (by rw [hc1]; exact h1))
  rw [hM1] at HZ
  have HG := Lib.hid hg
  have Hnd := Lib.hid hnd
  have Hfam := Lib.hid hfam
  have Hm := Lib.hid (And.intro h0 h1)
  have hmM : m ≤ (M : Int) := by rw [← hM3]; exact h1
  obtain ⟨tt, htt⟩ : ∃ tt : Ad → Bool, tt = fun a => thr (famF rs fam) L a m := ⟨_, rfl⟩
  rw [← htt]
  have HTT := Lib.hid (show ∀ c, thr (famF rs fam) L c m = tt c from fun c => by rw [htt])
  obtain ⟨i0, hi0, hz0, hz1, hz2⟩ := infoE
  have HL2 := Lib.hid hL129
  have Hhlen := Lib.hid hlen
  clear hr hg hnd hfam hM1 hM2 hM3 hLd hL hc h1 htt hL129 hlen
  go_enter Tryz.func25, Tryz.ntmps25
  go_wp2_with (first | (go_at_call 62; refine HZ.out.mono ?_; rintro e w1 ⟨rfl, hw1⟩; obtain rfl : w = w1 := hw1.symm) | (go_at_call 63; refine HLn.out.mono ?_; rintro e w1 ⟨ao, z, cap, rfl, hz, hrow, hb1⟩; have Hz := Lib.hid hz; have Hrow := Lib.hid hrow; have HB1 := Lib.hid hb1; clear hz hrow hb1) | (go_at_call 52; refine (HD.out _ HB1.out).mono ?_; rintro e w2 ⟨aoA, y, capA, all, rfl, hlay, hy, hrowA, hb2⟩; have Hlay := Lib.hid hlay; have Hy := Lib.hid hy; have HrA := Lib.hid hrowA; have HB2 := Lib.hid hb2; clear hlay hy hrowA hb2))
  have HRd := Lib.hid (rd_row Hrow.out Hz.out)
  have hz129 : z ≤ 129 := by rw [Hz.out]; exact HL2.out
  go_loop [12, 13] (fun b i => ∃ (k : Nat) (t : Bool), k ≤ z ∧ b = .bool t ∧ i = .int .i64 k ∧ Hid (t = decide (m ∈ L.take k))) (fun _ i => z - (intOf i).toNat)
  case atStart => exact ⟨0, false, Nat.zero_le _, rfl, rfl, by show false = _; simp⟩
  case round =>
    obtain ⟨k, t, hk, rfl, rfl, Ht⟩ := hrel
    by_cases hlt : k < z
    · obtain ⟨b, off, rfl, hbl, -⟩ := HRd.out.at (by omega)
      obtain ⟨x, hx, hcx1⟩ := HRd.out.cell hlt
      have hcx := (HB2.out.cell (p := ⟨b, off + k, none⟩) hbl).trans hcx1
      have q1 : (k : Int) < (z : Int) := by omega
      have q0 : (0 : Int) ≤ (k : Int) := by omega
      have Hx := Lib.hid (show decide (m ∈ L.take (k + 1)) = (decide (m ∈ L.take k) || x == m) by
        rw [List.take_add_one, hx, Bool.eq_iff_iff]
        simp only [Option.toList, List.mem_append, List.mem_singleton, decide_eq_true_eq, Bool.or_eq_true, beq_iff_eq]
        exact ⟨fun h => h.elim .inl (fun h => .inr h.symm), fun h => h.elim .inl (fun h => .inr h.symm)⟩)
      clear hx hcx1
      cases ht : t with
      | true =>
        subst ht
        go_wp2
        go_round
        case rel => exact ⟨k + 1, true, by omega, rfl, by go_num, by show true = _; rw [Hx.out, ← Ht.out, Bool.true_or]⟩
        case measure => simp [intOf]; omega
      | false =>
        subst ht
        cases hxm : (x == m) with
        | true =>
          have Hxm := Lib.hid hxm
          go_wp2
          go_round
          case rel => exact ⟨k + 1, true, by omega, rfl, by go_num, by show true = _; rw [Hx.out, Hxm.out, Bool.or_true]⟩
          case measure => simp [intOf]; omega
        | false =>
          have Hxm := Lib.hid hxm
          go_wp2
          go_round
          case rel => exact ⟨k + 1, false, by omega, rfl, by go_num, by show false = _; rw [Hx.out, ← Ht.out, Hxm.out]; rfl⟩
          case measure => simp [intOf]; omega
    · obtain rfl : z = k := by omega
      have Hhas := Lib.hid (show t = decide (m ∈ L) by have h := Ht.out; rw [Hz.out, List.take_length] at h; exact h)
      clear Ht
      have hperm := lays_srt Hlay.out Hnd.out
      have hy1000 : y ≤ 1000 := by rw [Hy.out, hperm.1.length_eq]; exact Nat.le_trans (famF_le rs fam) Hhlen.out
      have Hall := Lib.hid (fun (r : Rt) (hr : r ∈ all) => famF_mem.1 (hperm.1.subset hr))
      clear hperm
      cases htb : t with
      | false =>
        have Hno := Lib.hid (show ¬ m ∈ L from of_decide_eq_false (by rw [← Hhas.out]; exact htb))
        go_wp2_with fail
        go_loopw [14, 15] (fun lv i wr => lv = .slice none 0 0 ∧ i = .int .i64 0 ∧ wr = w2) (fun _ _ _ => 0)
        case atStart => exact ⟨rfl, rfl, rfl⟩
        case round =>
          obtain ⟨rfl, rfl, rfl⟩ := hrel
          by_cases h0y : (0 : Int) < (y : Int)
          · go_wp2
            go_ret2
            refine ⟨none, 0, 0, rfl, all, Hlay.out, ?_, ?_, HB1.out.trans (HB2.out.mono HB1.out.size)⟩
            · unfold entQ; rw [if_neg Hno.out]; rfl
            · unfold entQ; rw [if_neg Hno.out]; exact World.ownsRow_nil _ _ _ _
          · go_wp2
            go_ret2
            refine ⟨none, 0, 0, rfl, all, Hlay.out, ?_, ?_, HB1.out.trans (HB2.out.mono HB1.out.size)⟩
            · unfold entQ; rw [if_neg Hno.out]; rfl
            · unfold entQ; rw [if_neg Hno.out]; exact World.ownsRow_nil _ _ _ _
      | true =>
        have Hyes := Lib.hid (show m ∈ L from of_decide_eq_true (by rw [← Hhas.out]; exact htb))
        obtain ⟨B, hB⟩ : ∃ B, B = w2.heap.size := ⟨_, rfl⟩
        have HBB := Lib.hid (show B ≤ w2.heap.size by omega)
        have HBX := Lib.hid (show w2.heap.size ≤ B by omega)
        have HwB := Lib.hid (show w.heap.size ≤ B by rw [hB]; exact Nat.le_trans HB1.out.size HB2.out.size)
        have HBw2 := Lib.hid (HB1.out.trans (HB2.out.mono HB1.out.size))
        have hcapL : z ≤ cap ∧ cap ≤ maxLen := by
          rcases Hrow.out.2 with ⟨h1, h2⟩ | ⟨g, c', cur, h1, -, -, h2, h3, -⟩
          · simp only [Value.slice.injEq] at h1; unfold maxLen; omega
          · simp only [Value.slice.injEq] at h1; omega
        have HEn2 := Lib.hid (fun (w3 : World) (hb : Below B w2 w3) (c : Ad) (hc1 : c.1 = fam) (ha : Adr c) => HEn.out w3 (HBw2.out.trans (hb.mono HwB.out)) (.slice ao z cap) ⟨ao, z, cap, rfl, HRd.out.same (fun b _ _ hlt => (hb.block b (by rw [hB]; exact Nat.lt_of_lt_of_le hlt HB2.out.size)).trans (HB2.out.block b hlt)), hcapL.1, hcapL.2, by omega⟩ c hc1 ha)
        have HE0 := Lib.hid (show RwE w2 B (.slice none 0 0) ((eadDK all tt m 0).map (enOf (famF rs fam) L m)) from World.ownsRow_nil _ _ _ _)
        clear hB hcapL
        go_wp2_with fail
        go_loopw [14, 15] (fun lv i wr => ∃ (k n2 : Nat) (ao2 : Option Addr) (cap2 : Nat), k ≤ y ∧ i = .int .i64 k ∧ lv = .slice ao2 n2 cap2 ∧ n2 ≤ k ∧ Hid (RwE wr B (.slice ao2 n2 cap2) ((eadDK all tt m k).map (enOf (famF rs fam) L m))) ∧ Hid (n2 = (eadDK all tt m k).length) ∧ Hid (Below B w2 wr)) (fun _ i _ => y - (intOf i).toNat)
        case atStart => exact ⟨0, 0, none, 0, Nat.zero_le _, rfl, rfl, Nat.le_refl _, HE0, rfl, Below.refl _ _⟩
        case round =>
          obtain ⟨k, n2, ao2, cap2, hk, rfl, rfl, hn2, HE, HN, HB⟩ := hrel
          by_cases hlt : k < y
          · obtain ⟨r, hrk⟩ : ∃ r, all[k]? = some r := ⟨_, List.getElem?_eq_getElem (by rw [← Hy.out]; exact hlt)⟩
            obtain ⟨b, rfl, hat, -, -, hbl⟩ := RwO.at HrA.out hrk
            have hbB : b < B := Nat.lt_of_lt_of_le hbl HBX.out
            have c0 : wr.cell? ⟨b, k * 5, none⟩ = some (.int .i64 (adR r).1) := (HB.out.cell (p := ⟨b, k * 5, none⟩) hbB).trans hat.c0
            have c1 : wr.cell? ⟨b, k * 5 + 1, none⟩ = some (.int .u64 (adR r).2.1) := (HB.out.cell (p := ⟨b, k * 5 + 1, none⟩) hbB).trans hat.c1
            have c2 : wr.cell? ⟨b, k * 5 + 2, none⟩ = some (.int .u64 (adR r).2.2) := (HB.out.cell (p := ⟨b, k * 5 + 2, none⟩) hbB).trans hat.c2
            have hmr := Hall.out r (List.mem_of_getElem? hrk)
            have hgr := HG.out r hmr.1
            have q1 : (k : Int) < (y : Int) := by omega
            have q0 : (0 : Int) ≤ (k : Int) := by omega
            have Hrk := Lib.hid hrk
            have HC := Lib.hid (fun (w : World) => rcut_any (adR r) m w hgr.adr Hm.out.1 (by show m ≤ wid r.f; rw [hmr.2]; exact Hm.out.2))
            obtain ⟨c, hc⟩ : ∃ c, c = cutD (adR r) m := ⟨_, rfl⟩
            have HEn1 := Lib.hid (fun (w3 : World) (hb : Below B w2 w3) => HEn2.out w3 hb c (by rw [hc, cutD_fam]; exact hmr.2) (by rw [hc]; exact hgr.adr.cut m))
            rw [show c.1 = fam by rw [hc, cutD_fam]; exact hmr.2] at HEn1
            rw [← hc] at HC
            have Hc := Lib.hid hc
            clear hat hrk hgr hmr hc
            go_wp2_with fail
            refine (HC.out _).mono ?_
            rintro e w3 ⟨rfl, hb3⟩
            have HE3 := Lib.hid (rowE_far HE.out hb3 (fun g hg => (World.ownsRow.lt HE.out g hg).2))
            have HB3 := Lib.hid (HB.out.trans (hb3.mono (Nat.le_trans HBB.out HB.out.size)))
            obtain ⟨w4, hw4⟩ : ∃ w4, w4 = w3.alloc (.cells #[.int .i64 c.1, .int .u64 c.2.1, .int .u64 c.2.2] 31) := ⟨_, rfl⟩
            obtain ⟨ba, hba⟩ : ∃ x, x = w3.heap.size := ⟨_, rfl⟩
            have HE4 := Lib.hid (show RwE w4 B (.slice ao2 n2 cap2) _ by rw [hw4]; exact World.ownsRow.alloc HE3.out _)
            have HB4 := Lib.hid (show Below B w2 w4 by rw [hw4]; exact HB3.out.alloc (Nat.le_trans HBB.out HB3.out.size) _)
            have a0 : w4.cell? ⟨ba, 0, none⟩ = some (.int .i64 c.1) := by rw [hw4, hba]; simp
            have a1 : w4.cell? ⟨ba, 1, none⟩ = some (.int .u64 c.2.1) := by rw [hw4, hba]; simp
            have a2 : w4.cell? ⟨ba, 2, none⟩ = some (.int .u64 c.2.2) := by rw [hw4, hba]; simp
            have Hw4 := Lib.hid hw4
            have Hba := Lib.hid hba
            clear hb3 hw4 hba c0 c1 c2
            by_cases hn0 : n2 = 0
            · subst hn0
              have HLast := Lib.hid (show (eadDK all tt m k).getLast? ≠ some c by rw [List.eq_nil_of_length_eq_zero HN.out.symm]; simp)
              go_wp2_with fail
              rw [← Hw4.out, ← Hba.out]
              go_quiet (fail)
              go_wp2_with fail
              have HE4' := Lib.hid (show RwE (w4.drewN nq) B (.slice ao2 0 cap2) _ from HE4.out)
              have HB4' := Lib.hid (show Below B w2 (w4.drewN nq) from ⟨HB4.out.os, HB4.out.tape, HB4.out.output, HB4.out.size, HB4.out.block⟩)
              refine (HEn1.out _ HB4'.out).mono ?_
              rintro e w5 ⟨rfl, hb5⟩
              have HB5 := Lib.hid (HB4'.out.trans (hb5.mono (Nat.le_trans HBB.out HB4'.out.size)))
              have HE5 := Lib.hid (rowE_far HE4'.out hb5 (fun g hg => (World.ownsRow.lt HE4'.out g hg).2))
              clear hb5 a0 a1 a2
              have hB5 : B ≤ w5.heap.size := Nat.le_trans HBB.out HB5.out.size
              have HN2 := Lib.hid (show 0 = ((eadDK all tt m k).map (enOf (famF rs fam) L m)).length by rw [List.length_map]; exact HN.out)
              cases hth : tt c with
              | false =>
                have HK3 := Lib.hid (show eadDK all tt m (k + 1) = eadDK all tt m k from eadDK_no Hrk.out Hc.out hth)
                rw [HTT.out c, hth]
                clear hth
                go_wp2
                go_roundw
                case rel => exact ⟨k + 1, 0, _, cap2, by omega, by go_num, rfl, by omega, by show RwE _ _ _ _; rw [HK3.out]; exact World.ownsRow.alloc HE5.out _, by show _ = _; rw [HK3.out]; exact HN.out, HB5.out.alloc hB5 _⟩
                case measure => simp [intOf]; omega
              | true =>
                have HK3 := Lib.hid (show eadDK all tt m (k + 1) = eadDK all tt m k ++ [c] from eadDK_yes Hrk.out Hc.out hth HLast.out)
                rw [HTT.out c, hth]
                clear hth
                go_wp2_with (at_builtin; refine wpList_append_lies _ rfl _ _ 65 rfl B 88 i0 (.agg #[.int .i64 0, .int .u64 0, .int .u64 0, .int .i64 0, .int .i64 0, .int .i64 0]) 6 48 Tryz.underlying65 hi0 hz0 hz1 hz2 rfl (by decide) _ (0) (flatE ((eadDK all tt m k).map (enOf (famF rs fam) L m))) rfl ?c0 ⟨w5.heap.size + 1, 0, none⟩ 1 1 (ec (enOf (famF rs fam) L m c)) rfl rfl ?c2 (ec_one _) (by decide) ?c4 ?c5 ?c6 _ rfl ?_)
                case c0 =>
                  refine World.ownsRow.alloc (World.ownsRow.alloc ?_ _) _
                  have h := HE5.out
                  unfold RwE at h
                  rw [← HN2.out] at h
                  exact h
                case c2 => exact news_en2 w5 (enOf (famF rs fam) L m c) _ _
                case c4 => unfold maxLen; omega
                case c5 => omega
                case c6 => simp; omega
                intro g3 cap3 w7 hown3 hgrow3 hat3 hgz3
                have HB7 := Lib.hid (below_grown (HB5.out.trans ((two_boxes w5 _ _).mono hB5)) hgrow3 (fun b hb => (World.ownsRow.lt HE5.out b hb).1) (by simp; omega))
                have HE7 := Lib.hid (show RwE w7 B (.slice (some ⟨g3, 0, none⟩) (0 + 1) cap3) ((eadDK all tt m (k + 1)).map (enOf (famF rs fam) L m)) by
                  unfold RwE
                  rw [HK3.out, List.map_append, flatE_append, List.length_append, ← HN2.out]
                  exact hown3)
                clear hown3 hgrow3 hat3
                go_wp2
                go_roundw
                case rel => exact ⟨k + 1, 0 + 1, _, cap3, by omega, by go_num, rfl, by omega, HE7, by show _ = _; rw [HK3.out, List.length_append, ← HN.out]; rfl, HB7⟩
                case measure => simp [intOf]; omega
            · obtain ⟨q, rfl⟩ : ∃ q, n2 = q + 1 := ⟨n2 - 1, by omega⟩
              clear hn0
              obtain ⟨x, hx⟩ : ∃ x, (eadDK all tt m k)[q]? = some x := ⟨_, List.getElem?_eq_getElem (by rw [← HN.out]; omega)⟩
              have hlast : (eadDK all tt m k).getLast? = some x := by
                rw [List.getLast?_eq_getElem?, ← HN.out]; exact hx
              obtain ⟨gq, rfl, -, hcells, -, hgB, hgz⟩ := RwE.at HE4.out (show ((eadDK all tt m k).map (enOf (famF rs fam) L m))[q]? = some (enOf (famF rs fam) L m x) by rw [List.getElem?_map, hx]; rfl)
              have x0 : w4.cell? ⟨gq, q * 6, none⟩ = some (.int .i64 x.1) := hcells 0 _ rfl
              have x1 : w4.cell? ⟨gq, q * 6 + 1, none⟩ = some (.int .u64 x.2.1) := hcells 1 _ rfl
              have x2 : w4.cell? ⟨gq, q * 6 + 2, none⟩ = some (.int .u64 x.2.2) := hcells 2 _ rfl
              have qq : (0 : Int) ≤ (q : Int) := by omega
              have qz : (0 : Int) < (q : Int) + 1 := by omega
              have hE := eql_ad x c
              clear hcells hx hgB hgz
              by_cases hxc : x = c
              · have HK3 := Lib.hid (show eadDK all tt m (k + 1) = eadDK all tt m k from eadDK_last Hrk.out Hc.out (by rw [hlast, hxc]))
                rw [decide_eq_true hxc] at hE
                clear hlast hxc
                go_wp2_with fail
                rw [← Hw4.out, ← Hba.out]
                go_quiet (fail)
                go_wp2
                go_roundw
                case rel => exact ⟨k + 1, q + 1, _, cap2, by omega, by go_num, rfl, by omega, by show RwE _ _ _ _; rw [HK3.out]; exact HE4.out, by show _ = _; rw [HK3.out]; exact HN.out, ⟨HB4.out.os, HB4.out.tape, HB4.out.output, HB4.out.size, HB4.out.block⟩⟩
                case measure => simp [intOf]; omega
              · have HLast := Lib.hid (show (eadDK all tt m k).getLast? ≠ some c by rw [hlast]; intro e; exact hxc (Option.some.inj e))
                rw [decide_eq_false hxc] at hE
                clear hlast hxc
                go_wp2_with fail
                rw [← Hw4.out, ← Hba.out]
                go_quiet (fail)
                go_wp2_with fail
                have HE4' := Lib.hid (show RwE (w4.drewN nq) B (.slice (some ⟨gq, 0, none⟩) (q + 1) cap2) _ from HE4.out)
                have HB4' := Lib.hid (show Below B w2 (w4.drewN nq) from ⟨HB4.out.os, HB4.out.tape, HB4.out.output, HB4.out.size, HB4.out.block⟩)
                refine (HEn1.out _ HB4'.out).mono ?_
                rintro e w5 ⟨rfl, hb5⟩
                have HB5 := Lib.hid (HB4'.out.trans (hb5.mono (Nat.le_trans HBB.out HB4'.out.size)))
                have HE5 := Lib.hid (rowE_far HE4'.out hb5 (fun g hg => (World.ownsRow.lt HE4'.out g hg).2))
                clear hb5 a0 a1 a2
                have hB5 : B ≤ w5.heap.size := Nat.le_trans HBB.out HB5.out.size
                have HN2 := Lib.hid (show (q + 1) = ((eadDK all tt m k).map (enOf (famF rs fam) L m)).length by rw [List.length_map]; exact HN.out)
                cases hth : tt c with
                | false =>
                  have HK3 := Lib.hid (show eadDK all tt m (k + 1) = eadDK all tt m k from eadDK_no Hrk.out Hc.out hth)
                  rw [HTT.out c, hth]
                  clear hth
                  go_wp2
                  go_roundw
                  case rel => exact ⟨k + 1, (q + 1), _, cap2, by omega, by go_num, rfl, by omega, by show RwE _ _ _ _; rw [HK3.out]; exact World.ownsRow.alloc HE5.out _, by show _ = _; rw [HK3.out]; exact HN.out, HB5.out.alloc hB5 _⟩
                  case measure => simp [intOf]; omega
                | true =>
                  have HK3 := Lib.hid (show eadDK all tt m (k + 1) = eadDK all tt m k ++ [c] from eadDK_yes Hrk.out Hc.out hth HLast.out)
                  rw [HTT.out c, hth]
                  clear hth
                  go_wp2_with (at_builtin; refine wpList_append_lies _ rfl _ _ 65 rfl B 88 i0 (.agg #[.int .i64 0, .int .u64 0, .int .u64 0, .int .i64 0, .int .i64 0, .int .i64 0]) 6 48 Tryz.underlying65 hi0 hz0 hz1 hz2 rfl (by decide) _ ((q + 1)) (flatE ((eadDK all tt m k).map (enOf (famF rs fam) L m))) rfl ?c0 ⟨w5.heap.size + 1, 0, none⟩ 1 1 (ec (enOf (famF rs fam) L m c)) rfl rfl ?c2 (ec_one _) (by decide) ?c4 ?c5 ?c6 _ rfl ?_)
                  case c0 =>
                    refine World.ownsRow.alloc (World.ownsRow.alloc ?_ _) _
                    have h := HE5.out
                    unfold RwE at h
                    rw [← HN2.out] at h
                    exact h
                  case c2 => exact news_en2 w5 (enOf (famF rs fam) L m c) _ _
                  case c4 => unfold maxLen; omega
                  case c5 => omega
                  case c6 => simp; omega
                  intro g3 cap3 w7 hown3 hgrow3 hat3 hgz3
                  have HB7 := Lib.hid (below_grown (HB5.out.trans ((two_boxes w5 _ _).mono hB5)) hgrow3 (fun b hb => (World.ownsRow.lt HE5.out b hb).1) (by simp; omega))
                  have HE7 := Lib.hid (show RwE w7 B (.slice (some ⟨g3, 0, none⟩) ((q + 1) + 1) cap3) ((eadDK all tt m (k + 1)).map (enOf (famF rs fam) L m)) by
                    unfold RwE
                    rw [HK3.out, List.map_append, flatE_append, List.length_append, ← HN2.out]
                    exact hown3)
                  clear hown3 hgrow3 hat3
                  go_wp2
                  go_roundw
                  case rel => exact ⟨k + 1, (q + 1) + 1, _, cap3, by omega, by go_num, rfl, by omega, HE7, by show _ = _; rw [HK3.out, List.length_append, ← HN.out]; rfl, HB7⟩
                  case measure => simp [intOf]; omega
          · obtain rfl : k = y := by omega
            go_wp2
            go_ret2
            have h1 := HE.out
            have h2 := HN.out
            rw [Hy.out, eadDK_all] at h1 h2
            refine ⟨ao2, n2, cap2, rfl, all, Hlay.out, ?_, ?_, HBw2.out.trans (HB.out.mono HwB.out)⟩
            · unfold entQ; rw [if_pos Hyes.out, List.length_map]; exact h2
            · unfold entQ; rw [if_pos Hyes.out]; exact row_lower h1 HwB.out

set_option maxHeartbeats 1000000 in
theorem rents_no (T : Nat) (fam m : Int) (w : World) (h4 : ¬ fam = 4) (h6 : ¬ fam = 6) :
    Calls Tryz.prog 25 #[.pointer (some ⟨T, 0, none⟩), .int .i64 fam, .int .i64 m] w fun e w' => e = .returned (.tuple #[.slice none 0 0, .int .i64 2]) ∧ w' = w := by
  have HZ := Lib.hid (H.rsize_no fam w h4 h6)
  clear h4 h6
  go_enter Tryz.func25, Tryz.ntmps25
  go_wp2_with (first | (go_at_call 62; refine HZ.out.mono ?_; rintro e w1 ⟨rfl, rfl⟩))
  go_ret2
  exact ⟨rfl, rfl⟩
set_option maxHeartbeats 1000000 in
theorem rents_len (T : Nat) (fam m M : Int) (w : World) (hM : 0 < M) (hZ : Calls Tryz.prog 62 #[.int .i64 fam] w fun e w' => e = .returned (.int .i64 M) ∧ w' = w) (h : m < 0 ∨ M < m) :
    Calls Tryz.prog 25 #[.pointer (some ⟨T, 0, none⟩), .int .i64 fam, .int .i64 m] w fun e w' => e = .returned (.tuple #[.slice none 0 0, .int .i64 3]) ∧ w' = w := by
  have HZ := Lib.hid hZ
  have q0 : (M == 0) = false := by rw [Bool.eq_false_iff]; intro e; simp at e; omega
  clear hZ
  by_cases h1 : m < 0
  · clear h
    go_enter Tryz.func25, Tryz.ntmps25
    go_wp2_with (first | (go_at_call 62; refine HZ.out.mono ?_; rintro e w1 ⟨rfl, rfl⟩))
    go_ret2
    exact ⟨rfl, rfl⟩
  · have h2 : M < m := by omega
    clear h
    go_enter Tryz.func25, Tryz.ntmps25
    go_wp2_with (first | (go_at_call 62; refine HZ.out.mono ?_; rintro e w1 ⟨rfl, rfl⟩))
    go_ret2
    exact ⟨rfl, rfl⟩
/-- The document's Entries, whole. -/
theorem rents_any {N : Nat} {ρ : Nat → Nat} {w : World} {T rS rQ : Nat} {gs : Nat → List Int} {rs : List Rt} {lim : Int} {f : Nat → Value} (h : Tq N ρ w T rS rQ 4 3 gs rs lim f) (hlen : rs.length ≤ 1000) (hg : ∀ r ∈ rs, Gd r) (hnd : rs.Pairwise fun a b => key a ≠ key b) (fam m : Int) :
    Calls Tryz.prog 25 #[.pointer (some ⟨T, 0, none⟩), .int .i64 fam, .int .i64 m] w fun e w' => ∃ ao n cap, e = .returned (.tuple #[.slice ao n cap, .int .i64 (H.lenE fam m)]) ∧ Hid (∃ all, (H.lenE fam m = 0 → Lays fam rs all) ∧ n = (entsD rs all fam m).length ∧ RwE w' w.heap.size (.slice ao n cap) (entsD rs all fam m) ∧ Below w.heap.size w w') := by
  by_cases h0 : H.lenE fam m = 0
  · obtain ⟨h1, h2, h3⟩ := lenE_ok h0
    refine (rents_go N T (f 3) rs fam m w h1 h2 h3 (h.rq.st 3 (by decide)).1 h.rq.row.1 hlen hg hnd).mono ?_
    rintro e w' ⟨ao, n, cap, rfl, all, a1, a2, a3, a4⟩
    refine ⟨ao, n, cap, by rw [h0], all, fun _ => a1, ?_, ?_, a4⟩
    · unfold entsD; rw [if_pos h0]; exact a2
    · unfold entsD; rw [if_pos h0]; exact a3
  · have hn : ∀ x, x = H.lenE fam m → Calls Tryz.prog 25 #[.pointer (some ⟨T, 0, none⟩), .int .i64 fam, .int .i64 m] w (fun e w' => e = .returned (.tuple #[.slice none 0 0, .int .i64 x]) ∧ w' = w) := by
      intro x hx
      unfold H.lenE at hx h0
      split at hx
      · rename_i h4
        subst h4
        rw [if_pos rfl] at h0
        split at hx
        · rename_i h5
          subst hx
          exact rents_len T 4 m 32 w (by decide) (H.rsize_4 w) h5
        · rename_i h5
          rw [if_neg h5] at h0; exact absurd rfl h0
      · rename_i h4
        rw [if_neg h4] at h0
        split at hx
        · rename_i h6
          subst h6
          rw [if_pos rfl] at h0
          split at hx
          · rename_i h5
            subst hx
            exact rents_len T 6 m 128 w (by decide) (H.rsize_6 w) h5
          · rename_i h5
            rw [if_neg h5] at h0; exact absurd rfl h0
        · rename_i h6
          subst hx
          exact rents_no T fam m w h4 h6
    refine (hn _ rfl).mono ?_
    rintro e w' ⟨rfl, rfl⟩
    refine ⟨none, 0, 0, rfl, [], fun h => absurd h h0, ?_, ?_, Below.refl _ _⟩
    · unfold entsD; rw [if_neg h0]; rfl
    · unfold entsD; rw [if_neg h0]; exact World.ownsRow_nil _ _ _ _
end Go.Proofs.YtnfkgnjeamnhfaaGreat
