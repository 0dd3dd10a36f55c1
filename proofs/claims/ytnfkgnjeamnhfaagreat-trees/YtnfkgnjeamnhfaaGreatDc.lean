import Derived.Test.YtnfkgnjeamnhfaaGreatDb
namespace Go.Proofs.YtnfkgnjeamnhfaaGreat
open Go.RowKit Go.Sort

/-- Of the first k routes the longest: its place. -/
def LgI (rs : List Rt) (a : Ad) (most : Int) (k : Nat) (bi : Int) : Prop :=
  (bi = -1 ∧ bst (famF (rs.take k) a.1) a most = -1) ∨ ∃ (j : Nat) (r : Rt), bi = (j : Int) ∧ rs[j]? = some r ∧ r.f = a.1 ∧ Mat a most r ∧ r.n = bst (famF (rs.take k) a.1) a most
theorem bst_yes {rs : List Rt} {k : Nat} {r : Rt} {a : Ad} {m : Int} (hr : rs[k]? = some r) (hf : r.f = a.1) : bst (famF (rs.take (k + 1)) a.1) a m = bstS a m (bst (famF (rs.take k) a.1) a m) r := by
  rw [fam_yes hr (by rw [hf]; simp)]
  unfold bst; rw [List.foldl_append]; rfl
theorem bst_no {rs : List Rt} {k : Nat} {r : Rt} {a : Ad} {m : Int} (hr : rs[k]? = some r) (hf : ¬ r.f = a.1) : bst (famF (rs.take (k + 1)) a.1) a m = bst (famF (rs.take k) a.1) a m := by
  rw [fam_no hr (ine_beq hf)]
theorem LgI.same {rs : List Rt} {a : Ad} {most : Int} {k : Nat} {bi : Int} (h : LgI rs a most k bi) (e : bst (famF (rs.take (k + 1)) a.1) a most = bst (famF (rs.take k) a.1) a most) : LgI rs a most (k + 1) bi := by
  unfold LgI at *
  rw [e]; exact h
theorem LgI.take {rs : List Rt} {a : Ad} {most : Int} {k : Nat} {r : Rt} (hr : rs[k]? = some r) (hf : r.f = a.1) (hm : Mat a most r) (hlt : bst (famF (rs.take k) a.1) a most < r.n) : LgI rs a most (k + 1) (k : Int) := by
  refine .inr ⟨k, r, rfl, hr, hf, hm, ?_⟩
  rw [bst_yes hr hf]
  unfold bstS
  rw [if_pos ⟨hm, hlt⟩]
theorem wid_le {r : Rt} (h : Gd r) : 0 ≤ r.n ∧ r.n ≤ wid r.f := by
  have := h.len
  refine ⟨this.1, ?_⟩
  unfold wid
  split
  · exact this.2.2 (by assumption)
  · exact this.2.1

set_option maxRecDepth 4000 in
set_option maxHeartbeats 4000000 in
theorem rlongest_any (N T : Nat) (v : Value) (rs : List Rt) (a : Ad) (most : Int) (w : World) (hc : w.cell? ⟨T, 3, none⟩ = some v) (hr : RwO w N v rs) (hlen : rs.length ≤ 1000) (hg : ∀ r ∈ rs, Gd r) (ha : Adr a) :
    Calls Tryz.prog 72 #[.pointer (some ⟨T, 0, none⟩), adV a, .int .i64 most] w fun e w' => ∃ bi : Int, e = .returned (.int .i64 bi) ∧ LgI rs a most rs.length bi ∧ Below w.heap.size w w' := by
  obtain ⟨lo, lc, rfl, -⟩ := RwO.form hr
  have hT : T < w.heap.size := World.block_lt_of_cell? w ⟨T, 3, none⟩ hc
  have HC := Lib.hid (fun (w1 : World) (r : Rt) (hr' : r ∈ rs) (hf : r.f = a.1) => rcontains_any (adR r) r.n a w1 ha (wid_le (hg r hr')).1 (by rw [← hf]; exact (wid_le (hg r hr')).2))
  have HR := Lib.hid hr
  have HG := Lib.hid hg
  obtain ⟨y, hy⟩ : ∃ y, y = rs.length := ⟨_, rfl⟩
  rw [← hy] at hlen hc ⊢
  have Hy := Lib.hid hy
  have Hc := Lib.hid hc
  obtain ⟨w0, hw0⟩ : ∃ w0, w0 = w.alloc (.cells #[.int .i64 a.1, .int .u64 a.2.1, .int .u64 a.2.2] 31) := ⟨_, rfl⟩
  obtain ⟨ba, hba⟩ : ∃ x, x = w.heap.size := ⟨_, rfl⟩
  have HA0 := Lib.hid (show St w0 ba 3 (adF a) by rw [hw0, hba]; exact ad_at a _ rfl)
  have HB0 := Lib.hid (show Below w.heap.size w w0 by rw [hw0]; exact box1 _ _)
  have Hw0 := Lib.hid hw0
  have Hba := Lib.hid hba
  clear hr hg ha hy hc hw0 hba
  go_enter Tryz.func72, Tryz.ntmps72
  go_wp2_with fail
  rw [← Hw0.out, ← Hba.out]
  go_loopw [7, 8] (fun bv i wr => ∃ (k : Nat) (bi : Int), k ≤ y ∧ i = .int .i64 k ∧ bv = .int .i64 bi ∧ Hid (LgI rs a most k bi) ∧ Hid (St wr ba 3 (adF a)) ∧ Hid (Below w.heap.size w wr)) (fun _ i _ => y - (intOf i).toNat)
  case atStart => exact ⟨0, -1, Nat.zero_le _, rfl, rfl, .inl ⟨rfl, rfl⟩, HA0, HB0⟩
  case round =>
    obtain ⟨k, bi, hk, rfl, rfl, HI, HA, HB⟩ := hrel
    have cT := (HB.out.cell (p := ⟨T, 3, none⟩) hT).trans Hc.out
    by_cases hlt : k < y
    · obtain ⟨r, hrk⟩ : ∃ r, rs[k]? = some r := ⟨_, List.getElem?_eq_getElem (by rw [← Hy.out]; exact hlt)⟩
      obtain ⟨b, rfl, hat, -, -, hbl⟩ := RwO.at HR.out hrk
      have c0 : wr.cell? ⟨b, k * 5, none⟩ = some (.int .i64 (adR r).1) := (HB.out.cell (p := ⟨b, k * 5, none⟩) hbl).trans hat.c0
      have c1 : wr.cell? ⟨b, k * 5 + 1, none⟩ = some (.int .u64 (adR r).2.1) := (HB.out.cell (p := ⟨b, k * 5 + 1, none⟩) hbl).trans hat.c1
      have c2 : wr.cell? ⟨b, k * 5 + 2, none⟩ = some (.int .u64 (adR r).2.2) := (HB.out.cell (p := ⟨b, k * 5 + 2, none⟩) hbl).trans hat.c2
      have c3 := (HB.out.cell (p := ⟨b, k * 5 + 3, none⟩) hbl).trans hat.c3
      have a0 : wr.cell? ⟨ba, 0, none⟩ = some (.int .i64 a.1) := (HA.out 0 (by decide)).1
      have a1 : wr.cell? ⟨ba, 1, none⟩ = some (.int .u64 a.2.1) := (HA.out 1 (by decide)).1
      have a2 : wr.cell? ⟨ba, 2, none⟩ = some (.int .u64 a.2.2) := (HA.out 2 (by decide)).1
      have hza := HA.out.lt (by decide)
      have hTr : T < wr.heap.size := Nat.lt_of_lt_of_le hT HB.out.size
      have q1 : (k : Int) < (y : Int) := by omega
      have Hrk := Lib.hid hrk
      have hmem := List.mem_of_getElem? hrk
      obtain ⟨wp, hwp⟩ : ∃ wp, wp = wr.alloc (.cells #[.int .i64 (adR r).1, .int .u64 (adR r).2.1, .int .u64 (adR r).2.2, .int .i64 r.n] 33) := ⟨_, rfl⟩
      obtain ⟨bp, hbp⟩ : ∃ bp, bp = wr.heap.size := ⟨_, rfl⟩
      have HPp := Lib.hid (show St wp bp 4 (prF (adR r) r.n) by rw [hwp, hbp]; exact pr_new wr (adR r) r.n _)
      have HAp := Lib.hid (show St wp ba 3 (adF a) by rw [hwp]; exact HA.out.alloc (by decide) _)
      have HBp := Lib.hid (show Below w.heap.size w wp by rw [hwp]; exact HB.out.alloc HB.out.size _)
      have Hwp := Lib.hid hwp
      have Hbp := Lib.hid hbp
      have hn0 := (HG.out r hmem).len.1
      clear hat hrk hwp hbp
      by_cases hf : r.f = a.1
      · have HC1 := Lib.hid (fun (w1 : World) => HC.out w1 r hmem hf)
        have p1 : ((adR r).1 != a.1) = false := by show (r.f != a.1) = false; rw [hf]; simp
        by_cases hmo : most < r.n
        · have HS := Lib.hid (HI.out.same (by rw [bst_yes Hrk.out hf]; unfold bstS; rw [if_neg (fun h => by have := h.1.1; omega)]))
          clear hf hmem
          go_wp2
          rw [← Hwp.out]
          go_roundw
          case rel => exact ⟨k + 1, bi, by omega, by go_num, rfl, HS, HAp, HBp⟩
          case measure => simp [intOf]; omega
        · have hmo' : r.n ≤ most := by omega
          have Hf := Lib.hid hf
          clear hf hmem hmo
          go_wp2_with fail
          rw [← Hwp.out, ← Hbp.out]
          refine (HC1.out wp).mono ?_
          rintro e w2 ⟨rfl, hb2⟩
          have HP2 := Lib.hid (HPp.out.below hb2 (HPp.out.lt (by decide)))
          have HA2 := Lib.hid (HAp.out.below hb2 (HAp.out.lt (by decide)))
          have HB2 := Lib.hid (HBp.out.trans (hb2.mono HBp.out.size))
          have dT := (HB2.out.cell (p := ⟨T, 3, none⟩) hT).trans Hc.out
          have p3 : w2.cell? ⟨bp, 3, none⟩ = some (.int .i64 r.n) := (HP2.out 3 (by decide)).1
          clear hb2 c0 c1 c2 c3 a0 a1 a2 cT
          cases hcc : decide (adR r = cutD a r.n) with
          | false =>
            have HS := Lib.hid (HI.out.same (by rw [bst_yes Hrk.out Hf.out]; unfold bstS; rw [if_neg (fun h => of_decide_eq_false hcc h.1.2.symm)]))
            clear hcc
            go_wp2_with fail
            go_quiet (fail)
            go_wp2
            go_roundw
            case rel => exact ⟨k + 1, bi, by omega, by go_num, rfl, HS, HA2, ⟨HB2.out.os, HB2.out.tape, HB2.out.output, HB2.out.size, HB2.out.block⟩⟩
            case measure => simp [intOf]; omega
          | true =>
            have HM := Lib.hid (show Mat a most r from ⟨hmo', (of_decide_eq_true hcc).symm⟩)
            clear hcc
            rcases HI.out with ⟨rfl, h2⟩ | ⟨j, r0, rfl, h2, h3, h4, h5⟩
            · have HS := Lib.hid (LgI.take Hrk.out Hf.out HM.out (by rw [h2]; omega))
              clear h2
              go_wp2_with fail
              go_quiet (fail)
              go_wp2
              go_roundw
              case rel => exact ⟨k + 1, k, by omega, by go_num, rfl, HS, HA2, ⟨HB2.out.os, HB2.out.tape, HB2.out.output, HB2.out.size, HB2.out.block⟩⟩
              case measure => simp [intOf]; omega
            · obtain ⟨b', e', hat, -, -, hbl'⟩ := RwO.at HR.out h2
              simp only [Option.some.injEq, Addr.mk.injEq, and_true] at e'
              subst e'
              have d3 := (HB2.out.cell (p := ⟨b, j * 5 + 3, none⟩) hbl').trans hat.c3
              have hjy : (j : Int) < (y : Int) := by have := (List.getElem?_eq_some_iff.1 h2).1; rw [← Hy.out] at this; omega
              have qj : ¬ (j : Int) < 0 := by omega
              have H5 := Lib.hid h5
              clear h2 h3 h4 h5 hat
              by_cases hgt : r0.n < r.n
              · have HS := Lib.hid (LgI.take Hrk.out Hf.out HM.out (by rw [← H5.out]; exact hgt))
                go_wp2_with fail
                go_quiet (fail)
                go_wp2
                go_roundw
                case rel => exact ⟨k + 1, k, by omega, by go_num, rfl, HS, HA2, ⟨HB2.out.os, HB2.out.tape, HB2.out.output, HB2.out.size, HB2.out.block⟩⟩
                case measure => simp [intOf]; omega
              · have HS := Lib.hid (HI.out.same (by rw [bst_yes Hrk.out Hf.out]; unfold bstS; rw [if_neg (fun h => by have := h.2; rw [← H5.out] at this; exact hgt this)]))
                have hle : r.n ≤ r0.n := by omega
                clear hgt
                go_wp2_with fail
                go_quiet (fail)
                go_wp2
                go_roundw
                case rel => exact ⟨k + 1, j, by omega, by go_num, rfl, HS, HA2, ⟨HB2.out.os, HB2.out.tape, HB2.out.output, HB2.out.size, HB2.out.block⟩⟩
                case measure => simp [intOf]; omega
      · have p1 : ((adR r).1 != a.1) = true := by show (r.f != a.1) = true; rw [bne, ine_beq hf]; rfl
        have HS := Lib.hid (HI.out.same (bst_no Hrk.out hf))
        clear hf hmem
        go_wp2
        rw [← Hwp.out]
        go_roundw
        case rel => exact ⟨k + 1, bi, by omega, by go_num, rfl, HS, HAp, HBp⟩
        case measure => simp [intOf]; omega
    · obtain rfl : k = y := by omega
      go_wp2
      go_ret
      exact ⟨bi, rfl, HI.out, HB.out⟩
end Go.Proofs.YtnfkgnjeamnhfaaGreat
