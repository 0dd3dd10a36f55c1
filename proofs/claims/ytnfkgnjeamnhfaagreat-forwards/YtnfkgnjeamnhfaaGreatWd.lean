import Derived.Test.YtnfkgnjeamnhfaaGreatWc
namespace Go.Proofs.YtnfkgnjeamnhfaaGreat
open Go.RowKit

theorem neq_rt_self (r : Rt) (w : World) : Sem.run Tryz.prog (binOp BinOp.neq 35 (.agg #[.int .i64 r.f, .int .u64 r.hi, .int .u64 r.lo, .int .i64 r.n, .int .i64 r.g]) (.agg #[.int .i64 r.f, .int .u64 r.hi, .int .u64 r.lo, .int .i64 r.n, .int .i64 r.g])) w = .ok (.bool false) w := by
  simp [go_sem]
set_option maxHeartbeats 1000000 in
/-- Two lists of routes that read alike. -/
theorem sameR_yes (N M : Nat) (a1 a2 : Option Addr) (n c1 c2 : Nat) (xs : List Rt) (w : World) (h1 : RwO w N (.slice a1 n c1) xs) (h2 : RwO w M (.slice a2 n c2) xs) (hn : n = xs.length) (hm : n ≤ 1000) :
    Calls Tryz.prog 53 #[.slice a1 n c1, .slice a2 n c2] w fun e w' => e = .returned (.bool true) ∧ ∃ d, w' = w.drewN d := by
  have H1 := Lib.hid h1
  have H2 := Lib.hid h2
  have Hn := Lib.hid hn
  clear h1 h2 hn
  go_enter Tryz.func53, Tryz.ntmps53
  go_wp2
  go_loopw [5] (fun i wr => ∃ k d : Nat, k ≤ n ∧ i = .int .i64 k ∧ wr = w.drewN d) (fun i _ => n - (intOf i).toNat)
  case atStart => exact ⟨0, 0, Nat.zero_le _, rfl, rfl⟩
  case round =>
    obtain ⟨k, d, hk, rfl, rfl⟩ := hrel
    by_cases hlt : k < n
    · obtain ⟨r, hr⟩ : ∃ r, xs[k]? = some r := ⟨_, List.getElem?_eq_getElem (by rw [← Hn.out]; exact hlt)⟩
      obtain ⟨g1, rfl, hat1, -, -, -⟩ := RwO.at H1.out hr
      obtain ⟨g2, rfl, hat2, -, -, -⟩ := RwO.at H2.out hr
      have c0 := hat1.c0
      have c1 := hat1.c1
      have c2 := hat1.c2
      have c3 := hat1.c3
      have c4 := hat1.c4
      have d0 := hat2.c0
      have d1 := hat2.c1
      have d2 := hat2.c2
      have d3 := hat2.c3
      have d4 := hat2.c4
      have q1 : (k : Int) < (n : Int) := by omega
      have hE := neq_rt_self r
      clear hat1 hat2 hr
      go_wp2
      go_quiet (fail)
      go_wp2
      go_roundw
      case rel => exact ⟨k + 1, _, by omega, by go_num, rfl⟩
      case measure => simp [intOf]; omega
    · obtain rfl : k = n := by omega
      go_wp2
      go_ret
      exact ⟨rfl, d, rfl⟩
theorem dump_fin {N : Nat} {ρ ρ0 : Nat → Nat} {w w0 wk w' : World} {W T R B rT rR s : Nat} {gs : Nat → List Int} {cs rs : List Rt} {lim : Int} {Q : Nat → Prop} (hE : ∀ R, Ev R ρ w ρ0 w0) (hW : Wq N ρ0 w0 W T R B rT rR gs cs rs lim) (hb : Below w0.heap.size w0 wk)
    (hK : ∃ ρ', BqX N ρ' w' B (s + 1) ∧ Fr ρ' w' ∧ (∀ k, ρ' k ≠ 15) ∧ Ev Q ρ0 wk ρ' w') (hQ : ∀ q, Q q → (1 ≤ q ∧ q ≤ 5) ∨ (20 ≤ q ∧ q ≤ 23) ∨ (26 ≤ q ∧ q ≤ 27)) (hT : 8 ≤ rT) (hT2 : rT ≤ 11) (hR : 8 ≤ rR) (hR2 : rR ≤ 11) : SPq N ρ w W T R B rT rR lim s (.returned (.bool true)) w' := by
  obtain ⟨ρ', h1, h2, h3, h4⟩ := hK
  have q : ∀ r, ¬ ((1 ≤ r ∧ r ≤ 5) ∨ (20 ≤ r ∧ r ≤ 23) ∨ (26 ≤ r ∧ r ≤ 27)) → ¬ Q r := fun r hr hq => hr (hQ r hq)
  exact ⟨rfl, ρ', gs, cs, rs, (hW.ev (Ev.of_below (R := fun _ => False) ρ0 hb) id id id id id id hT hT2 hR hR2).ev h4 (q _ (by omega)) (q _ (by omega)) (q _ (by omega)) (q _ (by omega)) (q _ (by omega)) (q _ (by omega)) hT hT2 hR hR2, h1, h2, h3, ((hE _).trans (Ev.of_below ρ0 hb)).trans (h4.mono fun r h => by have := hQ r h; unfold stR; omega)⟩

set_option maxRecDepth 4000 in
set_option maxHeartbeats 4000000 in
theorem routes_dump (N : Nat) (ρ : Nat → Nat) (w : World) (W T R B rT rR s : Nat) (gs : Nat → List Int) (cs rs : List Rt) (lim : Int) (n : Int) (x : Nat → Value) (h : Value) (m : Bool)
    (hN : N ≤ w.heap.size) (hF : Fr ρ w) (h15 : ∀ k, ρ k ≠ 15) (hW : Wq N ρ w W T R B rT rR gs cs rs lim) (hB : BqX N ρ w B s) (hs : s ≤ 1000000000000) (hT : 8 ≤ rT) (hT2 : rT ≤ 11) (hR : 8 ≤ rR) (hR2 : rR ≤ 11) :
    Calls Tryz.prog 18 #[.pointer (some ⟨W, 0, none⟩), .agg (opA 6 n x h m)] w (SPq N ρ w W T R B rT rR lim s) := by
  obtain ⟨ρ0, w0, hw0, hNz, hsz, hE0, hF0, h150, hb0, hW0, hB0, hS0⟩ := boxq 6 n x h m hN hF h15 hW hB hT hT2 hR hR2
  have k0 : w0.cell? ⟨w.heap.size, 0, none⟩ = some (.int .i64 6) := (hS0 0 (by decide)).1
  have k1 : w0.cell? ⟨w.heap.size, 1, none⟩ = some (.int .i64 n) := (hS0 1 (by decide)).1
  have c0 : w0.cell? ⟨W, 0, none⟩ = some (.pointer (some ⟨T, 0, none⟩)) := (hW0.st 0 (by decide)).1
  have c1 : w0.cell? ⟨W, 1, none⟩ = some (.pointer (some ⟨R, 0, none⟩)) := (hW0.st 1 (by decide)).1
  have c2 : w0.cell? ⟨W, 2, none⟩ = some (.pointer (some ⟨B, 0, none⟩)) := (hW0.st 2 (by decide)).1
  have HE := Lib.hid hE0
  have hWl := hW0.st.lt (by decide)
  obtain ⟨f, hf⟩ := hW0.t
  obtain ⟨g, hg⟩ := hW0.r
  have hlen := hW0.rel.len
  have hl2 := hW0.len
  have hdl : (dumpT cs n).length ≤ 256 := by
    unfold dumpT
    split
    · have := famF_le cs n; omega
    · simp
  have HHo := Lib.hid fun (w1 : World) (hb : Below w0.heap.size w0 w1) => tdump_any (hf.ev (Ev.of_below (R := fun _ => False) ρ0 hb) id id id (ro_of hT hT2)) (by omega) n
  have HRo := Lib.hid fun (w1 : World) (hb : Below w0.heap.size w0 w1) => rdump_all (hg.ev (Ev.of_below (R := fun _ => False) ρ0 hb) id id id (ro_of hR hR2)) (by omega) n
  have HW := Lib.hid hW0
  have HB := Lib.hid hB0
  have HF := Lib.hid hF0
  have H15 := Lib.hid h150
  obtain ⟨bx, hbx⟩ : ∃ bx, bx = w.heap.size := ⟨_, rfl⟩
  rw [← hbx] at k0 k1 hsz
  clear hW hB hF h15 hE0 hF0 h150 hb0 hW0 hB0 hS0 hf hg hN hlen hl2
  simp only [opA] at hw0
  have Hw0 := Lib.hid hw0
  have Hbx := Lib.hid hbx
  clear hw0 hbx
  unfold opA
  go_enter Tryz.func18, Tryz.ntmps18
  go_wp2
  rw [← Hw0.out, ← Hbx.out]
  go_region_with (go_at_call 51; refine (HHo.out _ (by exact ⟨rfl, rfl, rfl, Nat.le_refl _, fun _ _ => rfl⟩)).mono ?_; rintro e w1 ⟨ao, z, cap, rfl, hz, hol, hb1⟩; have Hz := Lib.hid hz; have Hol := Lib.hid hol; have Hb1 := Lib.hid (show Below w0.heap.size w0 w1 from ⟨hb1.os, hb1.tape, hb1.output, hb1.size, hb1.block⟩); clear hz hol hb1)
  all_goals
    have k1' := (Hb1.out.cell (p := ⟨bx, 1, none⟩) hsz).trans k1
    have c1' := (Hb1.out.cell (p := ⟨W, 1, none⟩) hWl).trans c1
    clear k0 k1 c0 c1 hsz
    go_wp2
    go_region_with (go_at_call 52; refine (HRo.out _ (by exact ⟨Hb1.out.os, Hb1.out.tape, Hb1.out.output, Hb1.out.size, Hb1.out.block⟩)).mono ?_; rintro e w2 ⟨ao2, z2, cap2, out, rfl, hd2, hz2, hr2, hb2⟩; have Hd2 := Lib.hid hd2; have Hz2 := Lib.hid hz2; have Hr2 := Lib.hid hr2; have Hb2 := Lib.hid (show Below w1.heap.size w1 w2 from ⟨hb2.os, hb2.tape, hb2.output, hb2.size, hb2.block⟩); clear hd2 hz2 hr2 hb2)
  all_goals
    have hout : out = dumpT cs n := HW.out.rel.dump Hd2.out
    subst hout
    obtain rfl : z2 = z := Hz2.out.trans Hz.out.symm
    have hz8 : z2 ≤ 256 := by rw [Hz.out]; exact hdl
    have c2' := (Hb2.out.cell (p := ⟨W, 2, none⟩) (Nat.lt_of_lt_of_le hWl Hb1.out.size)).trans ((Hb1.out.cell (p := ⟨W, 2, none⟩) hWl).trans c2)
    have Hol2 := Lib.hid (Hol.out.far Hb2.out (fun k hk => (World.ownsRow.lt Hol.out k hk).2))
    have HA := Lib.hid (sameR_yes _ _ ao ao2 z2 cap cap2 (dumpT cs n) w2 Hol2.out Hr2.out Hz.out (by omega))
    have HD := Lib.hid (fun (d : Nat) => (show Below w0.heap.size w0 (w2.drewN d) from ⟨Hb2.out.os.trans Hb1.out.os, Hb2.out.tape.trans Hb1.out.tape, Hb2.out.output.trans Hb1.out.output, Nat.le_trans Hb1.out.size Hb2.out.size, fun k hk => (Hb2.out.block k (Nat.lt_of_lt_of_le hk Hb1.out.size)).trans (Hb1.out.block k hk)⟩))
    have HK := Lib.hid (fun (d : Nat) => keepR_one (w := w2.drewN d) (Nat.le_trans hNz (HD.out d).size) (HF.out.grow (HD.out d).size) (HB.out.ev (Ev.of_below (R := fun _ => False) ρ0 (HD.out d)) (fun _ _ => id)) hs (Hol2.out.lower hNz) (fun b hb => HF.out b (Hol2.out.base b hb)) (by omega) H15.out)
    have HN := Lib.hid (fun w => num_any (famE n) w)
    have q3 : (famE n == famE n) = true := by simp
    clear c2
    go_wp2_with (first | (go_at_call 53; refine HA.out.mono ?_; rintro e w3 ⟨rfl, d, rfl⟩) | (go_at_call 54; refine (HK.out _).mono ?_; rintro e w5 ⟨rfl, hk⟩; have Hk := Lib.hid hk; clear hk) | (go_at_call 23; refine (HN.out _).mono ?_; rintro e w4 ⟨rfl, rfl⟩))
    go_ret
    exact dump_fin HE.out HW.out (HD.out _) Hk.out (fun q h => by omega) hT hT2 hR hR2
end Go.Proofs.YtnfkgnjeamnhfaaGreat
