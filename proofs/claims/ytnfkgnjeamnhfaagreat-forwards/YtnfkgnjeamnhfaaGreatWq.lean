import Derived.Test.YtnfkgnjeamnhfaaGreatWl
import Derived.Deep.DeepCutAuto
namespace Go.Proofs.YtnfkgnjeamnhfaaGreat
open Go.RowKit

set_option maxRecDepth 4000 in
set_option maxHeartbeats 4000000 in
theorem asksq_ents (N : Nat) (ρ : Nat → Nat) (w : World) (W T R B rT rR s : Nat) (gs : Nat → List Int) (cs rs : List Rt) (lim : Int) (n l : Int) (x : Nat → Value) (hx2 : x 2 = .int .i64 l) (h : Value) (m : Bool)
    (hN : N ≤ w.heap.size) (hF : Fr ρ w) (h15 : ∀ k, ρ k ≠ 15) (hW : Wq N ρ w W T R B rT rR gs cs rs lim) (hB : BqX N ρ w B s) (hs : s ≤ 1000000000000) (hT : 8 ≤ rT) (hT2 : rT ≤ 11) (hR : 8 ≤ rR) (hR2 : rR ≤ 11) :
    Calls Tryz.prog 13 #[.pointer (some ⟨W, 0, none⟩), .agg (opA 9 n x h m)] w (SPq N ρ w W T R B rT rR lim s) := by
  obtain ⟨ρ0, w0, hw0, hNz, hsz, hE0, hF0, h150, hb0, hW0, hB0, hS0⟩ := boxq 9 n x h m hN hF h15 hW hB hT hT2 hR hR2
  have k0 : w0.cell? ⟨w.heap.size, 0, none⟩ = some (.int .i64 9) := (hS0 0 (by decide)).1
  have k1 : w0.cell? ⟨w.heap.size, 1, none⟩ = some (.int .i64 n) := (hS0 1 (by decide)).1
  have k2 : w0.cell? ⟨w.heap.size, 2, none⟩ = some (.int .i64 l) := by rw [← hx2]; exact (hS0 2 (by decide)).1
  have c0 : w0.cell? ⟨W, 0, none⟩ = some (.pointer (some ⟨T, 0, none⟩)) := (hW0.st 0 (by decide)).1
  have c1 : w0.cell? ⟨W, 1, none⟩ = some (.pointer (some ⟨R, 0, none⟩)) := (hW0.st 1 (by decide)).1
  have c2 : w0.cell? ⟨W, 2, none⟩ = some (.pointer (some ⟨B, 0, none⟩)) := (hW0.st 2 (by decide)).1
  have HE := Lib.hid hE0
  have hWl := hW0.st.lt (by decide)
  obtain ⟨f, hf⟩ := hW0.t
  obtain ⟨g, hg⟩ := hW0.r
  have hlen := hW0.rel.len
  have hl2 := hW0.len
  have hrel := hW0.rel
  have HHo := Lib.hid fun (w1 : World) (hb : Below w0.heap.size w0 w1) => tents_any (hf.ev (Ev.of_below (R := fun _ => False) ρ0 hb) id id id (ro_of hT hT2)) (by omega) hrel.srt hrel.gd n l
  have HRo := Lib.hid fun (w1 : World) (hb : Below w0.heap.size w0 w1) => rents_any (hg.ev (Ev.of_below (R := fun _ => False) ρ0 hb) id id id (ro_of hR hR2)) (by omega) hrel.gdr hrel.nodup n l
  have HW := Lib.hid hW0
  have HB := Lib.hid hB0
  have HF := Lib.hid hF0
  have H15 := Lib.hid h150
  obtain ⟨bx, hbx⟩ : ∃ bx, bx = w.heap.size := ⟨_, rfl⟩
  rw [← hbx] at k0 k1 k2 hsz
  have hl256 := entsT_len (cs := cs) (fam := n) (m := l) (by omega)
  clear hW hB hF h15 hE0 hF0 h150 hb0 hW0 hB0 hS0 hf hg hN hlen hl2 hrel
  simp only [opA, hx2] at hw0
  have Hw0 := Lib.hid hw0
  have Hbx := Lib.hid hbx
  clear hw0 hbx
  unfold opA
  rw [hx2]
  go_enter Tryz.func13, Tryz.ntmps13
  go_wp2
  rw [← Hw0.out, ← Hbx.out]
  go_cut [10, 11] (fun s10 s11 wx => ∃ ao z cap, s10 = .slice ao z cap ∧ s11 = .int .i64 (H.lenE n l) ∧ Hid (z = (entsT cs n l).length) ∧ Hid (RwE wx w0.heap.size (.slice ao z cap) (entsT cs n l)) ∧ Hid (Below w0.heap.size w0 wx))
  case first =>
    go_region_with (go_at_call 24; refine (HHo.out _ (by exact ⟨rfl, rfl, rfl, Nat.le_refl _, fun _ _ => rfl⟩)).mono ?_; rintro e w1 ⟨ao, z, cap, rfl, hz, hol, hb1⟩; have Hz := Lib.hid hz; have Hol := Lib.hid hol; have Hb1 := Lib.hid (show Below w0.heap.size w0 w1 from ⟨hb1.os, hb1.tape, hb1.output, hb1.size, hb1.block⟩); clear hz hol hb1)
    all_goals
      go_wp2_with fail
      go_meet
      exact ⟨ao, z, cap, rfl, rfl, Hz, Hol, ⟨Hb1.out.os, Hb1.out.tape, Hb1.out.output, Hb1.out.size, Hb1.out.block⟩⟩
  case rest =>
  obtain ⟨ao, z, cap, rfl, rfl, Hz, Hol, Hb1⟩ := hcut
  have k2' := (Hb1.out.cell (p := ⟨bx, 2, none⟩) hsz).trans k2
  have k1' := (Hb1.out.cell (p := ⟨bx, 1, none⟩) hsz).trans k1
  have c1' := (Hb1.out.cell (p := ⟨W, 1, none⟩) hWl).trans c1
  have c2' := (Hb1.out.cell (p := ⟨W, 2, none⟩) hWl).trans c2
  have hWc : W < wc.heap.size := Nat.lt_of_lt_of_le hWl Hb1.out.size
  clear k0 k1 k2 c0 c1 c2 hsz
  go_wp2_with fail
  generalize wc = w1 at *
  go_cut [12, 13] (fun s12 s13 wx => ∃ ao2 cap2, s12 = .slice ao2 z cap2 ∧ s13 = .int .i64 (H.lenE n l) ∧ Hid (RwE wx w1.heap.size (.slice ao2 z cap2) (entsT cs n l)) ∧ Hid (Below w1.heap.size w1 wx))
  case first =>
    go_region_with (go_at_call 25; refine (HRo.out _ (by exact ⟨Hb1.out.os, Hb1.out.tape, Hb1.out.output, Hb1.out.size, Hb1.out.block⟩)).mono ?_; rintro e w2 ⟨ao2, z2, cap2, rfl, Hq2⟩; obtain ⟨all, hall, hz2, hr2, hb2⟩ := Hq2.out; rw [HW.out.rel.ents hall] at hz2 hr2; obtain rfl : z = z2 := Hz.out.trans hz2.symm; have Hr2 := Lib.hid hr2; have Hb2 := Lib.hid (show Below w1.heap.size w1 w2 from ⟨hb2.os, hb2.tape, hb2.output, hb2.size, hb2.block⟩); clear hz2 hr2 hb2 hall Hq2)
    all_goals
      go_wp2_with fail
      go_meet
      exact ⟨ao2, cap2, rfl, rfl, Hr2, ⟨Hb2.out.os, Hb2.out.tape, Hb2.out.output, Hb2.out.size, Hb2.out.block⟩⟩
  case rest =>
  obtain ⟨ao2, cap2, rfl, rfl, Hr2, Hb2⟩ := hcut
  have c2'' := (Hb2.out.cell (p := ⟨W, 2, none⟩) hWc).trans c2'
  generalize wc = w2 at *
  have hz8 : z ≤ 256 := by rw [Hz.out]; exact hl256
  have Hol2 := Lib.hid (rowE_far Hol.out Hb2.out (fun k hk => (World.ownsRow.lt Hol.out k hk).2))
  have HA := Lib.hid (sameE_yes _ _ ao ao2 z cap cap2 (entsT cs n l) w2 Hol2.out Hr2.out Hz.out (by omega))
  have HD := Lib.hid (fun (d : Nat) => (show Below w0.heap.size w0 (w2.drewN d) from ⟨Hb2.out.os.trans Hb1.out.os, Hb2.out.tape.trans Hb1.out.tape, Hb2.out.output.trans Hb1.out.output, Nat.le_trans Hb1.out.size Hb2.out.size, fun k hk => (Hb2.out.block k (Nat.lt_of_lt_of_le hk Hb1.out.size)).trans (Hb1.out.block k hk)⟩))
  have HK := Lib.hid (fun (d : Nat) => keepE_one (w := w2.drewN d) (Nat.le_trans hNz (HD.out d).size) (HF.out.grow (HD.out d).size) (HB.out.ev (Ev.of_below (R := fun _ => False) ρ0 (HD.out d)) (fun _ _ => id)) hs (row_lower Hol2.out hNz) (fun b hb => HF.out b (World.ownsRow.lt Hol2.out b hb).1) (by omega) H15.out)
  have HN := Lib.hid (fun w => num_any (H.lenE n l) w)
  have q3 : (H.lenE n l == H.lenE n l) = true := by simp
  clear c2' c1' k1' k2'
  go_wp2_with (first | (go_at_call 26; refine HA.out.mono ?_; rintro e w3 ⟨rfl, d, rfl⟩) | (go_at_call 27; refine (HK.out _).mono ?_; rintro e w5 ⟨rfl, hk⟩; have Hk := Lib.hid hk; clear hk) | (go_at_call 23; refine (HN.out _).mono ?_; rintro e w4 ⟨rfl, rfl⟩))
  go_ret
  exact dump_fin HE.out HW.out (HD.out _) Hk.out (fun q h => by omega) hT hT2 hR hR2

end Go.Proofs.YtnfkgnjeamnhfaaGreat
