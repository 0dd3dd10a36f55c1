import Derived.Test.YtnfkgnjeamnhfaaGreatWd
namespace Go.Proofs.YtnfkgnjeamnhfaaGreat
open Go.RowKit

theorem hopsq_one {N : Nat} {ρ : Nat → Nat} {w : World} {T rS rQ : Nat} {gs : Nat → List Int} {rs : List Rt} {lim : Int} {f : Nat → Value} (h : Tq N ρ w T rS rQ 3 35 gs rs lim f) (hN : N ≤ w.heap.size) (g : Int) :
    Calls Tryz.prog 43 #[.pointer (some ⟨T, 0, none⟩), .int .i64 g] w fun e w' => ∃ ao n cap, e = .returned (.tuple #[.slice ao n cap, .int .i64 (codeOf gs g)]) ∧ n = (hopsOf gs g).length ∧ w'.ownsRow N 3 1 (.slice ao n cap) n (ints (hopsOf gs g)) ∧ (∀ b, (Value.slice ao n cap).ownBlock = some b → w.heap.size ≤ b) ∧ Below w.heap.size w w' := by
  refine (hops_any T f gs g w h.rq.st h.Ls).mono ?_
  rintro e w' (⟨h1, rfl, h3⟩ | ⟨h1, b, c, rfl, h3, h4, h5, h6⟩)
  · simp only [codeOf, hopsOf, h1]
    exact ⟨none, 0, 0, rfl, rfl, World.ownsRow_nil _ _ _ _, fun b hb => by simp [Value.ownBlock] at hb, h3⟩
  · simp only [codeOf, hopsOf, h1, if_true]
    refine ⟨_, _, _, rfl, rfl, ⟨h5.1, ?_⟩, fun b' hb => by simp [Value.ownBlock] at hb; omega, h6⟩
    rcases h5.2 with ⟨h', _⟩ | ⟨g', cap', cur, hv, hb, rest⟩
    · cases h'
    · exact .inr ⟨g', cap', cur, hv, by omega, rest⟩
theorem hopsOfq_le {N : Nat} {ρ : Nat → Nat} {w : World} {T rS rQ o rt : Nat} {gs : Nat → List Int} {rs : List Rt} {lim : Int} {f : Nat → Value} (h : Tq N ρ w T rS rQ o rt gs rs lim f) (g : Int) : (hopsOf gs g).length ≤ 8 := by
  unfold hopsOf
  split
  · rename_i hg
    obtain ⟨k, rfl, hk, _⟩ := hasB_some hg
    rw [Int.toNat_natCast]; exact (h.ls k hk).2
  · simp
theorem rhopsq_one {N : Nat} {ρ : Nat → Nat} {w : World} {T rS rQ : Nat} {gs : Nat → List Int} {rs : List Rt} {lim : Int} {f : Nat → Value} (h : Tq N ρ w T rS rQ 4 3 gs rs lim f) (g : Int) :
    Calls Tryz.prog 44 #[.pointer (some ⟨T, 0, none⟩), .int .i64 g] w fun e w' => ∃ ao n cap, e = .returned (.tuple #[.slice ao n cap, .int .i64 (codeOf gs g)]) ∧ n = (hopsOf gs g).length ∧ Rd w ao n (hopsOf gs g) ∧ w' = w := by
  refine (rhops_any T f gs g w h.rq.st h.Ls).mono ?_
  rintro e w' ⟨⟨h1, rfl⟩ | ⟨h1, rfl⟩, rfl⟩
  · simp only [codeOf, hopsOf, h1]
    exact ⟨none, 0, 0, rfl, rfl, ⟨rfl, .inl rfl⟩, trivial⟩
  · simp only [codeOf, hopsOf, h1, if_true]
    obtain ⟨k, rfl, hk, _⟩ := hasB_some h1
    rw [Int.toNat_natCast]
    obtain ⟨ao, cap, h2, h3, _⟩ := (h.ls k hk).1.rd
    rw [h2]
    exact ⟨ao, _, cap, rfl, rfl, h3, trivial⟩
set_option maxRecDepth 4000 in
set_option maxHeartbeats 2000000 in
theorem groupsq_hops (N : Nat) (ρ : Nat → Nat) (w : World) (W T R B rT rR s : Nat) (gs : Nat → List Int) (cs rs : List Rt) (lim : Int) (n : Int) (x : Nat → Value) (h : Value) (m : Bool)
    (hN : N ≤ w.heap.size) (hF : Fr ρ w) (h15 : ∀ k, ρ k ≠ 15) (hW : Wq N ρ w W T R B rT rR gs cs rs lim) (hB : BqX N ρ w B s) (hs : s ≤ 1000000000000) (hT : 8 ≤ rT) (hT2 : rT ≤ 11) (hR : 8 ≤ rR) (hR2 : rR ≤ 11) :
    Calls Tryz.prog 17 #[.pointer (some ⟨W, 0, none⟩), .agg (opA 2 n x h m)] w (SPq N ρ w W T R B rT rR lim s) := by
  obtain ⟨ρ0, w0, hw0, hNz, hsz, hE0, hF0, h150, hb0, hW0, hB0, hS0⟩ := boxq 2 n x h m hN hF h15 hW hB hT hT2 hR hR2
  have k0 : w0.cell? ⟨w.heap.size, 0, none⟩ = some (.int .i64 2) := (hS0 0 (by decide)).1
  have k1 : w0.cell? ⟨w.heap.size, 1, none⟩ = some (.int .i64 n) := (hS0 1 (by decide)).1
  have c0 : w0.cell? ⟨W, 0, none⟩ = some (.pointer (some ⟨T, 0, none⟩)) := (hW0.st 0 (by decide)).1
  have c1 : w0.cell? ⟨W, 1, none⟩ = some (.pointer (some ⟨R, 0, none⟩)) := (hW0.st 1 (by decide)).1
  have c2 : w0.cell? ⟨W, 2, none⟩ = some (.pointer (some ⟨B, 0, none⟩)) := (hW0.st 2 (by decide)).1
  have HE := Lib.hid hE0
  have hWl := hW0.st.lt (by decide)
  obtain ⟨f, hf⟩ := hW0.t
  obtain ⟨g, hg⟩ := hW0.r
  have HHo := Lib.hid fun (w1 : World) (hb : Below w0.heap.size w0 w1) => hopsq_one (hf.ev (Ev.of_below (R := fun _ => False) ρ0 hb) id id id (ro_of hT hT2)) (Nat.le_trans hNz hb.size) n
  have HRo := Lib.hid fun (w1 : World) (hb : Below w0.heap.size w0 w1) => rhopsq_one (hg.ev (Ev.of_below (R := fun _ => False) ρ0 hb) id id id (ro_of hR hR2)) n
  have HL := Lib.hid (hopsOfq_le hf n)
  have HW := Lib.hid hW0
  have HB := Lib.hid hB0
  have HS := Lib.hid hS0
  have HF := Lib.hid hF0
  have H15 := Lib.hid h150
  obtain ⟨bx, hbx⟩ : ∃ bx, bx = w.heap.size := ⟨_, rfl⟩
  rw [← hbx] at k0 k1 hsz
  clear hW hB hF h15 hE0 hF0 h150 hb0 hW0 hB0 hS0 hf hg hN
  simp only [opA] at hw0
  have Hw0 := Lib.hid hw0
  have Hbx := Lib.hid hbx
  clear hw0 hbx
  unfold opA
  go_enter Tryz.func17, Tryz.ntmps17
  go_wp2
  rw [← Hw0.out, ← Hbx.out]
  go_region_with (go_at_call 43; refine (HHo.out _ (by exact ⟨rfl, rfl, rfl, Nat.le_refl _, fun _ _ => rfl⟩)).mono ?_; rintro e w1 ⟨ao, z, cap, rfl, hz, hol, hbl, hb1⟩; have Hz := Lib.hid hz; have Hol := Lib.hid hol; have Hbl := Lib.hid hbl; have Hb1 := Lib.hid (show Below w0.heap.size w0 w1 from ⟨hb1.os, hb1.tape, hb1.output, hb1.size, hb1.block⟩); clear hz hol hbl hb1)
  all_goals
    have k1' := (Hb1.out.cell (p := ⟨bx, 1, none⟩) hsz).trans k1
    have c1' := (Hb1.out.cell (p := ⟨W, 1, none⟩) hWl).trans c1
    have c2' := (Hb1.out.cell (p := ⟨W, 2, none⟩) hWl).trans c2
    clear k0 k1 c0 c1 c2 hsz
    go_wp2
    go_region_with (go_at_call 44; refine (HRo.out _ (by exact ⟨Hb1.out.os, Hb1.out.tape, Hb1.out.output, Hb1.out.size, Hb1.out.block⟩)).mono ?_; rintro e w2 ⟨ao2, z2, cap2, rfl, hz2, hr2, rfl⟩; have Hz2 := Lib.hid hz2; have Hr2 := Lib.hid hr2; clear hz2 hr2)
  all_goals
    obtain rfl : z2 = z := Hz2.out.trans Hz.out.symm
    have hz8 : z2 ≤ 8 := by rw [Hz.out]; exact HL.out
    have HA := Lib.hid (sameInts_yes ao ao2 z2 cap cap2 (hopsOf gs n) w1.drew (own_rd Hol.out Hz.out) Hr2.out (by unfold maxLen; omega))
    have HD := Lib.hid (fun (d : Nat) => (show Below w0.heap.size w0 (w1.drewN d) from ⟨Hb1.out.os, Hb1.out.tape, Hb1.out.output, Hb1.out.size, Hb1.out.block⟩))
    have HK := Lib.hid (fun (d : Nat) => keepI_one (w := w1.drewN d) (Nat.le_trans hNz Hb1.out.size) (HF.out.grow Hb1.out.size) (HB.out.ev (Ev.of_below (R := fun _ => False) ρ0 (HD.out d)) (fun _ _ => id)) hs Hol.out (fun b hb => HF.out b (Hbl.out b hb)) (by omega) H15.out)
    have HN := Lib.hid (fun w => num_any (codeOf gs n) w)
    have q3 : (codeOf gs n == codeOf gs n) = true := by simp
    go_wp2_with (first | (go_at_call 21; refine HA.out.mono ?_; rintro e w2 ⟨rfl, d, rfl⟩) | (go_at_call 22; refine (HK.out _).mono ?_; rintro e w3 ⟨rfl, hk⟩; have Hk := Lib.hid hk; clear hk) | (go_at_call 23; refine (HN.out _).mono ?_; rintro e w4 ⟨rfl, rfl⟩))
    go_ret
    exact dump_fin HE.out HW.out (HD.out _) Hk.out (fun q h => by omega) hT hT2 hR hR2
end Go.Proofs.YtnfkgnjeamnhfaaGreat
namespace Go.Proofs.YtnfkgnjeamnhfaaGreat
open Go.RowKit

theorem dropq_one {N : Nat} {ρ : Nat → Nat} {w : World} {T rS rQ : Nat} {gs : Nat → List Int} {rs : List Rt} {lim : Int} {f : Nat → Value} (h : Tq N ρ w T rS rQ 3 35 gs rs lim f) (hro : Ro rS rQ) (hF : Fr ρ w) (n : Int) :
    Calls Tryz.prog 45 #[.pointer (some ⟨T, 0, none⟩), .int .i64 n] w fun e w' => ∃ c gs' f', e = .returned (.int .i64 c) ∧ DOq gs rs n c gs' ∧ Tq N ρ w' T rS rQ 3 35 gs' rs lim f' ∧ Fr ρ w' ∧ Ev (fun q => q = rS) ρ w ρ w' :=
  (drop2_any N T f gs rs n w h.rq.st h.Ls h.rq.row.1).mono fun _ _ hp => h.drop hro hF (by decide) (by omega) hp
theorem rdropq_one {N : Nat} {ρ : Nat → Nat} {w : World} {T rS rQ : Nat} {gs : Nat → List Int} {rs : List Rt} {lim : Int} {f : Nat → Value} (h : Tq N ρ w T rS rQ 4 3 gs rs lim f) (hro : Ro rS rQ) (hF : Fr ρ w) (n : Int) :
    Calls Tryz.prog 46 #[.pointer (some ⟨T, 0, none⟩), .int .i64 n] w fun e w' => ∃ c gs' f', e = .returned (.int .i64 c) ∧ DOq gs rs n c gs' ∧ Tq N ρ w' T rS rQ 4 3 gs' rs lim f' ∧ Fr ρ w' ∧ Ev (fun q => q = rS) ρ w ρ w' :=
  (rdrop2_any N T f gs rs n w h.rq.st h.Ls h.rq.row.1).mono fun _ _ hp => h.drop hro hF (by decide) (by omega) hp
theorem dropq_fin {N : Nat} {ρ ρ0 : Nat → Nat} {w w0 w1 w2 : World} {W T R B rT rR s : Nat} {gs gs' : Nat → List Int} {cs rs : List Rt} {lim : Int} {f1 f2 : Nat → Value} (hE : ∀ R, Ev R ρ w ρ0 w0) (hW : Wq N ρ0 w0 W T R B rT rR gs cs rs lim) (hB : BqX N ρ0 w0 B s) (h15 : ∀ k, ρ0 k ≠ 15) (hF : Fr ρ0 w2)
    (e1 : Ev (fun q => q = rT) ρ0 w0 ρ0 w1) (e2 : Ev (fun q => q = rR) ρ0 w1 ρ0 w2) (h1 : Tq N ρ0 w1 T rT (rT + 24) 3 35 gs' cs lim f1) (h2 : Tq N ρ0 w2 R rR (rR + 24) 4 3 gs' rs lim f2) (hgr : Gr gs' cs) (hT : 8 ≤ rT) (hT2 : rT ≤ 11) (hR : 8 ≤ rR) (hR2 : rR ≤ 11) (hne : rT ≠ rR) : SPq N ρ w W T R B rT rR lim s (.returned (.bool true)) w2 := by
  have e3 : Ev (fun q => q = rT ∨ q = rR) ρ0 w0 ρ0 w2 := (e1.mono fun _ h => .inl h).trans (e2.mono fun _ h => .inr h)
  exact ⟨rfl, ρ0, gs', cs, rs, ⟨hW.role, hW.st.ev (by decide) e3 (by rw [hW.role]; omega) (by rw [hW.role]; decide), ⟨f1, h1.ev e2 hne (by omega) (by omega) (ro_of hT hT2)⟩, ⟨f2, h2⟩, hW.rel, hW.len, hW.lim256, hgr⟩, (hB.ev e3 (fun r hr => by unfold bookR at hr; omega)).more (by omega), hF, h15, (hE _).trans (e3.mono fun r h => by unfold stR; omega)⟩

set_option maxRecDepth 4000 in
set_option maxHeartbeats 2000000 in
theorem groupsq_drop (N : Nat) (ρ : Nat → Nat) (w : World) (W T R B rT rR s : Nat) (gs : Nat → List Int) (cs rs : List Rt) (lim : Int) (n : Int) (x : Nat → Value) (h : Value) (m : Bool)
    (hN : N ≤ w.heap.size) (hF : Fr ρ w) (h15 : ∀ k, ρ k ≠ 15) (hW : Wq N ρ w W T R B rT rR gs cs rs lim) (hB : BqX N ρ w B s) (hT : 8 ≤ rT) (hT2 : rT ≤ 11) (hR : 8 ≤ rR) (hR2 : rR ≤ 11) (hne : rT ≠ rR) :
    Calls Tryz.prog 17 #[.pointer (some ⟨W, 0, none⟩), .agg (opA 3 n x h m)] w (SPq N ρ w W T R B rT rR lim s) := by
  obtain ⟨ρ0, w0, hw0, hNz, hsz, hE0, hF0, h150, hb0, hW0, hB0, hS0⟩ := boxq 3 n x h m hN hF h15 hW hB hT hT2 hR hR2
  have k0 : w0.cell? ⟨w.heap.size, 0, none⟩ = some (.int .i64 3) := (hS0 0 (by decide)).1
  have k1 : w0.cell? ⟨w.heap.size, 1, none⟩ = some (.int .i64 n) := (hS0 1 (by decide)).1
  have c0 : w0.cell? ⟨W, 0, none⟩ = some (.pointer (some ⟨T, 0, none⟩)) := (hW0.st 0 (by decide)).1
  have c1 : w0.cell? ⟨W, 1, none⟩ = some (.pointer (some ⟨R, 0, none⟩)) := (hW0.st 1 (by decide)).1
  have HE := Lib.hid hE0
  have hWl := hW0.st.lt (by decide)
  obtain ⟨f, hf⟩ := hW0.t
  obtain ⟨g, hg⟩ := hW0.r
  have HD := Lib.hid fun (w1 : World) (he : Ev (fun _ => False) ρ0 w0 ρ0 w1) => dropq_one (hf.ev he id id id (ro_of hT hT2)) (ro_of hT hT2) (hF0.grow he.size) n
  have HR := Lib.hid fun (w1 : World) (he : Ev (fun q => q = rT) ρ0 w0 ρ0 w1) => rdropq_one (hg.ev he (fun h => hne h.symm) (by omega) (by omega) (ro_of hR hR2)) (ro_of hR hR2) (hF0.grow he.size) n
  have HN := Lib.hid (fun (c : Int) w => num_any c w)
  have HW := Lib.hid hW0
  have HB := Lib.hid hB0
  have H15 := Lib.hid h150
  have Hb0 := Lib.hid hb0
  obtain ⟨bx, hbx⟩ : ∃ bx, bx = w.heap.size := ⟨_, rfl⟩
  rw [← hbx] at k0 k1 hsz Hb0
  clear hW hB hF h15 hE0 hF0 h150 hb0 hW0 hB0 hS0 hf hg hN
  simp only [opA] at hw0
  have Hw0 := Lib.hid hw0
  have Hbx := Lib.hid hbx
  clear hw0 hbx
  unfold opA
  go_enter Tryz.func17, Tryz.ntmps17
  go_wp2
  rw [← Hw0.out, ← Hbx.out]
  go_region_with (go_at_call 45; refine (HD.out _ (by exact ⟨rfl, rfl, rfl, Nat.le_refl _, fun _ _ _ => rfl, fun _ _ _ _ => rfl⟩)).mono ?_; rintro e w1 ⟨c, gs1, f1, rfl, hd, hf1, hF1, he1⟩; have Hd := Lib.hid hd; have Hf1 := Lib.hid hf1; have He1 := Lib.hid (show Ev (fun q => q = rT) ρ0 w0 ρ0 w1 from ⟨he1.os, he1.tape, he1.output, he1.size, he1.role, he1.block⟩); clear hd hf1 hF1 he1)
  all_goals
    have k1' := (evc He1.out 1 hsz (by rw [Hb0.out]; decide) (by rw [Hb0.out]; omega)).trans k1
    have c1' := (evc He1.out 1 hWl (by rw [HW.out.role]; decide) (by rw [HW.out.role]; omega)).trans c1
    clear k0 k1 c0 c1 hsz
    go_wp2
    go_region_with (go_at_call 46; refine (HR.out _ (by exact ⟨He1.out.os, He1.out.tape, He1.out.output, He1.out.size, He1.out.role, He1.out.block⟩)).mono ?_; rintro e w2 ⟨c', gs2, f2, rfl, hd, hf2, hF2, he2⟩; have Hd2 := Lib.hid hd; have Hf2 := Lib.hid hf2; have HF2 := Lib.hid hF2; have He2 := Lib.hid (show Ev (fun q => q = rR) ρ0 w1 ρ0 w2 from ⟨he2.os, he2.tape, he2.output, he2.size, he2.role, he2.block⟩); clear hd hf2 hF2 he2)
  all_goals
    obtain ⟨rfl, rfl⟩ := DOq.one (HW.out.rel.busy n) Hd.out Hd2.out
    have q3 : (c == c) = true := by simp
    go_wp2_with (go_at_call 23; refine (HN.out _ _).mono ?_; rintro e w4 ⟨rfl, rfl⟩)
    go_ret
    exact dropq_fin HE.out HW.out HB.out H15.out HF2.out He1.out He2.out Hf1.out Hf2.out (HW.out.grp.drop Hd.out) hT hT2 hR hR2 hne
end Go.Proofs.YtnfkgnjeamnhfaaGreat
