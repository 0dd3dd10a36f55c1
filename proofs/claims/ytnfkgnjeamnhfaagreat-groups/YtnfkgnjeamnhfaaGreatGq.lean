import Derived.Test.YtnfkgnjeamnhfaaGreatGp
namespace Go.Proofs.YtnfkgnjeamnhfaaGreat
open Go.RowKit

theorem Ev.cell {Q : Nat → Prop} {ρ ρ' : Nat → Nat} {w w' : World} (h : Ev Q ρ w ρ' w') {b : Nat} (o : Nat) (hb : b < w.heap.size) (h14 : ρ b ≠ 14) (hQ : ¬ Q (ρ b)) : w'.cell? ⟨b, o, none⟩ = w.cell? ⟨b, o, none⟩ :=
  World.cell?_of_block (a := ⟨b, o, none⟩) (h.block b hb h14 hQ)
theorem drop_one {N : Nat} {ρ : Nat → Nat} {w : World} {T rT : Nat} {gs : Nat → List Int} {f : Nat → Value} (h : Tb N ρ w T rT 3 35 gs f) (hF : Fr ρ w) (hT : 8 ≤ rT) (hT2 : rT ≤ 11) (n : Int) :
    Calls Tryz.prog 45 #[.pointer (some ⟨T, 0, none⟩), .int .i64 n] w fun e w' => ∃ c gs' f', e = .returned (.int .i64 c) ∧ DOut gs n c gs' ∧ Tb N ρ w' T rT 3 35 gs' f' ∧ Fr ρ w' ∧ Ev (fun q => q = rT) ρ w ρ w' :=
  (drop_any T f gs n w h.st h.Ls h.none).mono fun _ _ hp => h.drop hF (by omega) (by omega) (by omega) hp
theorem rdrop_one {N : Nat} {ρ : Nat → Nat} {w : World} {T rT : Nat} {gs : Nat → List Int} {f : Nat → Value} (h : Tb N ρ w T rT 4 3 gs f) (hF : Fr ρ w) (hT : 8 ≤ rT) (hT2 : rT ≤ 11) (n : Int) :
    Calls Tryz.prog 46 #[.pointer (some ⟨T, 0, none⟩), .int .i64 n] w fun e w' => ∃ c gs' f', e = .returned (.int .i64 c) ∧ DOut gs n c gs' ∧ Tb N ρ w' T rT 4 3 gs' f' ∧ Fr ρ w' ∧ Ev (fun q => q = rT) ρ w ρ w' :=
  (rdrop_any T f gs n w h.st h.Ls h.none).mono fun _ _ hp => h.drop hF (by omega) (by omega) (by omega) hp
theorem drop_fin {N : Nat} {ρ ρ0 : Nat → Nat} {w w0 w1 w2 : World} {W T R B rT rR s : Nat} {gs gs' : Nat → List Int} {f1 f2 : Nat → Value} (hE : ∀ R, Ev R ρ w ρ0 w0) (hW : Wd N ρ0 w0 W T R B rT rR gs) (hB : BkX N ρ0 w0 B s) (h15 : ∀ k, ρ0 k ≠ 15) (hF : Fr ρ0 w2)
    (e1 : Ev (fun q => q = rT) ρ0 w0 ρ0 w1) (e2 : Ev (fun q => q = rR) ρ0 w1 ρ0 w2) (h1 : Tb N ρ0 w1 T rT 3 35 gs' f1) (h2 : Tb N ρ0 w2 R rR 4 3 gs' f2) (hT : 8 ≤ rT) (hT2 : rT ≤ 11) (hR : 8 ≤ rR) (hR2 : rR ≤ 11) (hne : rT ≠ rR) : SPost N ρ w W T R B rT rR s (.returned (.bool true)) w2 := by
  have e3 : Ev (fun q => q = rT ∨ q = rR) ρ0 w0 ρ0 w2 := (e1.mono fun _ h => .inl h).trans (e2.mono fun _ h => .inr h)
  have hlt := hW.st.lt (by decide)
  refine ⟨rfl, ρ0, gs', ⟨hW.role, hW.st.ev (by decide) e3 (by rw [hW.role]; omega) (by rw [hW.role]; decide), ⟨f1, h1.ev e2 hne (by omega) (by omega)⟩, ⟨f2, h2⟩⟩, (hB.ev e3 (by omega)).more (by omega), hF, h15, (hE _).trans (e3.mono fun r h => by omega)⟩

set_option maxRecDepth 4000 in
set_option maxHeartbeats 2000000 in
theorem groups_drop (N : Nat) (ρ : Nat → Nat) (w : World) (W T R B rT rR s : Nat) (gs : Nat → List Int) (n : Int) (x : Nat → Value) (h : Value) (m : Bool)
    (hN : N ≤ w.heap.size) (hF : Fr ρ w) (h15 : ∀ k, ρ k ≠ 15) (hW : Wd N ρ w W T R B rT rR gs) (hB : BkX N ρ w B s) (hT : 8 ≤ rT) (hT2 : rT ≤ 11) (hR : 8 ≤ rR) (hR2 : rR ≤ 11) (hne : rT ≠ rR) :
    Calls Tryz.prog 17 #[.pointer (some ⟨W, 0, none⟩), .agg (opA 3 n x h m)] w (SPost N ρ w W T R B rT rR s) := by
  obtain ⟨ρ0, w0, hw0, hNz, hsz, hE0, hF0, h150, hb0, hW0, hB0, hS0⟩ := boxed 3 n x h m hN hF h15 hW hB hT2 hR2
  have k0 : w0.cell? ⟨w.heap.size, 0, none⟩ = some (.int .i64 3) := (hS0 0 (by decide)).1
  have k1 : w0.cell? ⟨w.heap.size, 1, none⟩ = some (.int .i64 n) := (hS0 1 (by decide)).1
  have c0 : w0.cell? ⟨W, 0, none⟩ = some (.pointer (some ⟨T, 0, none⟩)) := (hW0.st 0 (by decide)).1
  have c1 : w0.cell? ⟨W, 1, none⟩ = some (.pointer (some ⟨R, 0, none⟩)) := (hW0.st 1 (by decide)).1
  have HE := Lib.hid hE0
  have hWl := hW0.st.lt (by decide)
  obtain ⟨f, hf⟩ := hW0.t
  obtain ⟨g, hg⟩ := hW0.r
  have HD := Lib.hid fun (w1 : World) (he : Ev (fun _ => False) ρ0 w0 ρ0 w1) => drop_one (hf.ev he id (by omega) id) (hF0.grow he.size) hT hT2 n
  have HR := Lib.hid fun (w1 : World) (he : Ev (fun q => q = rT) ρ0 w0 ρ0 w1) => rdrop_one (hg.ev he (fun h => hne h.symm) (by omega) (by omega)) (hF0.grow he.size) hR hR2 n
  have HN := Lib.hid (fun (c : Int) w => num_any c w)
  have HW := Lib.hid hW0
  have HB := Lib.hid hB0
  have H15 := Lib.hid h150
  have Hb0 := Lib.hid hb0
  obtain ⟨bx, hbx⟩ : ∃ bx, bx = w.heap.size := ⟨_, rfl⟩
  rw [← hbx] at k0 k1 hsz Hb0
  clear hW hB hF h15 hE0 hF0 h150 hb0 hW0 hB0 hS0 hf hg hN
  simp only [opA] at hw0
  have Hw0 := Lib.hid hw0
  have Hbx := Lib.hid hbx
  clear hw0 hbx
  unfold opA
  go_enter Tryz.func17, Tryz.ntmps17
  go_wp2
  rw [← Hw0.out, ← Hbx.out]
  go_region_with (go_at_call 45; refine (HD.out _ (by exact ⟨rfl, rfl, rfl, Nat.le_refl _, fun _ _ _ => rfl, fun _ _ _ _ => rfl⟩)).mono ?_; rintro e w1 ⟨c, gs1, f1, rfl, hd, hf1, hF1, he1⟩; have Hd := Lib.hid hd; have Hf1 := Lib.hid hf1; have He1 := Lib.hid (show Ev (fun q => q = rT) ρ0 w0 ρ0 w1 from ⟨he1.os, he1.tape, he1.output, he1.size, he1.role, he1.block⟩); clear hd hf1 hF1 he1)
  all_goals
    have k1' := (He1.out.cell 1 hsz (by rw [Hb0.out]; decide) (by rw [Hb0.out]; omega)).trans k1
    have c1' := (He1.out.cell 1 hWl (by rw [HW.out.role]; decide) (by rw [HW.out.role]; omega)).trans c1
    clear k0 k1 c0 c1 hsz
    go_wp2
    go_region_with (go_at_call 46; refine (HR.out _ (by exact ⟨He1.out.os, He1.out.tape, He1.out.output, He1.out.size, He1.out.role, He1.out.block⟩)).mono ?_; rintro e w2 ⟨c', gs2, f2, rfl, hd, hf2, hF2, he2⟩; have Hd2 := Lib.hid hd; have Hf2 := Lib.hid hf2; have HF2 := Lib.hid hF2; have He2 := Lib.hid (show Ev (fun q => q = rR) ρ0 w1 ρ0 w2 from ⟨he2.os, he2.tape, he2.output, he2.size, he2.role, he2.block⟩); clear hd hf2 hF2 he2)
  all_goals
    obtain ⟨rfl, rfl⟩ := DOut.one Hd.out Hd2.out
    have q3 : (c == c) = true := by simp
    go_wp2_with (go_at_call 23; refine (HN.out _ _).mono ?_; rintro e w4 ⟨rfl, rfl⟩)
    go_ret
    exact drop_fin HE.out HW.out HB.out H15.out HF2.out He1.out He2.out Hf1.out Hf2.out hT hT2 hR hR2 hne
end Go.Proofs.YtnfkgnjeamnhfaaGreat
