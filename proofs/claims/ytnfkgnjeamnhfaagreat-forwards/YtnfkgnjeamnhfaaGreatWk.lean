import Derived.Test.YtnfkgnjeamnhfaaGreatWf
import Derived.Test.YtnfkgnjeamnhfaaGreatWc
import Derived.Test.YtnfkgnjeamnhfaaGreatWh
import Derived.Test.YtnfkgnjeamnhfaaGreatWj
import Derived.Test.YtnfkgnjeamnhfaaGreatWp
import Derived.Test.YtnfkgnjeamnhfaaGreatWq
namespace Go.Proofs.YtnfkgnjeamnhfaaGreat
open Go.RowKit

/-- What a step of a script holds: its hops, its route, its changes. -/
structure Opq (N : Nat) (w : World) (x : Nat → Value) (ao : Option Addr) (n : Nat) : Prop where
  hops : ∃ xs, Rd w ao n xs
  hn : n ≤ 17592186044415
  hA : 0 < n → ∀ b off, ao = some ⟨b, off, none⟩ → b < N
  route : ∃ r : Rt, Fit r ∧ x 3 = .int .i64 r.f ∧ x 4 = .int .u64 r.hi ∧ x 5 = .int .u64 r.lo ∧ x 6 = .int .i64 r.n ∧ x 7 = .int .i64 r.g
  mm : ∃ l, x 2 = .int .i64 l
  adr : ∃ a : Ad, FitA a ∧ x 8 = .int .i64 a.1 ∧ x 9 = .int .u64 a.2.1 ∧ x 10 = .int .u64 a.2.2
  flow : ∃ fl : Nat, fl ≤ 18446744073709551615 ∧ x 11 = .int .u64 fl
  str : ∃ sx : ByteArray, sx.size ≤ maxLen ∧ x 14 = .string sx
  list : ∃ co z cap ch, x 13 = .slice co z cap ∧ RdC w co z ch ∧ (∀ c ∈ ch, Fit c.r) ∧ z ≤ 2932031007317 ∧ (0 < z → ∀ b off, co = some ⟨b, off, none⟩ → b < N)
theorem Opq.ev {Q : Nat → Prop} {N : Nat} {ρ ρ' : Nat → Nat} {w w' : World} {x : Nat → Value} {ao : Option Addr} {n : Nat} (h : Opq N w x ao n) (he : Ev Q ρ w ρ' w') (hρ : ∀ b, b < N → ρ b = 0) (hQ : ¬ Q 0) : Opq N w' x ao n := by
  obtain ⟨xs, hx⟩ := h.hops
  obtain ⟨co, z, cap, ch, h1, h2, h3, h4, h5⟩ := h.list
  refine ⟨⟨xs, hx.evq he h.hA hρ hQ⟩, h.hn, h.hA, h.route, h.mm, h.adr, h.flow, h.str, co, z, cap, ch, h1, ?_, h3, h4, h5⟩
  rcases Nat.eq_zero_or_pos z with hz0 | hz0
  · exact ⟨h2.1, .inl hz0⟩
  · exact h2.same he.size (fun b off hb hlt => he.block b hlt (by rw [hρ b (h5 hz0 b off hb)]; decide) (by rw [hρ b (h5 hz0 b off hb)]; exact hQ))
theorem SPq.box {N : Nat} {ρ ρ0 : Nat → Nat} {w w0 : World} {W T R B rT rR s : Nat} {lim : Int} {e : Ending} {w' : World} (h : SPq N ρ0 w0 W T R B rT rR lim s e w') (hE : ∀ R, Ev R ρ w ρ0 w0) : SPq N ρ w W T R B rT rR lim s e w' := by
  obtain ⟨h1, ρ', gs', cs', rs', h2, h3, h4, h5, h6⟩ := h
  exact ⟨h1, ρ', gs', cs', rs', h2, h3, h4, h5, (hE _).trans h6⟩
theorem groupsq_any (N : Nat) (ρ : Nat → Nat) (w : World) (W T R B rT rR s : Nat) (gs : Nat → List Int) (cs rs : List Rt) (lim : Int) (k i : Int) (x : Nat → Value) (m : Bool) (ao : Option Addr) (n cap : Nat)
    (hN : N ≤ w.heap.size) (hF : Fr ρ w) (h15 : ∀ k, ρ k ≠ 15) (hW : Wq N ρ w W T R B rT rR gs cs rs lim) (hB : BqX N ρ w B s) (hs : s ≤ 1000000000000) (hT : 8 ≤ rT) (hT2 : rT ≤ 11) (hR : 8 ≤ rR) (hR2 : rR ≤ 11) (hne : rT ≠ rR)
    (ho : Opq N w x ao n) (hρ : ∀ b, b < N → ρ b = 0) (hk : k = 1 ∨ k = 2 ∨ k = 3) :
    Calls Tryz.prog 17 #[.pointer (some ⟨W, 0, none⟩), .agg (opA k i x (.slice ao n cap) m)] w (SPq N ρ w W T R B rT rR lim s) := by
  obtain ⟨xs, hx⟩ := ho.hops
  rcases hk with rfl | rfl | rfl
  · exact groupsq_group N ρ w W T R B rT rR s gs cs rs lim i x m ao n cap xs hN hF h15 hW hB (by omega) hT hT2 hR hR2 hne hx ho.hn ho.hA hρ
  · exact groupsq_hops N ρ w W T R B rT rR s gs cs rs lim i x _ m hN hF h15 hW hB hs hT hT2 hR hR2
  · exact groupsq_drop N ρ w W T R B rT rR s gs cs rs lim i x _ m hN hF h15 hW hB hT hT2 hR hR2 hne
theorem routesq_any (N : Nat) (ρ : Nat → Nat) (w : World) (W T R B rT rR s : Nat) (gs : Nat → List Int) (cs rs : List Rt) (lim : Int) (k i : Int) (x : Nat → Value) (m : Bool) (ao : Option Addr) (n cap : Nat)
    (hN : N ≤ w.heap.size) (hF : Fr ρ w) (h15 : ∀ k, ρ k ≠ 15) (hW : Wq N ρ w W T R B rT rR gs cs rs lim) (hB : BqX N ρ w B s) (hs : s ≤ 1000000000000) (hT : 8 ≤ rT) (hT2 : rT ≤ 11) (hR : 8 ≤ rR) (hR2 : rR ≤ 11) (hne : rT ≠ rR)
    (ho : Opq N w x ao n) (hρ : ∀ b, b < N → ρ b = 0) (hk : k = 4 ∨ k = 5 ∨ k = 6 ∨ k = 7) :
    Calls Tryz.prog 18 #[.pointer (some ⟨W, 0, none⟩), .agg (opA k i x (.slice ao n cap) m)] w (SPq N ρ w W T R B rT rR lim s) := by
  obtain ⟨r, hfit, x3, x4, x5, x6, x7⟩ := ho.route
  obtain ⟨co, z, ccap, ch, l1, l2, l3, l4, l5⟩ := ho.list
  rcases hk with rfl | rfl | rfl | rfl
  · exact routes_put N ρ w W T R B rT rR s gs cs rs lim i x _ m r hfit x3 x4 x5 x6 x7 hN hF h15 hW hB hT hT2 hR hR2 hne
  · exact routes_take N ρ w W T R B rT rR s gs cs rs lim i x _ m r hfit x3 x4 x5 x6 hN hF h15 hW hB hT hT2 hR hR2 hne
  · exact routes_dump N ρ w W T R B rT rR s gs cs rs lim i x _ m hN hF h15 hW hB hs hT hT2 hR hR2
  · exact routes_batch N ρ w W T R B rT rR s gs cs rs lim i x _ m co z ccap ch l1 l2 l3 l4 (fun h0 b off hb _ => hρ b (l5 h0 b off hb)) 7 rfl rfl rfl hN hF h15 hW hB (by omega) hT hT2 hR hR2 hne
set_option maxRecDepth 4000 in
set_option maxHeartbeats 4000000 in
theorem stepq_arm1 {w : World} {W : Nat} {i : Int} {x : Nat → Value} {h : Value} {m : Bool} {P : World → Prop}
    (HG : Calls Tryz.prog 17 #[.pointer (some ⟨W, 0, none⟩), .agg (opA 1 i x h m)] (w.alloc (.cells (opA 1 i x h m) 39)) (fun e w' => e = .returned (.bool true) ∧ P w')) :
    Calls Tryz.prog 12 #[.pointer (some ⟨W, 0, none⟩), .agg (opA 1 i x h m)] w (fun e w' => e = .returned (.bool true) ∧ P w') := by
  simp only [opA] at HG
  have HG := Lib.hid HG
  unfold opA
  go_enter Tryz.func12, Tryz.ntmps12
  go_wp2_with fail
  refine HG.out.mono ?_
  rintro e w1 ⟨rfl, hp⟩
  go_wp2
  go_ret
  exact ⟨rfl, hp⟩
set_option maxRecDepth 4000 in
set_option maxHeartbeats 4000000 in
theorem stepq_arm2 {w : World} {W : Nat} {i : Int} {x : Nat → Value} {h : Value} {m : Bool} {P : World → Prop}
    (HG : Calls Tryz.prog 17 #[.pointer (some ⟨W, 0, none⟩), .agg (opA 2 i x h m)] (w.alloc (.cells (opA 2 i x h m) 39)) (fun e w' => e = .returned (.bool true) ∧ P w')) :
    Calls Tryz.prog 12 #[.pointer (some ⟨W, 0, none⟩), .agg (opA 2 i x h m)] w (fun e w' => e = .returned (.bool true) ∧ P w') := by
  simp only [opA] at HG
  have HG := Lib.hid HG
  unfold opA
  go_enter Tryz.func12, Tryz.ntmps12
  go_wp2_with fail
  refine HG.out.mono ?_
  rintro e w1 ⟨rfl, hp⟩
  go_wp2
  go_ret
  exact ⟨rfl, hp⟩
set_option maxRecDepth 4000 in
set_option maxHeartbeats 4000000 in
theorem stepq_arm3 {w : World} {W : Nat} {i : Int} {x : Nat → Value} {h : Value} {m : Bool} {P : World → Prop}
    (HG : Calls Tryz.prog 17 #[.pointer (some ⟨W, 0, none⟩), .agg (opA 3 i x h m)] (w.alloc (.cells (opA 3 i x h m) 39)) (fun e w' => e = .returned (.bool true) ∧ P w')) :
    Calls Tryz.prog 12 #[.pointer (some ⟨W, 0, none⟩), .agg (opA 3 i x h m)] w (fun e w' => e = .returned (.bool true) ∧ P w') := by
  simp only [opA] at HG
  have HG := Lib.hid HG
  unfold opA
  go_enter Tryz.func12, Tryz.ntmps12
  go_wp2_with fail
  refine HG.out.mono ?_
  rintro e w1 ⟨rfl, hp⟩
  go_wp2
  go_ret
  exact ⟨rfl, hp⟩
set_option maxRecDepth 4000 in
set_option maxHeartbeats 4000000 in
theorem stepq_arm4 {w : World} {W : Nat} {i : Int} {x : Nat → Value} {h : Value} {m : Bool} {P : World → Prop}
    (HG : Calls Tryz.prog 18 #[.pointer (some ⟨W, 0, none⟩), .agg (opA 4 i x h m)] (w.alloc (.cells (opA 4 i x h m) 39)) (fun e w' => e = .returned (.bool true) ∧ P w')) :
    Calls Tryz.prog 12 #[.pointer (some ⟨W, 0, none⟩), .agg (opA 4 i x h m)] w (fun e w' => e = .returned (.bool true) ∧ P w') := by
  simp only [opA] at HG
  have HG := Lib.hid HG
  unfold opA
  go_enter Tryz.func12, Tryz.ntmps12
  go_wp2_with fail
  refine HG.out.mono ?_
  rintro e w1 ⟨rfl, hp⟩
  go_wp2
  go_ret
  exact ⟨rfl, hp⟩
set_option maxRecDepth 4000 in
set_option maxHeartbeats 4000000 in
theorem stepq_arm5 {w : World} {W : Nat} {i : Int} {x : Nat → Value} {h : Value} {m : Bool} {P : World → Prop}
    (HG : Calls Tryz.prog 18 #[.pointer (some ⟨W, 0, none⟩), .agg (opA 5 i x h m)] (w.alloc (.cells (opA 5 i x h m) 39)) (fun e w' => e = .returned (.bool true) ∧ P w')) :
    Calls Tryz.prog 12 #[.pointer (some ⟨W, 0, none⟩), .agg (opA 5 i x h m)] w (fun e w' => e = .returned (.bool true) ∧ P w') := by
  simp only [opA] at HG
  have HG := Lib.hid HG
  unfold opA
  go_enter Tryz.func12, Tryz.ntmps12
  go_wp2_with fail
  refine HG.out.mono ?_
  rintro e w1 ⟨rfl, hp⟩
  go_wp2
  go_ret
  exact ⟨rfl, hp⟩
set_option maxRecDepth 4000 in
set_option maxHeartbeats 4000000 in
theorem stepq_arm6 {w : World} {W : Nat} {i : Int} {x : Nat → Value} {h : Value} {m : Bool} {P : World → Prop}
    (HG : Calls Tryz.prog 18 #[.pointer (some ⟨W, 0, none⟩), .agg (opA 6 i x h m)] (w.alloc (.cells (opA 6 i x h m) 39)) (fun e w' => e = .returned (.bool true) ∧ P w')) :
    Calls Tryz.prog 12 #[.pointer (some ⟨W, 0, none⟩), .agg (opA 6 i x h m)] w (fun e w' => e = .returned (.bool true) ∧ P w') := by
  simp only [opA] at HG
  have HG := Lib.hid HG
  unfold opA
  go_enter Tryz.func12, Tryz.ntmps12
  go_wp2_with fail
  refine HG.out.mono ?_
  rintro e w1 ⟨rfl, hp⟩
  go_wp2
  go_ret
  exact ⟨rfl, hp⟩
set_option maxRecDepth 4000 in
set_option maxHeartbeats 4000000 in
theorem stepq_arm7 {w : World} {W : Nat} {i : Int} {x : Nat → Value} {h : Value} {m : Bool} {P : World → Prop}
    (HG : Calls Tryz.prog 18 #[.pointer (some ⟨W, 0, none⟩), .agg (opA 7 i x h m)] (w.alloc (.cells (opA 7 i x h m) 39)) (fun e w' => e = .returned (.bool true) ∧ P w')) :
    Calls Tryz.prog 12 #[.pointer (some ⟨W, 0, none⟩), .agg (opA 7 i x h m)] w (fun e w' => e = .returned (.bool true) ∧ P w') := by
  simp only [opA] at HG
  have HG := Lib.hid HG
  unfold opA
  go_enter Tryz.func12, Tryz.ntmps12
  go_wp2_with fail
  refine HG.out.mono ?_
  rintro e w1 ⟨rfl, hp⟩
  go_wp2
  go_ret
  exact ⟨rfl, hp⟩
set_option maxRecDepth 4000 in
set_option maxHeartbeats 4000000 in
theorem stepq_arm8 {w : World} {W : Nat} {i : Int} {x : Nat → Value} {h : Value} {m : Bool} {P : World → Prop}
    (HG : Calls Tryz.prog 13 #[.pointer (some ⟨W, 0, none⟩), .agg (opA 8 i x h m)] (w.alloc (.cells (opA 8 i x h m) 39)) (fun e w' => e = .returned (.bool true) ∧ P w')) :
    Calls Tryz.prog 12 #[.pointer (some ⟨W, 0, none⟩), .agg (opA 8 i x h m)] w (fun e w' => e = .returned (.bool true) ∧ P w') := by
  simp only [opA] at HG
  have HG := Lib.hid HG
  unfold opA
  go_enter Tryz.func12, Tryz.ntmps12
  go_wp2_with fail
  refine HG.out.mono ?_
  rintro e w1 ⟨rfl, hp⟩
  go_wp2
  go_ret
  exact ⟨rfl, hp⟩
set_option maxRecDepth 4000 in
set_option maxHeartbeats 4000000 in
theorem stepq_arm9 {w : World} {W : Nat} {i : Int} {x : Nat → Value} {h : Value} {m : Bool} {P : World → Prop}
    (HG : Calls Tryz.prog 13 #[.pointer (some ⟨W, 0, none⟩), .agg (opA 9 i x h m)] (w.alloc (.cells (opA 9 i x h m) 39)) (fun e w' => e = .returned (.bool true) ∧ P w')) :
    Calls Tryz.prog 12 #[.pointer (some ⟨W, 0, none⟩), .agg (opA 9 i x h m)] w (fun e w' => e = .returned (.bool true) ∧ P w') := by
  simp only [opA] at HG
  have HG := Lib.hid HG
  unfold opA
  go_enter Tryz.func12, Tryz.ntmps12
  go_wp2_with fail
  refine HG.out.mono ?_
  rintro e w1 ⟨rfl, hp⟩
  go_wp2
  go_ret
  exact ⟨rfl, hp⟩
theorem asksq_any (N : Nat) (ρ : Nat → Nat) (w : World) (W T R B rT rR s : Nat) (gs : Nat → List Int) (cs rs : List Rt) (lim : Int) (k i : Int) (x : Nat → Value) (m : Bool) (ao : Option Addr) (n cap : Nat)
    (hN : N ≤ w.heap.size) (hF : Fr ρ w) (h15 : ∀ k, ρ k ≠ 15) (hW : Wq N ρ w W T R B rT rR gs cs rs lim) (hB : BqX N ρ w B s) (hs : s ≤ 1000000000000) (hT : 8 ≤ rT) (hT2 : rT ≤ 11) (hR : 8 ≤ rR) (hR2 : rR ≤ 11)
    (ho : Opq N w x ao n) (hk : k = 8 ∨ k = 9) :
    Calls Tryz.prog 13 #[.pointer (some ⟨W, 0, none⟩), .agg (opA k i x (.slice ao n cap) m)] w (SPq N ρ w W T R B rT rR lim s) := by
  obtain ⟨l, hl⟩ := ho.mm
  rcases hk with rfl | rfl
  · exact asksq_lens N ρ w W T R B rT rR s gs cs rs lim i x _ m hN hF h15 hW hB hs hT hT2 hR hR2
  · exact asksq_ents N ρ w W T R B rT rR s gs cs rs lim i l x hl _ m hN hF h15 hW hB hs hT hT2 hR hR2
set_option maxRecDepth 4000 in
set_option maxHeartbeats 4000000 in
theorem stepq_else {w : World} {W : Nat} {k i : Int} {x : Nat → Value} {h : Value} {m : Bool} (hk : k < 1) :
    Calls Tryz.prog 12 #[.pointer (some ⟨W, 0, none⟩), .agg (opA k i x h m)] w (fun e w' => e = .returned (.bool true) ∧ w' = w.alloc (.cells (opA k i x h m) 39)) := by
  have e1 : (k == 1) = false := ine_beq (by omega)
  have e2 : (k == 2) = false := ine_beq (by omega)
  have e3 : (k == 3) = false := ine_beq (by omega)
  have e4 : (k == 4) = false := ine_beq (by omega)
  have e5 : (k == 5) = false := ine_beq (by omega)
  have e6 : (k == 6) = false := ine_beq (by omega)
  have e7 : (k == 7) = false := ine_beq (by omega)
  have e8 : (k == 8) = false := ine_beq (by omega)
  have e9 : (k == 9) = false := ine_beq (by omega)
  have e10 : (k == 10) = false := ine_beq (by omega)
  have e11 : (k == 11) = false := ine_beq (by omega)
  have e12 : (k == 12) = false := ine_beq (by omega)
  clear hk
  simp only [opA]
  go_enter Tryz.func12, Tryz.ntmps12
  go_wp2
  go_ret
  exact ⟨rfl, rfl⟩
theorem stepq_any (N : Nat) (ρ : Nat → Nat) (w : World) (W T R B rT rR s : Nat) (gs : Nat → List Int) (cs rs : List Rt) (lim : Int) (k i : Int) (x : Nat → Value) (m : Bool) (ao : Option Addr) (n cap : Nat)
    (hN : N ≤ w.heap.size) (hF : Fr ρ w) (h15 : ∀ k, ρ k ≠ 15) (hW : Wq N ρ w W T R B rT rR gs cs rs lim) (hB : BqX N ρ w B s) (hs : s ≤ 1000000000000) (hT : 8 ≤ rT) (hT2 : rT ≤ 11) (hR : 8 ≤ rR) (hR2 : rR ≤ 11) (hne : rT ≠ rR)
    (ho : Opq N w x ao n) (hρ : ∀ b, b < N → ρ b = 0) (hk : k ≤ 9) :
    Calls Tryz.prog 12 #[.pointer (some ⟨W, 0, none⟩), .agg (opA k i x (.slice ao n cap) m)] w (SPq N ρ w W T R B rT rR lim s) := by
  obtain ⟨ρ0, w0, hw0, hNz, hsz, hE0, hF0, h150, hb0, hW0, hB0, hS0⟩ := boxq k i x (.slice ao n cap) m hN hF h15 hW hB hT hT2 hR hR2
  have hρ0 : ∀ b, b < N → ρ0 b = 0 := fun b hb => by rw [(hE0 (fun _ => False)).role b (by omega) (by rw [hρ b hb]; decide), hρ b hb]
  have ho0 : Opq N w0 x ao n := ho.ev (hE0 (fun _ => False)) hρ id
  have hbox : ∀ e w', SPq N ρ0 w0 W T R B rT rR lim s e w' → SPq N ρ w W T R B rT rR lim s e w' := fun e w' h => h.box hE0
  by_cases hk1 : k = 1 ∨ k = 2 ∨ k = 3
  · have HG := groupsq_any N ρ0 w0 W T R B rT rR s gs cs rs lim k i x m ao n cap hNz hF0 h150 hW0 hB0 hs hT hT2 hR hR2 hne ho0 hρ0 hk1
    rw [hw0] at HG hbox
    rcases hk1 with rfl | rfl | rfl
    · exact (stepq_arm1 HG).mono hbox
    · exact (stepq_arm2 HG).mono hbox
    · exact (stepq_arm3 HG).mono hbox
  by_cases hk2 : k = 4 ∨ k = 5 ∨ k = 6 ∨ k = 7
  · have HG := routesq_any N ρ0 w0 W T R B rT rR s gs cs rs lim k i x m ao n cap hNz hF0 h150 hW0 hB0 hs hT hT2 hR hR2 hne ho0 hρ0 hk2
    rw [hw0] at HG hbox
    rcases hk2 with rfl | rfl | rfl | rfl
    · exact (stepq_arm4 HG).mono hbox
    · exact (stepq_arm5 HG).mono hbox
    · exact (stepq_arm6 HG).mono hbox
    · exact (stepq_arm7 HG).mono hbox
  by_cases hk3 : k = 8 ∨ k = 9
  · have HG := asksq_any N ρ0 w0 W T R B rT rR s gs cs rs lim k i x m ao n cap hNz hF0 h150 hW0 hB0 hs hT hT2 hR hR2 ho0 hk3
    rw [hw0] at HG hbox
    rcases hk3 with rfl | rfl
    · exact (stepq_arm8 HG).mono hbox
    · exact (stepq_arm9 HG).mono hbox
  · refine (stepq_else (by omega)).mono ?_
    rintro e w' ⟨rfl, rfl⟩
    rw [← hw0]
    exact ⟨rfl, ρ0, gs, cs, rs, hW0, hB0.more (Nat.le_succ s), hF0, h150, hE0 _⟩
end Go.Proofs.YtnfkgnjeamnhfaaGreat
