import Derived.Test.YtnfkgnjeamnhfabKb
namespace Go.Proofs.Ytnfkgnjeamnhfab
open Go.RowKit Go.Sort

def rho0 (n : Nat) : Nat → Nat := fun k => if k < n then 0 else 14
theorem wh0 (w : World) : Wh w.heap.size (rho0 w.heap.size) w := ⟨Nat.le_refl _, fun k hk => if_neg (by omega), fun k => by unfold rho0; split <;> decide⟩
theorem below_ev {w w' : World} {ρ' : Nat → Nat} (h : Ev (fun q => 1 ≤ q) (rho0 w.heap.size) w ρ' w') : Below w.heap.size w w' :=
  ⟨h.os, h.tape, h.output, h.size, fun k hk => h.block k hk (by simp [rho0, hk]) (by simp [rho0, hk])⟩
theorem below_r {R : Nat → Prop} {ρ ρ' : Nat → Nat} {w w1 w2 : World} (h : Ev R ρ w ρ' w1) (hb : Below w1.heap.size w1 w2) : Ev R ρ w ρ' w2 := h.trans (Ev.of_below ρ' hb)
theorem rd_five (w : World) : Rd (w.alloc (.cells #[.int .i64 5] 3)) (some ⟨w.heap.size, 0, none⟩) 1 [5] :=
  ⟨rfl, .inr ⟨_, _, rfl, fun j x hx => by
    rcases j with _ | j
    · simp at hx; subst hx; simp
    · simp at hx⟩⟩
set_option maxRecDepth 4000 in
set_option maxHeartbeats 2000000 in
theorem sure_any (w : World) : Calls Try.prog 31 #[] w fun e w' => e = .returned (.bool true) ∧ Below w.heap.size w w' := by
  have H1 := Lib.hid (newq_any 1 7 9 w (by decide) (by decide))
  go_enter Try.func31, Try.ntmps31
  go_wp2_with (go_at_call 32; refine H1.out.mono ?_; rintro e w1 ⟨rfl, hn⟩; have HN := Lib.hid hn; clear hn)
  obtain ⟨ρ1, k1, k2, k3⟩ := kt_new (rS := 8) (by unfold Rg; decide) (by decide) (by decide) (wh0 w) (by decide) (by decide) HN.out
  have hb1 : Below w1.heap.size w1 (w1.alloc (.cells #[.int .i64 5] 3)) := box1 _ _
  have G1 := Lib.hid (kt_group (k1.below hb1 (by decide) (by decide)) (k2.below hb1) (by decide) (by decide) (cap := 1) (rd_five w1) (by unfold maxLen; omega))
  have E1 := Lib.hid (below_r (k3 (fun q => 1 ≤ q)) hb1)
  clear k1 k2 k3 hb1
  go_wp2_with fail
  refine G1.out.mono ?_
  rintro e w2 ⟨a, b, gs, rfl, hg, ρ2, k1, k2, k3⟩
  obtain ⟨rfl, rfl, hb, -⟩ := gout_first hg
  have E2 := Lib.hid (E1.out.trans (k3.mono fun q h => by omega))
  obtain ⟨ρ3, b1, b2, b3⟩ := kt_box k2 (.cells #[.int .i64 4, .int .u64 0, .int .u64 0, .int .i64 0, .int .i64 0] 45)
  have hst : St (w2.alloc (.cells #[.int .i64 4, .int .u64 0, .int .u64 0, .int .i64 0, .int .i64 0] 45)) w2.heap.size 5 (fun j => (#[Value.int .i64 4, .int .u64 0, .int .u64 0, .int .i64 0, .int .i64 0]).getD j undef) := St.new w2 _ _
  have P1 := Lib.hid (kt_put (k1.evs b3 (by decide) (by decide)) b1 (by decide) (by decide) allR (by unfold Fit; decide))
  rw [put_all hb] at P1
  have E3 := Lib.hid (E2.out.trans (b3 _))
  have HB := Lib.hid (And.intro hst b2)
  clear k1 k2 k3 hg G1 E1 E2 b1 b2 b3 hst
  go_wp2_with fail
  refine P1.out.mono ?_
  rintro e w3 ⟨rfl, ρ4, k1, k2, k3⟩
  have hst := HB.out.1.ev (by decide) k3 (by rw [HB.out.2]; decide) (by rw [HB.out.2]; decide)
  have hr13 : ρ4 w2.heap.size = 13 := by rw [k3.role _ (HB.out.1.lt (by decide)) (by rw [HB.out.2]; decide)]; exact HB.out.2
  have a0 := hst 0 (by decide)
  have a1 := hst 1 (by decide)
  have a2 := hst 2 (by decide)
  have a3 := hst 3 (by decide)
  have a4 := hst 4 (by decide)
  simp at a0 a1 a2 a3 a4
  have E4 := Lib.hid (E3.out.trans (k3.mono fun q h => by omega))
  generalize w2.heap.size = bx at a0 a1 a2 a3 a4 hr13 hst ⊢
  have HB2 := Lib.hid (And.intro hst hr13)
  obtain ⟨ρ5, b1, b2, b3⟩ := kt_box k2 (.cells #[.int .i64 6, .int .u64 0, .int .u64 0, .int .i64 0, .int .i64 0] 45)
  have P2 := Lib.hid (kt_put (k1.evs b3 (by decide) (by decide)) b1 (by decide) (by decide) sixR (by unfold Fit; decide))
  rw [put_six hb] at P2
  have E5 := Lib.hid (E4.out.trans (b3 _))
  have hlb := HB2.out.1.lt (by decide)
  have HB3 := Lib.hid (And.intro (HB2.out.1.ev (by decide) (b3 (fun _ => False)) id (by rw [HB2.out.2]; decide)) ((b3 (fun _ => False)).role bx hlb (by rw [HB2.out.2]; decide)))
  clear k1 k2 k3 hst HB P1 E3 b1 b2 b3 E4 hlb
  go_wp2_with fail
  refine P2.out.mono ?_
  rintro e w4 ⟨rfl, ρ6, k1, k2, k3⟩
  have hr5 : ρ5 bx = 13 := by rw [HB3.out.2]; exact hr13
  have HB4 := Lib.hid (HB3.out.1.ev (by decide) k3 (by rw [hr5]; decide) (by rw [hr5]; decide))
  have E6 := Lib.hid (E5.out.trans (k3.mono fun q h => by omega))
  have D1 := Lib.hid (kt_dump k1 4)
  have K1 := Lib.hid k1
  clear k1 k2 k3 hr5 HB2 HB3 P2 E5 hr13 a0 a1 a2 a3 a4
  go_wp2_with fail
  refine D1.out.mono ?_
  rintro e w5 ⟨ao, n, cap, rfl, rfl, hrow, hb5⟩
  have k1 := K1.out.below hb5 (by decide) (by decide)
  obtain ⟨f, hf⟩ := k1.t
  have D2 := Lib.hid (drop2_any w.heap.size w.heap.size f gs [allR] 0 w5 hf.rq.st hf.Ls hf.rq.row.1)
  have HRw := Lib.hid hrow
  have HB5 := Lib.hid (HB4.out.below hb5 (HB4.out.lt (by decide)))
  have E7 := Lib.hid (below_r E6.out hb5)
  clear k1 hf hrow hb5 D1 K1 HB4 E6
  go_wp2_with fail
  refine D2.out.mono ?_
  intro e w6 hd
  have hd6 : e = .returned (.int .i64 10) ∧ Below w5.heap.size w5 w6 := by
    rcases hd with ⟨h1, -⟩ | ⟨-, -, h1, h2⟩ | ⟨-, h1, -⟩
    · rw [hb] at h1; cases h1
    · exact ⟨h1, h2⟩
    · exact absurd h1 (by decide)
  obtain ⟨rfl, hb6⟩ := hd6
  have hrw := RwO.far HRw.out hb6 (fun g hg => (World.ownsRow.lt HRw.out g hg).2)
  obtain ⟨g, rfl, hat, -, -, -⟩ := hrw.at (k := 0) (r := allR) rfl
  have hst := HB5.out.below hb6 (HB5.out.lt (by decide))
  have a0 := hst 0 (by decide)
  have a1 := hst 1 (by decide)
  have a2 := hst 2 (by decide)
  have a3 := hst 3 (by decide)
  have a4 := hst 4 (by decide)
  simp at a0 a1 a2 a3 a4
  have z0 : w6.cell? ⟨g, 0, none⟩ = some (.int .i64 4) := hat.c0
  have z1 : w6.cell? ⟨g, 1, none⟩ = some (.int .u64 0) := hat.c1
  have z2 : w6.cell? ⟨g, 2, none⟩ = some (.int .u64 0) := hat.c2
  have z3 : w6.cell? ⟨g, 3, none⟩ = some (.int .i64 0) := hat.c3
  have z4 : w6.cell? ⟨g, 4, none⟩ = some (.int .i64 0) := hat.c4
  have E8 := Lib.hid (below_ev (below_r E7.out hb6))
  have hl1 : (dumpT [allR] 4).length = 1 := rfl
  clear hd hb6 hrw hat hst HRw HB5 E7 D2
  have he (w : World) : Sem.run Try.prog (binOp BinOp.eql 45 (.agg #[.int .i64 4, .int .u64 0, .int .u64 0, .int .i64 0, .int .i64 0]) (.agg #[.int .i64 4, .int .u64 0, .int .u64 0, .int .i64 0, .int .i64 0])) w = .ok (.bool true) w := by simp [go_sem]
  rw [hl1, show famE 4 = 0 from rfl]
  go_wp2_with fail
  go_quiet (fail)
  go_wp2
  go_ret
  exact ⟨rfl, ⟨E8.out.os, E8.out.tape, E8.out.output, E8.out.size, E8.out.block⟩⟩
end Go.Proofs.Ytnfkgnjeamnhfab
