import Derived.Test.YtnfkgnjeamnhfaaGreatBi
namespace Go.Proofs.YtnfkgnjeamnhfaaGreat
open Go.RowKit

theorem eqC_self (c : Ch) (w : World) : Sem.run Tryz.prog (binOp BinOp.eql 152 (.agg #[.int .i64 c.k, .int .i64 c.r.f, .int .u64 c.r.hi, .int .u64 c.r.lo, .int .i64 c.r.n, .int .i64 c.r.g]) (.agg #[.int .i64 c.k, .int .i64 c.r.f, .int .u64 c.r.hi, .int .u64 c.r.lo, .int .i64 c.r.n, .int .i64 c.r.g])) w = .ok (.bool true) w := by
  simp [go_sem]
/-- What a handed list of changes reads as, k places turned. -/
def turnC (cs : List Ch) (m : Int) (k : Nat) : List Ch := List.replicate k (mkCh m) ++ (cs ++ [mkCh (-7)]).drop k
theorem turnC_zero (cs : List Ch) (m : Int) : turnC cs m 0 = cs ++ [mkCh (-7)] := by simp [turnC]
theorem turnC_len {cs : List Ch} {m : Int} {k : Nat} (h : k ≤ cs.length + 1) : (turnC cs m k).length = cs.length + 1 := by simp [turnC]; omega
theorem turnC_set {cs : List Ch} {m : Int} {k : Nat} (h : k < cs.length + 1) : (turnC cs m k).set k (mkCh m) = turnC cs m (k + 1) := set_gen _ _ _ (by simp; omega)
theorem turnC_at {cs : List Ch} {m : Int} {k : Nat} {c : Ch} (h : cs[k]? = some c) : (turnC cs m k)[k]? = some c := by
  have hk : k < cs.length := (List.getElem?_eq_some_iff.1 h).1
  unfold turnC
  rw [List.getElem?_append_right (by simp)]
  simp only [List.length_replicate, Nat.sub_self, List.getElem?_drop, Nat.add_zero]
  rw [List.getElem?_append_left hk, h]
theorem turnC_last {cs : List Ch} {m : Int} {k : Nat} (h : k ≤ cs.length) : (turnC cs m k)[cs.length]? = some (mkCh (-7)) := by
  unfold turnC
  rw [List.getElem?_append_right (by simpa using h)]
  simp only [List.length_replicate, List.getElem?_drop]
  rw [show k + (cs.length - k) = cs.length by omega]
  simp
theorem turnC_all {cs : List Ch} {m : Int} : turnC cs m (cs.length + 1) = List.replicate (cs.length + 1) (mkCh m) := by
  unfold turnC
  rw [List.drop_of_length_le (by simp), List.append_nil]
theorem grown_dN {w w1 : World} {o : Option Nat} (h : w.grownBy w1 o) (d : Nat) : w.grownBy (w1.drewN d) o := ⟨h.os, h.tape, h.output, h.size, h.block⟩
theorem grown6b (w : World) (g o : Nat) (a b c d e f : Value) : w.grownBy ((((((w.setCell ⟨g, o, none⟩ a).setCell ⟨g, o + 1, none⟩ b).setCell ⟨g, o + 2, none⟩ c).setCell ⟨g, o + 3, none⟩ d).setCell ⟨g, o + 4, none⟩ e).setCell ⟨g, o + 5, none⟩ f) (some g) :=
  grown_trans (grown5 w g o a b c d e) (grown_set _ _ _ _)
theorem RwC.setOther {w : World} {N b o : Nat} {v : Value} {cs : List Ch} (h : RwC w N v cs) (hv : ∀ k, v.ownBlock = some k → k ≠ b) (x : Value) : RwC (w.setCell ⟨b, o, none⟩ x) N v cs := by
  refine ⟨h.1, ?_⟩
  rcases h.2 with h1 | ⟨g, cap, cur, h1, hN, hgg, rest⟩
  · exact .inl h1
  · exact .inr ⟨g, cap, cur, h1, hN, (Below.heap_setCell w ⟨b, o, none⟩ x g (hv g (by rw [h1]; rfl))).trans hgg, rest⟩
theorem turnC_bo {N : Nat} {ρ ρ1 ρ3 ρ5 : Nat → Nat} {w w1 w4 w6 : World} {B g n : Nat} {mark m : Int} {F : Nat → Value} {v' u' s : Value} {LI LR LE LC : List (Value × Int)} {K : List (Value × Value)}
    (hb : Bo N ρ w B mark F LI LR LE LC K) (hE1 : Ev (fun q => q = 1) ρ w ρ1 w1) (hE3 : Ev (fun q => q = 1 ∨ q = 22) ρ1 w1 ρ3 w4) (hE5 : Ev (fun q => q = 1 ∨ q = 23) ρ3 w4 ρ5 w6) (hO3 : Own N ρ3 w4 22 37 v' (LC.length + 1) (LC.map (·.1) ++ [s])) (hS5 : St w6 B 11 (upd (upd (upd F 0 (.int .i64 m)) 9 v') 10 u')) (hO5 : Own N ρ5 w6 23 3 u' (LC.length + 1) (LC.map (fun p => .int .i64 p.2) ++ [.int .i64 m]))
    (hs : OwnZ N ρ1 w1 25 152 6 s n (rep n (patC m))) (hg : g = g) : Bo N ρ5 w6 B m (upd (upd (upd F 0 (.int .i64 m)) 9 v') 10 u') LI LR LE (LC ++ [(s, m)]) K := by
  have _ := hg
  have hBl := hb.st.lt (by decide)
  have r1 : ρ1 B = 1 := by rw [hE1.role B hBl (by rw [hb.rB]; decide)]; exact hb.rB
  have r3 : ρ3 B = 1 := by rw [hE3.role B (Nat.lt_of_lt_of_le hBl hE1.size) (by rw [r1]; decide)]; exact r1
  have hj : ∀ j, j ≠ 0 → j ≠ 9 → j ≠ 10 → upd (upd (upd F 0 (.int .i64 m)) 9 v') 10 u' j = F j := fun j a b c => by rw [upd_ne c, upd_ne b, upd_ne a]
  have hE : Ev (fun q => q = 1 ∨ q = 22 ∨ q = 23) ρ w ρ5 w6 := ((hE1.mono (fun _ h => .inl h)).trans (hE3.mono (fun _ h => h.elim .inl (fun h => .inr (.inl h))))).trans (hE5.mono (fun _ h => h.elim .inl (fun h => .inr (.inr h))))
  refine ⟨?_, hS5, by rw [upd_ne (by decide), upd_ne (by decide), upd_same], ?_, ?_, ?_, ?_, ?_, fun p hp => (hb.cts p hp).ev hE (by decide), ⟨?_, ?_, fun p hp => ?_⟩⟩
  · rw [hE5.role B (Nat.lt_of_lt_of_le (Nat.lt_of_lt_of_le hBl hE1.size) hE3.size) (by rw [r3]; decide)]; exact r3
  · rw [hj 1 (by decide) (by decide) (by decide), hj 2 (by decide) (by decide) (by decide)]; exact hb.sI.ev hE (by decide) (by decide) (by decide) (by decide) (by decide) (by decide)
  · rw [hj 3 (by decide) (by decide) (by decide), hj 4 (by decide) (by decide) (by decide)]; exact hb.sR.ev hE (by decide) (by decide) (by decide) (by decide) (by decide) (by decide)
  · rw [hj 5 (by decide) (by decide) (by decide), hj 6 (by decide) (by decide) (by decide)]; exact hb.sE.ev hE (by decide) (by decide) (by decide) (by decide) (by decide) (by decide)
  · rw [hj 7 (by decide) (by decide) (by decide)]; exact hb.oH.ev hE (by decide) (by decide)
  · rw [hj 8 (by decide) (by decide) (by decide)]; exact hb.oU.ev hE (by decide) (by decide)
  · rw [upd_ne (by decide), upd_same]; have := hO3.ev hE5 (by decide) (by decide); simpa using this
  · rw [upd_same]; simpa using hO5
  · rcases List.mem_append.1 hp with hp | hp
    · exact (hb.sC.mks p hp).ev hE (by decide) (by decide)
    · obtain rfl : p = (s, m) := by simpa using hp
      exact ⟨n, (hs.ev hE3 (by decide) (by decide)).ev hE5 (by decide) (by decide)⟩
theorem info28m : (Tryz.prog.info? 37).map (fun i => (i.size, i.bytes, i.zero)) = some (1, 24, some (.slice none 0 0)) := by kernel_rfl
theorem info28 : ∃ i, Tryz.prog.info? 37 = some i ∧ i.zero = some (.slice none 0 0) ∧ i.size = 1 ∧ i.bytes = 24 := by
  obtain ⟨i, hi, he⟩ := Option.map_eq_some_iff.1 info28m
  simp only [Prod.mk.injEq] at he
  exact ⟨i, hi, he.2.2, he.1, he.2.1⟩

set_option maxHeartbeats 4000000 in
set_option maxRecDepth 4000 in
theorem turnC_any (N : Nat) (ρ : Nat → Nat) (w : World) (B : Nat) (mark : Int) (F : Nat → Value) (LI LR LE LC : List (Value × Int)) (K : List (Value × Value)) (g : Nat) (ao : Option Addr) (n cap : Nat) (cs : List Ch)
    (hN : N ≤ w.heap.size) (hF : Fr ρ w) (hb : Bo N ρ w B mark F LI LR LE LC K) (hg : RwC w N (.slice (some ⟨g, 0, none⟩) (n + 1) (n + 1)) (cs ++ [mkCh (-7)])) (h14 : ρ g = 14) (hr : RdC w ao n cs) (hrg : ∀ b off, ao = some ⟨b, off, none⟩ → 0 < n → b ≠ g ∧ b ≠ B) (hn : n ≤ 2932031007317) (hC : LC.length + 1 ≤ 5864062014805) (hm1 : -4611686018427387904 ≤ mark) (hm2 : mark ≤ 0) (h15 : ∀ k, ρ k ≠ 15) :
    Calls Tryz.prog 58 #[.pointer (some ⟨B, 0, none⟩), .slice (some ⟨g, 0, none⟩) (n + 1) (n + 1), .slice ao n cap] w fun e w' => e = .returned (.bool true) ∧ ∃ ρ' F' p, Bo N ρ' w' B (mark - 1) F' LI LR LE (LC ++ [p]) K ∧ Fr ρ' w' ∧ (∀ k, ρ' k ≠ 15) ∧ Ev (fun q => q = 1 ∨ q = 22 ∨ q = 23) ρ w ρ' w' := by
  obtain ⟨i0, hi, hz0, hz1, hz2⟩ := info3
  obtain ⟨i6, hj, hy0, hy1, hy2⟩ := info28
  have HB := Lib.hid hb
  have HFr := Lib.hid hF
  have HR := Lib.hid hr
  have HRG := Lib.hid hrg
  have HL := Lib.hid hr.1
  have H14 := Lib.hid h14
  have H15 := Lib.hid h15
  have hBl := hb.st.lt (by decide)
  have hgB : g ≠ B := fun e => by rw [e, hb.rB] at h14; omega
  have c0 := (hb.st 0 (by decide)).1
  have f0 := (hb.st 0 (by decide)).2
  rw [hb.mark0] at c0
  have hlast : (cs ++ [mkCh (-7)])[n]? = some (mkCh (-7)) := by rw [← hr.1]; simp
  obtain ⟨hatn, hfzn, hgl⟩ := RwC.at hg hlast
  have e0 : w.cell? ⟨g, n * 6, none⟩ = some (.int .i64 (-7)) := hatn.ck
  have e1 : w.cell? ⟨g, n * 6 + 1, none⟩ = some (.int .i64 0) := hatn.c0
  have e2 : w.cell? ⟨g, n * 6 + 2, none⟩ = some (.int .u64 0) := hatn.c1
  have e3 : w.cell? ⟨g, n * 6 + 3, none⟩ = some (.int .u64 0) := hatn.c2
  have e4 : w.cell? ⟨g, n * 6 + 4, none⟩ = some (.int .i64 0) := hatn.c3
  have e5 : w.cell? ⟨g, n * 6 + 5, none⟩ = some (.int .i64 0) := hatn.c4
  have hEl : ∀ w, Sem.run Tryz.prog (binOp BinOp.eql 152 (.agg #[.int .i64 (-7), .int .i64 0, .int .u64 0, .int .u64 0, .int .i64 0, .int .i64 0]) (.agg #[.int .i64 (-7), .int .i64 0, .int .u64 0, .int .u64 0, .int .i64 0, .int .i64 0])) w = .ok (.bool true) w := eqC_self (mkCh (-7))
  have HG := Lib.hid hg
  have q0 : (n : Int) < (n : Int) + 1 := by omega
  obtain ⟨w0, hw0⟩ : ∃ w0, w0 = w.setCell ⟨B, 0, none⟩ (.int .i64 (mark - 1)) := ⟨_, rfl⟩
  have Hw0 := Lib.hid hw0
  have HS0 := Lib.hid (show St w0 B 11 (upd F 0 (.int .i64 (mark - 1))) by rw [hw0]; exact hb.set0 _)
  have HE0 := Lib.hid (show Ev (fun q => q = 1) ρ w ρ w0 by rw [hw0]; exact Ev.of_set ρ w B 0 _ (.inr hb.rB))
  have HG0 := Lib.hid (show RwC w0 N (.slice (some ⟨g, 0, none⟩) (n + 1) (n + 1)) (turnC cs (mark - 1) 0) by rw [hw0, turnC_zero]; exact hg.setOther (fun k hk => by simp [Value.ownBlock] at hk; rw [← hk]; exact hgB) _)
  clear hb hF hr hrg hg h14 h15 hlast hatn hfzn hw0
  go_enter Tryz.func58, Tryz.ntmps58
  go_wp2
  rw [← Hw0.out]
  clear e0 e1 e2 e3 e4 e5 c0 f0 hEl
  go_loopw [7, 8] (fun wh i wr => ∃ k : Nat, k ≤ n ∧ wh = .bool true ∧ i = .int .i64 k ∧ Hid (RwC wr N (.slice (some ⟨g, 0, none⟩) (n + 1) (n + 1)) (turnC cs (mark - 1) k)) ∧ Hid (w0.grownBy wr (some g))) (fun _ i _ => n - (intOf i).toNat)
  case atStart => exact ⟨0, Nat.zero_le _, rfl, rfl, HG0, World.grownBy.refl _ _⟩
  case round =>
    obtain ⟨k, hk, rfl, rfl, HGK, HGR⟩ := hrel
    have hB0 := HS0.out.lt (by decide)
    have t0 := (HGR.out.cell_far ⟨B, 0, none⟩ hB0 (fun e => hgB (by simpa using e.symm))).trans (HS0.out 0 (by decide)).1
    rw [upd_same] at t0
    by_cases hlt : k < n
    · obtain ⟨c, hck⟩ : ∃ c, cs[k]? = some c := ⟨_, List.getElem?_eq_getElem (by rw [HL.out]; exact hlt)⟩
      obtain ⟨b, off, hao, hbw, hcs⟩ : ∃ b off, ao = some ⟨b, off, none⟩ ∧ b < w.heap.size ∧ ∀ j c, cs[j]? = some c → ChAt w b (off + j * 6) c := by
        rcases HR.out.2 with h0 | h
        · omega
        · exact h
      subst hao
      obtain ⟨hbg, hbB⟩ := HRG.out b off rfl (by omega)
      have hbk : wr.heap[b]? = w.heap[b]? := by
        rw [HGR.out.block b (by rw [Hw0.out]; simpa [World.setCell] using hbw) (by simpa using hbg), Hw0.out]
        exact Below.heap_setCell w ⟨B, 0, none⟩ _ b hbB
      have hat := (hcs k c hck).same hbk
      have ck := hat.ck
      have c0 := hat.c0
      have c1 := hat.c1
      have c2 := hat.c2
      have c3 := hat.c3
      have c4 := hat.c4
      obtain ⟨hatg, hfz, -⟩ := RwC.at HGK.out (turnC_at hck)
      have gk := hatg.ck
      have g0 := hatg.c0
      have g1 := hatg.c1
      have g2 := hatg.c2
      have g3 := hatg.c3
      have g4 := hatg.c4
      have m0 := hfz (k * 6)
      have m1 := hfz (k * 6 + 1)
      have m2 := hfz (k * 6 + 2)
      have m3 := hfz (k * 6 + 3)
      have m4 := hfz (k * 6 + 4)
      have m5 := hfz (k * 6 + 5)
      have hE := eqC_self c
      have q1 : (k : Int) < (n : Int) := by omega
      have q2 : (k : Int) < (n : Int) + 1 := by omega
      clear hat hatg hfz hck hcs hbk
      go_wp2
      go_quiet (fail)
      go_wp2
      go_roundw
      case rel =>
        refine ⟨k + 1, by omega, rfl, by go_num, ?_, ?_⟩
        · have := HGK.out.set (k := k) (by rw [turnC_len (by rw [HL.out]; omega), HL.out]; omega) (mkCh (mark - 1))
          rw [turnC_set (by rw [HL.out]; omega)] at this
          exact this
        · exact grown_trans (grown_dN HGR.out _) (grown6b _ _ _ _ _ _ _ _ _)
      case measure => simp [intOf]; omega
    · obtain rfl : k = n := by omega
      have hl7 : (turnC cs (mark - 1) k)[k]? = some (mkCh (-7)) := by have := turnC_last (cs := cs) (m := mark - 1) (k := k) (by rw [HL.out]; exact Nat.le_refl _); rwa [HL.out] at this
      obtain ⟨hatg, hfz, -⟩ := RwC.at HGK.out hl7
      have gk : wr.cell? ⟨g, k * 6, none⟩ = some (.int .i64 (-7)) := hatg.ck
      have g0 : wr.cell? ⟨g, k * 6 + 1, none⟩ = some (.int .i64 0) := hatg.c0
      have g1 : wr.cell? ⟨g, k * 6 + 2, none⟩ = some (.int .u64 0) := hatg.c1
      have g2 : wr.cell? ⟨g, k * 6 + 3, none⟩ = some (.int .u64 0) := hatg.c2
      have g3 : wr.cell? ⟨g, k * 6 + 4, none⟩ = some (.int .i64 0) := hatg.c3
      have g4 : wr.cell? ⟨g, k * 6 + 5, none⟩ = some (.int .i64 0) := hatg.c4
      have m0 := hfz (k * 6)
      have m1 := hfz (k * 6 + 1)
      have m2 := hfz (k * 6 + 2)
      have m3 := hfz (k * 6 + 3)
      have m4 := hfz (k * 6 + 4)
      have m5 := hfz (k * 6 + 5)
      obtain ⟨w8, hw8⟩ : ∃ w8, w8 = (((((wr.setCell ⟨g, k * 6, none⟩ (.int .i64 (mark - 1))).setCell ⟨g, k * 6 + 1, none⟩ (.int .i64 0)).setCell ⟨g, k * 6 + 2, none⟩ (.int .u64 0)).setCell ⟨g, k * 6 + 3, none⟩ (.int .u64 0)).setCell ⟨g, k * 6 + 4, none⟩ (.int .i64 0)).setCell ⟨g, k * 6 + 5, none⟩ (.int .i64 0) := ⟨_, rfl⟩
      have hgr8 : w0.grownBy w8 (some g) := by rw [hw8]; exact grown_trans HGR.out (grown6b _ _ _ _ _ _ _ _ _)
      have hrow8 : RwC w8 N (.slice (some ⟨g, 0, none⟩) (k + 1) (k + 1)) (List.replicate (k + 1) (mkCh (mark - 1))) := by
        have := HGK.out.set (k := k) (by rw [turnC_len (by rw [HL.out]; omega), HL.out]; omega) (mkCh (mark - 1))
        rw [turnC_set (by rw [HL.out]; omega)] at this
        have e := turnC_all (cs := cs) (m := mark - 1)
        rw [HL.out] at e
        rw [e] at this
        rw [hw8]; exact this
      have hoz : OwnZ N (rl ρ g 25) w8 25 152 6 (.slice (some ⟨g, 0, none⟩) (k + 1) (k + 1)) (k + 1) (rep (k + 1) (patC (mark - 1))) := by
        have := hrow8
        unfold RwC at this
        rw [List.length_replicate, flatC_rep, cc_mk] at this
        exact ⟨this, fun b hb => by simp [Value.ownBlock] at hb; subst hb; exact rl_same _ _ _⟩
      have hE1 : Ev (fun q => q = 1) ρ w (rl ρ g 25) w8 := (HE0.out.trans (Ev.of_grown ρ hgr8 (fun b hb => by cases hb; exact .inl H14.out))).trans (Ev.rl w8 25 (.inl H14.out))
      have hgl8 : g < w8.heap.size := (World.ownsRow.lt hrow8 g rfl).2
      have hF1 : Fr (rl ρ g 25) w8 := (HFr.out.grow hE1.size).rl hgl8 25
      have hS8 : St w8 B 11 (upd F 0 (.int .i64 (mark - 1))) := HS0.out.same (hgr8.block B hB0 (fun e => hgB (by simpa using e.symm)))
      have hrB : rl ρ g 25 B = 1 := by rw [rl_ne (fun e => hgB e.symm)]; exact HB.out.rB
      have ho9 := HB.out.sC.oV.ev hE1 (by decide) (by decide)
      have ho10 := HB.out.sC.oM.ev hE1 (by decide) (by decide)
      have h151 : ∀ k, rl ρ g 25 k ≠ 15 := fun k => by
        unfold rl; split
        · decide
        · exact H15.out k
      have b9 := (hS8 9 (by decide)).1
      rw [upd_ne (by decide)] at b9
      obtain ⟨ρ1, hρ1⟩ : ∃ ρ1, ρ1 = rl ρ g 25 := ⟨_, rfl⟩
      rw [← hρ1] at hoz hE1 hF1 hrB ho9 ho10 h151
      have HOz := Lib.hid hoz
      have HE1 := Lib.hid hE1
      have HF1 := Lib.hid hF1
      have HS8 := Lib.hid hS8
      have HrB := Lib.hid hrB
      have Ho9 := Lib.hid ho9
      have Ho10 := Lib.hid ho10
      have H151 := Lib.hid h151
      have hN8 : N ≤ w8.heap.size := Nat.le_trans hN hE1.size
      have hB8 : B < w8.heap.size := hS8.lt (by decide)
      have hC' : LC.length + 1 ≤ 5864062014805 := hC
      clear hatg hfz hl7 hgr8 hrow8 hoz hE1 hgl8 hF1 hS8 hrB ho9 ho10 h151 hρ1 HGK HGR
      have q2 : (k : Int) < (k : Int) + 1 := by omega
      have hsz8 : w8.heap.size = wr.heap.size := by rw [hw8]; simp [World.setCell]
      have Hsz8 := Lib.hid hsz8
      clear hsz8
      subst hw8
      go_wp2_with (at_builtin; refine wpList_append_lies _ rfl _ _ 52 rfl N 37 i6 nilS 1 24 Tryz.underlying52 hj hy0 hy1 hy2 rfl (by decide) (F 9) LC.length _ rfl (Ho9.out.1.alloc _) ⟨wr.heap.size, 0, none⟩ 1 1 [.slice (some ⟨g, 0, none⟩) (k + 1) (k + 1)] rfl rfl ?c1 ?c2 (by decide) ?c4 ?c5 ?c6 _ rfl ?_)
      all_goals generalize ((((((wr.setCell ⟨g, k * 6, none⟩ (.int .i64 (mark - 1))).setCell ⟨g, k * 6 + 1, none⟩ (.int .i64 0)).setCell ⟨g, k * 6 + 2, none⟩ (.int .u64 0)).setCell ⟨g, k * 6 + 3, none⟩ (.int .u64 0)).setCell ⟨g, k * 6 + 4, none⟩ (.int .i64 0)).setCell ⟨g, k * 6 + 5, none⟩ (.int .i64 0)) = w8 at *
      case c1 => rw [← Hsz8.out]; exact news_one w8 _ _
      case c2 => intro u hu; cases List.mem_singleton.1 hu; rfl
      case c4 => unfold maxLen; omega
      case c5 => omega
      case c6 => simp; omega
      intro g3 cap3 w2 hown3 hgrow3 hat3 hgz3
      obtain ⟨hS2, ρ3, hF3, hE3, hS3, hO3, h153⟩ := push_cell15 HF1.out HrB.out HS8.out (c := 9) (by decide) (by decide) Ho9.out ((Below.refl _ _).alloc (Nat.le_refl _) _) hown3 hgrow3 (by have h3 := hat3; rw [← Hsz8.out] at h3; simpa using h3) hgz3
      have s1 := (hS2 9 (by decide)).1
      have s2 := (hS2 9 (by decide)).2
      have HF3 := Lib.hid hF3
      have HE3 := Lib.hid hE3
      have HSI := Lib.hid hS3
      have HO3 := Lib.hid hO3
      have H153 := Lib.hid (h153 (by decide) H151.out)
      have d0' := (hS3 0 (by decide)).1
      have d2' := (hS3 10 (by decide)).1
      rw [upd_ne (by decide), upd_same] at d0'
      rw [upd_ne (by decide), upd_ne (by decide)] at d2'
      have Hd := Lib.hid (And.intro d0' d2')
      clear hS2 hF3 hE3 hS3 hO3 hown3 hgrow3 hat3 d0' d2' h153 b9 t0
      go_wp2
      generalize w2.setCell ⟨B, 9, none⟩ (Value.slice (some ⟨g3, 0, none⟩) (LC.length + 1) cap3) = w3 at *
      clear s1 s2 hgz3
      have d0 := Hd.out.1
      have d2 := Hd.out.2
      have HoM3 := Lib.hid (Ho10.out.ev HE3.out (by decide) (by decide))
      have hN3 : N ≤ w3.heap.size := Nat.le_trans hN8 HE3.out.size
      have hB3 : B < w3.heap.size := Nat.lt_of_lt_of_le hB8 HE3.out.size
      have HrB3 : Hid (ρ3 B = 1) := by show _ = _; rw [HE3.out.role B hB8 (by rw [HrB.out]; decide)]; exact HrB.out
      clear Hd
      go_region_law (refine step_append_lies _ rfl (.tmp 72) (.tmp 77) 36 rfl N 3 i0 (.int .i64 0) 1 8 Tryz.underlying36 hi hz0 hz1 hz2 rfl (by decide) (F 10) LC.length _ (by simp [Act.eval]) (World.ownsRow.alloc (World.ownsRow.drew HoM3.out.1) _) ⟨w3.heap.size, 0, none⟩ 1 1 [.int .i64 (mark - 1)] (by simp [Act.eval]) rfl (news_one w3.drew _ _) (by intro u hu; cases List.mem_singleton.1 hu; rfl) (by decide) (by unfold maxLen; omega) (by omega) (by simp; omega) (w3.heap.size + 1) (by simp) ?_; intro g4 cap4 w4 hown4 hgrow4 hat4 hgz4; obtain ⟨hS4, ρ4, hF4, hE4, hS5, hO5, h155⟩ := push_cell15 HF3.out HrB3.out HSI.out (c := 10) (by decide) (by decide) HoM3.out (((Below.refl w3.heap.size w3).drew).alloc (Nat.le_refl _) _) hown4 hgrow4 (by simpa using hat4) hgz4; have s1 := (hS4 10 (by decide)).1; have s2 := (hS4 10 (by decide)).2; have HF4 := Lib.hid hF4; have HE4 := Lib.hid hE4; have HS4 := Lib.hid hS5; have HO4 := Lib.hid hO5; have H154 := Lib.hid (h155 (by decide) H153.out); clear hS4 hF4 hE4 hS5 hO5 hown4 hgrow4 hat4 h155)
      all_goals
        generalize w4.setCell ⟨B, 10, none⟩ (Value.slice (some ⟨g4, 0, none⟩) (LC.length + 1) cap4) = w5 at *
        clear s1 s2 hgz4 d0 d2
        go_wp2
        go_ret
        refine ⟨rfl, ρ4, _, _, turnC_bo HB.out HE1.out HE3.out HE4.out HO3.out HS4.out HO4.out HOz.out (Eq.refl g), HF4.out, H154.out, ?_⟩
        exact ((HE1.out.mono (fun _ h => .inl h)).trans (HE3.out.mono (fun _ h => h.elim .inl (fun h => .inr (.inl h))))).trans (HE4.out.mono (fun _ h => h.elim .inl (fun h => .inr (.inr h))))
end Go.Proofs.YtnfkgnjeamnhfaaGreat
