import Derived.Test.YtnfkgnjeamnhfaaGreatBc
import Derived.Test.YtnfkgnjeamnhfaaGreatGk
namespace Go.Proofs.YtnfkgnjeamnhfaaGreat
open Go.RowKit

theorem turn_bo {N : Nat} {ρA ρ3 ρ5 : Nat → Nat} {w2 w4 w6 : World} {B : Nat} {mark : Int} {F : Nat → Value} {vH' vU' s u : Value} {LI LR LE LC : List (Value × Int)} {K : List (Value × Value)} {T : List Int}
    (hb : Bo N ρA w2 B mark F LI LR LE LC K) (hE3 : Ev (fun q => q = 1 ∨ q = 4) ρA w2 ρ3 w4) (hE5 : Ev (fun q => q = 1 ∨ q = 5) ρ3 w4 ρ5 w6) (hO3 : Own N ρ3 w4 4 36 vH' (K.length + 1) (K.map (·.1) ++ [s])) (hS5 : St w6 B 11 (upd (upd F 7 vH') 8 vU')) (hO5 : Own N ρ5 w6 5 36 vU' (K.length + 1) (K.map (·.2) ++ [u]))
    (hs : Own N ρA w2 7 3 s T.length (ints T)) (hu : Own N ρA w2 7 3 u T.length (ints T)) : Bo N ρ5 w6 B mark (upd (upd F 7 vH') 8 vU') LI LR LE LC (K ++ [(s, u)]) := by
  have hBl := hb.st.lt (by decide)
  have r3 : ρ3 B = 1 := by rw [hE3.role B hBl (by rw [hb.rB]; decide)]; exact hb.rB
  have hj : ∀ j, j ≠ 7 → j ≠ 8 → upd (upd F 7 vH') 8 vU' j = F j := fun j a b => by rw [upd_ne b, upd_ne a]
  refine ⟨?_, hS5, by rw [hj 0 (by decide) (by decide)]; exact hb.mark0, ?_, ?_, ?_, ?_, ?_, fun p hp => ?_, ?_⟩
  · rw [hE5.role B (Nat.lt_of_lt_of_le hBl hE3.size) (by rw [r3]; decide)]; exact r3
  · rw [hj 1 (by decide) (by decide), hj 2 (by decide) (by decide)]; exact (hb.sI.ev hE3 (by decide) (by decide) (by decide) (by decide) (by decide) (by decide)).ev hE5 (by decide) (by decide) (by decide) (by decide) (by decide) (by decide)
  · rw [hj 3 (by decide) (by decide), hj 4 (by decide) (by decide)]; exact (hb.sR.ev hE3 (by decide) (by decide) (by decide) (by decide) (by decide) (by decide)).ev hE5 (by decide) (by decide) (by decide) (by decide) (by decide) (by decide)
  · rw [hj 5 (by decide) (by decide), hj 6 (by decide) (by decide)]; exact (hb.sE.ev hE3 (by decide) (by decide) (by decide) (by decide) (by decide) (by decide)).ev hE5 (by decide) (by decide) (by decide) (by decide) (by decide) (by decide)
  · rw [upd_ne (by decide), upd_same]; have := hO3.ev hE5 (by decide) (by decide); simpa using this
  · rw [upd_same]; simpa using hO5
  · rcases List.mem_append.1 hp with hp | hp
    · exact ((hb.cts p hp).ev hE3 (by decide)).ev hE5 (by decide)
    · obtain rfl : p = (s, u) := by simpa using hp
      exact ⟨T, (hs.ev hE3 (by decide) (by decide)).ev hE5 (by decide) (by decide), (hu.ev hE3 (by decide) (by decide)).ev hE5 (by decide) (by decide)⟩
  · rw [hj 9 (by decide) (by decide), hj 10 (by decide) (by decide)]; exact (hb.sC.ev hE3 (by decide) (by decide) (by decide) (by decide) (by decide) (by decide)).ev hE5 (by decide) (by decide) (by decide) (by decide) (by decide) (by decide)

set_option maxHeartbeats 4000000 in
set_option maxRecDepth 4000 in
theorem turnH_any (N : Nat) (ρ : Nat → Nat) (w : World) (B : Nat) (mark : Int) (F : Nat → Value) (LI LR LE LC : List (Value × Int)) (K : List (Value × Value)) (g : Nat) (ao : Option Addr) (n cap : Nat) (xs : List Int)
    (hN : N ≤ w.heap.size) (hF : Fr ρ w) (hb : Bo N ρ w B mark F LI LR LE LC K) (hgN : N ≤ g) (hg : w.heap[g]? = some (.cells (ints (xs ++ [-7])).toArray 3 (0, 0))) (h14 : ρ g = 14) (hr : Rd w ao n xs) (hrg : 0 < n → ∀ b off, ao = some ⟨b, off, none⟩ → b ≠ g) (hn : n ≤ 17592186044415) (hK : K.length + 1 ≤ 5864062014805) :
    Calls Tryz.prog 42 #[.pointer (some ⟨B, 0, none⟩), .slice (some ⟨g, 0, none⟩) (n + 1) (n + 1), .slice ao n cap] w fun e w' => e = .returned (.bool true) ∧ ∃ ρ' F' p, Bo N ρ' w' B mark F' LI LR LE LC (K ++ [p]) ∧ Fr ρ' w' ∧ ((∀ k, ρ k ≠ 15) → ∀ k, ρ' k ≠ 15) ∧ Ev (fun q => q = 1 ∨ q = 4 ∨ q = 5) ρ w ρ' w' := by
  obtain ⟨i0, hi, hz0, hz1, hz2⟩ := info3
  obtain ⟨i6, hj, hy0, hy1, hy2⟩ := info36
  have HB := Lib.hid hb
  have HFr := Lib.hid hF
  have HR := Lib.hid hr
  have HRG := Lib.hid hrg
  have HL := Lib.hid hr.1
  have HG : Hid (w.heap[g]? = some (.cells (ints (turned xs 0)).toArray 3 (0, 0))) := by show _ = _; rw [turned_zero]; exact hg
  have hc0 : w.cell? ⟨g, n, none⟩ = some (.int .i64 (-7)) := by
    rw [cell_of_row w g n _ 3 (0, 0) HG.out, ← hr.1]; simpa using turned_last (Nat.zero_le xs.length)
  have hgl : g < w.heap.size := (Array.getElem?_eq_some_iff.1 hg).1
  have q0 : (n : Int) < (n : Int) + 1 := by omega
  have H14 := Lib.hid h14
  clear hb hF hr hrg hg h14
  go_enter Tryz.func42, Tryz.ntmps42
  go_wp2
  go_loopw [7, 8] (fun wh i wr => ∃ k : Nat, k ≤ n ∧ wh = .bool true ∧ i = .int .i64 k ∧ wr.heap[g]? = some (.cells (ints (turned xs k)).toArray 3 (0, 0)) ∧ w.grownBy wr (some g)) (fun _ i _ => n - (intOf i).toNat)
  case atStart => exact ⟨0, Nat.zero_le _, rfl, rfl, HG.out, World.grownBy.refl _ _⟩
  case round =>
    obtain ⟨k, hk, rfl, rfl, hgk, hgr⟩ := hrel
    have HGK := Lib.hid hgk
    have HGR := Lib.hid hgr
    have hgs := hgr.size
    clear hgk hgr hc0 q0 HG
    by_cases hlt : k < n
    · obtain ⟨b, off, rfl, hbl, -⟩ := HR.out.at (by omega)
      obtain ⟨x, hx, hcx⟩ := HR.out.cell hlt
      have hcx' : wr.cell? ⟨b, off + k, none⟩ = some (.int .i64 x) := by
        rw [World.cell?_of_block (w := w) (a := ⟨b, off + k, none⟩) (HGR.out.block b hbl (by simp; exact HRG.out (by omega) b off rfl))]; exact hcx
      have hcg : wr.cell? ⟨g, k, none⟩ = some (.int .i64 x) := by
        rw [cell_of_row wr g k _ 3 (0, 0) HGK.out]; simpa using turned_at hx
      have hfg : wr.frozen? ⟨g, k, none⟩ = false := frozen_of_row wr g k _ 3 HGK.out
      have q1 : (x == x) = true := by simp
      have q2 : (k : Int) < (n : Int) + 1 := by omega
      have q3 : (k : Int) < (n : Int) := by omega
      clear hx hcx
      go_wp2
      go_quiet (fail)
      go_wp2
      go_roundw
      case rel =>
        refine ⟨k + 1, by omega, rfl, by go_num, ?_, ?_⟩
        · refine (heap_setCell_same _ g k _ 3 _ HGK.out).trans ?_
          rw [turned_set (by rw [HL.out]; exact hlt)]
        · exact ⟨HGR.out.os, HGR.out.tape, HGR.out.output, by simp [World.setCell]; exact hgs, fun i hi hne => (Below.heap_setCell _ ⟨g, k, none⟩ _ i (fun e => hne (by rw [e]))).trans (HGR.out.block i hi hne)⟩
      case measure => simp [intOf]; omega
    · obtain rfl : k = n := by omega
      have HLE := Lib.hid (turned_len (Nat.le_refl xs.length))
      rw [HL.out] at HLE
      have hBl := HB.out.st.lt (by decide)
      obtain ⟨T, hT⟩ : ∃ T, T = turned xs k := ⟨_, rfl⟩
      rw [← hT] at HGK HLE
      have HTT := Lib.hid hT
      clear hT
      go_wp2_with (at_make; refine wpList_make_full _ rfl _ _ 36 rfl N 3 i0 (.int .i64 0) 1 Tryz.underlying36 hi hz0 hz1 .i64 .i64 _ _ (k + 1) rfl rfl ?c1 ?c2 ?c3 ?c4 ?c5 ?_)
      case c1 => go_simp
      case c2 => go_simp
      case c3 => rw [hz2]; omega
      case c4 => unfold maxLen; omega
      case c5 => omega
      intro w1 hown hgrow
      rw [madeInts] at hown
      have HGM := Lib.hid (own_full hown).1
      have HB1 := Lib.hid (below_of_grown hgrow)
      have hz : wr.heap.size < w1.heap.size := (Array.getElem?_eq_some_iff.1 (own_full hown).1).1
      have HG1 : Hid (w1.heap[g]? = some (.cells (ints T).toArray 3 (0, 0))) := by show _ = _; rw [HB1.out.block g (by omega)]; exact HGK.out
      clear hown hgrow
      go_wp2_with (refine wpList_copy_splice rfl _ _ 36 36 rfl 3 Tryz.underlying36 info31 _ _ _ _ _ _ rfl rfl wr.heap.size 0 _ 3 HGM.out (ints T) ?c1 ?c2 ?c3 (ints_one _) wr.heap.size wr HB1.out (Nat.le_refl _) ?_)
      case c1 => simp [HLE.out]
      case c2 =>
        intro _ j x hx
        have := World.news_of_block HG1.out j (.int .i64 x) (by simp [hx])
        rwa [Lib.add_plain, Nat.zero_add] at this
      case c3 => simp [HLE.out]
      intro w2 HG2 hb2
      have e : splice (List.replicate (k + 1) (Value.int IntKind.i64 0)) 0 (ints T) = ints T := by
        simp [splice, HLE.out]
      rw [e] at HG2
      have HB2 := Lib.hid hb2
      have hm := hb2.size
      clear hb2 e HGM HB1 HG1
      obtain ⟨ρA, hEA, hFA, hOs, hOm, h15A⟩ := turn_adopt HFr.out hN hgN hgl H14.out HGK.out HGR.out HB2.out (Array.getElem?_eq_some_iff.1 HG2.out).1 HG2.out HLE.out (by unfold maxLen; omega)
      have hbk := HB.out.ev (hEA (fun _ => False)) (fun _ _ => id)
      have HBA := Lib.hid hbk
      have b7 := (hbk.st 7 (by decide)).1
      have hN2 : N ≤ w2.heap.size := Nat.le_trans hN (hEA (fun _ => False)).size
      have HEA := Lib.hid hEA
      have HFA := Lib.hid hFA
      have HOs := Lib.hid hOs
      have HOm := Lib.hid hOm
      have H15A := Lib.hid h15A
      clear hbk hEA hFA hOs hOm h15A
      go_wp2_with (at_builtin; refine wpList_append_lies _ rfl _ _ 49 rfl N 36 i6 nilS 1 24 Tryz.underlying49 hj hy0 hy1 hy2 rfl (by decide) (F 7) K.length _ rfl (HBA.out.oH.1.alloc _) ⟨w2.heap.size, 0, none⟩ 1 1 [.slice (some ⟨g, 0, none⟩) (k + 1) (k + 1)] rfl rfl (news_one _ _ _) ?c2 (by decide) ?c4 ?c5 ?c6 _ rfl ?_)
      case c2 => intro u hu; cases List.mem_singleton.1 hu; rfl
      case c4 => unfold maxLen; omega
      case c5 => omega
      case c6 => simp; omega
      intro g3 cap3 w3 hown3 hgrow3 hat3 hgz3
      obtain ⟨hS2, ρ3, hF3, hE3, hS3, hO3, h153⟩ := push_cell15 HFA.out HBA.out.rB HBA.out.st (c := 7) (by decide) (by decide) HBA.out.oH ((Below.refl _ _).alloc (Nat.le_refl _) _) hown3 hgrow3 (by simpa using hat3) hgz3
      have s1 := (hS2 7 (by decide)).1
      have s2 := (hS2 7 (by decide)).2
      have s8 := (hS2 8 (by decide)).1
      have HF3 := Lib.hid hF3
      have HE3 := Lib.hid hE3
      have HS3 := Lib.hid hS3
      have HO3 := Lib.hid hO3
      have H153 := Lib.hid h153
      clear hS2 hF3 hE3 hS3 hO3 hown3 hgrow3 hat3 b7 h153
      have HS3' := HS3
      have HO8 := Lib.hid (HBA.out.oU.ev HE3.out (by decide) (by decide))
      have hN3 : N ≤ (w3.setCell ⟨B, 7, none⟩ (Value.slice (some ⟨g3, 0, none⟩) (K.length + 1) cap3)).heap.size := Nat.le_trans hN2 HE3.out.size
      have HrB3 : Hid (ρ3 B = 1) := by show _ = _; rw [HE3.out.role B (HBA.out.st.lt (by decide)) (by rw [HBA.out.rB]; decide)]; exact HBA.out.rB
      have hKl : K.length + 1 ≤ 5864062014805 := hK
      go_wp2_with (at_builtin; refine wpList_append_lies _ rfl _ _ 49 rfl N 36 i6 nilS 1 24 Tryz.underlying49 hj hy0 hy1 hy2 rfl (by decide) (F 8) K.length _ rfl (HO8.out.1.alloc _) ⟨w3.heap.size, 0, none⟩ 1 1 [.slice (some ⟨wr.heap.size, 0, none⟩) (k + 1) (k + 1)] rfl rfl ?c1 ?c2 (by decide) ?c4 ?c5 ?c6 _ rfl ?_)
      case c1 =>
        have h := news_one (w3.setCell ⟨B, 7, none⟩ (Value.slice (some ⟨g3, 0, none⟩) (K.length + 1) cap3)) (.slice (some ⟨wr.heap.size, 0, none⟩) (k + 1) (k + 1)) 36
        rw [show (w3.setCell ⟨B, 7, none⟩ (Value.slice (some ⟨g3, 0, none⟩) (K.length + 1) cap3)).heap.size = w3.heap.size by simp [World.setCell]] at h
        exact h
      case c2 => intro u hu; cases List.mem_singleton.1 hu; rfl
      case c4 => unfold maxLen; omega
      case c5 => omega
      case c6 => simp at hN3; simp; omega
      intro g5 cap5 w5 hown5 hgrow5 hat5 hgz5
      obtain ⟨hS4, ρ5, hF5, hE5, hS5, hO5, h155⟩ := push_cell15 HF3.out HrB3.out HS3'.out (c := 8) (by decide) (by decide) HO8.out ((Below.refl _ _).alloc (Nat.le_refl _) _) hown5 hgrow5 (by simpa using hat5) hgz5
      have t1 := (hS4 8 (by decide)).1
      have t2 := (hS4 8 (by decide)).2
      have HF5 := Lib.hid hF5
      have HE5 := Lib.hid hE5
      have HS5 := Lib.hid hS5
      have HO5 := Lib.hid hO5
      have H155 := Lib.hid h155
      clear hS4 hF5 hE5 hS5 hO5 hown5 hgrow5 hat5 h155
      go_wp2
      go_ret
      refine ⟨rfl, ρ5, upd (upd F 7 (.slice (some ⟨g3, 0, none⟩) (K.length + 1) cap3)) 8 (.slice (some ⟨g5, 0, none⟩) (K.length + 1) cap5), (.slice (some ⟨g, 0, none⟩) (k + 1) (k + 1), .slice (some ⟨wr.heap.size, 0, none⟩) (k + 1) (k + 1)), ?_, HF5.out, fun h => H155.out (by decide) (H153.out (by decide) (H15A.out h)), ?_⟩
      · exact turn_bo HBA.out HE3.out HE5.out HO3.out HS5.out HO5.out HOs.out HOm.out
      · exact ((HEA.out _).trans (HE3.out.mono (fun q h => h.elim .inl (fun h => .inr (.inl h))))).trans (HE5.out.mono (fun q h => h.elim .inl (fun h => .inr (.inr h))))
end Go.Proofs.YtnfkgnjeamnhfaaGreat
