import Derived.Test.YtnfkgnjeamnhfaaDoorRef8
import Derived.OwnWalk
namespace Go.Proofs.YtnfkgnjeamnhfaaDoor
open Go.RowKit

/-- A text cut at each byte c: cur is what stands since the last cut. -/
def splitG (c : UInt8) : List UInt8 → List UInt8 → List (List UInt8)
  | cur, [] => [cur]
  | cur, x :: r => if x = c then cur :: splitG c [] r else splitG c (cur ++ [x]) r
abbrev strs (ls : List (List UInt8)) : List Value := ls.map fun l => .string ⟨l.toArray⟩
theorem info9m : (Tryd.prog.info? 9).map (fun i => (i.size, i.bytes, i.zero)) = some (1, 16, some (.string ⟨#[]⟩)) := by kernel_rfl
theorem info9 : ∃ i, Tryd.prog.info? 9 = some i ∧ i.zero = some (.string ⟨#[]⟩) ∧ i.size = 1 ∧ i.bytes = 16 := by
  obtain ⟨i, hi, he⟩ := Option.map_eq_some_iff.1 info9m
  simp only [Prod.mk.injEq] at he
  exact ⟨i, hi, he.2.2, he.1, he.2.1⟩
/-- A piece of a text. -/
theorem piece_eq (t : ByteArray) (a k : Nat) : t.extract a k = ⟨((t.data.toList.drop a).take (k - a)).toArray⟩ := Lib.extract_eq t a k
theorem take_drop_snoc (l : List UInt8) (a k : Nat) (x : UInt8) (ha : a ≤ k) (hx : l[k]? = some x) : (l.drop a).take (k + 1 - a) = (l.drop a).take (k - a) ++ [x] := by
  have e : k + 1 - a = (k - a) + 1 := by omega
  rw [e, List.take_add_one]
  congr 1
  rw [List.getElem?_drop, show a + (k - a) = k by omega, hx]
  rfl

set_option maxHeartbeats 4000000 in
theorem parts_any (t : ByteArray) (c : UInt8) (w : World) (hs : t.size ≤ 1048576) :
    Calls Tryd.prog 14 #[.string t, .int .u8 (c.toNat : Int)] w fun e w' => ∃ v, e = .returned v ∧ w'.ownsRow w.heap.size 9 1 v (splitG c [] t.data.toList).length (strs (splitG c [] t.data.toList)) ∧ Below w.heap.size w w' := by
  obtain ⟨i0, hi, hz0, hz1, hz2⟩ := info9
  go_enter Tryd.func14, Tryd.ntmps14
  go_wp2
  go_loopw [5, 6, 7] (fun out fr i wr => ∃ (a k : Nat) (outs : List (List UInt8)), fr = .int .i64 a ∧ i = .int .i64 k ∧ a ≤ k ∧ k ≤ t.size + 1 ∧ outs.length ≤ k ∧ wr.ownsRow w.heap.size 9 1 out outs.length (strs outs) ∧ Below w.heap.size w wr ∧ (k ≤ t.size → Hid (outs ++ splitG c ((t.data.toList.drop a).take (k - a)) (t.data.toList.drop k) = splitG c [] t.data.toList)) ∧ (k = t.size + 1 → Hid (outs = splitG c [] t.data.toList))) (fun _ _ i _ => t.size + 1 - (intOf i).toNat)
  case atStart => exact ⟨0, 0, [], rfl, rfl, Nat.le_refl _, by omega, Nat.le_refl _, World.ownsRow_nil _ _ _ _, Below.refl _ _, fun _ => by show _ = _; simp, fun h => by omega⟩
  case round =>
    obtain ⟨a, k, outs, rfl, rfl, hak, hk, ho, hown, hb, hR, hE⟩ := hrel
    have HB := Lib.hid hb
    have HO := Lib.hid hown
    have HR := Lib.hid hR
    have HE := Lib.hid hE
    have hsz := hb.size
    clear hb hown hR hE
    by_cases hlt : k ≤ t.size
    · have q0 : (k : Int) ≤ (t.size : Int) := by omega
      by_cases he : k = t.size
      · have q1 : ((k : Int) == (t.size : Int)) = true := by rw [he]; simp
        have HHe := Lib.hid he
        clear he
        go_wp2_with (at_builtin; refine wpList_append_own _ rfl _ _ 42 rfl w.heap.size 9 i0 (.string ⟨#[]⟩) 1 16 Tryd.underlying42 hi hz0 hz1 hz2 rfl (by decide) _ _ _ rfl (HO.out.alloc _) ⟨wr.heap.size, 0, none⟩ 1 1 [.string (t.extract a k)] rfl rfl (cell_one_new _ _ _) ?c2 ?c3 ?c4 ?c5 ?_)
        case c2 => intro u hu; cases List.mem_singleton.1 hu; rfl
        case c3 => unfold maxLen; omega
        case c4 => omega
        case c5 => simp; omega
        intro v' w2 hown2 hgrow _
        have HO2 : Hid (w2.ownsRow w.heap.size 9 1 v' (outs ++ [(t.data.toList.drop a).take (k - a)]).length (strs (outs ++ [(t.data.toList.drop a).take (k - a)]))) := by
          have e1 : strs (outs ++ [(t.data.toList.drop a).take (k - a)]) = strs outs ++ [.string (t.extract a k)] := by simp [strs, piece_eq]
          show w2.ownsRow _ _ _ _ _ _
          rw [e1, List.length_append]
          exact hown2
        have HB2 : Hid (Below w.heap.size w w2) := (HB.out.alloc hsz _).grown hgrow (by simp; omega) (fun j hj => (HO.out.lt j hj).1)
        clear hown2 hgrow
        go_wp2
        go_roundw
        case rel =>
          refine ⟨k + 1, k + 1, _, by go_num, by go_num, Nat.le_refl _, by omega, by simp; omega, HO2.out, HB2.out, fun h => ?_, fun _ => ?_⟩
          · have := HHe.out; omega
          · have hr := (HR.out hlt).out
            have he := HHe.out
            rw [show t.data.toList.drop k = [] by rw [he, Lib.size_eq]; exact List.drop_length] at hr
            exact hr
        case measure => simp [intOf] <;> omega
      · have q1 : ((k : Int) == (t.size : Int)) = false := ne_beq he
        have hk2 : k < t.size := by omega
        obtain ⟨x, hx⟩ : ∃ x, t.data.toList[k]? = some x := ⟨_, List.getElem?_eq_getElem (by rw [← Lib.size_eq]; exact hk2)⟩
        have hdrop : t.data.toList.drop k = x :: t.data.toList.drop (k + 1) := by
          rw [List.drop_eq_getElem_cons (by rw [← Lib.size_eq]; exact hk2)]
          congr 1
          rw [List.getElem?_eq_getElem (by rw [← Lib.size_eq]; exact hk2)] at hx
          exact Option.some.inj hx
        have HDR := Lib.hid hdrop
        have HX := Lib.hid hx
        have hget : t[k]'hk2 = x := by have := Lib.data_getElem? t k hk2; rw [hx] at this; exact (Option.some.inj this).symm
        clear hdrop hx he
        by_cases hc : x = c
        · have q2 : ((x.toNat : Int) == (c.toNat : Int)) = true := by rw [hc]; simp
          have HC := Lib.hid hc
          clear hc
          go_wp2_with (at_builtin; refine wpList_append_own _ rfl _ _ 42 rfl w.heap.size 9 i0 (.string ⟨#[]⟩) 1 16 Tryd.underlying42 hi hz0 hz1 hz2 rfl (by decide) _ _ _ rfl (HO.out.alloc _) ⟨wr.heap.size, 0, none⟩ 1 1 [.string (t.extract a k)] rfl rfl (cell_one_new _ _ _) ?c2 ?c3 ?c4 ?c5 ?_)
          case c2 => intro u hu; cases List.mem_singleton.1 hu; rfl
          case c3 => unfold maxLen; omega
          case c4 => omega
          case c5 => simp; omega
          intro v' w2 hown2 hgrow _
          have HO2 : Hid (w2.ownsRow w.heap.size 9 1 v' (outs ++ [(t.data.toList.drop a).take (k - a)]).length (strs (outs ++ [(t.data.toList.drop a).take (k - a)]))) := by
            have e1 : strs (outs ++ [(t.data.toList.drop a).take (k - a)]) = strs outs ++ [.string (t.extract a k)] := by simp [strs, piece_eq]
            show w2.ownsRow _ _ _ _ _ _
            rw [e1, List.length_append]
            exact hown2
          have HB2 : Hid (Below w.heap.size w w2) := (HB.out.alloc hsz _).grown hgrow (by simp; omega) (fun j hj => (HO.out.lt j hj).1)
          clear hown2 hgrow
          go_wp2
          go_roundw
          case rel =>
            refine ⟨k + 1, k + 1, _, by go_num, by go_num, Nat.le_refl _, by omega, by simp; omega, HO2.out, HB2.out, fun _ => ?_, fun h => ?_⟩
            · have hr := (HR.out hlt).out
              rw [HDR.out] at hr
              simp only [splitG] at hr
              rw [if_pos HC.out] at hr
              show _ = _
              rw [← hr]
              simp
            · omega
          case measure => simp [intOf] <;> omega
        · have q2 : ((x.toNat : Int) == (c.toNat : Int)) = false := ne_beq (fun e => hc (UInt8.toNat_inj.1 e))
          have HC := Lib.hid hc
          clear hc
          go_wp2
          go_roundw
          case rel =>
            refine ⟨a, k + 1, outs, rfl, by go_num, by omega, by omega, by omega, HO.out, HB.out, fun _ => ?_, fun h => ?_⟩
            · have hr := (HR.out hlt).out
              rw [HDR.out] at hr
              simp only [splitG] at hr
              rw [if_neg HC.out] at hr
              show _ = _
              rw [← hr, take_drop_snoc _ a k x hak HX.out]
            · omega
          case measure => simp [intOf] <;> omega
    · obtain rfl : k = t.size + 1 := by omega
      have q0 : ¬ (((t.size + 1 : Nat) : Int)) ≤ (t.size : Int) := by omega
      have HE2 := Lib.hid ((HE.out rfl).out)
      clear HE HR
      go_wp2
      go_ret
      rw [← HE2.out]
      exact ⟨_, rfl, HO.out, HB.out⟩
end Go.Proofs.YtnfkgnjeamnhfaaDoor
