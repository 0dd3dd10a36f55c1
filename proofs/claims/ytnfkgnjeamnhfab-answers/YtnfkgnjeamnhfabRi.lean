import Derived.Test.YtnfkgnjeamnhfabRg
import Derived.Laws.AppendOwnNone
namespace Go.Proofs.Ytnfkgnjeamnhfab
open Go.RowKit Go.Sort

theorem flat_one (rs : List Rt) : ∀ u ∈ flat rs, u.oneCell' = true := by
  intro u hu
  obtain ⟨r, _, h⟩ := List.mem_flatMap.1 hu
  exact rc_one r u h
/-- What can be appended: routes that lie in memory. -/
def SrcR (w : World) (src : Value) (ms : List Rt) : Prop := (src = nilS ∧ ms = []) ∨ ∃ ad c, src = .slice (some ad) ms.length c ∧ ∀ j u, (flat ms)[j]? = some u → w.cell? (ad.add j) = some u
theorem RwO.src {w : World} {N : Nat} {v : Value} {rs : List Rt} (h : RwO w N v rs) : SrcR w v rs := by
  rcases h.2 with ⟨rfl, h0⟩ | ⟨g, cap, cur, rfl, hb, hgg, hc, hm, _⟩
  · exact .inl ⟨rfl, List.eq_nil_of_length_eq_zero h0⟩
  · exact .inr ⟨_, cap, rfl, World.ownsRow.cells h rfl⟩
theorem SrcR.below {w w' : World} {v : Value} {rs : List Rt} (h : SrcR w v rs) (hb : ∀ a u, w.cell? a = some u → w'.cell? a = some u) : SrcR w' v rs := by
  rcases h with h | ⟨ad, c, h1, h2⟩
  · exact .inl h
  · exact .inr ⟨ad, c, h1, fun j u hu => hb _ _ (h2 j u hu)⟩
/-- append of routes onto a row of the call's own. -/
theorem wpList_append_rt {w : World} {ops : Array Oper} {rest : List Oper} {o : Oper} {a : Act} {Q : Exit → Act → World → Prop} (hgd : o.guard = none) (s x : Operand)
    (ho : o.op = .call { callee := .builtin .append, args := #[s, x], argTypes := #[38, 38] }) (base : Nat) (v : Value) (rs : List Rt) (hs : a.eval s = v) (hown : RwO w base v rs)
    (src : Value) (ms : List Rt) (hx : a.eval x = src) (hsrc : SrcR w src ms) (hlen : rs.length + ms.length ≤ 100000) (hbase : base ≤ w.heap.size)
    (h : ∀ ao n cap w', n = (rs ++ ms).length → RwO w' base (.slice ao n cap) (rs ++ ms) → w.grownBy w' v.ownBlock → ((Value.slice ao n cap).ownBlock = v.ownBlock ∨ (Value.slice ao n cap).ownBlock = some w.heap.size) → wpList Try.prog ops Q rest (a.put o.dst (.slice ao n cap)) w') :
    wpList Try.prog ops Q (o :: rest) a w := by
  obtain ⟨i, hi, hz, h1, h2⟩ := info42
  rcases hsrc with ⟨rfl, rfl⟩ | ⟨ad, c, rfl, hc⟩
  · refine wpList_append_own_none hgd s x _ ho base _ i 5 Try.underlying38 hi v _ _ hs hown hx ?_
    obtain ⟨ao, cap, rfl, _⟩ := RwO.form hown
    refine h ao rs.length cap w (by simp) (by rw [List.append_nil]; exact hown) ⟨rfl, rfl, rfl, Nat.le_refl _, fun _ _ _ => rfl⟩ (.inl rfl)
  · refine wpList_append_own_at (P := Try.prog) w hgd s x _ ho base _ i _ 5 40 Try.underlying38 hi hz h1 h2 rfl (by decide) v rs.length (flat rs) hs hown ad ms.length c (flat ms) hx (flat_len ms) hc (flat_one ms) (by unfold maxLen; omega) (by omega) hbase ?_
    intro v' w' k1 k2 _ k4
    have k5 : RwO w' base v' (rs ++ ms) := by unfold RwO; rw [List.length_append, flat_append]; exact k1
    obtain ⟨ao, cap, rfl, _⟩ := RwO.form k5
    exact h ao _ cap w' rfl k5 k2 k4
/-- Only what came later was turned. -/
theorem below_grown {B : Nat} {w w1 w2 : World} {v : Value} (h : Below B w w1) (hg : w1.grownBy w2 v.ownBlock) (hv : ∀ k, v.ownBlock = some k → B ≤ k) (hB : B ≤ w1.heap.size) : Below B w w2 :=
  ⟨hg.os.trans h.os, hg.tape.trans h.tape, hg.output.trans h.output, Nat.le_trans h.size hg.size, fun k hk => (hg.block k (Nat.lt_of_lt_of_le hk hB) (fun e => by have := hv k e.symm; omega)).trans (h.block k hk)⟩
theorem RwO.base {w : World} {N : Nat} {v : Value} {rs : List Rt} (h : RwO w N v rs) : ∀ k, v.ownBlock = some k → N ≤ k := fun k hk => (World.ownsRow.lt h k hk).1
theorem RwO.lower {w : World} {N M : Nat} {v : Value} {rs : List Rt} (h : RwO w N v rs) (hM : M ≤ N) : RwO w M v rs := by
  refine ⟨h.1, ?_⟩
  rcases h.2 with h1 | ⟨g, cap, cur, h1, hb, rest⟩
  · exact .inl h1
  · exact .inr ⟨g, cap, cur, h1, Nat.le_trans hM hb, rest⟩
theorem RwO.far {w w' : World} {N B : Nat} {v : Value} {rs : List Rt} (h : RwO w N v rs) (hb : Below B w w') (hv : ∀ k, v.ownBlock = some k → k < B) : RwO w' N v rs := by
  refine ⟨h.1, ?_⟩
  rcases h.2 with h1 | ⟨g, cap, cur, h1, hN, hgg, rest⟩
  · exact .inl h1
  · exact .inr ⟨g, cap, cur, h1, hN, (hb.block g (hv g (by rw [h1]; rfl))).trans hgg, rest⟩

/-- The routes of a family. -/
def famF (rs : List Rt) (fam : Int) : List Rt := rs.filter fun r => r.f == fam
theorem famF_le (rs : List Rt) (fam : Int) : (famF rs fam).length ≤ rs.length := List.length_filter_le _ _
theorem fam_yes {rs : List Rt} {fam : Int} {k : Nat} {r : Rt} (hr : rs[k]? = some r) (h : (r.f == fam) = true) : famF (rs.take (k + 1)) fam = famF (rs.take k) fam ++ [r] := by
  unfold famF; rw [List.take_add_one, hr, List.filter_append]; simp [h]
theorem fam_no {rs : List Rt} {fam : Int} {k : Nat} {r : Rt} (hr : rs[k]? = some r) (h : (r.f == fam) = false) : famF (rs.take (k + 1)) fam = famF (rs.take k) fam := by
  unfold famF; rw [List.take_add_one, hr, List.filter_append]; simp [h]
theorem src_rt (w : World) (r : Rt) (t : TypeId) : SrcR (w.alloc (.cells #[.int .i64 r.f, .int .u64 r.hi, .int .u64 r.lo, .int .i64 r.n, .int .i64 r.g] t)) (.slice (some ⟨w.heap.size, 0, none⟩) 1 1) [r] :=
  .inr ⟨_, 1, rfl, fun j u hu => news_rt w r t j u (by simpa [flat] using hu)⟩

set_option maxHeartbeats 2000000 in
theorem of_any (N T : Nat) (v : Value) (rs : List Rt) (fam : Int) (w : World) (hc : w.cell? ⟨T, 35, none⟩ = some v) (hr : RwO w N v rs) (hlen : rs.length ≤ 1000) :
    Calls Try.prog 36 #[.pointer (some ⟨T, 35, none⟩), .int .i64 fam] w fun e w' => ∃ ao n cap, e = .returned (.slice ao n cap) ∧ n = (famF rs fam).length ∧ RwO w' w.heap.size (.slice ao n cap) (famF rs fam) ∧ Below w.heap.size w w' := by
  obtain ⟨ao, cap, rfl, hm⟩ := RwO.form hr
  have hT := World.block_lt_of_cell? w ⟨T, 35, none⟩ hc
  have HR := Lib.hid hr
  obtain ⟨z, hz⟩ : ∃ z, z = rs.length := ⟨_, rfl⟩
  rw [← hz] at hc hlen
  have Hz := Lib.hid hz
  have Hc := Lib.hid hc
  clear hr hz hc
  go_enter Try.func36, Try.ntmps36
  go_wp2
  go_loopw [5, 6] (fun lv i wr => ∃ (k m : Nat) (ao2 : Option Addr) (cap2 : Nat), k ≤ z ∧ i = .int .i64 k ∧ lv = .slice ao2 m cap2 ∧ Hid (RwO wr w.heap.size (.slice ao2 m cap2) (famF (rs.take k) fam)) ∧ Hid (Below w.heap.size w wr)) (fun _ i _ => z - (intOf i).toNat)
  case atStart =>
    refine ⟨0, 0, _, _, Nat.zero_le _, rfl, rfl, ?_, (Below.refl _ _).alloc (Nat.le_refl _) _⟩
    exact World.ownsRow_lit w #[] 0 (Nat.le_refl _) (by unfold maxLen; omega) rfl
  case round =>
    obtain ⟨k, m, ao2, cap2, hk, rfl, rfl, HL, HB⟩ := hrel
    have cT := (HB.out.cell (p := ⟨T, 35, none⟩) hT).trans Hc.out
    by_cases hlt : k < z
    · obtain ⟨r, hrk⟩ : ∃ r, rs[k]? = some r := ⟨_, List.getElem?_eq_getElem (by rw [← Hz.out]; exact hlt)⟩
      obtain ⟨b, rfl, hat, -, -, hbl⟩ := RwO.at HR.out hrk
      have c0 := (HB.out.cell (p := ⟨b, k * 5, none⟩) hbl).trans hat.c0
      have c1 := (HB.out.cell (p := ⟨b, k * 5 + 1, none⟩) hbl).trans hat.c1
      have c2 := (HB.out.cell (p := ⟨b, k * 5 + 2, none⟩) hbl).trans hat.c2
      have c3 := (HB.out.cell (p := ⟨b, k * 5 + 3, none⟩) hbl).trans hat.c3
      have c4 := (HB.out.cell (p := ⟨b, k * 5 + 4, none⟩) hbl).trans hat.c4
      have Hrk := Lib.hid hrk
      have q1 : (k : Int) < (z : Int) := by omega
      clear hat hrk
      cases hq : (r.f == fam) with
      | true =>
        have Hq := Lib.hid hq
        have hwl : w.heap.size ≤ wr.heap.size := HB.out.size
        have hfl : (famF (rs.take k) fam).length + [r].length ≤ 100000 := by
          have h1 := famF_le (rs.take k) fam
          rw [List.length_take] at h1
          simp; omega
        go_wp2_with (at_builtin; refine wpList_append_rt rfl _ _ rfl w.heap.size _ (famF (rs.take k) fam) rfl (HL.out.alloc _) _ [r] rfl (src_rt wr r _) hfl ?c1 ?_)
        case c1 => simp; omega
        intro ao3 m3 cap3 w3 hm3 hr3 hg3 _
        have HL3 := Lib.hid (show RwO w3 w.heap.size (.slice ao3 m3 cap3) (famF (rs.take (k + 1)) fam) by rw [fam_yes Hrk.out Hq.out]; exact hr3)
        have HB3 := Lib.hid (below_grown (HB.out.trans (((Below.refl wr.heap.size wr).alloc (Nat.le_refl _) _).mono hwl)) hg3 (HL.out.base) (by simp; omega))
        clear hr3 hg3 hm3
        go_wp2
        go_roundw
        case rel => exact ⟨k + 1, m3, ao3, cap3, by omega, by go_num, rfl, HL3, HB3⟩
        case measure => simp [intOf]; omega
      | false =>
        have Hq := Lib.hid hq
        go_wp2
        go_roundw
        case rel => exact ⟨k + 1, m, ao2, cap2, by omega, by go_num, rfl, by show RwO _ _ _ _; rw [fam_no Hrk.out Hq.out]; exact HL.out, HB⟩
        case measure => simp [intOf]; omega
    · obtain rfl : k = z := by omega
      go_wp2
      go_ret
      have h := HL.out
      rw [Hz.out, List.take_length] at h
      obtain ⟨ao4, cap4, e4, _⟩ := RwO.form h
      refine ⟨ao2, m, cap2, rfl, by simp at e4; exact e4.2.1, h, HB.out⟩

end Go.Proofs.Ytnfkgnjeamnhfab
namespace Go.Proofs.Ytnfkgnjeamnhfab
open Go.RowKit Go.Sort

theorem RwO.setOther {w : World} {N b o : Nat} {v : Value} {rs : List Rt} (h : RwO w N v rs) (hv : ∀ k, v.ownBlock = some k → k ≠ b) (x : Value) : RwO (w.setCell ⟨b, o, none⟩ x) N v rs := by
  refine ⟨h.1, ?_⟩
  rcases h.2 with h1 | ⟨g, cap, cur, h1, hN, hgg, rest⟩
  · exact .inl h1
  · exact .inr ⟨g, cap, cur, h1, hN, (Below.heap_setCell w ⟨b, o, none⟩ x g (hv g (by rw [h1]; rfl))).trans hgg, rest⟩
theorem below_set {B : Nat} {w w1 : World} {b o : Nat} (h : Below B w w1) (hb : B ≤ b) (x : Value) : Below B w (w1.setCell ⟨b, o, none⟩ x) :=
  ⟨h.os, h.tape, h.output, by simp [World.setCell]; exact h.size, fun k hk => (Below.heap_setCell w1 ⟨b, o, none⟩ x k (by show k ≠ b; omega)).trans (h.block k hk)⟩
theorem lit2 (w : World) (a : Obj) : RwO ((w.alloc a).alloc (.cells #[] 45)) w.heap.size (.slice (some ⟨w.heap.size + 1, 0, none⟩) 0 0) [] := by
  have := World.ownsRow_lit (base := w.heap.size) (e := 45) (size := 5) (w.alloc a) #[] 0 (by simp) (by unfold maxLen; omega) rfl
  simp only [World.size_alloc] at this
  exact this

set_option maxHeartbeats 2000000 in
theorem copy_any (N T : Nat) (v : Value) (rs : List Rt) (w : World) (hc : w.cell? ⟨T, 35, none⟩ = some v) (hr : RwO w N v rs) (hlen : rs.length ≤ 1000) :
    Calls Try.prog 58 #[.pointer (some ⟨T, 35, none⟩)] w fun e w' => ∃ ao n cap, e = .returned (.agg #[.slice ao n cap]) ∧ n = rs.length ∧ RwO w' w.heap.size (.slice ao n cap) rs ∧ Below w.heap.size w w' := by
  obtain ⟨ao, cap, rfl, hm⟩ := RwO.form hr
  have hT := World.block_lt_of_cell? w ⟨T, 35, none⟩ hc
  have HR := Lib.hid hr.src
  obtain ⟨z, hz⟩ : ∃ z, z = rs.length := ⟨_, rfl⟩
  rw [← hz] at hc hlen HR
  have Hz := Lib.hid hz
  have hbl : ∀ (a b : Obj), Below w.heap.size w ((w.alloc a).alloc b) := two_boxes w
  have HS := Lib.hid (fun a b => SrcR.below HR.out (fun x u hu => ((hbl a b).cell (p := x) (World.block_lt_of_cell? w x hu)).trans hu))
  have HBl := Lib.hid hbl
  clear hr hz hbl
  go_enter Try.func58, Try.ntmps58
  go_wp2_with (at_builtin; refine wpList_append_rt rfl _ _ rfl w.heap.size _ [] rfl (lit2 w _) _ rs rfl (HS.out _ _) ?c4 ?c5 ?_)
  case c4 => have := Hz.out; omega
  case c5 => omega
  intro ao3 m3 cap3 w3 hm3 hr3 hg3 hat3
  have hB3 := below_grown (HBl.out _ _) hg3 (fun k hk => by simp [Value.ownBlock] at hk; omega) (by simp; omega)
  have cx : w3.cell? ⟨w.heap.size, 0, none⟩ = some (.slice none 0 0) := by
    rw [hg3.cell_far ⟨w.heap.size, 0, none⟩ (by simp; omega) (by simp [Value.ownBlock])]; simp
  have fx : w3.frozen? ⟨w.heap.size, 0, none⟩ = false := by
    rw [hg3.frozen_far ⟨w.heap.size, 0, none⟩ (by simp; omega) (by simp [Value.ownBlock])]; simp
  have hne : ∀ k, (Value.slice ao3 m3 cap3).ownBlock = some k → k ≠ w.heap.size := by
    intro k hk e
    rcases hat3 with h | h
    · rw [h] at hk; simp [Value.ownBlock] at hk; omega
    · rw [h] at hk; simp at hk; omega
  have HR3 := Lib.hid (show RwO w3 w.heap.size (.slice ao3 m3 cap3) rs from hr3)
  have Hne := Lib.hid hne
  have HB3 := Lib.hid hB3
  have Hm3 := Lib.hid (show m3 = rs.length from hm3)
  clear hr3 hg3 hat3 hne hB3 hm3
  go_wp2
  refine bodyPost_ret (v := .agg #[.slice ao3 m3 cap3]) (by simp [results, Try.results58, go_sem, cx]) rfl ⟨ao3, m3, cap3, rfl, Hm3.out, ?_, ?_⟩
  · exact HR3.out.setOther (fun k hk => Hne.out k hk) _
  · exact below_set HB3.out (Nat.le_refl _) _
end Go.Proofs.Ytnfkgnjeamnhfab
