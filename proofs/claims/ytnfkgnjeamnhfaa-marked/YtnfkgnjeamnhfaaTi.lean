import Derived.Test.YtnfkgnjeamnhfaaTg
import Derived.Deep.CutRange
namespace Go.Proofs.Ytnfkgnjeamnhfaa
open Go.RowKit Go.Sort

theorem row_set {w : World} {N e z b o : Nat} {v : Value} {n : Nat} {xs : List Value} (h : w.ownsRow N e z v n xs) (hv : ∀ k, v.ownBlock = some k → k ≠ b) (x : Value) : (w.setCell ⟨b, o, none⟩ x).ownsRow N e z v n xs := by
  refine ⟨h.1, ?_⟩
  rcases h.2 with h1 | ⟨g, cap, cur, h1, hN, hgg, rest⟩
  · exact .inl h1
  · exact .inr ⟨g, cap, cur, h1, hN, (Below.heap_setCell w ⟨b, o, none⟩ x g (hv g (by rw [h1]; rfl))).trans hgg, rest⟩
/-- What the walk holds: the tree's box, the lengths that were asked. -/
structure LkI (w1 : World) (B bt lo hi : Nat) (v : Value) (n : Nat) (xs : List Int) (wr : World) : Prop where
  t : St wr bt 2 (trF lo hi)
  row : wr.ownsRow B 3 1 v n (ints xs)
  ne : ∀ g, v.ownBlock = some g → g ≠ bt
  b : Below B w1 wr
theorem LkI.below {w1 : World} {B bt lo hi : Nat} {v : Value} {n : Nat} {xs : List Int} {wr w' : World} (h : LkI w1 B bt lo hi v n xs wr) (hB : B ≤ w1.heap.size) (hb : Below wr.heap.size wr w') : LkI w1 B bt lo hi v n xs w' :=
  ⟨h.t.below hb (h.t.lt (by decide)), rowE_far h.row hb (fun g hg => (World.ownsRow.lt h.row g hg).2), h.ne, h.b.trans (hb.mono (Nat.le_trans hB h.b.size))⟩
theorem LkI.set {w1 : World} {B bt lo hi : Nat} {v : Value} {n : Nat} {xs : List Int} {wr : World} (h : LkI w1 B bt lo hi v n xs wr) (hB : B ≤ bt) (lo' hi' : Nat) : LkI w1 B bt lo' hi' v n xs ((wr.setCell ⟨bt, 0, none⟩ (.int .i64 lo')).setCell ⟨bt, 1, none⟩ (.int .i64 hi')) :=
  ⟨tr_set h.t, row_set (row_set h.row h.ne _) h.ne _, h.ne, below_set (below_set h.b hB _) hB _⟩
theorem LkI.push {w1 : World} {B bt lo hi : Nat} {v : Value} {n : Nat} {xs : List Int} {wr w3 : World} {o : Obj} {g3 cap3 : Nat} {x : Int} (h : LkI w1 B bt lo hi v n xs wr) (hB : B ≤ w1.heap.size)
    (hown : w3.ownsRow B 3 1 (.slice (some ⟨g3, 0, none⟩) (n + 1) cap3) (n + 1) (ints xs ++ [.int .i64 x])) (hg : (wr.alloc o).grownBy w3 v.ownBlock) (hat : v.ownBlock = some g3 ∨ g3 = wr.heap.size + 1) : LkI w1 B bt lo hi (.slice (some ⟨g3, 0, none⟩) (n + 1) cap3) (n + 1) (xs ++ [x]) w3 := by
  have hz := h.t.lt (by decide)
  refine ⟨(h.t.alloc (by decide) o).same (hg.block bt (by simp; omega) (fun e => h.ne bt e.symm rfl)), ?_, ?_, ?_⟩
  · rw [ints, List.map_append]; exact hown
  · intro g e
    simp [Value.ownBlock] at e
    subst e
    rcases hat with hat | hat
    · exact h.ne _ hat
    · omega
  · exact below_grown (h.b.trans ((box1 wr o).mono (Nat.le_trans hB h.b.size))) hg (fun b hb => (World.ownsRow.lt h.row b hb).1) (by have := h.b.size; simp; omega)
abbrev adF (a : Ad) : Nat → Value := fun j => if j = 0 then .int .i64 a.1 else if j = 1 then .int .u64 a.2.1 else .int .u64 a.2.2
theorem ad_at {w : World} {b : Nat} (a : Ad) (t : TypeId) (hb : b = w.heap.size) : St (w.alloc (.cells #[.int .i64 a.1, .int .u64 a.2.1, .int .u64 a.2.2] t)) b 3 (adF a) := by
  subst hb
  intro j hj
  rcases (by omega : j = 0 ∨ j = 1 ∨ j = 2) with rfl | rfl | rfl <;> simp [adF]
abbrev fdF : Nat → Value := fun j => if j = 0 then .int .i64 0 else if j = 1 then .int .i64 0 else .slice none 0 0
theorem fd_at {w : World} {b : Nat} (t : TypeId) (hb : b = w.heap.size) : St (w.alloc (.cells #[.int .i64 0, .int .i64 0, .slice none 0 0] t)) b 3 fdF := by
  subst hb
  intro j hj
  rcases (by omega : j = 0 ∨ j = 1 ∨ j = 2) with rfl | rfl | rfl <;> simp [fdF]
abbrev fdV (n g : Int) (v : Value) : Value := .agg #[.int .i64 n, .int .i64 g, v]

end Go.Proofs.Ytnfkgnjeamnhfaa
namespace Go.Proofs.Ytnfkgnjeamnhfaa
open Go.RowKit Go.Sort

theorem fam_of {cs : List Rt} (hs : Srt cs) (hg : ∀ r ∈ cs, Gd r) (fam : Int) : Fam (famF cs fam) fam :=
  ⟨List.Pairwise.filter _ hs, fun _ hr => hg _ (famF_mem.1 hr).1, fun _ hr => (famF_mem.1 hr).2⟩
/-- The family's lengths. -/
def lnsT (cs : List Rt) (fam : Int) : List Int := lensC (famF cs fam) 129
/-- What the program's Lengths tells. -/
def lensT (cs : List Rt) (fam : Int) : List Int := if fam = 4 ∨ fam = 6 then lnsT cs fam else []
/-- What the program's Entries tells. -/
def entsT (cs : List Rt) (fam m : Int) : List En := if H.lenE fam m = 0 then (eadC (famF cs fam) (lnsT cs fam) m).map (enOf (famF cs fam) (lnsT cs fam) m) else []
theorem lenE_ok {fam m : Int} (h : H.lenE fam m = 0) : (fam = 4 ∨ fam = 6) ∧ 0 ≤ m ∧ m ≤ wid fam := by
  unfold H.lenE at h
  unfold wid
  split at h
  · rename_i h4
    rw [if_pos h4]
    split at h
    · cases h
    · exact ⟨.inl h4, by omega, by omega⟩
  · rename_i h4
    rw [if_neg h4]
    split at h
    · rename_i h6
      split at h
      · cases h
      · exact ⟨.inr h6, by omega, by omega⟩
    · cases h
theorem adrE_ok {f : Int} {hi lo : Nat} (h : H.adrE f hi lo = 0) : f = 4 ∨ f = 6 := by
  unfold H.adrE at h
  split at h
  · left; assumption
  · split at h
    · right; assumption
    · cases h

set_option maxHeartbeats 1000000 in
theorem tlens_any {N : Nat} {ρ : Nat → Nat} {w : World} {T rS rQ : Nat} {gs : Nat → List Int} {rs : List Rt} {lim : Int} {f : Nat → Value} (h : Tq N ρ w T rS rQ 3 35 gs rs lim f) (hlen : rs.length ≤ 1000) (hs : Srt rs) (hg : ∀ r ∈ rs, Gd r) (fam : Int) :
    Calls Try.prog 15 #[.pointer (some ⟨T, 0, none⟩), .int .i64 fam] w fun e w' => ∃ ao n cap, e = .returned (.tuple #[.slice ao n cap, .int .i64 (famE fam)]) ∧ n = (lensT rs fam).length ∧ w'.ownsRow w.heap.size 3 1 (.slice ao n cap) n (ints (lensT rs fam)) ∧ Below w.heap.size w w' := by
  unfold famE lensT
  by_cases hf : fam = 4 ∨ fam = 6
  · rw [if_pos hf, if_pos hf]
    obtain ⟨x, hx, hw⟩ := width_fam fam w hf
    have HW := Lib.hid hw
    have HO := Lib.hid (of_any N T (f 35) rs fam w (h.rq.st 35 (by decide)).1 h.rq.row.1 hlen)
    have HLn := Lib.hid (fun (w1 : World) (v : Value) (hv : RwO w1 w.heap.size v (famF rs fam)) => elens_any w.heap.size v (famF rs fam) w1 hv (Nat.le_trans (famF_le rs fam) hlen) (fun r hr => by have := ((fam_of hs hg fam).gd r hr).len; omega))
    clear h hw hf hs hg
    go_enter Try.func15, Try.ntmps15
    go_wp2_with (first | (go_at_call 28; refine HW.out.mono ?_; rintro e w1 ⟨rfl, rfl⟩) | (go_at_call 29; refine HO.out.mono ?_; rintro e w2 ⟨ao, n, cap, rfl, hn, hr, hb⟩; have Hr := Lib.hid hr; have Hb := Lib.hid hb; clear hn hr hb) | (go_at_call 32; refine (HLn.out _ _ Hr.out).mono ?_; rintro e w3 ⟨ao3, n3, cap3, rfl, hn3, hr3, hb3⟩; have Hn3 := Lib.hid hn3; have Hr3 := Lib.hid hr3; have Hb3 := Lib.hid hb3; clear hn3 hr3 hb3))
    go_ret2
    exact ⟨ao3, n3, cap3, rfl, Hn3.out, row_lower Hr3.out Hb.out.size, Hb.out.trans (Hb3.out.mono Hb.out.size)⟩
  · rw [if_neg hf, if_neg hf]
    have HW := Lib.hid (H.width_no fam w (fun e => hf (.inl e)) (fun e => hf (.inr e)))
    clear h hf
    go_enter Try.func15, Try.ntmps15
    go_wp2_with (go_at_call 28; refine HW.out.mono ?_; rintro e w1 ⟨rfl, rfl⟩)
    go_ret2
    exact ⟨none, 0, 0, rfl, rfl, World.ownsRow_nil _ _ _ _, Below.refl _ _⟩

set_option maxHeartbeats 1000000 in
theorem tents_any {N : Nat} {ρ : Nat → Nat} {w : World} {T rS rQ : Nat} {gs : Nat → List Int} {rs : List Rt} {lim : Int} {f : Nat → Value} (h : Tq N ρ w T rS rQ 3 35 gs rs lim f) (hlen : rs.length ≤ 1000) (hs : Srt rs) (hg : ∀ r ∈ rs, Gd r) (fam m : Int) :
    Calls Try.prog 16 #[.pointer (some ⟨T, 0, none⟩), .int .i64 fam, .int .i64 m] w fun e w' => ∃ ao n cap, e = .returned (.tuple #[.slice ao n cap, .int .i64 (H.lenE fam m)]) ∧ n = (entsT rs fam m).length ∧ RwE w' w.heap.size (.slice ao n cap) (entsT rs fam m) ∧ Below w.heap.size w w' := by
  have HC := Lib.hid (fun (w : World) => H.checkLen_any fam m w)
  unfold entsT
  obtain ⟨x, hx⟩ : ∃ x, x = H.lenE fam m := ⟨_, rfl⟩
  rw [← hx] at HC ⊢
  by_cases h0 : x = 0
  · rw [if_pos h0]
    subst h0
    obtain ⟨h1, h2, h3⟩ := lenE_ok hx.symm
    have HO := Lib.hid (of_any N T (f 35) rs fam w (h.rq.st 35 (by decide)).1 h.rq.row.1 hlen)
    have HA := Lib.hid (fun (w1 : World) (v : Value) (hv : RwO w1 w.heap.size v (famF rs fam)) => at_any w.heap.size v (famF rs fam) m fam w1 hv (Nat.le_trans (famF_le rs fam) hlen) (fam_of hs hg fam) h1 h2 h3)
    clear h hs hg h1 h2 h3 hx
    go_enter Try.func16, Try.ntmps16
    go_wp2_with (first | (go_at_call 33; refine (HC.out _).mono ?_; rintro e w1 ⟨rfl, rfl⟩) | (go_at_call 29; refine HO.out.mono ?_; rintro e w2 ⟨ao, n, cap, rfl, hn, hr, hb⟩; have Hr := Lib.hid hr; have Hb := Lib.hid hb; clear hn hr hb) | (go_at_call 34; refine (HA.out _ _ Hr.out).mono ?_; rintro e w3 ⟨ao3, n3, cap3, rfl, hn3, hr3, hb3⟩; have Hn3 := Lib.hid hn3; have Hr3 := Lib.hid hr3; have Hb3 := Lib.hid hb3; clear hn3 hr3 hb3))
    go_ret2
    exact ⟨ao3, n3, cap3, rfl, by rw [List.length_map]; exact Hn3.out, row_lower Hr3.out Hb.out.size, Hb.out.trans (Hb3.out.mono Hb.out.size)⟩
  · rw [if_neg h0]
    have q : (x == 0) = false := ine_beq h0
    clear h h0 hx hs hg
    go_enter Try.func16, Try.ntmps16
    go_wp2_with (go_at_call 33; refine (HC.out _).mono ?_; rintro e w1 ⟨rfl, rfl⟩)
    go_ret2
    exact ⟨none, 0, 0, rfl, rfl, World.ownsRow_nil _ _ _ _, Below.refl _ _⟩

/-- What the program's Lookup tells. -/
def lookLT (cs : List Rt) (a : Ad) : Int := if H.adrE a.1 a.2.1 a.2.2 = 0 then lkL (famF cs a.1) (lnsT cs a.1) a else 0
def lookGT (cs : List Rt) (a : Ad) : Int := if H.adrE a.1 a.2.1 a.2.2 = 0 then gof (famF cs a.1) a (lkL (famF cs a.1) (lnsT cs a.1) a) else 0
def lookAT (cs : List Rt) (a : Ad) : List Int := if H.adrE a.1 a.2.1 a.2.2 = 0 then asks (fnd (famF cs a.1) (lnsT cs a.1) a) (lnsT cs a.1) else []
end Go.Proofs.Ytnfkgnjeamnhfaa
