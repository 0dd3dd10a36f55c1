import Derived.Test.YtnfkgnjeamnhfaaGreatDe
import Derived.Test.YtnfkgnjeamnhfaaGreatWd
import Derived.Test.YtnfkgnjeamnhfaaGreatWh
import Derived.Deep.DeepCutAuto
namespace Go.Proofs.YtnfkgnjeamnhfaaGreat
open Go.RowKit

/-! ### What the two tables tell of a tree is the same. -/
theorem Rel.gdr {cs rs : List Rt} (h : Rel cs rs) : ∀ r ∈ rs, Gd r := fun r hr => h.gd r (h.perm.symm.subset hr)
theorem Rel.fam {cs rs : List Rt} (h : Rel cs rs) (fam : Int) : Fam (famF cs fam) fam := fam_of h.srt h.gd fam
theorem Rel.pair {cs rs : List Rt} (h : Rel cs rs) (fam : Int) : Pair (famF cs fam) (famF rs fam) fam := ⟨h.fam fam, h.perm.filter _⟩
theorem lnsT_of {cs : List Rt} (hg : ∀ r ∈ cs, Gd r) (fam : Int) : LensOf (lnsT cs fam) (famF cs fam) :=
  lensC_of (fun r hr => by have := (hg r (famF_mem.1 hr).1).len; omega)
theorem Rel.lns {cs rs : List Rt} (h : Rel cs rs) (fam : Int) : lnsD rs fam = lnsT cs fam :=
  (lnsD_of h.gdr fam).eq (lnsT_of h.gd fam) (fun r => ((h.pair fam).mem r).symm)
theorem Rel.ents {cs rs all : List Rt} {fam m : Int} (h : Rel cs rs) (hall : H.lenE fam m = 0 → Lays fam rs all) : entsD rs all fam m = entsT cs fam m := by
  unfold entsD entsT
  by_cases h0 : H.lenE fam m = 0
  · rw [if_pos h0, if_pos h0]
    obtain ⟨hf, -, -⟩ := lenE_ok h0
    have e : all = famF cs fam := by
      have h1 : dumpR rs fam all := by unfold dumpR; rw [if_pos hf]; exact hall h0
      rw [h.dump h1]; unfold dumpT; rw [if_pos hf]
    subst e
    have P := h.pair fam
    rw [h.lns fam]
    unfold entQ
    have e1 : (fun a => thr (famF rs fam) (lnsT cs fam) a m) = (fun a => thr (famF cs fam) (lnsT cs fam) a m) := funext fun a => P.thr _ a m
    have e2 : enOf (famF rs fam) (lnsT cs fam) m = enOf (famF cs fam) (lnsT cs fam) m := funext fun a => by unfold enOf; rw [P.grp, P.mks, P.bst]
    rw [e1, e2]
    by_cases hm : m ∈ lnsT cs fam
    · rw [if_pos hm, ead_eq P.fam (lnsT_of h.gd fam) m]
    · rw [if_neg hm, ead_none hm]; rfl
  · rw [if_neg h0, if_neg h0]
theorem entsT_len {cs : List Rt} {fam m : Int} (h : cs.length ≤ 256) : (entsT cs fam m).length ≤ 256 := by
  unfold entsT
  split
  · rw [List.length_map, ← eadK_all]
    exact Nat.le_trans (eadK_le _ (Nat.le_refl _)) (Nat.le_trans (famF_le cs fam) h)
  · simp
theorem lensT_len (cs : List Rt) (fam : Int) : (lensT cs fam).length ≤ 129 := by
  unfold lensT
  split
  · exact lensC_le _ 129
  · simp
/-- The document's Lengths, whole. -/
theorem rLens_all {N : Nat} {ρ : Nat → Nat} {w : World} {T rS rQ : Nat} {gs : Nat → List Int} {cs rs : List Rt} {lim : Int} {f : Nat → Value} (h : Tq N ρ w T rS rQ 4 3 gs rs lim f) (hlen : rs.length ≤ 1000) (hrel : Rel cs rs) (fam : Int) :
    Calls Tryz.prog 20 #[.pointer (some ⟨T, 0, none⟩), .int .i64 fam] w fun e w' => ∃ ao n cap, e = .returned (.tuple #[.slice ao n cap, .int .i64 (famE fam)]) ∧ n = (lensT cs fam).length ∧ w'.ownsRow w.heap.size 3 1 (.slice ao n cap) n (ints (lensT cs fam)) ∧ Below w.heap.size w w' := by
  unfold famE lensT
  by_cases hf : fam = 4 ∨ fam = 6
  · rw [if_pos hf, if_pos hf, ← hrel.lns fam]
    refine (Lengths_any h hlen fam hf).mono ?_
    rintro e w' ⟨ao, n, cap, rfl, -, h1, h2, h3⟩
    exact ⟨ao, n, cap, rfl, h1, h2, h3⟩
  · rw [if_neg hf, if_neg hf]
    have HZ := Lib.hid (H.rsize_no fam w (fun e => hf (.inl e)) (fun e => hf (.inr e)))
    clear h hf hrel hlen
    go_enter Tryz.func20, Tryz.ntmps20
    go_wp2_with (go_at_call 62; refine HZ.out.mono ?_; rintro e w1 ⟨rfl, rfl⟩)
    go_ret2
    exact ⟨none, 0, 0, rfl, rfl, World.ownsRow_nil _ _ _ _, Below.refl _ _⟩
theorem neq_en_self (r : En) (w : World) : Sem.run Tryz.prog (binOp BinOp.neq 88 (.agg #[.int .i64 r.a.1, .int .u64 r.a.2.1, .int .u64 r.a.2.2, .int .i64 r.g, .int .i64 r.k, .int .i64 r.b]) (.agg #[.int .i64 r.a.1, .int .u64 r.a.2.1, .int .u64 r.a.2.2, .int .i64 r.g, .int .i64 r.k, .int .i64 r.b])) w = .ok (.bool false) w := by
  simp [go_sem]
set_option maxHeartbeats 1000000 in
/-- Two lists of entries that read alike. -/
theorem sameE_yes (N M : Nat) (a1 a2 : Option Addr) (n c1 c2 : Nat) (xs : List En) (w : World) (h1 : RwE w N (.slice a1 n c1) xs) (h2 : RwE w M (.slice a2 n c2) xs) (hn : n = xs.length) (hm : n ≤ 1000) :
    Calls Tryz.prog 26 #[.slice a1 n c1, .slice a2 n c2] w fun e w' => e = .returned (.bool true) ∧ ∃ d, w' = w.drewN d := by
  have H1 := Lib.hid h1
  have H2 := Lib.hid h2
  have Hn := Lib.hid hn
  clear h1 h2 hn
  go_enter Tryz.func26, Tryz.ntmps26
  go_wp2
  go_loopw [5] (fun i wr => ∃ k d : Nat, k ≤ n ∧ i = .int .i64 k ∧ wr = w.drewN d) (fun i _ => n - (intOf i).toNat)
  case atStart => exact ⟨0, 0, Nat.zero_le _, rfl, rfl⟩
  case round =>
    obtain ⟨k, d, hk, rfl, rfl⟩ := hrel
    by_cases hlt : k < n
    · obtain ⟨r, hr⟩ : ∃ r, xs[k]? = some r := ⟨_, List.getElem?_eq_getElem (by rw [← Hn.out]; exact hlt)⟩
      obtain ⟨g1, rfl, -, hat1, -, -, -⟩ := RwE.at H1.out hr
      obtain ⟨g2, rfl, -, hat2, -, -, -⟩ := RwE.at H2.out hr
      have c0 : w.cell? ⟨g1, k * 6, none⟩ = some (.int .i64 r.a.1) := hat1 0 _ rfl
      have c1 : w.cell? ⟨g1, k * 6 + 1, none⟩ = some (.int .u64 r.a.2.1) := hat1 1 _ rfl
      have c2 : w.cell? ⟨g1, k * 6 + 2, none⟩ = some (.int .u64 r.a.2.2) := hat1 2 _ rfl
      have c3 : w.cell? ⟨g1, k * 6 + 3, none⟩ = some (.int .i64 r.g) := hat1 3 _ rfl
      have c4 : w.cell? ⟨g1, k * 6 + 4, none⟩ = some (.int .i64 r.k) := hat1 4 _ rfl
      have c5 : w.cell? ⟨g1, k * 6 + 5, none⟩ = some (.int .i64 r.b) := hat1 5 _ rfl
      have d0 : w.cell? ⟨g2, k * 6, none⟩ = some (.int .i64 r.a.1) := hat2 0 _ rfl
      have d1 : w.cell? ⟨g2, k * 6 + 1, none⟩ = some (.int .u64 r.a.2.1) := hat2 1 _ rfl
      have d2 : w.cell? ⟨g2, k * 6 + 2, none⟩ = some (.int .u64 r.a.2.2) := hat2 2 _ rfl
      have d3 : w.cell? ⟨g2, k * 6 + 3, none⟩ = some (.int .i64 r.g) := hat2 3 _ rfl
      have d4 : w.cell? ⟨g2, k * 6 + 4, none⟩ = some (.int .i64 r.k) := hat2 4 _ rfl
      have d5 : w.cell? ⟨g2, k * 6 + 5, none⟩ = some (.int .i64 r.b) := hat2 5 _ rfl
      have q1 : (k : Int) < (n : Int) := by omega
      have hE := neq_en_self r
      clear hat1 hat2 hr
      go_wp2
      go_quiet (fail)
      go_wp2
      go_roundw
      case rel => exact ⟨k + 1, _, by omega, by go_num, rfl⟩
      case measure => simp [intOf]; omega
    · obtain rfl : k = n := by omega
      go_wp2
      go_ret
      exact ⟨rfl, d, rfl⟩

end Go.Proofs.YtnfkgnjeamnhfaaGreat
