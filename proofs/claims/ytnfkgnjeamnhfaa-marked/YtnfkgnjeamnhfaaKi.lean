import Derived.Test.YtnfkgnjeamnhfaaKg
namespace Go.Proofs.Ytnfkgnjeamnhfaa
open Go.RowKit Go.Sort

/-- How many of some lengths are below another. -/
def cnt (l : List Int) (x : Int) : Nat := (l.filter (fun m => decide (m < x))).length
theorem cnt_yes {m x : Int} {l : List Int} (h : m < x) : cnt (m :: l) x = cnt l x + 1 := by unfold cnt; rw [List.filter_cons, if_pos (by simpa using h)]; rfl
theorem cnt_no {m x : Int} {l : List Int} (h : ¬ m < x) : cnt (m :: l) x = cnt l x := by unfold cnt; rw [List.filter_cons, if_neg (by simpa using h)]
theorem up_get {L : List Int} (h : Up L) {i j : Nat} {x y : Int} (hi : L[i]? = some x) (hj : L[j]? = some y) (hij : i < j) : x < y := by
  obtain ⟨h1, rfl⟩ := List.getElem?_eq_some_iff.1 hi
  obtain ⟨h2, rfl⟩ := List.getElem?_eq_some_iff.1 hj
  exact List.pairwise_iff_getElem.1 h i j h1 h2 hij
set_option maxRecDepth 4000 in
set_option maxHeartbeats 2000000 in
theorem marks_any (L : List Int) (n k : Nat) (x : Int) (w : World) (hn : n = L.length) (hn2 : n ≤ 200) (hu : Up L) (hx : L[k]? = some x) :
    Calls Try.prog 26 #[.int .i64 n, .int .i64 k] w fun e w' => e = .returned (.int .i64 (cnt (way L x) x : Nat)) ∧ w' = w := by
  have hkn : k < n := by rw [hn]; exact (List.getElem?_eq_some_iff.1 hx).1
  have Hn := Lib.hid hn
  have HU := Lib.hid (And.intro hu hx)
  obtain ⟨C, hC⟩ : ∃ C, C = cnt (way L x) x := ⟨_, rfl⟩
  rw [← hC]
  have HC := Lib.hid hC
  clear hn hu hx hC
  go_enter Try.func26, Try.ntmps26
  go_wp2
  go_loop [5, 6, 7] (fun mv lv hv => ∃ m lo hi : Nat, mv = .int .i64 m ∧ lv = .int .i64 lo ∧ hv = .int .i64 hi ∧ lo ≤ k ∧ k < hi ∧ hi ≤ n ∧ m ≤ lo ∧ Hid (m + cnt (way (slc L lo hi) x) x = C)) (fun _ lv hv => (intOf hv).toNat - (intOf lv).toNat)
  case atStart => exact ⟨0, 0, n, rfl, rfl, rfl, Nat.zero_le _, hkn, Nat.le_refl _, Nat.le_refl _, by rw [Nat.zero_add, Hn.out, slc_all]; exact HC.out.symm⟩
  case round =>
    obtain ⟨m, lo, hi, rfl, rfl, rfl, h1, h2, h3, h4, HI⟩ := hrel
    obtain ⟨p, hp⟩ : ∃ p, p = (lo + hi) / 2 := ⟨_, rfl⟩
    have hp1 : lo ≤ p := by omega
    have hp2 : p < hi := by omega
    obtain ⟨xp, hxp⟩ : ∃ xp, L[p]? = some xp := ⟨_, List.getElem?_eq_getElem (by rw [← Hn.out]; omega)⟩
    have hw := way_slc (L := L) (lo := lo) (hi := hi) (x := xp) (n := x) (by omega) (by rw [← Hn.out]; exact h3) (by rw [← hp]; exact hxp)
    rw [← hp] at hw
    have q1 : (lo : Int) < (hi : Int) := by omega
    have q2 : ((lo : Int) + (hi : Int)).tdiv 2 = (p : Int) := by rw [hp]; rfl
    have q3 : IntKind.i64.wrap ((lo : Int) + (hi : Int)) = (lo : Int) + (hi : Int) := by simp [IntKind.wrap, IntKind.bits, IntKind.signed]; omega
    have HW := Lib.hid hw
    have Hp := Lib.hid hp
    clear hw hp
    rcases Nat.lt_trichotomy p k with hlt | heq | hgt
    · have hlx := up_get HU.out.1 hxp HU.out.2 hlt
      have HI2 := Lib.hid (show (m + 1) + cnt (way (slc L (p + 1) hi) x) x = C by
        rw [← HI.out, HW.out, if_neg (by omega), if_pos hlx, cnt_yes hlx]; omega)
      have q4 : ((p : Int) == (k : Int)) = false := ine_beq (by omega)
      have q5 : (p : Int) < (k : Int) := by omega
      clear HI hxp hlx
      go_wp2
      exact ⟨⟨m + 1, p + 1, hi, by go_num, by go_num, rfl, by omega, by omega, by omega, by omega, HI2⟩, by simp [intOf]; omega⟩
    · subst heq
      have hxx : xp = x := by rw [HU.out.2] at hxp; cases hxp; rfl
      subst hxx
      have HI2 := Lib.hid (show m = C by
        rw [← HI.out, HW.out, if_neg (by omega), if_neg (by omega), cnt_no (by omega)]; rfl)
      clear HI hxp
      go_wp2
      go_ret
      exact ⟨by rw [← HI2.out]; rfl, rfl⟩
    · have hlx := up_get HU.out.1 HU.out.2 hxp hgt
      have HI2 := Lib.hid (show m + cnt (way (slc L lo p) x) x = C by
        rw [← HI.out, HW.out, if_pos hlx, cnt_no (by omega)])
      have q4 : ((p : Int) == (k : Int)) = false := ine_beq (by omega)
      have q5 : ¬ (p : Int) < (k : Int) := by omega
      have q6 : decide ((p : Int) < (k : Int)) = false := decide_eq_false q5
      clear HI hxp hlx
      go_wp2
      exact ⟨⟨m, lo, p, rfl, rfl, rfl, by omega, by omega, by omega, by omega, HI2⟩, by simp [intOf]; omega⟩
/-! ### Sums. -/
def sumN {α : Type} (l : List α) (f : α → Nat) : Nat := (l.map f).foldr (· + ·) 0
theorem sumN_cons {α : Type} (x : α) (l : List α) (f : α → Nat) : sumN (x :: l) f = f x + sumN l f := rfl
theorem sumN_nil {α : Type} (f : α → Nat) : sumN [] f = 0 := rfl
theorem sumN_append {α : Type} (a b : List α) (f : α → Nat) : sumN (a ++ b) f = sumN a f + sumN b f := by
  induction a with
  | nil => simp [sumN_nil]
  | cons x a ih => rw [List.cons_append, sumN_cons, sumN_cons, ih]; omega
theorem sumN_congr {α : Type} {l : List α} {f g : α → Nat} (h : ∀ x ∈ l, f x = g x) : sumN l f = sumN l g := by
  induction l with
  | nil => rfl
  | cons x l ih => rw [sumN_cons, sumN_cons, h x (by simp), ih (fun y hy => h y (by simp [hy]))]
theorem sumN_add {α : Type} (l : List α) (f g : α → Nat) : sumN l (fun x => f x + g x) = sumN l f + sumN l g := by
  induction l with
  | nil => rfl
  | cons x l ih => rw [sumN_cons, sumN_cons, sumN_cons, ih]; omega
theorem sumN_zero {α : Type} {l : List α} {f : α → Nat} (h : ∀ x ∈ l, f x = 0) : sumN l f = 0 := by
  induction l with
  | nil => rfl
  | cons x l ih => rw [sumN_cons, h x (by simp), ih (fun y hy => h y (by simp [hy]))]
theorem sumN_swap {α β : Type} (a : List α) (b : List β) (f : α → β → Nat) : sumN a (fun x => sumN b (fun y => f x y)) = sumN b (fun y => sumN a (fun x => f x y)) := by
  induction a with
  | nil => rw [sumN_nil]; exact (sumN_zero (fun _ _ => rfl)).symm
  | cons x a ih => rw [sumN_cons, ih, ← sumN_add]; rfl
theorem sumN_filter {α : Type} (l : List α) (p : α → Bool) : (l.filter p).length = sumN l (fun x => if p x then 1 else 0) := by
  induction l with
  | nil => rfl
  | cons x l ih =>
    rw [sumN_cons, List.filter_cons]
    split
    · rw [List.length_cons, ih]; omega
    · rw [ih]; omega
/-- Of distinct places just one is the one. -/
theorem sumN_one {l : List Ad} (h : l.Pairwise alt) {c : Ad} (hc : c ∈ l) : sumN l (fun a => if a = c then 1 else 0) = 1 := by
  induction l with
  | nil => simp at hc
  | cons x l ih =>
    obtain ⟨h1, h2⟩ := List.pairwise_cons.1 h
    rw [sumN_cons]
    by_cases e : x = c
    · subst e
      rw [if_pos rfl, sumN_zero (fun y hy => if_neg (fun e => by subst e; exact alt_irrefl _ (h1 y hy)))]
    · rw [if_neg e, ih h2 ((List.mem_cons.1 hc).resolve_left (fun e' => e e'.symm))]
theorem sumN_none {l : List Ad} {c : Ad} (hc : c ∉ l) : sumN l (fun a => if a = c then 1 else 0) = 0 := sumN_zero (fun y hy => if_neg (fun e => by subst e; exact hc hy))
/-- All marks at a length: one for each route that has one there. -/
theorem marks_at {l : List Rt} {L : List Int} {m : Int} {es : List Ad} (hd : es.Pairwise alt) (he : ∀ r ∈ l, m ≤ r.n → m ∈ way L r.n → cutD (adR r) m ∈ es) :
    sumN es (fun a => mks l L a m) = sumN l (fun r => if m < r.n ∧ m ∈ way L r.n then 1 else 0) := by
  have h1 : ∀ a ∈ es, mks l L a m = sumN l (fun r => if mrk L a m r then 1 else 0) := fun a _ => by unfold mks; exact sumN_filter _ _
  rw [sumN_congr h1, sumN_swap]
  refine sumN_congr (fun r hr => ?_)
  by_cases hc : m < r.n ∧ m ∈ way L r.n
  · rw [if_pos hc]
    refine Eq.trans (sumN_congr (fun a _ => ?_)) (sumN_one hd (he r hr (by omega) hc.2))
    unfold mrk
    simp [hc.1, hc.2, eq_comm]
  · rw [if_neg hc]
    refine sumN_zero (fun a _ => ?_)
    unfold mrk
    rw [if_neg]
    intro h
    simp only [Bool.and_eq_true, decide_eq_true_eq] at h
    exact hc ⟨h.1.1, h.2⟩
end Go.Proofs.Ytnfkgnjeamnhfaa
