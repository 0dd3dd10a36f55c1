import Derived.Test.YtnfkgnjeamnhfaaKi
namespace Go.Proofs.Ytnfkgnjeamnhfaa
open Go.RowKit Go.Sort

/-! ### Marked: the sums. -/
theorem up_nodup {l : List Int} (h : Up l) : l.Nodup := h.imp (fun {a b} hab e => by subst e; omega)
theorem srt_nodupM {l : List Rt} (h : Srt l) : l.Nodup := h.imp (fun {a b} hab e => by subst e; exact klt_irrefl _ hab)
theorem ead_all {l : List Rt} {fam : Int} (L : List Int) (h : Fam l fam) (m : Int) : (eadC l L m).Pairwise alt ∧ ∀ a, a ∈ eadC l L m ↔ ∃ r ∈ l, (m ≤ r.n ∧ m ∈ way L r.n) ∧ cutD (adR r) m = a := by
  obtain ⟨a1, a2⟩ := fold_srt (fun r => cutD (adR r) m) (fun r => decide (m ≤ r.n ∧ m ∈ way L r.n)) l [] (h.mono m) List.Pairwise.nil (fun a ha => by cases ha)
  refine ⟨a1, fun a => (a2 a).trans ⟨?_, ?_⟩⟩
  · rintro (h0 | ⟨r, hr, h1, h2⟩)
    · cases h0
    · exact ⟨r, hr, of_decide_eq_true h1, h2⟩
  · rintro ⟨r, hr, h1, h2⟩
    exact .inr ⟨r, hr, decide_eq_true h1, h2⟩
/-- How many marks lie at a length. -/
def mkAt (l : List Rt) (L : List Int) (m : Int) : Nat := sumN (eadC l L m) (fun a => mks l L a m)
/-- How many routes lie there. -/
def rtAt (l : List Rt) (L : List Int) (m : Int) : Nat := sumN (eadC l L m) (fun a => if bst l a m = m then 1 else 0)
theorem cnt_lens {L : List Int} (hu : Up L) (x : Int) : sumN L (fun m => if m < x ∧ m ∈ way L x then 1 else 0) = cnt (way L x) x := by
  have h1 := (sumN_filter L (fun m => decide (m < x ∧ m ∈ way L x))).symm
  simp only [decide_eq_true_eq] at h1
  rw [h1]
  unfold cnt
  refine List.Perm.length_eq ((List.perm_ext_iff_of_nodup ((up_nodup hu).filter _) (List.Pairwise.filter _ (vis_nodup _ _ hu))).2 (fun m => ?_))
  simp only [List.mem_filter, decide_eq_true_eq]
  constructor
  · rintro ⟨_, h2, h3⟩; exact ⟨h3, h2⟩
  · rintro ⟨h3, h2⟩; exact ⟨vis_sub _ _ _ h3, h2, h3⟩
theorem marks_sum {l : List Rt} {fam : Int} {L : List Int} (h : Fam l fam) (hL : LensOf L l) : sumN L (mkAt l L) = sumN l (fun r => cnt (way L r.n) r.n) := by
  rw [sumN_congr (f := mkAt l L) (g := fun m => sumN l (fun r => if m < r.n ∧ m ∈ way L r.n then 1 else 0)) (fun m _ => marks_at (ead_all L h m).1 (fun r hr h1 h2 => ((ead_all L h m).2 _).2 ⟨r, hr, ⟨h1, h2⟩, rfl⟩)), sumN_swap]
  exact sumN_congr (fun r _ => cnt_lens hL.up r.n)
/-- What an entry tells. -/
theorem own_iff {l : List Rt} {fam : Int} {L : List Int} (h : Fam l fam) (_hL : LensOf L l) {m : Int} (h0 : 0 ≤ m) {a : Ad} (ha : a ∈ eadC l L m) : bst l a m = m ↔ ∃ r ∈ l, r.n = m ∧ adR r = a := by
  obtain ⟨r0, hr0, -, hc⟩ := ((ead_all L h m).2 a).1 ha
  have hcut : cutD a m = a := by rw [← hc, cut_cut _ (Int.le_refl m)]
  obtain ⟨k1, k2, k3⟩ := bst_spec l a m
  constructor
  · intro e
    rcases k2 with k2 | ⟨r, hr, hm, e2⟩
    · omega
    · refine ⟨r, hr, by omega, ?_⟩
      rw [← hm.2, show r.n = m by omega, hcut]
  · rintro ⟨r, hr, e1, e2⟩
    have hM : Mat a m r := ⟨by omega, by rw [e1, hcut, e2]⟩
    have h4 := k3 r hr hM
    rcases k2 with k2 | ⟨r2, hr2, hm2, e2⟩
    · omega
    · have := hm2.1; omega
theorem count_le {l : List Rt} (hn : l.Nodup) (p : Rt → Bool) (h : ∀ r ∈ l, ∀ s ∈ l, p r = true → p s = true → r = s) {r : Rt} (hr : r ∈ l) (hp : p r = true) : (l.filter p).length = 1 := by
  have h1 : r ∈ l.filter p := List.mem_filter.2 ⟨hr, hp⟩
  have h2 : (l.filter p).Nodup := hn.filter _
  have h3 : ∀ s ∈ l.filter p, s = r := fun s hs => h s (List.mem_filter.1 hs).1 r hr (List.mem_filter.1 hs).2 hp
  match hq : l.filter p with
  | [] => rw [hq] at h1; cases h1
  | [x] => rfl
  | x :: y :: t =>
    rw [hq] at h2 h3
    have e1 := h3 x (by simp)
    have e2 := h3 y (by simp)
    rw [List.nodup_cons] at h2
    exact absurd (by rw [e1, e2]; simp) h2.1
theorem rt_at {l : List Rt} {fam : Int} {L : List Int} (h : Fam l fam) (hL : LensOf L l) {m : Int} (h0 : 0 ≤ m) : rtAt l L m = sumN l (fun r => if r.n = m then 1 else 0) := by
  unfold rtAt
  obtain ⟨a1, a2⟩ := ead_all L h m
  have h1 : ∀ a ∈ eadC l L m, (if bst l a m = m then 1 else 0) = sumN l (fun r => if r.n = m ∧ a = adR r then 1 else 0) := by
    intro a ha
    have hs := (sumN_filter l (fun r => decide (r.n = m ∧ a = adR r))).symm
    simp only [decide_eq_true_eq] at hs
    rw [hs]
    by_cases hb : bst l a m = m
    · rw [if_pos hb]
      obtain ⟨r, hr, e1, e2⟩ := (own_iff h hL h0 ha).1 hb
      refine (count_le (srt_nodupM h.srt) _ (fun r hr s hs h1 h2 => ?_) hr (decide_eq_true ⟨e1, e2.symm⟩)).symm
      have h1 := of_decide_eq_true h1
      have h2 := of_decide_eq_true h2
      refine h.ones r hr s hs (isP_key (a := a) (m := m) ?_ ?_)
      · unfold isP; exact decide_eq_true ⟨h1.2.symm, h1.1⟩
      · unfold isP; exact decide_eq_true ⟨h2.2.symm, h2.1⟩
    · rw [if_neg hb]
      symm
      rw [List.length_eq_zero_iff, List.filter_eq_nil_iff]
      intro r hr hd
      have hd := of_decide_eq_true hd
      exact hb ((own_iff h hL h0 ha).2 ⟨r, hr, hd.1, hd.2.symm⟩)
  rw [sumN_congr h1, sumN_swap]
  refine sumN_congr (fun r hr => ?_)
  by_cases e : r.n = m
  · rw [if_pos e]
    refine Eq.trans (sumN_congr (fun a _ => ?_)) (sumN_one (c := adR r) a1 ((a2 _).2 ⟨r, hr, ⟨by omega, ?_⟩, ?_⟩))
    · simp [e]
    · rw [← e]; exact way_self L _ hL.up ((hL.mem _).2 ⟨r, hr, rfl⟩)
    · rw [← e, (h.gd r hr).cut]
  · rw [if_neg e]
    exact sumN_zero (fun a _ => if_neg (fun h => e h.1))
theorem up_one {L : List Int} (hu : Up L) {x : Int} (hx : x ∈ L) : sumN L (fun m => if x = m then 1 else 0) = 1 := by
  have h1 := (sumN_filter L (fun m => decide (x = m))).symm
  simp only [decide_eq_true_eq] at h1
  rw [h1]
  have : (L.filter (fun m => decide (x = m))).Perm [x] := (List.perm_ext_iff_of_nodup ((up_nodup hu).filter _) (by simp)).2 (fun m => by
    simp only [List.mem_filter, decide_eq_true_eq, List.mem_singleton]
    constructor
    · rintro ⟨_, rfl⟩; rfl
    · rintro rfl; exact ⟨hx, rfl⟩)
  exact this.length_eq
theorem lens0 {l : List Rt} {fam : Int} {L : List Int} (h : Fam l fam) (hL : LensOf L l) {m : Int} (hm : m ∈ L) : 0 ≤ m ∧ m ≤ wid fam := by
  obtain ⟨r, hr, rfl⟩ := (hL.mem m).1 hm
  have := wid_gd (h.gd r hr)
  rw [h.fam r hr] at this
  exact this
theorem rts_sum {l : List Rt} {fam : Int} {L : List Int} (h : Fam l fam) (hL : LensOf L l) : sumN L (rtAt l L) = l.length := by
  rw [sumN_congr (f := rtAt l L) (g := fun m => sumN l (fun r => if r.n = m then 1 else 0)) (fun m hm => rt_at h hL (lens0 h hL hm).1), sumN_swap]
  rw [sumN_congr (g := fun _ => 1) (fun r hr => up_one hL.up ((hL.mem _).2 ⟨r, hr, rfl⟩))]
  clear h hL
  induction l with
  | nil => rfl
  | cons x l ih => rw [sumN_cons, ih, List.length_cons]; omega
theorem rt_pos {l : List Rt} {fam : Int} {L : List Int} (h : Fam l fam) (hL : LensOf L l) {m : Int} (hm : m ∈ L) : 0 < rtAt l L m := by
  rw [rt_at h hL (lens0 h hL hm).1]
  obtain ⟨r, hr, rfl⟩ := (hL.mem m).1 hm
  have h1 := (sumN_filter l (fun s => decide (s.n = r.n))).symm
  simp only [decide_eq_true_eq] at h1
  rw [h1]
  exact List.length_pos_of_mem (List.mem_filter.2 ⟨hr, decide_eq_true rfl⟩)
/-- An entry's group and marks. -/
theorem ent_own {l : List Rt} {fam : Int} {L : List Int} (h : Fam l fam) {m : Int} {a : Ad} (ha : a ∈ eadC l L m) {r : Rt} (hr : r ∈ l) (hM : Mat a m r) (e : r.n = m) : grpOf l a m = r.g := by
  obtain ⟨r0, hr0, -, hc⟩ := ((ead_all L h m).2 a).1 ha
  have hcut : cutD a m = a := by rw [← hc, cut_cut _ (Int.le_refl m)]
  refine grp_some h.ones hr ?_
  unfold isP
  exact decide_eq_true ⟨by rw [← hM.2, e, hcut], e⟩
theorem ent_mark {l : List Rt} {fam : Int} {L : List Int} (h : Fam l fam) (hL : LensOf L l) {m : Int} (h0 : 0 ≤ m) {a : Ad} (ha : a ∈ eadC l L m) (hb : bst l a m ≠ m) : grpOf l a m = -1 ∧ 0 < mks l L a m := by
  have h1 : grpOf l a m = -1 := grp_none (fun r hr => by
    unfold isP
    exact decide_eq_false (fun hd => hb ((own_iff h hL h0 ha).2 ⟨r, hr, hd.2, hd.1⟩)))
  refine ⟨h1, ?_⟩
  have ht := (thr_iff h.gd h.ones hL.up (fun r hr => (hL.mem _).2 ⟨r, hr, rfl⟩) a m).2 (((ead_all L h m).2 a).1 ha)
  unfold thr at ht
  rcases of_decide_eq_true ht with h2 | h2
  · exact absurd h1 h2
  · exact h2
theorem cnt_le {L : List Int} (hu : Up L) (x : Int) : cnt (way L x) x ≤ L.length := by
  rw [← cnt_lens hu]
  have h1 := (sumN_filter L (fun m => decide (m < x ∧ m ∈ way L x))).symm
  simp only [decide_eq_true_eq] at h1
  rw [h1]
  exact List.length_filter_le _ _
theorem sumN_take {α : Type} {l : List α} {k : Nat} {x : α} (h : l[k]? = some x) (f : α → Nat) : sumN (l.take (k + 1)) f = sumN (l.take k) f + f x := by
  rw [List.take_add_one, h, sumN_append]
  show _ + sumN [x] f = _
  rw [sumN_cons, sumN_nil, Nat.add_zero]
theorem sumN_le {α : Type} {l : List α} {f : α → Nat} {B : Nat} (h : ∀ x ∈ l, f x ≤ B) : sumN l f ≤ l.length * B := by
  induction l with
  | nil => simp [sumN_nil]
  | cons x l ih =>
    rw [sumN_cons, List.length_cons, Nat.succ_mul]
    have := h x (by simp)
    have := ih (fun y hy => h y (by simp [hy]))
    omega
theorem ead_len {l : List Rt} {L : List Int} {m : Int} : (eadC l L m).length ≤ l.length := by
  rw [← eadK_all]; exact eadK_le _ (Nat.le_refl _)
end Go.Proofs.Ytnfkgnjeamnhfaa
