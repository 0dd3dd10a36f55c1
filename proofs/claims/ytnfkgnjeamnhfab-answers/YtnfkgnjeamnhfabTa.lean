import Derived.Test.YtnfkgnjeamnhfabSb
namespace Go.Proofs.Ytnfkgnjeamnhfab
/-! ### The tree, the marks, the entries, the walk: MATHEMATICS. -/

/-- The lengths on a way down the tree over a list: d tells at a length whether it goes on to the shorter ones (below 0), to the longer ones (above 0), or ends. -/
def visK (d : Int → Int) : Nat → List Int → List Int
  | 0, _ => []
  | k + 1, l => match l[l.length / 2]? with
    | none => []
    | some x => x :: (if d x < 0 then visK d k (l.take (l.length / 2)) else if 0 < d x then visK d k (l.drop (l.length / 2 + 1)) else [])
def vis (d : Int → Int) (l : List Int) : List Int := visK d l.length l
theorem mid_none {l : List Int} (h : l[l.length / 2]? = none) : l = [] := by
  rw [List.getElem?_eq_none_iff] at h
  exact List.eq_nil_of_length_eq_zero (by omega)
theorem mid_some {l : List Int} {x : Int} (h : l[l.length / 2]? = some x) : 0 < l.length := by
  have := (List.getElem?_eq_some_iff.1 h).1; omega
theorem visK_eq (d : Int → Int) : ∀ k k' l, l.length ≤ k → l.length ≤ k' → visK d k l = visK d k' l
  | 0, k', l, h, _ => by
    have e : l = [] := List.eq_nil_of_length_eq_zero (by omega)
    subst e
    cases k' <;> simp [visK]
  | k + 1, 0, l, _, h => by
    have e : l = [] := List.eq_nil_of_length_eq_zero (by omega)
    subst e
    simp [visK]
  | k + 1, k' + 1, l, h, h' => by
    simp only [visK]
    split
    · rfl
    · rename_i x hx
      have := mid_some hx
      rw [visK_eq d k k' (l.take (l.length / 2)) (by rw [List.length_take]; omega) (by rw [List.length_take]; omega), visK_eq d k k' (l.drop (l.length / 2 + 1)) (by rw [List.length_drop]; omega) (by rw [List.length_drop]; omega)]
theorem vis_nil (d : Int → Int) : vis d [] = [] := rfl
theorem vis_cons {d : Int → Int} {l : List Int} {x : Int} (h : l[l.length / 2]? = some x) : vis d l = x :: (if d x < 0 then vis d (l.take (l.length / 2)) else if 0 < d x then vis d (l.drop (l.length / 2 + 1)) else []) := by
  have h0 := mid_some h
  unfold vis
  obtain ⟨k, hk⟩ : ∃ k, l.length = k + 1 := ⟨l.length - 1, by omega⟩
  have e : visK d l.length l = visK d (k + 1) l := by rw [hk]
  rw [e]
  simp only [visK, h]
  rw [visK_eq d k (l.take (l.length / 2)).length (l.take (l.length / 2)) (by rw [List.length_take]; omega) (Nat.le_refl _), visK_eq d k (l.drop (l.length / 2 + 1)).length (l.drop (l.length / 2 + 1)) (by rw [List.length_drop]; omega) (Nat.le_refl _)]
/-- By the size of the list. -/
theorem tree_ind {P : List Int → Prop} (h0 : P []) (h1 : ∀ l x, l[l.length / 2]? = some x → P (l.take (l.length / 2)) → P (l.drop (l.length / 2 + 1)) → P l) (l : List Int) : P l := by
  have : ∀ k l, l.length ≤ k → P l := by
    intro k
    induction k with
    | zero => intro l h; rw [List.eq_nil_of_length_eq_zero (by omega : l.length = 0)]; exact h0
    | succ k ih =>
      intro l h
      cases hx : l[l.length / 2]? with
      | none => rw [mid_none hx]; exact h0
      | some x =>
        have := mid_some hx
        exact h1 l x hx (ih _ (by rw [List.length_take]; omega)) (ih _ (by rw [List.length_drop]; omega))
  exact this l.length l (Nat.le_refl _)
/-- The way of a length. -/
def way (l : List Int) (n : Int) : List Int := vis (fun x => n - x) l
theorem way_cons {l : List Int} {x n : Int} (h : l[l.length / 2]? = some x) : way l n = x :: (if n < x then way (l.take (l.length / 2)) n else if x < n then way (l.drop (l.length / 2 + 1)) n else []) := by
  unfold way
  rw [vis_cons h]
  simp only [show (n - x < 0) = (n < x) from propext (by omega), show (0 < n - x) = (x < n) from propext (by omega)]
/-- In rising order. -/
def Up (l : List Int) : Prop := l.Pairwise (· < ·)
theorem Up.take {l : List Int} (h : Up l) (k : Nat) : Up (l.take k) := List.Pairwise.sublist (List.take_sublist _ _) h
theorem Up.drop {l : List Int} (h : Up l) (k : Nat) : Up (l.drop k) := List.Pairwise.sublist (List.drop_sublist _ _) h
theorem split_mid {l : List Int} {x : Int} {m : Nat} (h : l[m]? = some x) : l = l.take m ++ x :: l.drop (m + 1) := by
  obtain ⟨hl, e⟩ := List.getElem?_eq_some_iff.1 h
  rw [← e, ← List.drop_eq_getElem_cons hl, List.take_append_drop]
theorem Up.low {l : List Int} (h : Up l) {x : Int} {m : Nat} (hx : l[m]? = some x) {y : Int} (hy : y ∈ l.take m) : y < x := by
  have h1 := h
  unfold Up at h1
  rw [split_mid hx] at h1
  exact (List.pairwise_append.1 h1).2.2 y hy x (List.mem_cons_self ..)
theorem Up.high {l : List Int} (h : Up l) {x : Int} {m : Nat} (hx : l[m]? = some x) {y : Int} (hy : y ∈ l.drop (m + 1)) : x < y := by
  have h1 := h
  unfold Up at h1
  rw [split_mid hx] at h1
  exact (List.pairwise_cons.1 (List.pairwise_append.1 h1).2.1).1 y hy
theorem Up.side {l : List Int} (h : Up l) {x : Int} {m : Nat} (hx : l[m]? = some x) {y : Int} (hy : y ∈ l) : (y ∈ l.take m ∧ y < x) ∨ y = x ∨ (y ∈ l.drop (m + 1) ∧ x < y) := by
  have hy' := hy
  rw [split_mid hx] at hy'
  rcases List.mem_append.1 hy' with h1 | h1
  · exact .inl ⟨h1, h.low hx h1⟩
  · rcases List.mem_cons.1 h1 with h2 | h2
    · exact .inr (.inl h2)
    · exact .inr (.inr ⟨h2, h.high hx h2⟩)
/-- What the walk asks. -/
def asks (p : Int → Bool) (l : List Int) : List Int := vis (fun x => if p x then 1 else -1) l
theorem asks_cons {p : Int → Bool} {l : List Int} {x : Int} (h : l[l.length / 2]? = some x) : asks p l = x :: (if p x then asks p (l.drop (l.length / 2 + 1)) else asks p (l.take (l.length / 2))) := by
  unfold asks
  rw [vis_cons h]
  cases p x <;> simp
/-- What was found last. -/
def lastB (p : Int → Bool) (q : Int → Int) (b : Int) (l : List Int) : Int := l.foldl (fun b x => if p x then q x else b) b
/-- THE WALK finds the longest: M is there, and so is all ahead of it on its way; or nothing is, and the last was M. -/
theorem walk_best {p : Int → Bool} {q : Int → Int} {M : Int} {L : List Int} (hq : ∀ x ∈ L, M ≤ x → q x = M) (hp : M ∈ L → p M = true) (hw : ∀ x ∈ way L M, x < M → M ∈ L → p x = true) :
    ∀ l, Up l → (∀ x ∈ l, x ∈ L) → ∀ b, ((M ∈ l ∧ ∀ x ∈ way l M, x ∈ way L M) ∨ (b = M ∧ ∀ x ∈ l, M ≤ x)) → lastB p q b (asks p l) = M := by
  intro l
  induction l using tree_ind with
  | h0 =>
    intro _ _ b h
    rcases h with h | h
    · cases h.1
    · simp [asks, vis_nil, lastB, h.1]
  | h1 l x hx iht ihd =>
    intro hu hL b h
    have hxl : x ∈ l := List.mem_of_getElem? hx
    rw [asks_cons hx]
    show lastB p q (if p x then q x else b) _ = M
    cases hpx : p x with
    | true =>
      simp only [if_true]
      refine ihd (hu.drop _) (fun y hy => hL y (List.mem_of_mem_drop hy)) _ ?_
      rcases h with ⟨h1, h2⟩ | ⟨h1, h2⟩
      · rcases hu.side hx h1 with ⟨h3, h4⟩ | h3 | ⟨h3, h4⟩
        · exact .inr ⟨hq x (hL x hxl) (by omega), fun y hy => by have := hu.high hx hy; omega⟩
        · exact .inr ⟨hq x (hL x hxl) (by omega), fun y hy => by have := hu.high hx hy; omega⟩
        · refine .inl ⟨h3, fun y hy => h2 y ?_⟩
          rw [way_cons hx, if_neg (by omega), if_pos h4]
          exact List.mem_cons_of_mem _ hy
      · exact .inr ⟨hq x (hL x hxl) (h2 x hxl), fun y hy => h2 y (List.mem_of_mem_drop hy)⟩
    | false =>
      rw [if_neg Bool.false_ne_true, if_neg Bool.false_ne_true]
      refine iht (hu.take _) (fun y hy => hL y (List.mem_of_mem_take hy)) _ ?_
      rcases h with ⟨h1, h2⟩ | ⟨h1, h2⟩
      · rcases hu.side hx h1 with ⟨h3, h4⟩ | h3 | ⟨h3, h4⟩
        · refine .inl ⟨h3, fun y hy => h2 y ?_⟩
          rw [way_cons hx, if_pos h4]
          exact List.mem_cons_of_mem _ hy
        · subst h3; rw [hp (hL _ h1)] at hpx; cases hpx
        · have := hw x (h2 x (by rw [way_cons hx]; exact List.mem_cons_self ..)) h4 (hL _ h1)
          rw [this] at hpx; cases hpx
      · exact .inr ⟨h1, fun y hy => h2 y (List.mem_of_mem_take hy)⟩
/-- Binary digits. -/
def digK : Nat → Nat → Nat
  | 0, _ => 0
  | k + 1, n => if n = 0 then 0 else digK k (n / 2) + 1
def dig (n : Nat) : Nat := digK n n
theorem digK_eq : ∀ k k' n, n ≤ k → n ≤ k' → digK k n = digK k' n
  | 0, k', n, h, _ => by
    have : n = 0 := by omega
    subst this; cases k' <;> simp [digK]
  | k + 1, 0, n, _, h => by
    have : n = 0 := by omega
    subst this; simp [digK]
  | k + 1, k' + 1, n, h, h' => by
    simp only [digK]
    split
    · rfl
    · rw [digK_eq k k' (n / 2) (by omega) (by omega)]
theorem dig_half {n : Nat} (h : 0 < n) : dig n = dig (n / 2) + 1 := by
  unfold dig
  obtain ⟨k, rfl⟩ : ∃ k, n = k + 1 := ⟨n - 1, by omega⟩
  rw [digK, if_neg (by omega), digK_eq k ((k + 1) / 2) ((k + 1) / 2) (by omega) (Nat.le_refl _)]
theorem dig_mono : ∀ k m n, n ≤ k → m ≤ n → dig m ≤ dig n
  | 0, m, n, h, h' => by
    have : m = 0 := by omega
    subst this; exact Nat.zero_le _
  | k + 1, m, n, h, h' => by
    by_cases h0 : m = 0
    · subst h0; exact Nat.zero_le _
    · rw [dig_half (by omega : 0 < m), dig_half (by omega : 0 < n)]
      have := dig_mono k (m / 2) (n / 2) (by omega) (by omega)
      omega
theorem vis_len (d : Int → Int) (l : List Int) : (vis d l).length ≤ dig l.length := by
  induction l using tree_ind with
  | h0 => exact Nat.zero_le _
  | h1 l x hx iht ihd =>
    rw [vis_cons hx, List.length_cons, dig_half (mid_some hx)]
    have h0 := mid_some hx
    have m1 := dig_mono _ (l.take (l.length / 2)).length (l.length / 2) (Nat.le_refl _) (by rw [List.length_take]; omega)
    have m2 := dig_mono _ (l.drop (l.length / 2 + 1)).length (l.length / 2) (Nat.le_refl _) (by rw [List.length_drop]; omega)
    split
    · omega
    · split
      · omega
      · simp
theorem vis_sub (d : Int → Int) (l : List Int) : ∀ x ∈ vis d l, x ∈ l := by
  induction l using tree_ind with
  | h0 => intro x hx; cases hx
  | h1 l x hx iht ihd =>
    intro y hy
    rw [vis_cons hx] at hy
    rcases List.mem_cons.1 hy with rfl | hy
    · exact List.mem_of_getElem? hx
    · split at hy
      · exact List.mem_of_mem_take (iht y hy)
      · split at hy
        · exact List.mem_of_mem_drop (ihd y hy)
        · cases hy
theorem vis_nodup (d : Int → Int) (l : List Int) : Up l → (vis d l).Nodup := by
  induction l using tree_ind with
  | h0 => intro _; exact List.nodup_nil
  | h1 l x hx iht ihd =>
    intro hu
    rw [vis_cons hx, List.nodup_cons]
    split
    · exact ⟨fun h => by have := hu.low hx (vis_sub _ _ _ h); omega, iht (hu.take _)⟩
    · split
      · exact ⟨fun h => by have := hu.high hx (vis_sub _ _ _ h); omega, ihd (hu.drop _)⟩
      · exact ⟨by simp, List.nodup_nil⟩
theorem way_self (l : List Int) (n : Int) : Up l → n ∈ l → n ∈ way l n := by
  induction l using tree_ind with
  | h0 => intro _ h; cases h
  | h1 l x hx iht ihd =>
    intro hu hn
    rw [way_cons hx]
    rcases hu.side hx hn with ⟨h3, h4⟩ | h3 | ⟨h3, h4⟩
    · rw [if_pos h4]; exact List.mem_cons_of_mem _ (iht (hu.take _) h3)
    · rw [h3]; exact List.mem_cons_self ..
    · rw [if_neg (by omega), if_pos h4]; exact List.mem_cons_of_mem _ (ihd (hu.drop _) h3)
/-- An address. -/
abbrev Ad := Int × Nat × Nat
def adR (r : Rt) : Ad := (r.f, r.hi, r.lo)
/-- An address, cut to a length. -/
def cutD (a : Ad) (n : Int) : Ad := if a.1 = 4 then (a.1, a.2.1, H.clr a.2.2 (32 - n).toNat) else (a.1, H.clr a.2.1 (128 - n - 64).toNat, H.clr a.2.2 (128 - n).toNat)
theorem cutD_fam (a : Ad) (n : Int) : (cutD a n).1 = a.1 := by unfold cutD; split <;> rfl
theorem clr_clr (x : Nat) {a b : Nat} (h : a ≤ b) : H.clr (H.clr x a) b = H.clr x b := by
  unfold H.clr
  obtain ⟨c, rfl⟩ : ∃ c, b = a + c := ⟨b - a, by omega⟩
  rw [Nat.pow_add, ← Nat.div_div_eq_div_mul, Nat.mul_div_cancel _ (Nat.pow_pos (by decide)), ← Nat.div_div_eq_div_mul]
theorem clr_mono {x y : Nat} (h : x ≤ y) (k : Nat) : H.clr x k ≤ H.clr y k := Nat.mul_le_mul_right _ (Nat.div_le_div_right h)
theorem clr_big {x k : Nat} (h : x ≤ 18446744073709551615) (hk : 64 ≤ k) : H.clr x k = 0 := by
  unfold H.clr
  have : 2 ^ 64 ≤ 2 ^ k := Nat.pow_le_pow_right (by decide) hk
  rw [Nat.div_eq_of_lt (by omega), Nat.zero_mul]
theorem clr_le' (x n : Nat) : H.clr x n ≤ x := Nat.div_mul_le_self _ _
theorem cut_cut (a : Ad) {m n : Int} (h : m ≤ n) : cutD (cutD a n) m = cutD a m := by
  unfold cutD
  split
  · show (a.1, a.2.1, H.clr (H.clr a.2.2 (32 - n).toNat) (32 - m).toNat) = _
    rw [clr_clr _ (by omega)]
  · show (a.1, H.clr (H.clr a.2.1 (128 - n - 64).toNat) (128 - m - 64).toNat, H.clr (H.clr a.2.2 (128 - n).toNat) (128 - m).toNat) = _
    rw [clr_clr _ (by omega), clr_clr _ (by omega)]
/-- The order of addresses. -/
def alt (a b : Ad) : Prop := a.1 < b.1 ∨ (a.1 = b.1 ∧ (a.2.1 < b.2.1 ∨ (a.2.1 = b.2.1 ∧ a.2.2 < b.2.2)))
theorem alt_irrefl (a : Ad) : ¬ alt a a := by unfold alt; omega
theorem alt_trans {a b c : Ad} (h : alt a b) (k : alt b c) : alt a c := by unfold alt at *; omega
def ale (a b : Ad) : Prop := alt a b ∨ a = b
theorem ad_ext {a b : Ad} (h1 : a.1 = b.1) (h2 : a.2.1 = b.2.1) (h3 : a.2.2 = b.2.2) : a = b := by ext <;> assumption
theorem ale_iff (a b : Ad) : ale a b ↔ a.1 < b.1 ∨ (a.1 = b.1 ∧ (a.2.1 < b.2.1 ∨ (a.2.1 = b.2.1 ∧ a.2.2 ≤ b.2.2))) := by
  unfold ale alt
  constructor
  · rintro (h | rfl)
    · omega
    · omega
  · intro h
    by_cases e : a.1 = b.1 ∧ a.2.1 = b.2.1 ∧ a.2.2 = b.2.2
    · exact .inr (ad_ext e.1 e.2.1 e.2.2)
    · left; omega
theorem ale_trans {a b c : Ad} (h : ale a b) (k : ale b c) : ale a c := by rw [ale_iff] at *; omega
theorem ale_anti {a b : Ad} (h : ale a b) (k : ale b a) : a = b := by
  rw [ale_iff] at *
  exact ad_ext (by omega) (by omega) (by omega)
def FitA (a : Ad) : Prop := a.2.1 ≤ 18446744073709551615 ∧ a.2.2 ≤ 18446744073709551615
theorem cut_mono {a b : Ad} (h : ale a b) (hf : a.1 = b.1) (h4 : a.1 = 4 → a.2.1 = 0 ∧ b.2.1 = 0) (ha : FitA a) (hb : FitA b) (n : Int) : ale (cutD a n) (cutD b n) := by
  rw [ale_iff] at h ⊢
  unfold cutD
  rw [← hf]
  by_cases h1 : a.1 = 4
  · rw [if_pos h1, if_pos h1]
    have h5 := h4 h1
    have hl : a.2.2 ≤ b.2.2 := by omega
    exact .inr ⟨rfl, .inr ⟨h5.1.trans h5.2.symm, clr_mono hl _⟩⟩
  · rw [if_neg h1, if_neg h1]
    refine .inr ⟨rfl, ?_⟩
    show H.clr a.2.1 (128 - n - 64).toNat < H.clr b.2.1 (128 - n - 64).toNat ∨ (H.clr a.2.1 (128 - n - 64).toNat = H.clr b.2.1 (128 - n - 64).toNat ∧ H.clr a.2.2 (128 - n).toNat ≤ H.clr b.2.2 (128 - n).toNat)
    rcases h with h | ⟨-, h | ⟨h, h'⟩⟩
    · omega
    · by_cases hk : (128 - n - 64).toNat = 0
      · rw [hk]
        have e1 : H.clr a.2.1 0 = a.2.1 := by simp [H.clr]
        have e2 : H.clr b.2.1 0 = b.2.1 := by simp [H.clr]
        rw [e1, e2]; exact .inl h
      · have h6 := clr_mono (Nat.le_of_lt h) (128 - n - 64).toNat
        rw [clr_big ha.2 (by omega), clr_big hb.2 (by omega)]
        rcases Nat.lt_or_ge (H.clr a.2.1 (128 - n - 64).toNat) (H.clr b.2.1 (128 - n - 64).toNat) with h7 | h7
        · exact .inl h7
        · exact .inr ⟨Nat.le_antisymm h6 h7, Nat.le_refl _⟩
    · rw [h]; exact .inr ⟨rfl, clr_mono h' _⟩
theorem chk_ok {r : Rt} (h : chkR r = 0) : (r.f = 4 ∧ 0 ≤ r.n ∧ r.n ≤ 32 ∧ r.hi = 0 ∧ r.lo < 4294967296 ∧ cutD (adR r) r.n = adR r) ∨ (r.f = 6 ∧ 0 ≤ r.n ∧ r.n ≤ 128 ∧ cutD (adR r) r.n = adR r) := by
  unfold chkR H.chk at h
  split at h
  · rename_i h4
    split at h
    · cases h
    · split at h
      · rename_i h5 h6
        refine .inl ⟨h4, by omega, by omega, h6.1, h6.2.1, ?_⟩
        unfold cutD adR
        simp only [h4, if_true]
        rw [h6.2.2]
      · cases h
  · split at h
    · rename_i h4 h5
      split at h
      · cases h
      · split at h
        · rename_i h6 h7
          refine .inr ⟨h5, by omega, by omega, ?_⟩
          unfold cutD adR
          simp only [h4, if_false]
          rw [h7.1, h7.2]
        · cases h
    · cases h
theorem Gd.len {r : Rt} (h : Gd r) : 0 ≤ r.n ∧ r.n ≤ 128 ∧ (r.f = 4 → r.n ≤ 32) := by
  rcases chk_ok h.ok with h | h <;> omega
theorem Gd.cut {r : Rt} (h : Gd r) : cutD (adR r) r.n = adR r := by
  rcases chk_ok h.ok with h | h
  · exact h.2.2.2.2.2
  · exact h.2.2.2
theorem Gd.hi4 {r : Rt} (h : Gd r) (h4 : r.f = 4) : r.hi = 0 := by
  rcases chk_ok h.ok with h | h
  · exact h.2.2.2.1
  · omega
/-! ### The longest. -/
def Mat (a : Ad) (m : Int) (r : Rt) : Prop := r.n ≤ m ∧ cutD a r.n = adR r
def bstS (a : Ad) (m b : Int) (r : Rt) : Int := if (r.n ≤ m ∧ cutD a r.n = adR r) ∧ b < r.n then r.n else b
/-- The length of the longest that contains the address, not above m. -/
def bst (l : List Rt) (a : Ad) (m : Int) : Int := l.foldl (bstS a m) (-1)
theorem bst_fold (a : Ad) (m : Int) : ∀ (l : List Rt) (b : Int), b ≤ l.foldl (bstS a m) b ∧ (l.foldl (bstS a m) b = b ∨ ∃ r ∈ l, Mat a m r ∧ r.n = l.foldl (bstS a m) b) ∧ ∀ r ∈ l, Mat a m r → r.n ≤ l.foldl (bstS a m) b
  | [], b => ⟨Int.le_refl _, .inl rfl, fun r hr => by cases hr⟩
  | x :: l, b => by
    rw [List.foldl_cons]
    obtain ⟨h1, h2, h3⟩ := bst_fold a m l (bstS a m b x)
    have hb : b ≤ bstS a m b x ∧ (bstS a m b x = b ∨ (Mat a m x ∧ x.n = bstS a m b x)) ∧ (Mat a m x → x.n ≤ bstS a m b x) := by
      unfold bstS Mat
      split
      · rename_i hc
        exact ⟨by omega, .inr ⟨hc.1, rfl⟩, fun _ => Int.le_refl _⟩
      · rename_i hc
        exact ⟨Int.le_refl _, .inl rfl, fun hm => by
          by_cases hb : b < x.n
          · exact absurd ⟨hm, hb⟩ hc
          · omega⟩
    refine ⟨by omega, ?_, fun r hr hm => ?_⟩
    · rcases h2 with h2 | ⟨r, hr, hm, e⟩
      · rcases hb.2.1 with h4 | h4
        · left; omega
        · exact .inr ⟨x, List.mem_cons_self .., h4.1, by omega⟩
      · exact .inr ⟨r, List.mem_cons_of_mem _ hr, hm, e⟩
    · rcases List.mem_cons.1 hr with rfl | hr
      · have := hb.2.2 hm; omega
      · exact h3 r hr hm
theorem bst_spec (l : List Rt) (a : Ad) (m : Int) : -1 ≤ bst l a m ∧ (bst l a m = -1 ∨ ∃ r ∈ l, Mat a m r ∧ r.n = bst l a m) ∧ ∀ r ∈ l, Mat a m r → r.n ≤ bst l a m := bst_fold a m l (-1)
theorem bst_uniq {l : List Rt} {a : Ad} {m M : Int} (h1 : -1 ≤ M) (h2 : M = -1 ∨ ∃ r ∈ l, Mat a m r ∧ r.n = M) (h3 : ∀ r ∈ l, Mat a m r → r.n ≤ M) : bst l a m = M := by
  obtain ⟨k1, k2, k3⟩ := bst_spec l a m
  rcases h2 with h2 | ⟨r, hr, hm, e⟩
  · rcases k2 with k2 | ⟨r', hr', hm', e'⟩
    · omega
    · have := h3 r' hr' hm'; omega
  · have := k3 r hr hm
    rcases k2 with k2 | ⟨r', hr', hm', e'⟩
    · omega
    · have := h3 r' hr' hm'; omega
theorem bst_mem {l l' : List Rt} (h : ∀ r, r ∈ l ↔ r ∈ l') (a : Ad) (m : Int) : bst l a m = bst l' a m := by
  obtain ⟨k1, k2, k3⟩ := bst_spec l' a m
  refine bst_uniq k1 ?_ (fun r hr hm => k3 r ((h r).1 hr) hm)
  rcases k2 with k2 | ⟨r, hr, hm⟩
  · exact .inl k2
  · exact .inr ⟨r, (h r).2 hr, hm⟩
/-- Cut to a length, the address has the same routes up to it. -/
theorem bst_cut (l : List Rt) (a : Ad) (m : Int) : bst l (cutD a m) m = bst l a m := by
  have hM : ∀ r, Mat (cutD a m) m r ↔ Mat a m r := fun r => by
    unfold Mat
    constructor
    · rintro ⟨h1, h2⟩; rw [cut_cut a h1] at h2; exact ⟨h1, h2⟩
    · rintro ⟨h1, h2⟩; rw [cut_cut a h1]; exact ⟨h1, h2⟩
  obtain ⟨k1, k2, k3⟩ := bst_spec l a m
  refine bst_uniq k1 ?_ (fun r hr hm => k3 r hr ((hM r).1 hm))
  rcases k2 with k2 | ⟨r, hr, hm, e⟩
  · exact .inl k2
  · exact .inr ⟨r, hr, (hM r).2 hm, e⟩
theorem bst_up {l : List Rt} {a : Ad} {m x : Int} (h : bst l a m ≤ x) (hx : x ≤ m) : bst l a x = bst l a m := by
  obtain ⟨k1, k2, k3⟩ := bst_spec l a m
  refine bst_uniq k1 ?_ (fun r hr hm => k3 r hr ⟨by have := hm.1; omega, hm.2⟩)
  rcases k2 with k2 | ⟨r, hr, hm, e⟩
  · exact .inl k2
  · exact .inr ⟨r, hr, ⟨by omega, hm.2⟩, e⟩
/-! ### The group. -/
def isP (a : Ad) (m : Int) (r : Rt) : Bool := decide (adR r = a ∧ r.n = m)
def grpS (a : Ad) (m g : Int) (r : Rt) : Int := if isP a m r then r.g else g
/-- The group of the route with this prefix. -/
def grpOf (l : List Rt) (a : Ad) (m : Int) : Int := l.foldl (grpS a m) (-1)
/-- No two with one prefix. -/
def Ones (l : List Rt) : Prop := ∀ r ∈ l, ∀ s ∈ l, key r = key s → r = s
theorem grp_fold (a : Ad) (m : Int) : ∀ (l : List Rt) (g : Int), ((∀ r ∈ l, isP a m r = false) ∧ l.foldl (grpS a m) g = g) ∨ ∃ r ∈ l, isP a m r = true ∧ l.foldl (grpS a m) g = r.g
  | [], g => .inl ⟨fun r hr => absurd hr (by simp), rfl⟩
  | x :: l, g => by
    rw [List.foldl_cons]
    rcases grp_fold a m l (grpS a m g x) with ⟨h1, h2⟩ | ⟨r, hr, h1, h2⟩
    · cases hx : isP a m x with
      | true =>
        refine .inr ⟨x, List.mem_cons_self .., hx, ?_⟩
        rw [h2]; unfold grpS; rw [hx, if_pos rfl]
      | false =>
        refine .inl ⟨fun r hr => ?_, ?_⟩
        · rcases List.mem_cons.1 hr with rfl | hr
          · exact hx
          · exact h1 r hr
        · rw [h2]; unfold grpS; rw [hx, if_neg Bool.false_ne_true]
    · exact .inr ⟨r, List.mem_cons_of_mem _ hr, h1, h2⟩
theorem isP_key {a : Ad} {m : Int} {r s : Rt} (h : isP a m r = true) (k : isP a m s = true) : key r = key s := by
  unfold isP at h k
  have h := of_decide_eq_true h
  have k := of_decide_eq_true k
  have e := h.1.trans k.1.symm
  unfold adR at e
  unfold key
  simp only [Prod.mk.injEq] at e ⊢
  exact ⟨e.1, e.2.1, e.2.2, by omega⟩
theorem grp_some {l : List Rt} {a : Ad} {m : Int} (ho : Ones l) {r : Rt} (hr : r ∈ l) (h : isP a m r = true) : grpOf l a m = r.g := by
  rcases grp_fold a m l (-1) with ⟨h1, _⟩ | ⟨s, hs, h1, h2⟩
  · rw [h1 r hr] at h; cases h
  · unfold grpOf; rw [h2, ho s hs r hr (isP_key h1 h)]
theorem grp_none {l : List Rt} {a : Ad} {m : Int} (h : ∀ r ∈ l, isP a m r = false) : grpOf l a m = -1 := by
  rcases grp_fold a m l (-1) with ⟨_, h2⟩ | ⟨s, hs, h1, _⟩
  · exact h2
  · rw [h s hs] at h1; cases h1
theorem grp_mem {l l' : List Rt} (ho : Ones l) (h : ∀ r, r ∈ l ↔ r ∈ l') (a : Ad) (m : Int) : grpOf l a m = grpOf l' a m := by
  have ho' : Ones l' := fun r hr s hs => ho r ((h r).2 hr) s ((h s).2 hs)
  by_cases hc : ∃ r ∈ l, isP a m r = true
  · obtain ⟨r, hr, hp⟩ := hc
    rw [grp_some ho hr hp, grp_some ho' ((h r).1 hr) hp]
  · rw [grp_none (fun r hr => by rw [Bool.eq_false_iff]; exact fun e => hc ⟨r, hr, e⟩), grp_none (fun r hr => by rw [Bool.eq_false_iff]; exact fun e => hc ⟨r, (h r).2 hr, e⟩)]
/-! ### The marks. -/
def mrk (L : List Int) (a : Ad) (m : Int) (r : Rt) : Bool := decide (m < r.n) && decide (cutD (adR r) m = a) && decide (m ∈ way L r.n)
/-- How many have a mark here. -/
def mks (l : List Rt) (L : List Int) (a : Ad) (m : Int) : Nat := (l.filter (mrk L a m)).length
theorem mks_perm {l l' : List Rt} (h : l.Perm l') (L : List Int) (a : Ad) (m : Int) : mks l L a m = mks l' L a m := (h.filter _).length_eq
/-- Is there an entry? -/
def thr (l : List Rt) (L : List Int) (a : Ad) (m : Int) : Bool := decide (grpOf l a m ≠ -1 ∨ 0 < mks l L a m)
theorem thr_iff {l : List Rt} {L : List Int} (hg : ∀ r ∈ l, Gd r) (ho : Ones l) (hL : Up L) (hn : ∀ r ∈ l, r.n ∈ L) (a : Ad) (m : Int) : thr l L a m = true ↔ ∃ r ∈ l, (m ≤ r.n ∧ m ∈ way L r.n) ∧ cutD (adR r) m = a := by
  unfold thr
  rw [decide_eq_true_iff]
  constructor
  · rintro (h | h)
    · rcases grp_fold a m l (-1) with ⟨_, h2⟩ | ⟨r, hr, h1, _⟩
      · exact absurd h2 h
      · have h1 := of_decide_eq_true h1
        refine ⟨r, hr, ⟨by omega, ?_⟩, ?_⟩
        · rw [← h1.2]; exact way_self L _ hL (hn r hr)
        · rw [← h1.2, (hg r hr).cut, h1.1]
    · obtain ⟨r, hr⟩ := List.exists_mem_of_length_pos h
      obtain ⟨h1, h2⟩ := List.mem_filter.1 hr
      unfold mrk at h2
      simp only [Bool.and_eq_true, decide_eq_true_eq] at h2
      exact ⟨r, h1, ⟨by omega, h2.2⟩, h2.1.2⟩
  · rintro ⟨r, hr, ⟨h1, h2⟩, h3⟩
    by_cases e : m = r.n
    · left
      have hp : isP a m r = true := by
        unfold isP; rw [decide_eq_true_iff]
        exact ⟨by rw [← h3, e, (hg r hr).cut], e.symm⟩
      rw [grp_some ho hr hp]
      have := (hg r hr).g0
      omega
    · right
      refine List.length_pos_of_mem (a := r) (List.mem_filter.2 ⟨hr, ?_⟩)
      unfold mrk
      simp only [Bool.and_eq_true, decide_eq_true_eq]
      exact ⟨⟨by omega, h3⟩, h2⟩
/-! ### The entries. -/
/-- One after the other, those that are taken, but for one that is there already. -/
def fldS (c : Rt → Ad) (sel : Rt → Bool) (o : List Ad) (r : Rt) : List Ad := if sel r = true ∧ o.getLast? ≠ some (c r) then o ++ [c r] else o
theorem fold_srt (c : Rt → Ad) (sel : Rt → Bool) : ∀ (l : List Rt) (o : List Ad), l.Pairwise (fun x y => ale (c x) (c y)) → o.Pairwise alt → (∀ a ∈ o, ∀ r ∈ l, ale a (c r)) →
    (l.foldl (fldS c sel) o).Pairwise alt ∧ ∀ a, a ∈ l.foldl (fldS c sel) o ↔ (a ∈ o ∨ ∃ r ∈ l, sel r = true ∧ c r = a)
  | [], o, _, h2, _ => ⟨h2, fun a => ⟨fun h => .inl h, fun h => h.elim id (fun ⟨r, hr, _⟩ => absurd hr (by simp))⟩⟩
  | x :: l, o, h1, h2, h3 => by
    rw [List.foldl_cons]
    obtain ⟨hx, hl⟩ := List.pairwise_cons.1 h1
    by_cases hc : sel x = true ∧ o.getLast? ≠ some (c x)
    · have e : fldS c sel o x = o ++ [c x] := by unfold fldS; rw [if_pos hc]
      rw [e]
      have hlt : ∀ a ∈ o, alt a (c x) := by
        intro a ha
        rcases h3 a ha x (List.mem_cons_self ..) with h | h
        · exact h
        · exfalso
          obtain ⟨o', y, rfl⟩ : ∃ o' y, o = o' ++ [y] := by
            rcases List.eq_nil_or_concat o with h0 | ⟨o', y, h0⟩
            · rw [h0] at ha; cases ha
            · exact ⟨o', y, by simpa using h0⟩
          have hy : ale y (c x) := h3 y (by simp) x (List.mem_cons_self ..)
          apply hc.2
          rw [List.getLast?_append]
          simp only [List.getLast?_singleton, Option.some_or]
          rcases List.mem_append.1 ha with h5 | h5
          · have h6 := (List.pairwise_append.1 h2).2.2 a h5 y (List.mem_singleton.2 rfl)
            rw [ale_anti hy (.inl (h ▸ h6))]
          · rw [← h, List.mem_singleton.1 h5]
      have h2' : (o ++ [c x]).Pairwise alt := List.pairwise_append.2 ⟨h2, List.pairwise_singleton .., fun a ha b hb => by rw [List.mem_singleton.1 hb]; exact hlt a ha⟩
      have h3' : ∀ a ∈ o ++ [c x], ∀ r ∈ l, ale a (c r) := fun a ha r hr => by
        rcases List.mem_append.1 ha with h5 | h5
        · exact h3 a h5 r (List.mem_cons_of_mem _ hr)
        · rw [List.mem_singleton.1 h5]; exact hx r hr
      obtain ⟨k1, k2⟩ := fold_srt c sel l _ hl h2' h3'
      refine ⟨k1, fun a => ?_⟩
      rw [k2 a]
      constructor
      · rintro (h | ⟨r, hr, h⟩)
        · rcases List.mem_append.1 h with h | h
          · exact .inl h
          · exact .inr ⟨x, List.mem_cons_self .., hc.1, (List.mem_singleton.1 h).symm⟩
        · exact .inr ⟨r, List.mem_cons_of_mem _ hr, h⟩
      · rintro (h | ⟨r, hr, h⟩)
        · exact .inl (List.mem_append_left _ h)
        · rcases List.mem_cons.1 hr with rfl | hr
          · exact .inl (List.mem_append_right _ (List.mem_singleton.2 h.2.symm))
          · exact .inr ⟨r, hr, h⟩
    · have e : fldS c sel o x = o := by unfold fldS; rw [if_neg hc]
      rw [e]
      obtain ⟨k1, k2⟩ := fold_srt c sel l o hl h2 (fun a ha r hr => h3 a ha r (List.mem_cons_of_mem _ hr))
      refine ⟨k1, fun a => ?_⟩
      rw [k2 a]
      constructor
      · rintro (h | ⟨r, hr, h⟩)
        · exact .inl h
        · exact .inr ⟨r, List.mem_cons_of_mem _ hr, h⟩
      · rintro (h | ⟨r, hr, h⟩)
        · exact .inl h
        · rcases List.mem_cons.1 hr with rfl | hr
          · left
            have h5 : o.getLast? = some (c r) := by
              by_cases h6 : o.getLast? = some (c r)
              · exact h6
              · exact absurd ⟨h.1, h6⟩ hc
            rw [← h.2]; exact List.mem_of_getLast? h5
          · exact .inr ⟨r, hr, h⟩
theorem alt_ext : ∀ {a b : List Ad}, a.Pairwise alt → b.Pairwise alt → (∀ x, x ∈ a ↔ x ∈ b) → a = b
  | [], [], _, _, _ => rfl
  | [], y :: b, _, _, h => absurd ((h y).2 (List.mem_cons_self ..)) (by simp)
  | x :: a, [], _, _, h => absurd ((h x).1 (List.mem_cons_self ..)) (by simp)
  | x :: a, y :: b, ha, hb, h => by
    obtain ⟨hx, ha'⟩ := List.pairwise_cons.1 ha
    obtain ⟨hy, hb'⟩ := List.pairwise_cons.1 hb
    have e : x = y := by
      rcases List.mem_cons.1 ((h x).1 (List.mem_cons_self ..)) with e | h1
      · exact e
      · rcases List.mem_cons.1 ((h y).2 (List.mem_cons_self ..)) with e | h2
        · exact e.symm
        · exact absurd (alt_trans (hx y h2) (hy x h1)) (alt_irrefl _)
    subst e
    rw [alt_ext ha' hb' (fun z => ⟨fun hz => ?_, fun hz => ?_⟩)]
    · rcases List.mem_cons.1 ((h z).1 (List.mem_cons_of_mem _ hz)) with e | h1
      · subst e; exact absurd (hx z hz) (alt_irrefl _)
      · exact h1
    · rcases List.mem_cons.1 ((h z).2 (List.mem_cons_of_mem _ hz)) with e | h1
      · subst e; exact absurd (hy z hz) (alt_irrefl _)
      · exact h1
theorem up_ext : ∀ {a b : List Int}, Up a → Up b → (∀ x, x ∈ a ↔ x ∈ b) → a = b
  | [], [], _, _, _ => rfl
  | [], y :: b, _, _, h => absurd ((h y).2 (List.mem_cons_self ..)) (by simp)
  | x :: a, [], _, _, h => absurd ((h x).1 (List.mem_cons_self ..)) (by simp)
  | x :: a, y :: b, ha, hb, h => by
    obtain ⟨hx, ha'⟩ := List.pairwise_cons.1 ha
    obtain ⟨hy, hb'⟩ := List.pairwise_cons.1 hb
    have e : x = y := by
      rcases List.mem_cons.1 ((h x).1 (List.mem_cons_self ..)) with e | h1
      · exact e
      · rcases List.mem_cons.1 ((h y).2 (List.mem_cons_self ..)) with e | h2
        · exact e.symm
        · have := hx y h2; have := hy x h1; omega
    subst e
    rw [up_ext ha' hb' (fun z => ⟨fun hz => ?_, fun hz => ?_⟩)]
    · rcases List.mem_cons.1 ((h z).1 (List.mem_cons_of_mem _ hz)) with e | h1
      · subst e; have := hx z hz; omega
      · exact h1
    · rcases List.mem_cons.1 ((h z).2 (List.mem_cons_of_mem _ hz)) with e | h1
      · subst e; have := hy z hz; omega
      · exact h1
/-- At which addresses there are entries, as the program goes. -/
def eadC (l : List Rt) (L : List Int) (m : Int) : List Ad := l.foldl (fldS (fun r => cutD (adR r) m) (fun r => decide (m ≤ r.n ∧ m ∈ way L r.n))) []
/-- As the document goes. -/
def eadD (l : List Rt) (t : Ad → Bool) (m : Int) : List Ad := l.foldl (fldS (fun r => cutD (adR r) m) (fun r => t (cutD (adR r) m))) []
/-- A family's routes. -/
structure Fam (l : List Rt) (fam : Int) : Prop where
  srt : Srt l
  gd : ∀ r ∈ l, Gd r
  fam : ∀ r ∈ l, r.f = fam
theorem Fam.mono {l : List Rt} {fam : Int} (h : Fam l fam) (m : Int) : l.Pairwise fun x y => ale (cutD (adR x) m) (cutD (adR y) m) := by
  refine h.srt.imp_of_mem (fun {a b} ha hb hk => ?_)
  have ga := h.gd a ha
  have gb := h.gd b hb
  have fa := h.fam a ha
  have fb := h.fam b hb
  refine cut_mono (a := adR a) (b := adR b) ?_ (by show a.f = b.f; omega) (fun h4 => ⟨ga.hi4 h4, gb.hi4 (by rw [fb, ← fa]; exact h4)⟩) ga.fit gb.fit m
  rw [ale_iff]
  unfold klt key at hk
  unfold adR
  simp only [] at hk ⊢
  omega
theorem Fam.ones {l : List Rt} {fam : Int} (h : Fam l fam) : Ones l := by
  intro r hr s hs hk
  obtain ⟨i, hi, ei⟩ := List.getElem_of_mem hr
  obtain ⟨j, hj, ej⟩ := List.getElem_of_mem hs
  have hp := List.pairwise_iff_getElem.1 h.srt
  rcases Nat.lt_trichotomy i j with h1 | h1 | h1
  · have := hp i j hi hj h1; rw [ei, ej, hk] at this; exact absurd this (klt_irrefl _)
  · subst h1; rw [← ei, ej]
  · have := hp j i hj hi h1; rw [ei, ej, hk] at this; exact absurd this (klt_irrefl _)
/-- The lengths that a list's routes have. -/
structure LensOf (L : List Int) (l : List Rt) : Prop where
  up : Up L
  mem : ∀ x, x ∈ L ↔ ∃ r ∈ l, r.n = x
theorem ead_eq {l : List Rt} {fam : Int} {L : List Int} (h : Fam l fam) (hL : LensOf L l) (m : Int) : eadC l L m = eadD l (fun a => thr l L a m) m := by
  obtain ⟨a1, a2⟩ := fold_srt (fun r => cutD (adR r) m) (fun r => decide (m ≤ r.n ∧ m ∈ way L r.n)) l [] (h.mono m) List.Pairwise.nil (fun a ha => by cases ha)
  obtain ⟨b1, b2⟩ := fold_srt (fun r => cutD (adR r) m) (fun r => thr l L (cutD (adR r) m) m) l [] (h.mono m) List.Pairwise.nil (fun a ha => by cases ha)
  refine alt_ext a1 b1 (fun x => ?_)
  refine (a2 x).trans (Iff.trans ?_ (b2 x).symm)
  have ht := thr_iff h.gd h.ones hL.up (fun r hr => (hL.mem _).2 ⟨r, hr, rfl⟩)
  constructor
  · rintro (h0 | ⟨r, hr, h1, h2⟩)
    · cases h0
    · exact .inr ⟨r, hr, (ht _ m).2 ⟨r, hr, of_decide_eq_true h1, rfl⟩, h2⟩
  · rintro (h0 | ⟨r, hr, h1, h2⟩)
    · cases h0
    · obtain ⟨s, hs, h3, h4⟩ := (ht _ m).1 h1
      exact .inr ⟨s, hs, decide_eq_true h3, h4.trans h2⟩
theorem ead_none {l : List Rt} {L : List Int} {m : Int} (h : ¬ m ∈ L) : eadC l L m = [] := by
  have : ∀ (l : List Rt) (o : List Ad), l.foldl (fldS (fun r => cutD (adR r) m) (fun r => decide (m ≤ r.n ∧ m ∈ way L r.n))) o = o := by
    intro l
    induction l with
    | nil => intro o; rfl
    | cons r l ih =>
      intro o
      rw [List.foldl_cons, ih]
      unfold fldS
      rw [if_neg]
      rintro ⟨h1, _⟩
      exact h (vis_sub _ _ _ (of_decide_eq_true h1).2)
  exact this l []
/-! ### Lookup. -/
/-- At a length: is there an entry on the address's way? -/
def fnd (l : List Rt) (L : List Int) (a : Ad) (m : Int) : Bool := thr l L (cutD a m) m
/-- What Lookup tells: the length. -/
def lkL (l : List Rt) (L : List Int) (a : Ad) : Int := lastB (fnd l L a) (fun m => bst l (cutD a m) m) (-1) (asks (fnd l L a) L)
theorem lk_best {l : List Rt} {fam : Int} {L : List Int} (h : Fam l fam) (hL : LensOf L l) (a : Ad) : lkL l L a = bst l a 128 := by
  have hn : ∀ x ∈ L, 0 ≤ x ∧ x ≤ 128 := fun x hx => by
    obtain ⟨r, hr, rfl⟩ := (hL.mem x).1 hx
    have := (h.gd r hr).len
    exact ⟨this.1, this.2.1⟩
  obtain ⟨k1, k2, k3⟩ := bst_spec l a 128
  have hr : bst l a 128 ∈ L → ∃ r ∈ l, Mat a 128 r ∧ r.n = bst l a 128 := fun hm => by
    rcases k2 with k2 | k2
    · have := (hn _ hm).1; omega
    · exact k2
  refine walk_best (M := bst l a 128) (L := L) (fun x hx hM => ?_) (fun hM => ?_) (fun x hx hlt hM => ?_) L hL.up (fun x hx => hx) (-1) ?_
  · rw [bst_cut]; exact bst_up hM (hn x hx).2
  · obtain ⟨r, hr, hm, e⟩ := hr hM
    refine (thr_iff h.gd h.ones hL.up (fun r hr => (hL.mem _).2 ⟨r, hr, rfl⟩) _ _).2 ⟨r, hr, ⟨by omega, ?_⟩, ?_⟩
    · rw [e]; exact way_self L _ hL.up hM
    · rw [← e, (h.gd r hr).cut, hm.2]
  · obtain ⟨r, hr, hm, e⟩ := hr hM
    refine (thr_iff h.gd h.ones hL.up (fun r hr => (hL.mem _).2 ⟨r, hr, rfl⟩) _ _).2 ⟨r, hr, ⟨by omega, ?_⟩, ?_⟩
    · rw [e]; exact hx
    · rw [← hm.2, cut_cut a (by omega)]
  · rcases k2 with k2 | ⟨r, hr, hm, e⟩
    · exact .inr ⟨k2.symm, fun x hx => by have := (hn x hx).1; omega⟩
    · exact .inl ⟨(hL.mem _).2 ⟨r, hr, e⟩, fun x hx => hx⟩
theorem famF_mem {rs : List Rt} {fam : Int} {r : Rt} : r ∈ famF rs fam ↔ r ∈ rs ∧ r.f = fam := by
  unfold famF
  rw [List.mem_filter]
  simp
/-! ### The lengths. -/
theorem up_cast {l : List Nat} (h : l.Pairwise (· < ·)) : Up (l.map fun n : Nat => (n : Int)) := by
  unfold Up
  rw [List.pairwise_map]
  exact h.imp (fun {a b} h => by omega)
theorem lensF_of {rs : List Rt} {fam : Int} {k : Nat} (h : ∀ r ∈ famF rs fam, 0 ≤ r.n ∧ r.n < k) : LensOf (lensF rs fam k) (famF rs fam) := by
  refine ⟨up_cast (List.Pairwise.filter _ List.pairwise_lt_range), fun x => ?_⟩
  unfold lensF
  constructor
  · intro hx
    obtain ⟨n, hn, rfl⟩ := List.mem_map.1 hx
    obtain ⟨_, h2⟩ := List.mem_filter.1 hn
    unfold hasL at h2
    obtain ⟨r, hr, e⟩ := List.any_eq_true.1 h2
    simp only [Bool.and_eq_true, beq_iff_eq] at e
    exact ⟨r, famF_mem.2 ⟨hr, e.1⟩, e.2⟩
  · rintro ⟨r, hr, rfl⟩
    obtain ⟨h1, h2⟩ := h r hr
    refine List.mem_map.2 ⟨r.n.toNat, List.mem_filter.2 ⟨List.mem_range.2 (by omega), ?_⟩, by omega⟩
    unfold hasL
    refine List.any_eq_true.2 ⟨r, (famF_mem.1 hr).1, ?_⟩
    simp only [Bool.and_eq_true, beq_iff_eq]
    exact ⟨(famF_mem.1 hr).2, by omega⟩
/-- Has a route this length? -/
def hasN (l : List Rt) (n : Int) : Bool := l.any fun r => r.n == n
/-- The lengths, as the program has them. -/
def lensC (l : List Rt) (k : Nat) : List Int := ((List.range k).filter fun n : Nat => hasN l n).map fun n : Nat => (n : Int)
theorem lensC_of {l : List Rt} {k : Nat} (h : ∀ r ∈ l, 0 ≤ r.n ∧ r.n < k) : LensOf (lensC l k) l := by
  refine ⟨up_cast (List.Pairwise.filter _ List.pairwise_lt_range), fun x => ?_⟩
  unfold lensC
  constructor
  · intro hx
    obtain ⟨n, hn, rfl⟩ := List.mem_map.1 hx
    obtain ⟨_, h2⟩ := List.mem_filter.1 hn
    unfold hasN at h2
    obtain ⟨r, hr, e⟩ := List.any_eq_true.1 h2
    exact ⟨r, hr, by simpa using e⟩
  · rintro ⟨r, hr, rfl⟩
    obtain ⟨h1, h2⟩ := h r hr
    refine List.mem_map.2 ⟨r.n.toNat, List.mem_filter.2 ⟨List.mem_range.2 (by omega), ?_⟩, by omega⟩
    unfold hasN
    exact List.any_eq_true.2 ⟨r, hr, by simp; omega⟩
theorem hasN_succ {l : List Rt} {n : Int} {k : Nat} {r : Rt} (h : l[k]? = some r) : hasN (l.take (k + 1)) n = (hasN (l.take k) n || r.n == n) := by
  unfold hasN; rw [List.take_add_one, h, List.any_append]; simp
theorem lensC_yes {l : List Rt} {k : Nat} (h : hasN l k = true) : lensC l (k + 1) = lensC l k ++ [(k : Int)] := by
  unfold lensC; rw [List.range_succ, List.filter_append, List.map_append]; simp [h]
theorem lensC_no {l : List Rt} {k : Nat} (h : hasN l k = false) : lensC l (k + 1) = lensC l k := by
  unfold lensC; rw [List.range_succ, List.filter_append, List.map_append]; simp [h]
theorem lensC_le (l : List Rt) (k : Nat) : (lensC l k).length ≤ k := by
  unfold lensC; rw [List.length_map]; have := List.length_filter_le (fun n : Nat => hasN l n) (List.range k); rw [List.length_range] at this; exact this
theorem LensOf.eq {L L' : List Int} {l l' : List Rt} (h : LensOf L l) (h' : LensOf L' l') (hm : ∀ r, r ∈ l ↔ r ∈ l') : L = L' :=
  up_ext h.up h'.up (fun x => by rw [h.mem, h'.mem]; exact ⟨fun ⟨r, hr, e⟩ => ⟨r, (hm r).1 hr, e⟩, fun ⟨r, hr, e⟩ => ⟨r, (hm r).2 hr, e⟩⟩)
/-! ### The group that Lookup tells. -/
def hit (a : Ad) (b : Int) (r : Rt) : Bool := decide (r.n = b ∧ cutD a r.n = adR r)
def gof (l : List Rt) (a : Ad) (b : Int) : Int := match l.find? (hit a b) with
  | some r => r.g
  | none => -1
theorem gof_some {l : List Rt} {a : Ad} (ho : Ones l) (hf : ∀ r ∈ l, r.f = a.1) {r : Rt} {b : Int} (hr : r ∈ l) (h1 : r.n = b) (h2 : cutD a r.n = adR r) : gof l a b = r.g := by
  have _ := hf
  unfold gof
  cases hc : l.find? (hit a b) with
  | none =>
    have := List.find?_eq_none.1 hc r hr
    exact absurd (decide_eq_true ⟨h1, h2⟩) this
  | some s =>
    have hs := List.mem_of_find?_eq_some hc
    have hp0 : hit a b s = true := List.find?_some hc
    have hp := of_decide_eq_true hp0
    have e : key s = key r := by
      have e1 : adR s = adR r := by rw [← hp.2, ← h2, hp.1, h1]
      unfold adR at e1
      unfold key
      simp only [Prod.mk.injEq] at e1 ⊢
      exact ⟨e1.1, e1.2.1, e1.2.2, by omega⟩
    show s.g = r.g
    rw [ho s hs r hr e]
theorem gof_none {l : List Rt} {a : Ad} {b : Int} (h : ∀ r ∈ l, 0 ≤ r.n) (hb : b < 0) : gof l a b = -1 := by
  unfold gof
  rw [List.find?_eq_none.2]
  intro r hr e
  have := (of_decide_eq_true e).1
  have := h r hr
  omega
/-! ### The document's answers and the program's. -/
/-- A family's routes, as the document has them. -/
structure Pair (l d : List Rt) (fam : Int) : Prop where
  fam : Fam l fam
  perm : l.Perm d
theorem Pair.mem {l d : List Rt} {fam : Int} (h : Pair l d fam) (r : Rt) : r ∈ l ↔ r ∈ d := h.perm.mem_iff
theorem Pair.bst {l d : List Rt} {fam : Int} (h : Pair l d fam) (a : Ad) (m : Int) : bst d a m = bst l a m := (bst_mem h.mem a m).symm
theorem Pair.grp {l d : List Rt} {fam : Int} (h : Pair l d fam) (a : Ad) (m : Int) : grpOf d a m = grpOf l a m := (grp_mem h.fam.ones h.mem a m).symm
theorem Pair.mks {l d : List Rt} {fam : Int} (h : Pair l d fam) (L : List Int) (a : Ad) (m : Int) : mks d L a m = mks l L a m := (mks_perm h.perm L a m).symm
theorem Pair.thr {l d : List Rt} {fam : Int} (h : Pair l d fam) (L : List Int) (a : Ad) (m : Int) : thr d L a m = thr l L a m := by unfold Go.Proofs.Ytnfkgnjeamnhfab.thr; rw [h.grp, h.mks]
end Go.Proofs.Ytnfkgnjeamnhfab
namespace Go.Proofs.Ytnfkgnjeamnhfab
open Go.RowKit Go.Sort

/-! ### The program's tree. -/
abbrev trV (lo hi : Nat) : Value := .agg #[.int .i64 lo, .int .i64 hi]
theorem box1 (w : World) (a : Obj) : Below w.heap.size w (w.alloc a) := (Below.refl _ _).alloc (Nat.le_refl _) _
set_option maxHeartbeats 400000 in
theorem over_any (c : Nat) (w : World) : Calls Try.prog 61 #[.int .i64 c] w fun e w' => e = .returned (trV 0 c) ∧ Below w.heap.size w w' := by
  go_enter Try.func61, Try.ntmps61
  go_wp2
  exact bodyPost_ret (v := trV 0 c) (by simp [results, Try.results61, go_sem]) rfl ⟨rfl, box1 _ _⟩
set_option maxHeartbeats 400000 in
theorem empty_any (lo hi : Nat) (w : World) : Calls Try.prog 62 #[trV lo hi] w fun e w' => e = .returned (.bool (decide (hi ≤ lo))) ∧ Below w.heap.size w w' := by
  have e : decide ((hi : Int) ≤ (lo : Int)) = decide (hi ≤ lo) := by simp
  have E : Hid _ := e
  clear e
  go_enter Try.func62, Try.ntmps62
  go_wp2
  go_ret
  exact ⟨by rw [← E.out]; rfl, box1 _ _⟩
set_option maxHeartbeats 400000 in
theorem node_any (lo hi : Nat) (w : World) (h : lo + hi ≤ 1000) : Calls Try.prog 63 #[trV lo hi] w fun e w' => e = .returned (.int .i64 (((lo + hi) / 2 : Nat) : Int)) ∧ Below w.heap.size w w' := by
  go_enter Try.func63, Try.ntmps63
  go_wp2
  go_ret
  exact ⟨by go_num, box1 _ _⟩
/-- A call's two boxes, and what a call of its own leaves of them. -/
theorem bx_cell {w0 w1 w2 : World} {b n : Nat} {f : Nat → Value} (h : St w0 b n f) (hn : 0 < n) (e : w1.heap = w0.heap) (hb : Below w1.heap.size w1 w2) : St w2 b n f :=
  h.same ((hb.block b (by rw [e]; exact h.lt hn)).trans (by rw [e]))
set_option maxHeartbeats 1000000 in
theorem longer_any (lo hi : Nat) (w : World) (h : lo + hi ≤ 1000) : Calls Try.prog 67 #[trV lo hi] w fun e w' => e = .returned (trV ((lo + hi) / 2 + 1) hi) ∧ Below w.heap.size w w' := by
  obtain ⟨m, hm⟩ : ∃ m, m = (lo + hi) / 2 := ⟨_, rfl⟩
  have HN : Hid _ := fun (w : World) => node_any lo hi w h
  rw [← hm] at HN ⊢
  have hm1 : m ≤ 1000 := by omega
  have hwr : IntKind.i64.wrap ((m : Int) + 1) = ((m + 1 : Nat) : Int) := by simp [IntKind.wrap, IntKind.bits, IntKind.signed]; omega
  obtain ⟨w0, hw0⟩ : ∃ w0, w0 = (w.alloc (.cells #[.int .i64 lo, .int .i64 hi] 115)).alloc (.cells #[.int .i64 0, .int .i64 0] 115) := ⟨_, rfl⟩
  obtain ⟨b0, hb0⟩ : ∃ b0, b0 = w.heap.size := ⟨_, rfl⟩
  obtain ⟨b1, hb1⟩ : ∃ b1, b1 = w.heap.size + 1 := ⟨_, rfl⟩
  have k0 : w0.cell? ⟨b0, 0, none⟩ = some (.int .i64 lo) := by rw [hw0, hb0]; simp
  have k1 : w0.cell? ⟨b0, 1, none⟩ = some (.int .i64 hi) := by rw [hw0, hb0]; simp
  have r0 : w0.cell? ⟨b1, 0, none⟩ = some (.int .i64 0) := by rw [hw0, hb1]; simp
  have r1 : w0.cell? ⟨b1, 1, none⟩ = some (.int .i64 0) := by rw [hw0, hb1]; simp
  have f0 : w0.frozen? ⟨b1, 0, none⟩ = false := by rw [hw0, hb1]; simp
  have f1 : w0.frozen? ⟨b1, 1, none⟩ = false := by rw [hw0, hb1]; simp
  have hne : b0 ≠ b1 := by omega
  have hz0 : b0 < w0.heap.size := by rw [hw0, hb0]; simp; omega
  have hz1 : b1 < w0.heap.size := by rw [hw0, hb1]; simp
  have HB : Hid (Below w.heap.size w w0 ∧ w.heap.size ≤ b1) := by rw [hw0, hb1]; exact ⟨two_boxes _ _ _, by omega⟩
  have Hw : Hid _ := hw0
  have Hb0 : Hid _ := hb0
  have Hb1 : Hid _ := hb1
  clear hw0 hb0 hb1 hm
  go_enter Try.func67, Try.ntmps67
  go_wp2_with fail
  rw [← Hw.out, ← Hb1.out, ← Hb0.out]
  go_region_with (go_at_call 63; refine (HN.out _).mono ?_; rintro e w1 ⟨rfl, hb⟩; have c1 := (bcell hb).1 b0 1 hz0; have c2 := (bcell hb).1 b1 0 hz1; have c3 := (bcell hb).1 b1 1 hz1; have c4 := (bcell hb).2 b1 0 hz1; have c5 := (bcell hb).2 b1 1 hz1; (simp only [World.cell?_drew, World.frozen?_drew, k1, r0, r1, f0, f1] at c1 c2 c3 c4 c5))
  all_goals
    go_wp2
    exact bodyPost_ret (v := trV (m + 1) hi) (by simp [results, Try.results67, go_sem, c2, c3]) rfl ⟨rfl, below_set (below_set (HB.out.1.trans (((Below.refl _ _).drew.trans hb).mono HB.out.1.size)) HB.out.2 _) HB.out.2 _⟩
set_option maxHeartbeats 1000000 in
theorem shorter_any (lo hi : Nat) (w : World) (h : lo + hi ≤ 1000) : Calls Try.prog 68 #[trV lo hi] w fun e w' => e = .returned (trV lo ((lo + hi) / 2)) ∧ Below w.heap.size w w' := by
  obtain ⟨m, hm⟩ : ∃ m, m = (lo + hi) / 2 := ⟨_, rfl⟩
  have HN : Hid _ := fun (w : World) => node_any lo hi w h
  rw [← hm] at HN ⊢
  have hm1 : m ≤ 1000 := by omega
  obtain ⟨w0, hw0⟩ : ∃ w0, w0 = (w.alloc (.cells #[.int .i64 lo, .int .i64 hi] 115)).alloc (.cells #[.int .i64 0, .int .i64 0] 115) := ⟨_, rfl⟩
  obtain ⟨b0, hb0⟩ : ∃ b0, b0 = w.heap.size := ⟨_, rfl⟩
  obtain ⟨b1, hb1⟩ : ∃ b1, b1 = w.heap.size + 1 := ⟨_, rfl⟩
  have k0 : w0.cell? ⟨b0, 0, none⟩ = some (.int .i64 lo) := by rw [hw0, hb0]; simp
  have k1 : w0.cell? ⟨b0, 1, none⟩ = some (.int .i64 hi) := by rw [hw0, hb0]; simp
  have r0 : w0.cell? ⟨b1, 0, none⟩ = some (.int .i64 0) := by rw [hw0, hb1]; simp
  have r1 : w0.cell? ⟨b1, 1, none⟩ = some (.int .i64 0) := by rw [hw0, hb1]; simp
  have f0 : w0.frozen? ⟨b1, 0, none⟩ = false := by rw [hw0, hb1]; simp
  have f1 : w0.frozen? ⟨b1, 1, none⟩ = false := by rw [hw0, hb1]; simp
  have hne : b0 ≠ b1 := by omega
  have hz0 : b0 < w0.heap.size := by rw [hw0, hb0]; simp; omega
  have hz1 : b1 < w0.heap.size := by rw [hw0, hb1]; simp
  have HB : Hid (Below w.heap.size w w0 ∧ w.heap.size ≤ b1) := by rw [hw0, hb1]; exact ⟨two_boxes _ _ _, by omega⟩
  have Hw : Hid _ := hw0
  have Hb0 : Hid _ := hb0
  have Hb1 : Hid _ := hb1
  clear hw0 hb0 hb1 hm
  go_enter Try.func68, Try.ntmps68
  go_wp2_with fail
  rw [← Hw.out, ← Hb1.out, ← Hb0.out]
  go_region_with (go_at_call 63; refine (HN.out _).mono ?_; rintro e w1 ⟨rfl, hb⟩; have c1 := (bcell hb).1 b0 0 hz0; have c2 := (bcell hb).1 b1 0 hz1; have c3 := (bcell hb).1 b1 1 hz1; have c4 := (bcell hb).2 b1 0 hz1; have c5 := (bcell hb).2 b1 1 hz1; (simp only [World.cell?_drew, World.frozen?_drew, k0, r0, r1, f0, f1] at c1 c2 c3 c4 c5))
  all_goals
    go_wp2
    exact bodyPost_ret (v := trV lo m) (by simp [results, Try.results68, go_sem, c2, c3]) rfl ⟨rfl, below_set (below_set (HB.out.1.trans (((Below.refl _ _).drew.trans hb).mono HB.out.1.size)) HB.out.2 _) HB.out.2 _⟩

end Go.Proofs.Ytnfkgnjeamnhfab
