import Derived.Test.YtnfkgnjeamnhfaaTf
import Derived.Deep.CutRange
namespace Go.Proofs.Ytnfkgnjeamnhfaa
open Go.RowKit Go.Sort

theorem gof_at {l : List Rt} {a : Ad} {b : Int} {k : Nat} {r : Rt} (h : ∀ j s, j < k → l[j]? = some s → hit a b s = false) (hr : l[k]? = some r) (hh : hit a b r = true) : gof l a b = r.g := by
  unfold gof
  have e : l.find? (hit a b) = some r := by
    induction l generalizing k with
    | nil => simp at hr
    | cons x l ih =>
      cases k with
      | zero => simp at hr; subst hr; rw [List.find?_cons, hh]
      | succ k =>
        rw [List.find?_cons, h 0 x (by omega) rfl]
        exact ih (k := k) (fun j s hj hs => h (j + 1) s (by omega) (by simpa using hs)) (by simpa using hr)
  rw [e]
theorem gof_no {l : List Rt} {a : Ad} {b : Int} (h : ∀ j s, j < l.length → l[j]? = some s → hit a b s = false) : gof l a b = -1 := by
  unfold gof
  rw [List.find?_eq_none.2]
  intro r hr
  obtain ⟨j, hj, e⟩ := List.getElem_of_mem hr
  rw [h j r hj (by rw [← e]; exact List.getElem?_eq_getElem hj)]
  exact Bool.false_ne_true
theorem width_any (f : Int) (w : World) (h : f = 4 ∨ f = 6) : Calls Try.prog 28 #[.int .i64 f] w fun e w' => e = .returned (.int .i64 (wid f)) ∧ w' = w := by
  rcases h with rfl | rfl
  · exact H.width_4 w
  · exact H.width_6 w

end Go.Proofs.Ytnfkgnjeamnhfaa
