import Derived.Test.YtnfkgnjeamnhfabRj
import Derived.Test.YtnfkgnjeamnhfabHRef6
import Derived.Test.YtnfkgnjeamnhfabGf
namespace Go.Proofs.Ytnfkgnjeamnhfab
open Go.RowKit Go.Sort

/-- Where a prefix is among the routes; -1: nowhere. -/
def whr (rs : List Rt) (p : Rt) : Int := match rs.findIdx? (fun r => sameP r p) with
  | some i => i
  | none => -1
theorem whr_at {rs : List Rt} {p : Rt} {k : Nat} {r : Rt} (h : ∀ j r, j < k → rs[j]? = some r → sameP r p = false) (hr : rs[k]? = some r) (hs : sameP r p = true) : whr rs p = k := by
  have : rs.findIdx? (fun r => sameP r p) = some k := by
    rw [List.findIdx?_eq_some_iff_getElem]
    obtain ⟨hl, e⟩ := List.getElem?_eq_some_iff.1 hr
    refine ⟨hl, by rw [e]; exact hs, fun j hj => ?_⟩
    have := h j rs[j] hj (List.getElem?_eq_getElem (by omega))
    simp [this]
  unfold whr; rw [this]
theorem whr_none {rs : List Rt} {p : Rt} (h : ∀ j r, j < rs.length → rs[j]? = some r → sameP r p = false) : whr rs p = -1 := by
  have : rs.findIdx? (fun r => sameP r p) = none := by
    rw [List.findIdx?_eq_none_iff]
    intro x hx
    obtain ⟨j, hj, e⟩ := List.getElem_of_mem hx
    exact h j x hj (by rw [← e]; exact List.getElem?_eq_getElem hj)
  unfold whr; rw [this]
theorem whr_cases (rs : List Rt) (p : Rt) : (whr rs p = -1 ∧ ∀ r ∈ rs, sameP r p = false) ∨ ∃ k r, whr rs p = (k : Nat) ∧ rs[k]? = some r ∧ sameP r p = true ∧ ∀ j r, j < k → rs[j]? = some r → sameP r p = false := by
  unfold whr
  cases h : rs.findIdx? (fun r => sameP r p) with
  | none =>
    rw [List.findIdx?_eq_none_iff] at h
    exact .inl ⟨rfl, h⟩
  | some k =>
    rw [List.findIdx?_eq_some_iff_getElem] at h
    obtain ⟨hl, h1, h2⟩ := h
    refine .inr ⟨k, rs[k], rfl, List.getElem?_eq_getElem hl, h1, fun j r hj hr => ?_⟩
    have := h2 j hj
    rw [List.getElem?_eq_getElem (by omega)] at hr
    cases hr
    simpa using this

/-- Put, as the document has it. -/
def putR (gs : Nat → List Int) (lim : Int) (rs : List Rt) (p : Rt) : Int × List Rt :=
  if chkR p = 0 then (if hasB gs p.g then (if 0 ≤ whr rs p then (0, rs.set (whr rs p).toNat p) else if lim ≤ rs.length then (9, rs) else (0, rs ++ [p])) else (7, rs)) else (chkR p, rs)
/-- Take, as the document has it. -/
def takeR (rs : List Rt) (p : Rt) : Int × List Rt :=
  if chkR p = 0 then (if 0 ≤ whr rs p then (0, rs.eraseIdx (whr rs p).toNat) else (8, rs)) else (chkR p, rs)
/-- Take, as the program has it. -/
def takeT (rs : List Rt) (p : Rt) : Int × List Rt := if chkR p = 0 then takeC rs p else (chkR p, rs)
end Go.Proofs.Ytnfkgnjeamnhfab
namespace Go.Proofs.Ytnfkgnjeamnhfab
open Go.RowKit Go.Sort

theorem push_done {N : Nat} {ρ ρ4 : Nat → Nat} {w w5 : World} {T rS rQ c g n cap : Nat} {f : Nat → Value} {rs' : List Rt} (hE : Ev (fun q => q = rS ∨ q = rQ) ρ w ρ4 w5) (hF : Fr ρ4 w5) (h15 : ∀ k, ρ4 k ≠ 15) (hT : ρ4 T = rS) (hS : St w5 T 36 (upd f c (.slice (some ⟨g, 0, none⟩) n cap))) (hg : ρ4 g = rQ) (hr : RwO w5 N (.slice (some ⟨g, 0, none⟩) n cap) rs') : RqPost N ρ w T rS rQ c f rs' w5 := by
  refine ⟨ρ4, _, ⟨hT, hS, ?_, ?_⟩, fun j hj => upd_ne hj, hF, h15, hE⟩
  · rw [upd_same]; exact hr
  · rw [upd_same]; intro k hk; simp [Value.ownBlock] at hk; subst hk; exact hg
theorem RqPost.drew {N : Nat} {ρ : Nat → Nat} {w w' : World} {T rS rQ c : Nat} {f : Nat → Value} {rs' : List Rt} (h : RqPost N ρ w T rS rQ c f rs' w') : RqPost N ρ w T rS rQ c f rs' w'.drew := by
  obtain ⟨ρ', f', h1, h2, h3, h4, h5⟩ := h
  exact ⟨ρ', f', ⟨h1.role, h1.st, h1.row⟩, h2, h3, h4, h5.drewR⟩

end Go.Proofs.Ytnfkgnjeamnhfab
