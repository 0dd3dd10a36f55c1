import Derived.Test.YtnmmbbkaamfgpaaGa
namespace Go.Proofs.Ytnmmbbkaamfgpaa
open Go.RowKit

theorem ints_get {xs : List Int} {j : Nat} {u : Value} (h : (ints xs)[j]? = some u) : ∃ x, xs[j]? = some x ∧ u = .int .i64 x := by
  rw [List.getElem?_map] at h
  cases hx : xs[j]? with
  | none => rw [hx] at h; cases h
  | some x => rw [hx] at h; exact ⟨x, rfl, by simpa using h.symm⟩
theorem ints_one (xs : List Int) : ∀ u ∈ ints xs, u.oneCell' = true := by
  intro u hu
  obtain ⟨x, _, rfl⟩ := List.mem_map.1 hu
  rfl
theorem Rd.news {w : World} {b off n : Nat} {xs : List Int} (h : Rd w (some ⟨b, off, none⟩) n xs) : ∀ j u, (ints xs)[j]? = some u → w.cell? ((⟨b, off, none⟩ : Addr).add j) = some u := by
  intro j u hu
  obtain ⟨x, hx, rfl⟩ := ints_get hu
  rw [Lib.add_plain]
  have hj : j < n := by rw [← h.1]; exact (List.getElem?_eq_some_iff.1 hx).1
  obtain ⟨y, hy, hc⟩ := h.cell hj
  rw [hx] at hy
  cases hy
  exact hc

set_option maxHeartbeats 1000000 in
theorem fresh_any (ao : Option Addr) (n cap : Nat) (xs : List Int) (w : World) (hr : Rd w ao n xs) (h0 : 0 < n) (h8 : n ≤ 8) :
    Calls Try.prog 58 #[.slice ao n cap] w fun e w' => ∃ g c, e = .returned (.slice (some ⟨g, 0, none⟩) n c) ∧ w.heap.size ≤ g ∧ g < w'.heap.size ∧ w'.ownsRow w.heap.size 3 1 (.slice (some ⟨g, 0, none⟩) n c) n (ints xs) ∧ Below w.heap.size w w' := by
  obtain ⟨i0, hi, hz0, hz1, hz2⟩ := info3
  obtain ⟨b, off, rfl, hlt, -⟩ := hr.at h0
  have HR := Lib.hid hr
  clear hr
  go_enter Try.func58, Try.ntmps58
  go_wp2_with (at_builtin; refine wpList_append_lies _ rfl _ _ 54 rfl w.heap.size 3 i0 (.int .i64 0) 1 8 Try.underlying54 hi hz0 hz1 hz2 rfl (by decide) _ 0 [] rfl (World.ownsRow_lit w #[] 0 (Nat.le_refl _) (by unfold maxLen; omega) rfl) ⟨b, off, none⟩ n cap (ints xs) rfl ?c1 ?c2 ?c3 h0 ?c4 ?c5 ?c6 _ rfl ?_)
  case c1 => simp [HR.out.1]
  case c2 => intro j u hu; rw [Lib.add_plain, World.cell?_of_block (w := w) (a := ⟨b, off + j, none⟩) (Below.heap_alloc w _ b hlt), ← Lib.add_plain]; exact HR.out.news j u hu
  case c3 => exact ints_one xs
  case c4 => unfold maxLen; omega
  case c5 => omega
  case c6 => simp
  intro g c w2 hown hgrow hat hgz
  go_wp2
  go_ret
  refine ⟨g, c, rfl, ?_, hgz, hown, ((Below.refl _ _).alloc (Nat.le_refl _) _).grown hgrow (by simp) (fun k hk => ?_)⟩
  · rcases hat with hat | hat
    · simp [Value.ownBlock] at hat; omega
    · rw [hat]; simp
  · simp [Value.ownBlock] at hk; omega

/-- The lists of the groups, from offset o of a struct on. -/
def Ls (w : World) (f : Nat → Value) (o : Nat) (gs : Nat → List Int) : Prop :=
  ∀ j, j < 32 → ∃ ao n cap, f (o + j) = .slice ao n cap ∧ Rd w ao n (gs j) ∧ n ≤ 8 ∧ (n = 0 → ao = none ∧ cap = 0)
/-- Is there such a group? -/
def hasB (gs : Nat → List Int) (g : Int) : Bool := decide (0 ≤ g ∧ g < 32 ∧ (gs g.toNat).length ≠ 0)

set_option maxHeartbeats 1000000 in
theorem has_any (T : Nat) (f : Nat → Value) (gs : Nat → List Int) (g : Int) (w : World) (hs : St w T 36 f) (hl : Ls w f 3 gs) :
    Calls Try.prog 40 #[.pointer (some ⟨T, 3, none⟩), .int .i64 g] w fun e w' => e = .returned (.bool (hasB gs g)) ∧ w' = w := by
  by_cases h0 : g < 0
  · have e : hasB gs g = false := by unfold hasB; rw [decide_eq_false]; rintro ⟨h, _⟩; omega
    rw [e]
    clear hs hl
    go_enter Try.func40, Try.ntmps40
    go_wp2
    go_ret
    exact ⟨rfl, rfl⟩
  · by_cases h1 : 32 ≤ g
    · have e : hasB gs g = false := by unfold hasB; rw [decide_eq_false]; rintro ⟨_, h, _⟩; omega
      rw [e]
      clear hs hl
      go_enter Try.func40, Try.ntmps40
      go_wp2
      go_ret
      exact ⟨rfl, rfl⟩
    · obtain ⟨k, rfl⟩ : ∃ k : Nat, g = k := ⟨g.toNat, by omega⟩
      have hk : k < 32 := by omega
      obtain ⟨ao, n, cap, hf, hr, hn8, -⟩ := hl k hk
      have hc := (hs (3 + k) (by omega)).1
      rw [hf] at hc
      have e : hasB gs k = decide ((0 : Int) < (n : Int)) := by
        unfold hasB
        rw [Int.toNat_natCast, hr.1]
        exact decide_eq_decide.2 ⟨fun h => by omega, fun h => ⟨by omega, by omega, by omega⟩⟩
      rw [e]
      clear hs hl hf hr e
      go_enter Try.func40, Try.ntmps40
      go_wp2
      go_ret
      exact ⟨rfl, rfl⟩
end Go.Proofs.Ytnmmbbkaamfgpaa
