import Derived.Test.YtnfkgnjeamnhfabProg
import Derived.WalkKit
import Derived.WalkSpells
import Derived.WalkLawsBesides
import Derived.Lib.Hide
import Derived.Lib.ItoaMem
import Derived.OwnWalk
import Derived.Deep.AppendLies
import Derived.Deep.AppendSrc
import Derived.Deep.RegionWith
import Derived.Deep.QuietTactic
import Derived.BigQuiet
namespace Go.Proofs.Ytnfkgnjeamnhfab
open Go.RowKit

theorem ne_beq {a b : Nat} (h : ¬ a = b) : ((a : Int) == (b : Int)) = false := by
  rw [Bool.eq_false_iff]; intro e; simp at e; exact h (by omega)
theorem ine_beq {a b : Int} (h : ¬ a = b) : (a == b) = false := by
  rw [Bool.eq_false_iff]; intro e; simp at e; exact h e
theorem bcell {W w1 : World} (hb : Below W.heap.size W w1) : (∀ b o, b < W.heap.size → w1.cell? ⟨b, o, none⟩ = W.cell? ⟨b, o, none⟩) ∧ (∀ b o, b < W.heap.size → w1.frozen? ⟨b, o, none⟩ = W.frozen? ⟨b, o, none⟩) :=
  ⟨fun b o h => hb.cell (p := ⟨b, o, none⟩) h, fun b o h => hb.frozen (p := ⟨b, o, none⟩) h⟩

/-- Integers as cells. -/
abbrev ints (xs : List Int) : List Value := xs.map fun x => .int .i64 x
abbrev nilS : Value := .slice none 0 0

/-- A list of integers that can be read. -/
def Rd (w : World) (ao : Option Addr) (n : Nat) (xs : List Int) : Prop :=
  xs.length = n ∧ (n = 0 ∨ ∃ b off, ao = some ⟨b, off, none⟩ ∧ ∀ j x, xs[j]? = some x → w.cell? ⟨b, off + j, none⟩ = some (.int .i64 x))
theorem Rd.at {w : World} {ao : Option Addr} {n : Nat} {xs : List Int} (h : Rd w ao n xs) (h0 : 0 < n) : ∃ b off, ao = some ⟨b, off, none⟩ ∧ b < w.heap.size ∧ ∀ j x, xs[j]? = some x → w.cell? ⟨b, off + j, none⟩ = some (.int .i64 x) := by
  rcases h.2 with h1 | ⟨b, off, h1, h2⟩
  · omega
  · have hl := h.1
    obtain ⟨x, hx⟩ : ∃ x, xs[0]? = some x := ⟨_, List.getElem?_eq_getElem (by omega)⟩
    exact ⟨b, off, h1, World.block_lt_of_cell? w ⟨b, off + 0, none⟩ (h2 0 x hx), h2⟩
theorem Rd.same {w w' : World} {ao : Option Addr} {n : Nat} {xs : List Int} (h : Rd w ao n xs) (hb : ∀ b off, ao = some ⟨b, off, none⟩ → b < w.heap.size → w'.heap[b]? = w.heap[b]?) : Rd w' ao n xs := by
  refine ⟨h.1, ?_⟩
  rcases Nat.eq_zero_or_pos n with h0 | h0
  · exact .inl h0
  · obtain ⟨b, off, h1, hlt, h2⟩ := h.at h0
    exact .inr ⟨b, off, h1, fun j x hx => (World.cell?_of_block (a := ⟨b, off + j, none⟩) (hb b off h1 hlt)).trans (h2 j x hx)⟩
theorem Rd.below {w w' : World} {ao : Option Addr} {n : Nat} {xs : List Int} (h : Rd w ao n xs) (hb : Below w.heap.size w w') : Rd w' ao n xs := h.same fun b _ _ hlt => hb.block b hlt
theorem Rd.cell {w : World} {b off n : Nat} {xs : List Int} (h : Rd w (some ⟨b, off, none⟩) n xs) {j : Nat} (hj : j < n) : ∃ x, xs[j]? = some x ∧ w.cell? ⟨b, off + j, none⟩ = some (.int .i64 x) := by
  have hl := h.1
  obtain ⟨x, hx⟩ : ∃ x, xs[j]? = some x := ⟨_, List.getElem?_eq_getElem (by omega)⟩
  rcases h.2 with h0 | ⟨b', off', h1, h2⟩
  · omega
  · simp only [Option.some.injEq, Addr.mk.injEq, and_true] at h1
    obtain ⟨rfl, rfl⟩ := h1
    exact ⟨x, hx, h2 j x hx⟩

/-- A struct's cells in a block. -/
def St (w : World) (b n : Nat) (f : Nat → Value) : Prop := ∀ j, j < n → w.cell? ⟨b, j, none⟩ = some (f j) ∧ w.frozen? ⟨b, j, none⟩ = false
def upd (f : Nat → Value) (k : Nat) (v : Value) : Nat → Value := fun j => if j = k then v else f j
theorem upd_same (f : Nat → Value) (k : Nat) (v : Value) : upd f k v k = v := by simp [upd]
theorem upd_ne {f : Nat → Value} {k j : Nat} {v : Value} (h : j ≠ k) : upd f k v j = f j := by simp [upd, h]
theorem St.lt {w : World} {b n : Nat} {f : Nat → Value} (h : St w b n f) (hn : 0 < n) : b < w.heap.size := World.block_lt_of_cell? w ⟨b, 0, none⟩ (h 0 hn).1
theorem St.same {w w' : World} {b n : Nat} {f : Nat → Value} (h : St w b n f) (hb : w'.heap[b]? = w.heap[b]?) : St w' b n f := fun j hj =>
  ⟨(World.cell?_of_block (a := ⟨b, j, none⟩) hb).trans (h j hj).1, (World.frozen?_of_block (a := ⟨b, j, none⟩) hb).trans (h j hj).2⟩
theorem St.set {w : World} {b n : Nat} {f : Nat → Value} (h : St w b n f) {k : Nat} (hk : k < n) (v : Value) : St (w.setCell ⟨b, k, none⟩ v) b n (upd f k v) := by
  intro j hj
  refine ⟨?_, by rw [World.frozen?_setCell]; exact (h j hj).2⟩
  by_cases e : j = k
  · subst e; rw [World.cell?_setCell_same _ _ _ (h j hj).1, upd_same]
  · rw [World.cell?_setCell_other (w := w) (a := ⟨b, k, none⟩) (b := ⟨b, j, none⟩) _ (by intro hh; injection hh with _ h2; exact e h2.symm), (h j hj).1, upd_ne e]
theorem St.setOther {w : World} {b n : Nat} {f : Nat → Value} (h : St w b n f) {a : Addr} (ha : b ≠ a.block) (v : Value) : St (w.setCell a v) b n f := h.same (Below.heap_setCell w a v b ha)
theorem St.alloc {w : World} {b n : Nat} {f : Nat → Value} (h : St w b n f) (hn : 0 < n) (o : Obj) : St (w.alloc o) b n f := h.same (Below.heap_alloc w o b (h.lt hn))
theorem St.below {w w' : World} {B b n : Nat} {f : Nat → Value} (h : St w b n f) (hb : Below B w w') (hlt : b < B) : St w' b n f := h.same (hb.block b hlt)
theorem St.congr {w : World} {b n : Nat} {f g : Nat → Value} (h : St w b n f) (he : ∀ j, j < n → f j = g j) : St w b n g := fun j hj => by rw [← he j hj]; exact h j hj

theorem info3m : (Try.prog.info? 3).map (fun i => (i.size, i.bytes, i.zero)) = some (1, 8, some (.int .i64 0)) := by kernel_rfl
theorem info3 : ∃ i, Try.prog.info? 3 = some i ∧ i.zero = some (.int .i64 0) ∧ i.size = 1 ∧ i.bytes = 8 := by
  obtain ⟨i, hi, he⟩ := Option.map_eq_some_iff.1 info3m
  simp only [Prod.mk.injEq] at he
  exact ⟨i, hi, he.2.2, he.1, he.2.1⟩
theorem info36m : (Try.prog.info? 31).map (fun i => (i.size, i.bytes, i.zero)) = some (1, 24, some (.slice none 0 0)) := by kernel_rfl
theorem info36 : ∃ i, Try.prog.info? 31 = some i ∧ i.zero = some (.slice none 0 0) ∧ i.size = 1 ∧ i.bytes = 24 := by
  obtain ⟨i, hi, he⟩ := Option.map_eq_some_iff.1 info36m
  simp only [Prod.mk.injEq] at he
  exact ⟨i, hi, he.2.2, he.1, he.2.1⟩
end Go.Proofs.Ytnfkgnjeamnhfab
namespace Go.Proofs.Ytnfkgnjeamnhfab
open Go.RowKit

/-- May these be hops? -/
def goodB (xs : List Int) : Bool := decide (xs.length ≠ 0 ∧ xs.length ≤ 8 ∧ ∀ x ∈ xs, 0 ≤ x ∧ x ≤ 65535)

set_option maxHeartbeats 1000000 in
theorem goodHops_any (ao : Option Addr) (n cap : Nat) (xs : List Int) (w : World) (hr : Rd w ao n xs) (hm : n ≤ maxLen) :
    Calls Try.prog 72 #[.slice ao n cap] w fun e w' => e = .returned (.bool (goodB xs)) ∧ w' = w := by
  unfold maxLen at hm
  have hl := hr.1
  by_cases h0 : n = 0
  · have e : goodB xs = false := by unfold goodB; rw [decide_eq_false]; rintro ⟨h1, _⟩; omega
    have h1 : ((n : Int) == 0) = true := by rw [h0]; rfl
    rw [e]
    clear hr hl
    go_enter Try.func72, Try.ntmps72
    go_wp2
    go_ret
    exact ⟨rfl, rfl⟩
  · have h1 : ((n : Int) == 0) = false := ne_beq (b := 0) h0
    by_cases h8 : 8 < n
    · have e : goodB xs = false := by unfold goodB; rw [decide_eq_false]; rintro ⟨_, h1, _⟩; omega
      have h2 : (8 : Int) < (n : Int) := by omega
      rw [e]
      clear hr hl
      go_enter Try.func72, Try.ntmps72
      go_wp2
      go_ret
      exact ⟨rfl, rfl⟩
    · have h2 : ¬ (8 : Int) < (n : Int) := by omega
      obtain ⟨b, off, rfl, hlt, hc⟩ := hr.at (by omega)
      have HR := Lib.hid hr
      have HL := Lib.hid hl
      clear hr hc hl
      go_enter Try.func72, Try.ntmps72
      go_wp2
      go_loop [3] (fun i => ∃ k : Nat, k ≤ n ∧ i = .int .i64 k ∧ Hid (∀ x ∈ xs.take k, 0 ≤ x ∧ x ≤ 65535)) (fun i => n - (intOf i).toNat)
      case atStart => exact ⟨0, Nat.zero_le _, rfl, by intro x hx; simp at hx⟩
      case round =>
        obtain ⟨k, hk, rfl, HT⟩ := hrel
        by_cases hlt2 : k < n
        · obtain ⟨x, hx, hcx⟩ := HR.out.cell hlt2
          have HX := Lib.hid hx
          clear hx
          by_cases hx0 : x < 0
          · go_wp2
            go_ret
            refine ⟨?_, rfl⟩
            have e : goodB xs = false := by
              unfold goodB; rw [decide_eq_false]; rintro ⟨_, _, h⟩
              have := h x (List.mem_of_getElem? HX.out); omega
            rw [e]; rfl
          · by_cases hx1 : 65535 < x
            · go_wp2
              go_ret
              refine ⟨?_, rfl⟩
              have e : goodB xs = false := by
                unfold goodB; rw [decide_eq_false]; rintro ⟨_, _, h⟩
                have := h x (List.mem_of_getElem? HX.out); omega
              rw [e]; rfl
            · go_wp2
              go_round
              case rel =>
                refine ⟨k + 1, by omega, by go_num, ?_⟩
                intro y hy
                rw [List.take_add_one, HX.out] at hy
                rcases List.mem_append.1 hy with hy | hy
                · exact HT.out y hy
                · simp at hy; subst hy; exact ⟨by omega, by omega⟩
              case measure => simp [intOf]; omega
        · obtain rfl : k = n := by omega
          go_wp2
          go_ret
          refine ⟨?_, rfl⟩
          have e : goodB xs = true := by
            unfold goodB; rw [decide_eq_true]
            have hl := HL.out
            refine ⟨by omega, by omega, ?_⟩
            have := HT.out
            rwa [List.take_of_length_le (by omega)] at this
          rw [e]; rfl
end Go.Proofs.Ytnfkgnjeamnhfab
namespace Go.Proofs.Ytnfkgnjeamnhfab
open Go.RowKit

theorem ints_get {xs : List Int} {j : Nat} {u : Value} (h : (ints xs)[j]? = some u) : ∃ x, xs[j]? = some x ∧ u = .int .i64 x := by
  rw [List.getElem?_map] at h
  cases hx : xs[j]? with
  | none => rw [hx] at h; cases h
  | some x => rw [hx] at h; exact ⟨x, rfl, by simpa using h.symm⟩
theorem ints_one (xs : List Int) : ∀ u ∈ ints xs, u.oneCell' = true := by
  intro u hu
  obtain ⟨x, _, rfl⟩ := List.mem_map.1 hu
  rfl
theorem Rd.news {w : World} {b off n : Nat} {xs : List Int} (h : Rd w (some ⟨b, off, none⟩) n xs) : ∀ j u, (ints xs)[j]? = some u → w.cell? ((⟨b, off, none⟩ : Addr).add j) = some u := by
  intro j u hu
  obtain ⟨x, hx, rfl⟩ := ints_get hu
  rw [Lib.add_plain]
  have hj : j < n := by rw [← h.1]; exact (List.getElem?_eq_some_iff.1 hx).1
  obtain ⟨y, hy, hc⟩ := h.cell hj
  rw [hx] at hy
  cases hy
  exact hc

set_option maxHeartbeats 1000000 in
theorem fresh_any (ao : Option Addr) (n cap : Nat) (xs : List Int) (w : World) (hr : Rd w ao n xs) (h0 : 0 < n) (h8 : n ≤ 8) :
    Calls Try.prog 71 #[.slice ao n cap] w fun e w' => ∃ g c, e = .returned (.slice (some ⟨g, 0, none⟩) n c) ∧ w.heap.size ≤ g ∧ g < w'.heap.size ∧ w'.ownsRow w.heap.size 3 1 (.slice (some ⟨g, 0, none⟩) n c) n (ints xs) ∧ Below w.heap.size w w' := by
  obtain ⟨i0, hi, hz0, hz1, hz2⟩ := info3
  obtain ⟨b, off, rfl, hlt, -⟩ := hr.at h0
  have HR := Lib.hid hr
  clear hr
  go_enter Try.func71, Try.ntmps71
  go_wp2_with (at_builtin; refine wpList_append_lies _ rfl _ _ 31 rfl w.heap.size 3 i0 (.int .i64 0) 1 8 Try.underlying31 hi hz0 hz1 hz2 rfl (by decide) _ 0 [] rfl (World.ownsRow_lit w #[] 0 (Nat.le_refl _) (by unfold maxLen; omega) rfl) ⟨b, off, none⟩ n cap (ints xs) rfl ?c1 ?c2 ?c3 h0 ?c4 ?c5 ?c6 _ rfl ?_)
  case c1 => simp [HR.out.1]
  case c2 => intro j u hu; rw [Lib.add_plain, World.cell?_of_block (w := w) (a := ⟨b, off + j, none⟩) (Below.heap_alloc w _ b hlt), ← Lib.add_plain]; exact HR.out.news j u hu
  case c3 => exact ints_one xs
  case c4 => unfold maxLen; omega
  case c5 => omega
  case c6 => simp
  intro g c w2 hown hgrow hat hgz
  go_wp2
  go_ret
  refine ⟨g, c, rfl, ?_, hgz, hown, ((Below.refl _ _).alloc (Nat.le_refl _) _).grown hgrow (by simp) (fun k hk => ?_)⟩
  · rcases hat with hat | hat
    · simp [Value.ownBlock] at hat; omega
    · rw [hat]; simp
  · simp [Value.ownBlock] at hk; omega

/-- The lists of the groups, from offset o of a struct on. -/
def Ls (w : World) (f : Nat → Value) (o : Nat) (gs : Nat → List Int) : Prop :=
  ∀ j, j < 32 → ∃ ao n cap, f (o + j) = .slice ao n cap ∧ Rd w ao n (gs j) ∧ n ≤ 8 ∧ (n = 0 → ao = none ∧ cap = 0)
/-- Is there such a group? -/
def hasB (gs : Nat → List Int) (g : Int) : Bool := decide (0 ≤ g ∧ g < 32 ∧ (gs g.toNat).length ≠ 0)

set_option maxHeartbeats 1000000 in
theorem has_any (T : Nat) (f : Nat → Value) (gs : Nat → List Int) (g : Int) (w : World) (hs : St w T 36 f) (hl : Ls w f 3 gs) :
    Calls Try.prog 43 #[.pointer (some ⟨T, 3, none⟩), .int .i64 g] w fun e w' => e = .returned (.bool (hasB gs g)) ∧ w' = w := by
  by_cases h0 : g < 0
  · have e : hasB gs g = false := by unfold hasB; rw [decide_eq_false]; rintro ⟨h, _⟩; omega
    rw [e]
    clear hs hl
    go_enter Try.func43, Try.ntmps43
    go_wp2
    go_ret
    exact ⟨rfl, rfl⟩
  · by_cases h1 : 32 ≤ g
    · have e : hasB gs g = false := by unfold hasB; rw [decide_eq_false]; rintro ⟨_, h, _⟩; omega
      rw [e]
      clear hs hl
      go_enter Try.func43, Try.ntmps43
      go_wp2
      go_ret
      exact ⟨rfl, rfl⟩
    · obtain ⟨k, rfl⟩ : ∃ k : Nat, g = k := ⟨g.toNat, by omega⟩
      have hk : k < 32 := by omega
      obtain ⟨ao, n, cap, hf, hr, hn8, -⟩ := hl k hk
      have hc := (hs (3 + k) (by omega)).1
      rw [hf] at hc
      have e : hasB gs k = decide ((0 : Int) < (n : Int)) := by
        unfold hasB
        rw [Int.toNat_natCast, hr.1]
        exact decide_eq_decide.2 ⟨fun h => by omega, fun h => ⟨by omega, by omega, by omega⟩⟩
      rw [e]
      clear hs hl hf hr e
      go_enter Try.func43, Try.ntmps43
      go_wp2
      go_ret
      exact ⟨rfl, rfl⟩
end Go.Proofs.Ytnfkgnjeamnhfab
namespace Go.Proofs.Ytnfkgnjeamnhfab
open Go.RowKit

abbrev two (a b : Int) : Ending := .returned (.tuple #[.int .i64 a, .int .i64 b])
/-- What a call of Group leaves: T's lists lie from offset o on. -/
def GPost (T o : Nat) (f : Nat → Value) (gs : Nat → List Int) (xs : List Int) (w : World) (e : Ending) (w' : World) : Prop :=
  (goodB xs = false ∧ e = two 0 6 ∧ Below w.heap.size w w') ∨
  (goodB xs = true ∧ (∀ j, j < 32 → (gs j).length ≠ 0) ∧ e = two 0 9 ∧ Below w.heap.size w w') ∨
  (goodB xs = true ∧ ∃ i g c, i < 32 ∧ (∀ j, j < i → (gs j).length ≠ 0) ∧ (gs i).length = 0 ∧ e = two i 0 ∧ w.heap.size ≤ g ∧ w'.ownsRow w.heap.size 3 1 (.slice (some ⟨g, 0, none⟩) xs.length c) xs.length (ints xs) ∧
    w.grownBy w' (some T) ∧ St w' T 36 (upd f (o + i) (.slice (some ⟨g, 0, none⟩) xs.length c)))
theorem goodB_len {xs : List Int} (h : goodB xs = true) : 0 < xs.length ∧ xs.length ≤ 8 := by
  unfold goodB at h
  have := of_decide_eq_true h
  omega
theorem Below.grownBy {w w' : World} (h : Below w.heap.size w w') (row : Option Nat) : w.grownBy w' row := ⟨h.os, h.tape, h.output, h.size, fun k hk _ => h.block k hk⟩
theorem grownBy_set {w w' : World} {T k : Nat} (h : Below w.heap.size w w') (v : Value) : w.grownBy (w'.setCell ⟨T, k, none⟩ v) (some T) :=
  ⟨h.os, h.tape, h.output, by simp [World.setCell]; exact h.size, fun i hi hne => (Below.heap_setCell w' ⟨T, k, none⟩ v i (fun e => hne (by rw [e]))).trans (h.block i hi)⟩
theorem ownsRow_set {w : World} {base e size : Nat} {v : Value} {n : Nat} {xs : List Value} (h : w.ownsRow base e size v n xs) {a : Addr} (ha : a.block < base) (u : Value) : (w.setCell a u).ownsRow base e size v n xs := ownsRow_setCell_below h ha u
/-- Behind 'fresh' and a store into the table. -/
theorem stored {w w1 : World} {T k : Nat} {f : Nat → Value} {v : Value} (hs : St w T 36 f) (hb : Below w.heap.size w w1) (hk : k < 36) : St (w1.setCell ⟨T, k, none⟩ v) T 36 (upd f k v) :=
  (hs.below hb (hs.lt (by decide))).set hk v

set_option maxHeartbeats 2000000 in
theorem add_any (T : Nat) (f : Nat → Value) (gs : Nat → List Int) (ao : Option Addr) (n cap : Nat) (xs : List Int) (w : World) (hs : St w T 36 f) (hl : Ls w f 3 gs) (hr : Rd w ao n xs) (hm : n ≤ maxLen) :
    Calls Try.prog 42 #[.pointer (some ⟨T, 3, none⟩), .slice ao n cap] w (GPost T 3 f gs xs w) := by
  have HG := Lib.hid (goodHops_any ao n cap xs w hr hm)
  have HS := Lib.hid hs
  have HL := Lib.hid hl
  have HR := Lib.hid hr
  clear hs hl hr
  unfold maxLen at hm
  cases hg : goodB xs with
  | false =>
    rw [hg] at HG
    have HGG := Lib.hid hg
    clear hg
    go_enter Try.func42, Try.ntmps42
    go_wp2_with (go_at_call 72; refine HG.out.mono ?_; rintro e w1 ⟨rfl, rfl⟩)
    go_ret2
    exact .inl ⟨HGG.out, rfl, Below.refl _ _⟩
  | true =>
    rw [hg] at HG
    have HGG := Lib.hid hg
    have hlen := goodB_len hg
    rw [HR.out.1] at hlen
    obtain ⟨hn0, hn8⟩ := hlen
    have HF := Lib.hid (fun w' (hb : Below w.heap.size w w') => fresh_any ao n cap xs w' (HR.out.below hb) hn0 hn8)
    have hT := HS.out.lt (by decide)
    clear hg
    go_enter Try.func42, Try.ntmps42
    go_wp2_with (go_at_call 72; refine HG.out.mono ?_; rintro e w1 ⟨rfl, rfl⟩)
    go_loop [6] (fun i => ∃ k : Nat, k ≤ 32 ∧ i = .int .i64 k ∧ Hid (∀ j, j < k → (gs j).length ≠ 0)) (fun i => 32 - (intOf i).toNat)
    case atStart => exact ⟨0, Nat.zero_le _, rfl, by intro j hj; omega⟩
    case round =>
      obtain ⟨k, hk, rfl, HK⟩ := hrel
      by_cases hlt : k < 32
      · obtain ⟨a1, n1, c1, hf, hr1, hn1, -⟩ := HL.out k hlt
        have hc := (HS.out (3 + k) (by omega)).1
        have hfz := (HS.out (3 + k) (by omega)).2
        rw [hf] at hc
        have HL1 := Lib.hid hr1.1
        have q0 : (0 : Int) ≤ (k : Int) := by omega
        have q1 : (k : Int) < 32 := by omega
        clear hf hr1
        by_cases h1 : n1 = 0
        · have q2 : ((n1 : Int) == 0) = true := by rw [h1]; rfl
          have H1 := Lib.hid h1
          clear h1
          go_wp2
          go_region_with (go_at_call 71; refine (HF.out _ (by exact ⟨rfl, rfl, rfl, Nat.le_refl _, fun _ _ => rfl⟩)).mono ?_; rintro e w2 ⟨g, c, rfl, hg0, hgz, hown, hb⟩; have s1 := (hb.cell (p := ⟨T, 3 + k, none⟩) (by exact hT)).trans hc; have s2 := (hb.frozen (p := ⟨T, 3 + k, none⟩) (by exact hT)).trans hfz)
          all_goals go_wp2
          all_goals go_ret2
          all_goals
            have hb' : Below w1.heap.size w1 w2 := ⟨hb.os, hb.tape, hb.output, hb.size, hb.block⟩
            refine .inr (.inr ⟨HGG.out, k, g, c, hlt, HK.out, by rw [HL1.out]; exact H1.out, rfl, hg0, ?_, ?_, ?_⟩)
            · rw [HR.out.1]; exact ownsRow_set hown hT _
            · exact grownBy_set hb' _
            · rw [HR.out.1]; exact stored HS.out hb' (by omega)
        · have q2 : ((n1 : Int) == 0) = false := ne_beq (b := 0) h1
          go_wp2
          go_round
          case rel =>
            refine ⟨k + 1, by omega, by go_num, ?_⟩
            intro j hj
            by_cases e : j = k
            · subst e; rw [HL1.out]; exact h1
            · exact HK.out j (by omega)
          case measure => simp [intOf]; omega
      · obtain rfl : k = 32 := by omega
        go_wp2
        go_ret2
        exact .inr (.inl ⟨HGG.out, HK.out, rfl, Below.refl _ _⟩)

set_option maxHeartbeats 1000000 in
theorem group_any (T : Nat) (f : Nat → Value) (gs : Nat → List Int) (ao : Option Addr) (n cap : Nat) (xs : List Int) (w : World) (hs : St w T 36 f) (hl : Ls w f 3 gs) (hr : Rd w ao n xs) (hm : n ≤ maxLen) :
    Calls Try.prog 17 #[.pointer (some ⟨T, 0, none⟩), .slice ao n cap] w (GPost T 3 f gs xs w) := by
  have H := Lib.hid (add_any T f gs ao n cap xs w hs hl hr hm)
  clear hs hl hr hm
  go_enter Try.func17, Try.ntmps17
  go_wp2_with fail
  refine H.out.mono ?_
  intro e w1 hp
  have HP := Lib.hid hp
  rcases hp with ⟨_, rfl, _⟩ | ⟨_, _, rfl, _⟩ | ⟨_, i, g, c, _, _, _, rfl, _⟩
  all_goals
    go_wp2
    go_ret2
    exact HP.out

/-- What a call of Hops leaves: a list of the table's, copied. -/
def HPost (gs : Nat → List Int) (k : Int) (w : World) (e : Ending) (w' : World) : Prop :=
  (hasB gs k = false ∧ e = .returned (.tuple #[nilS, .int .i64 7]) ∧ Below w.heap.size w w') ∨
  (hasB gs k = true ∧ ∃ g c, e = .returned (.tuple #[.slice (some ⟨g, 0, none⟩) (gs k.toNat).length c, .int .i64 0]) ∧ w.heap.size ≤ g ∧ g < w'.heap.size ∧
    w'.ownsRow w.heap.size 3 1 (.slice (some ⟨g, 0, none⟩) (gs k.toNat).length c) (gs k.toNat).length (ints (gs k.toNat)) ∧ Below w.heap.size w w')
theorem hasB_some {gs : Nat → List Int} {g : Int} (h : hasB gs g = true) : ∃ k : Nat, g = k ∧ k < 32 ∧ 0 < (gs k).length := by
  unfold hasB at h
  have h := of_decide_eq_true h
  refine ⟨g.toNat, by omega, by omega, by omega⟩

set_option maxHeartbeats 1000000 in
theorem ghops_any (T : Nat) (f : Nat → Value) (gs : Nat → List Int) (g : Int) (w : World) (hs : St w T 36 f) (hl : Ls w f 3 gs) :
    Calls Try.prog 41 #[.pointer (some ⟨T, 3, none⟩), .int .i64 g] w (HPost gs g w) := by
  have H := Lib.hid (has_any T f gs g w hs hl)
  cases hg : hasB gs g with
  | false =>
    rw [hg] at H
    have HG := Lib.hid hg
    clear hs hl hg
    go_enter Try.func41, Try.ntmps41
    go_wp2_with (go_at_call 43; refine H.out.mono ?_; rintro e w1 ⟨rfl, rfl⟩)
    go_ret2
    exact .inl ⟨HG.out, rfl, Below.refl _ _⟩
  | true =>
    rw [hg] at H
    have HG := Lib.hid hg
    obtain ⟨k, rfl, hk, hk0⟩ := hasB_some hg
    obtain ⟨ao, n, cap, hf, hr, hn8, -⟩ := hl k hk
    have hc := (hs (3 + k) (by omega)).1
    rw [hf] at hc
    rw [hr.1] at hk0
    have HF := Lib.hid (fresh_any ao n cap (gs k) w hr hk0 hn8)
    have HR := Lib.hid hr.1
    clear hs hl hg hf hr
    go_enter Try.func41, Try.ntmps41
    go_wp2_with (first | (go_at_call 43; refine H.out.mono ?_; rintro e w1 ⟨rfl, rfl⟩) | (go_at_call 71; refine HF.out.mono ?_; rintro e w2 ⟨g, c, rfl, hg0, hgz, hown, hb⟩))
    go_ret2
    refine .inr ⟨HG.out, g, c, ?_, hg0, hgz, ?_, hb⟩
    · rw [Int.toNat_natCast, HR.out]; rfl
    · rw [Int.toNat_natCast, HR.out]; exact hown

set_option maxHeartbeats 1000000 in
theorem hops_any (T : Nat) (f : Nat → Value) (gs : Nat → List Int) (g : Int) (w : World) (hs : St w T 36 f) (hl : Ls w f 3 gs) :
    Calls Try.prog 16 #[.pointer (some ⟨T, 0, none⟩), .int .i64 g] w (HPost gs g w) := by
  have H := Lib.hid (ghops_any T f gs g w hs hl)
  clear hs hl
  go_enter Try.func16, Try.ntmps16
  go_wp2_with fail
  refine H.out.mono ?_
  intro e w1 hp
  have HP := Lib.hid hp
  rcases hp with ⟨_, rfl, _⟩ | ⟨_, k, c, rfl, _⟩
  all_goals
    go_wp2
    go_ret2
    exact HP.out

/-- What a call of Drop leaves, where there is no route. -/
def DPost (T o : Nat) (f : Nat → Value) (gs : Nat → List Int) (k : Int) (w : World) (e : Ending) (w' : World) : Prop :=
  (hasB gs k = false ∧ e = .returned (.int .i64 7) ∧ Below w.heap.size w w') ∨
  (hasB gs k = true ∧ e = .returned (.int .i64 0) ∧ w.grownBy w' (some T) ∧ St w' T 36 (upd f (o + k.toNat) nilS))

set_option maxHeartbeats 1000000 in
theorem remove_any (T : Nat) (f : Nat → Value) (gs : Nat → List Int) (k : Nat) (w : World) (hs : St w T 36 f) (hl : Ls w f 3 gs) (hk : k < 32) (hg : hasB gs k = true) :
    Calls Try.prog 45 #[.pointer (some ⟨T, 3, none⟩), .int .i64 k] w fun e w' => e = .returned (.tuple #[]) ∧ w' = w.setCell ⟨T, 3 + k, none⟩ nilS := by
  have H := Lib.hid (has_any T f gs k w hs hl)
  rw [hg] at H
  obtain ⟨ao, n, cap, hf, -⟩ := hl k hk
  have hc := (hs (3 + k) (by omega)).1
  have hfz := (hs (3 + k) (by omega)).2
  rw [hf] at hc
  clear hs hl hf hg
  go_enter Try.func45, Try.ntmps45
  go_wp2_with (go_at_call 43; refine H.out.mono ?_; rintro e w1 ⟨rfl, rfl⟩)
  refine bodyPost_end (results_none rfl _ _ _) rfl ?_
  exact ⟨rfl, rfl⟩
set_option maxHeartbeats 1000000 in
theorem routeHas_none (T : Nat) (f : Nat → Value) (g : Int) (w : World) (hs : St w T 36 f) (h35 : f 35 = nilS) :
    Calls Try.prog 44 #[.pointer (some ⟨T, 35, none⟩), .int .i64 g] w fun e w' => e = .returned (.bool false) ∧ w' = w := by
  have hc := (hs 35 (by omega)).1
  rw [h35] at hc
  clear hs h35
  go_enter Try.func44, Try.ntmps44
  go_wp2
  go_loop [5] (fun i => i = .int .i64 0) (fun _ => 0)
  case atStart => rfl
  case round =>
    subst hrel
    go_wp2
    go_ret
    exact ⟨rfl, rfl⟩

set_option maxHeartbeats 1000000 in
theorem drop_any (T : Nat) (f : Nat → Value) (gs : Nat → List Int) (g : Int) (w : World) (hs : St w T 36 f) (hl : Ls w f 3 gs) (h35 : f 35 = nilS) :
    Calls Try.prog 18 #[.pointer (some ⟨T, 0, none⟩), .int .i64 g] w (DPost T 3 f gs g w) := by
  have H := Lib.hid (has_any T f gs g w hs hl)
  cases hg : hasB gs g with
  | false =>
    rw [hg] at H
    have HG := Lib.hid hg
    clear hs hl hg h35
    go_enter Try.func18, Try.ntmps18
    go_wp2_with (go_at_call 43; refine H.out.mono ?_; rintro e w1 ⟨rfl, rfl⟩)
    go_ret
    exact .inl ⟨HG.out, rfl, Below.refl _ _⟩
  | true =>
    rw [hg] at H
    have HG := Lib.hid hg
    obtain ⟨k, rfl, hk, hk0⟩ := hasB_some hg
    have HR := Lib.hid (routeHas_none T f k w hs h35)
    have HM := Lib.hid (remove_any T f gs k w hs hl hk hg)
    have HS := Lib.hid hs
    clear hs hl hg h35
    go_enter Try.func18, Try.ntmps18
    go_wp2_with (first | (go_at_call 43; refine H.out.mono ?_; rintro e w1 ⟨rfl, rfl⟩) | (go_at_call 44; refine HR.out.mono ?_; rintro e w1 ⟨rfl, rfl⟩) | (go_at_call 45; refine HM.out.mono ?_; rintro e w1 ⟨rfl, rfl⟩))
    go_ret
    refine .inr ⟨HG.out, rfl, grownBy_set (Below.refl _ _) _, ?_⟩
    rw [Int.toNat_natCast]
    exact HS.out.set (by omega) _
end Go.Proofs.Ytnfkgnjeamnhfab
