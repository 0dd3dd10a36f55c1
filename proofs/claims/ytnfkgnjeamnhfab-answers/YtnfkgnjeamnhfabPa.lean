import Derived.Test.YtnfkgnjeamnhfabTi
import Derived.Laws.Bits64
import Derived.Deep.DeepCutAuto
namespace Go.Proofs.Ytnfkgnjeamnhfab
open Go.RowKit Go.Sort

/-- A number, mixed. -/
def mx1 (x : Nat) : Nat := (x ^^^ x / 1073741824) * 13787848793156543929 % 18446744073709551616
def mx2 (x : Nat) : Nat := (x ^^^ x / 134217728) * 10723151780598845931 % 18446744073709551616
def mixN (x : Nat) : Nat := mx2 (mx1 x) ^^^ mx2 (mx1 x) / 2147483648
theorem wrap_mul (a c : Nat) : IntKind.u64.wrap ((a : Int) * (c : Int)) = ((a * c % 18446744073709551616 : Nat) : Int) := by
  rw [IntKind.wrap_u64]; simp
theorem mix_facts (x : Nat) (hx : x < 18446744073709551616) : ∃ x1 x2 x3 x4 : Nat, bits .xor .u64 (x : Int) ((x : Int) / 1073741824) = (x1 : Int) ∧ IntKind.u64.wrap ((x1 : Int) * 13787848793156543929) = (x2 : Int) ∧ bits .xor .u64 (x2 : Int) ((x2 : Int) / 134217728) = (x3 : Int) ∧ IntKind.u64.wrap ((x3 : Int) * 10723151780598845931) = (x4 : Int) ∧ bits .xor .u64 (x4 : Int) ((x4 : Int) / 2147483648) = (mixN x : Nat) ∧ x2 < 18446744073709551616 ∧ x4 < 18446744073709551616 := by
  have h1 : mx1 x < 18446744073709551616 := Nat.mod_lt _ (by decide)
  have h2 : mx2 (mx1 x) < 18446744073709551616 := Nat.mod_lt _ (by decide)
  exact ⟨x ^^^ x / 1073741824, mx1 x, mx1 x ^^^ mx1 x / 134217728, mx2 (mx1 x), xorShift_u64 x 1073741824 hx, wrap_mul _ _, xorShift_u64 (mx1 x) 134217728 h1, wrap_mul _ _, xorShift_u64 (mx2 (mx1 x)) 2147483648 h2, h1, h2⟩
theorem mixN_lt (x : Nat) : mixN x < 18446744073709551616 := by
  have h2 : mx2 (mx1 x) < 2 ^ 64 := Nat.mod_lt _ (by decide)
  exact Nat.xor_lt_two_pow h2 (Nat.lt_of_le_of_lt (Nat.div_le_self _ _) h2)
set_option maxHeartbeats 1000000 in
theorem mix_any (x : Nat) (hx : x < 18446744073709551616) (w : World) : Calls Try.prog 81 #[.int .u64 x] w fun e w' => e = .returned (.int .u64 (mixN x : Nat)) ∧ w' = w := by
  obtain ⟨x1, x2, x3, x4, e1, e2, e3, e4, e5, -, -⟩ := mix_facts x hx
  generalize mixN x = m at *
  clear hx
  go_enter Try.func81, Try.ntmps81
  go_wp2
  go_ret
  exact ⟨rfl, rfl⟩
/-- The hop of a group at a number's place. -/
def hopN (gs : Nat → List Int) (g : Int) (k : Nat) : Int := ((gs g.toNat)[k % (gs g.toNat).length]?).getD 0
set_option maxHeartbeats 2000000 in
theorem hopFor_any (T : Nat) (f : Nat → Value) (gs : Nat → List Int) (g : Int) (n : Nat) (w : World) (hs : St w T 36 f) (hl : Ls w f 3 gs) (hg : hasB gs g = true) :
    Calls Try.prog 82 #[.pointer (some ⟨T, 3, none⟩), .int .i64 g, .int .u64 n] w fun e w' => e = .returned (.tuple #[.int .i64 (hopN gs g n), .int .i64 0]) ∧ w' = w := by
  have H := Lib.hid (has_any T f gs g w hs hl)
  rw [hg] at H
  obtain ⟨k, rfl, hk, hk0⟩ := hasB_some hg
  obtain ⟨ao, z, cap, hf, hr, hn8, -⟩ := hl k hk
  have hc := (hs (3 + k) (by omega)).1
  rw [hf] at hc
  have hz := hr.1
  rw [hz] at hk0
  obtain ⟨b, off, rfl, hb, -⟩ := hr.at hk0
  have hlt : n % z < z := Nat.mod_lt _ hk0
  obtain ⟨h, hh, hcell⟩ := hr.cell hlt
  have HH := Lib.hid (show hopN gs k n = h by unfold hopN; rw [Int.toNat_natCast, hz, hh]; rfl)
  have q1 : (k : Int) < 32 := by omega
  have q2 : ((n : Int).tmod (z : Int)) = ((n % z : Nat) : Int) := rfl
  have q3 : ((n % z : Nat) : Int) < (z : Int) := by omega
  have q4 : ((z : Int) == 0) = false := ine_beq (by omega)
  generalize hm : n % z = m at *
  have Hm := Lib.hid hm
  clear hm hs hl hg hf hr hh
  rw [HH.out]
  go_enter Try.func82, Try.ntmps82
  go_wp2_with (go_at_call 43; refine H.out.mono ?_; rintro e w1 ⟨rfl, rfl⟩)
  go_ret2
  exact ⟨rfl, rfl⟩
/-- A table's seed. -/
def sdN (gs : Nat → List Int) : Nat := ((gs 32).headD 0 % 18446744073709551616).toNat
theorem sdN_eq (gs : Nat → List Int) : sd gs 1 = .int .u64 (sdN gs : Nat) ∧ sdN gs < 18446744073709551616 := by
  have h1 : 0 ≤ (gs 32).headD 0 % 18446744073709551616 := Int.emod_nonneg _ (by decide)
  have h2 : (gs 32).headD 0 % 18446744073709551616 < 18446744073709551616 := Int.emod_lt_of_pos _ (by decide)
  unfold sdN
  refine ⟨?_, by omega⟩
  show Value.int .u64 _ = _
  rw [Int.toNat_of_nonneg h1]
/-- What Pick answers. -/
def pkE (cs : List Rt) (a : Ad) : Int := if H.adrE a.1 a.2.1 a.2.2 = 0 then (if lookGT cs a = -1 then 8 else 0) else H.adrE a.1 a.2.1 a.2.2
def pkH (gs : Nat → List Int) (cs : List Rt) (a : Ad) (fl : Nat) : Int := if H.adrE a.1 a.2.1 a.2.2 = 0 then (if lookGT cs a = -1 then 0 else hopN gs (lookGT cs a) (mixN (fl ^^^ sdN gs))) else 0
/-- What Lookup finds is a route's group. -/
theorem look_grp {gs : Nat → List Int} {cs : List Rt} (hgr : ∀ r ∈ cs, hasB gs r.g = true) {a : Ad} (h0 : H.adrE a.1 a.2.1 a.2.2 = 0) : lookGT cs a = -1 ∨ hasB gs (lookGT cs a) = true := by
  unfold lookGT
  rw [if_pos h0]
  unfold gof
  split
  · rename_i r hr
    have hm := List.mem_of_find?_eq_some hr
    exact .inr (hgr r (famF_mem.1 hm).1)
  · exact .inl rfl
set_option maxRecDepth 4000 in
set_option maxHeartbeats 2000000 in
theorem tpick_any {N : Nat} {ρ : Nat → Nat} {w : World} {T rS rQ : Nat} {gs : Nat → List Int} {cs : List Rt} {lim : Int} {f : Nat → Value} (h : Tq N ρ w T rS rQ 3 35 gs cs lim f) (hlen : cs.length ≤ 1000) (hs : Srt cs) (hg : ∀ r ∈ cs, Gd r) (hgr : ∀ r ∈ cs, hasB gs r.g = true) (a : Ad) (hfit : FitA a) (fl : Nat) (hfl : fl ≤ 18446744073709551615) (hro : Ro rS rQ) :
    Calls Try.prog 52 #[.pointer (some ⟨T, 0, none⟩), adV a, .int .u64 fl] w fun e w' => e = .returned (.tuple #[.int .i64 (pkH gs cs a fl), .int .i64 (pkE cs a)]) ∧ Below w.heap.size w w' := by
  have HL := Lib.hid (fun (w1 : World) (hb : Below w.heap.size w w1) => show Calls Try.prog 10 #[.pointer (some ⟨T, 0, none⟩), .agg #[.int .i64 a.1, .int .u64 a.2.1, .int .u64 a.2.2]] w1 fun e w' => ∃ ao n cap, e = .returned (.tuple #[.agg #[.int .i64 (lookLT cs a), .int .i64 (lookGT cs a), .slice ao n cap], .int .i64 (H.adrE a.1 a.2.1 a.2.2)]) ∧ n = (lookAT cs a).length ∧ w'.ownsRow w1.heap.size 3 1 (.slice ao n cap) n (ints (lookAT cs a)) ∧ Below w1.heap.size w1 w' from tlook_any (h.ev (Ev.of_below (R := fun _ => False) ρ hb) id id id hro) hlen hs hg a hfit)
  have hT := h.rq.st.lt (by decide)
  obtain ⟨hsd, hsl⟩ := sdN_eq gs
  have h1 := (h.rq.st 1 (by decide)).1
  rw [h.one 1 (.inl rfl), hsd] at h1
  have hxl : fl ^^^ sdN gs < 2 ^ 64 := Nat.xor_lt_two_pow (by omega) (by omega)
  have hx : bits .xor .u64 (fl : Int) (sdN gs : Nat) = ((fl ^^^ sdN gs : Nat) : Int) := bits_xor_u64_nat fl (sdN gs) (by omega) hsl
  have HM := Lib.hid (fun w => mix_any (fl ^^^ sdN gs) hxl w)
  have HH := Lib.hid (fun (w1 : World) (hb : Below w.heap.size w w1) (hh : hasB gs (lookGT cs a) = true) => hopFor_any T f gs (lookGT cs a) (mixN (fl ^^^ sdN gs)) w1 (h.rq.st.below hb hT) (h.ev (Ev.of_below (R := fun _ => False) ρ hb) id id id hro).Ls hh)
  have hlg := fun h0 => look_grp (gs := gs) hgr (a := a) h0
  unfold pkH pkE
  obtain ⟨w0, hw0⟩ : ∃ w0, w0 = w.alloc (.cells #[.int .i64 a.1, .int .u64 a.2.1, .int .u64 a.2.2] 25) := ⟨_, rfl⟩
  obtain ⟨ba, hba⟩ : ∃ x, x = w.heap.size := ⟨_, rfl⟩
  have HB0 := Lib.hid (show Below w.heap.size w w0 by rw [hw0]; exact box1 _ _)
  have Hw0 := Lib.hid hw0
  have Hba := Lib.hid hba
  have HT1 := Lib.hid h1
  generalize lookLT cs a = ln at *
  generalize lookGT cs a = gn at *
  generalize lookAT cs a = A at *
  generalize H.adrE a.1 a.2.1 a.2.2 = er at *
  generalize hxx : fl ^^^ sdN gs = fx at *
  generalize mixN fx = mx at *
  generalize sdN gs = se at *
  clear hw0 hba h hs hg hgr hsd hsl h1 hxl hxx hfit hlen hro
  go_enter Try.func52, Try.ntmps52
  go_wp2_with fail
  rw [← Hw0.out, ← Hba.out]
  refine (HL.out _ HB0.out).mono ?_
  rintro e w1 ⟨ao, n, cap, rfl, rfl, -, hb1⟩
  obtain ⟨w2, hw2⟩ : ∃ w2, w2 = w1.alloc (.cells #[.int .i64 ln, .int .i64 gn, .slice ao A.length cap] 33) := ⟨_, rfl⟩
  have hB1 := HB0.out.trans (hb1.mono HB0.out.size)
  have hB2 : Below w.heap.size w w2 := by rw [hw2]; exact hB1.trans ((box1 w1 _).mono hB1.size)
  have HB2 := Lib.hid hB2
  have Hw2 := Lib.hid hw2
  have hT2 : T < w1.heap.size := Nat.lt_of_lt_of_le hT hB1.size
  have s1 : w1.cell? ⟨T, 1, none⟩ = some (.int .u64 se) := (hB1.cell (p := ⟨T, 1, none⟩) hT).trans HT1.out
  clear hw2 hB1 hB2 hb1
  by_cases h0 : er = 0
  · have hlg1 := hlg h0
    subst h0
    clear hlg
    by_cases hgn : gn = -1
    · subst hgn
      clear hlg1
      go_wp2
      rw [← Hw2.out]
      go_ret2
      exact ⟨rfl, HB2.out⟩
    · have hgb := hlg1.resolve_left hgn
      have q1 : (gn == -1) = false := ine_beq hgn
      have HH2 := Lib.hid (fun (W : World) (hb : Below w.heap.size w W) => HH.out W hb hgb)
      have Hgn := Lib.hid hgn
      clear hlg1 HH hgb hgn
      go_wp2_with fail
      rw [← Hw2.out]
      refine (HM.out w2).mono ?_
      rintro e w3 ⟨rfl, rfl⟩
      have g1 : w3.cell? ⟨w1.heap.size, 1, none⟩ = some (.int .i64 gn) := by rw [Hw2.out]; simp
      have hB3 := HB2.out
      go_wp2_with fail
      go_region_with (go_at_call 82; refine (HH2.out _ (by exact ⟨hB3.os, hB3.tape, hB3.output, hB3.size, hB3.block⟩)).mono ?_; rintro e w4 ⟨rfl, rfl⟩)
      all_goals
        go_wp2
        go_ret2
        exact ⟨by first | rfl | (rw [if_pos rfl, if_pos rfl, if_neg Hgn.out, if_neg Hgn.out]; rfl), ⟨hB3.os, hB3.tape, hB3.output, hB3.size, hB3.block⟩⟩
  · have q1 : (er == 0) = false := ine_beq h0
    have H0 := Lib.hid h0
    clear hlg h0
    go_wp2
    rw [← Hw2.out]
    go_ret2
    exact ⟨by first | rfl | (rw [if_neg H0.out, if_neg H0.out]; rfl), HB2.out⟩
end Go.Proofs.Ytnfkgnjeamnhfab
