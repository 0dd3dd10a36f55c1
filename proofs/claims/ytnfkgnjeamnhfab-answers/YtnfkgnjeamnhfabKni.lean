import Derived.Test.YtnfkgnjeamnhfabKnh
namespace Go.Proofs.Ytnfkgnjeamnhfab
open Go.RowKit Go.Sort

theorem InN.mono {N N' : Nat} {ao : Option Addr} {n : Nat} (h : InN N ao n) (hN : N ≤ N') : InN N' ao n := fun h0 b off e => Nat.lt_of_lt_of_le (h h0 b off e) hN
theorem OpK.mono {N N' : Nat} {w : World} {b off : Nat} {o : AOp} (h : OpK N w b off o) (hN : N ≤ N') : OpK N' w b off o := by
  obtain ⟨ao, n, cap, a1, a2, a3, a4⟩ := h.hops
  obtain ⟨co, z, cap', b1, b2, b3, b4, b5⟩ := h.list
  exact ⟨Nat.lt_of_lt_of_le h.bN hN, h.c0, h.c1, h.c2, h.c3, h.c4, h.c5, h.c6, h.fit, ⟨ao, n, cap, a1, a2, a3, a4.mono hN⟩, ⟨co, z, cap', b1, b2, b3, b4, b5.mono hN⟩⟩
/-- The script, behind more blocks. -/
theorem ScrK.grow {w w' : World} {so : Option Addr} {ops : List AOp} (h : ScrK w.heap.size w so ops) (hb : Below w.heap.size w w') : ScrK w'.heap.size w' so ops := fun q o ho => by
  obtain ⟨b, off, h1, h2⟩ := (h.ev (Q := fun _ => False) (Nat.le_refl _) (Ev.of_below (rho0 w.heap.size) hb) (fun b hb => by simp [rho0, hb]) id) q o ho
  exact ⟨b, off, h1, h2.mono hb.size⟩
/-- A table: what it answers from here on. -/
structure TabOk (T : Nat) (gs : Nat → List Int) (rs : List Rt) (w : World) : Prop where
  fw : ∀ (w1 : World), Below w.heap.size w w1 → ∀ s : ByteArray, Calls Try.prog 24 #[.pointer (some ⟨T, 0, none⟩), .string s] w1 fun e w' => e = .returned (vV (fwdV (ownN gs) s.data.toList (fun tg => pkE rs (4, 0, tg)) (fun tg fl => pkH gs rs (4, 0, tg) fl))) ∧ Below w1.heap.size w1 w'
  lk : ∀ (w1 : World), Below w.heap.size w w1 → ∀ v : Nat, v < 4294967296 → Calls Try.prog 10 #[.pointer (some ⟨T, 0, none⟩), .agg #[.int .i64 4, .int .u64 0, .int .u64 (v : Nat)]] w1 fun e w' => ∃ ao n cap, e = .returned (.tuple #[.agg #[.int .i64 (lookLT rs (4, 0, v)), .int .i64 (lookGT rs (4, 0, v)), .slice ao n cap], .int .i64 0]) ∧ Below w1.heap.size w1 w'
  hp : ∀ (w1 : World), Below w.heap.size w w1 → ∀ g : Int, Calls Try.prog 16 #[.pointer (some ⟨T, 0, none⟩), .int .i64 g] w1 (HPost gs g w1)
theorem TabOk.grow {T : Nat} {gs : Nat → List Int} {rs : List Rt} {w w' : World} (h : TabOk T gs rs w) (hb : Below w.heap.size w w') : TabOk T gs rs w' :=
  ⟨fun w1 h1 => h.fw w1 (hb.trans (h1.mono hb.size)), fun w1 h1 => h.lk w1 (hb.trans (h1.mono hb.size)), fun w1 h1 => h.hp w1 (hb.trans (h1.mono hb.size))⟩
theorem gz_own {seed own : Int} : (gz seed own 33).headD 0 = own := rfl
theorem ready_tab (limit seed own : Int) (so : Option Addr) (z scap : Nat) (ops : List AOp) (w : World) (hsn : Rg seed own) (h1 : ¬ limit < 1) (h2 : ¬ 256 < limit) (hz : ops.length = z) (hz2 : z ≤ 1400000000000) (hS : ScrK w.heap.size w so ops) :
    Calls Try.prog 22 #[.int .i64 limit, .int .u64 seed, .int .u32 own, .slice so z scap] w fun e w' => ∃ T, e = .returned (.tuple #[.pointer (some ⟨T, 0, none⟩), .bool true]) ∧ Below w.heap.size w w' ∧ ∃ gs rs, playA limit (gz seed own) [] ops gs rs ∧ Ok gs rs limit ∧ TabOk T gs rs w' := by
  refine (ready_any w.heap.size (rho0 w.heap.size) 8 limit seed own so z scap ops w (wh0 w) (by decide) (by decide) hsn h1 h2 hz hz2 (fun b hb => by simp [rho0, hb]) hS).mono ?_
  rintro e w' ⟨T, rfl, ρ', gs, rs, k1, -, k3, k4⟩
  refine ⟨T, rfl, below_ev (k4.mono fun q h => by omega), gs, rs, k3, k1.ok, ⟨fun w1 hb s => kt_forward (k1.below hb (by decide) (by decide)) (by decide) (by decide) s, fun w1 hb v hv => ?_, fun w1 hb g => kt_hops (k1.below hb (by decide) (by decide)) g⟩⟩
  refine (kt_look (k1.below hb (by decide) (by decide)) (4, 0, v) ⟨Nat.zero_le _, by show v ≤ _; omega⟩).mono ?_
  rintro e w2 ⟨ao, n, cap, rfl, -, -, hb2⟩
  exact ⟨ao, n, cap, by show _ = Ending.returned (.tuple #[_, .int .i64 0]); rw [show H.adrE 4 0 v = 0 from adr4 hv], hb2⟩
/-- The own address is the one given. -/
theorem own_of {limit seed own : Int} {ops : List AOp} {gs : Nat → List Int} {rs : List Rt} (hsn : Rg seed own) (h : playA limit (gz seed own) [] ops gs rs) : (ownN gs : Int) = own := by
  have e := h.kept 33 (by decide)
  unfold ownN
  rw [e, gz_own]
  unfold Rg at hsn
  omega
theorem ready_fix (limit seed own : Int) (so : Option Addr) (z scap : Nat) (ops : List AOp) (w : World) (hsn : Rg seed own) (h1 : ¬ limit < 1) (h2 : ¬ 256 < limit) (hz : ops.length = z) (hz2 : z ≤ 1400000000000) (hS : ScrK w.heap.size w so ops) (gs : Nat → List Int) (rs : List Rt) (hpl : playA limit (gz seed own) [] ops gs rs) :
    Calls Try.prog 22 #[.int .i64 limit, .int .u64 seed, .int .u32 own, .slice so z scap] w fun e w' => ∃ T, e = .returned (.tuple #[.pointer (some ⟨T, 0, none⟩), .bool true]) ∧ Below w.heap.size w w' ∧ TabOk T gs rs w' := by
  refine (ready_tab limit seed own so z scap ops w hsn h1 h2 hz hz2 hS).mono ?_
  rintro e w' ⟨T, rfl, hb, gs', rs', k1, -, k3⟩
  obtain ⟨rfl, rfl⟩ := k1.one hpl
  exact ⟨T, rfl, hb, k3⟩
end Go.Proofs.Ytnfkgnjeamnhfab
