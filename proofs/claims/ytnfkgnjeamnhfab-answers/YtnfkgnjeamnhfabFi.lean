import Derived.Test.YtnfkgnjeamnhfabFe
namespace Go.Proofs.Ytnfkgnjeamnhfab
open Go.RowKit

theorem results_cell2 {fn : Func} {p u : Tmp} {ty : TypeId} {tmps : Array Value} {P : Program} {w : World} {a : Addr} {v : Value} (h : fn.results = #[.cell p ty, .tmp u]) (ha : tmps.getD p undef = .pointer (some a)) (hl : (loadVar ty a).run P w = .ok v w) : (results fn tmps).run P w = .ok (.tuple #[v, tmps.getD u undef]) w := by
  rw [results_cell_tmp h]
  rw [ha]
  simp [asAddr, hl, Result.andThen]
/-- The first bytes of a text, with noughts behind them. -/
def fillL (b : List UInt8) (k : Nat) : List UInt8 := b.take k ++ List.replicate (20 - k) 0
theorem fill_len {b : List UInt8} {k : Nat} (hk : k ≤ 20) (hb : 20 ≤ b.length) : (fillL b k).length = 20 := by
  simp [fillL]; omega
theorem fill_set {b : List UInt8} {k : Nat} {x : UInt8} (hk : k < 20) (hx : b[k]? = some x) : (fillL b k).set k x = fillL b (k + 1) := by
  have hlt := (List.getElem?_eq_some_iff.1 hx).1
  unfold fillL
  rw [List.set_append_right _ _ (by simp; omega), List.take_add_one, hx, show 20 - k = (20 - (k + 1)) + 1 by omega, List.replicate_succ]
  simp [Nat.min_eq_left (Nat.le_of_lt hlt)]
theorem pc_one (l : List UInt8) (s : ByteArray) : (pc l s).all (·.oneCell') = true := by
  unfold pc
  rw [Array.all_push, hc_one]; rfl
theorem stP {w : World} {b : Nat} {C : Array Value} {l : List UInt8} {s : ByteArray} (h : w.heap[b]? = some (.cells C 100)) (hC : C.size = 21) (hl : l.length = 20) : (storeVar 100 ⟨b, 0, none⟩ (pv l s)).run Try.prog w = .ok () (w.setRow b (pc l s)) :=
  run_storeVar_row w b 100 100 C (pc l s) h (by rw [pc_size hl]; exact infoP) (by rw [hC, pc_size hl]) (pc_one l s)
theorem flt_len {l : List UInt8} {n : Nat} (h : fltN l n = 0) : 20 ≤ g2 l 2 ∧ g2 l 2 ≤ n := by
  unfold fltN at h
  by_cases h1 : g1 l 0 / 16 ≠ 4
  · rw [if_pos h1] at h; omega
  · rw [if_neg h1] at h
    by_cases h2 : g1 l 0 % 16 ≠ 5
    · rw [if_pos h2] at h; omega
    · rw [if_neg h2] at h
      by_cases h3 : g2 l 2 < 20 ∨ n < g2 l 2
      · rw [if_pos h3] at h; omega
      · omega
def zL : List UInt8 := List.replicate 20 0
theorem build_fold {l : List UInt8} (hl : l.length = 20) : (Array.foldl (fun (cs : Array Value) (x : Value × Nat) => cs.setIfInBounds x.snd x.fst) (pc zL ⟨#[]⟩) (hc l).zipIdx 0 20) = pc l ⟨#[]⟩ := by
  obtain ⟨b0, b1, b2, b3, b4, b5, b6, b7, b8, b9, b10, b11, b12, b13, b14, b15, b16, b17, b18, b19, rfl⟩ := list20 hl
  kernel_rfl
theorem build_set {l : List UInt8} (hl : l.length = 20) (s b : ByteArray) : (pc l s).setIfInBounds 20 (.string b) = pc l b := by
  obtain ⟨b0, b1, b2, b3, b4, b5, b6, b7, b8, b9, b10, b11, b12, b13, b14, b15, b16, b17, b18, b19, rfl⟩ := list20 hl
  kernel_rfl
theorem let_tp : ∃ (t : TypeId) (n : Nat), t = 100 ∧ n = 21 ∧ (∀ w, (sizeOf t).run Try.prog w = .ok n w) :=
  ⟨100, 21, rfl, rfl, fun w => by simp⟩
theorem stC {w : World} {b : Nat} {C : Array Value} {l : List UInt8} {s : ByteArray} (h : w.heap[b]? = some (.cells C 100)) (hC : C.size = 21) (hl : l.length = 20) : (storeCells ⟨b, 0, none⟩ (pc l s).toList 0).run Try.prog w = .ok () (w.setRow b (pc l s)) := by
  have := run_storeCells_from (P := Try.prog) b 100 (pc l s).toList 0 C w h (by rw [Array.length_toList, pc_size hl, hC]) (fun v hv => (Array.all_eq_true_iff_forall_mem.1 (pc_one l s)) v (by simpa using hv))
  simpa using this
theorem pc_zero : (#[.int .u8 0, .int .u8 0, .int .u8 0, .int .u8 0, .int .u8 0, .int .u8 0, .int .u8 0, .int .u8 0, .int .u8 0, .int .u8 0, .int .u8 0, .int .u8 0, .int .u8 0, .int .u8 0, .int .u8 0, .int .u8 0, .int .u8 0, .int .u8 0, .int .u8 0, .int .u8 0, .string ⟨#[]⟩] : Array Value) = pc zL ⟨#[]⟩ := rfl
theorem hc_zero : (#[.int .u8 0, .int .u8 0, .int .u8 0, .int .u8 0, .int .u8 0, .int .u8 0, .int .u8 0, .int .u8 0, .int .u8 0, .int .u8 0, .int .u8 0, .int .u8 0, .int .u8 0, .int .u8 0, .int .u8 0, .int .u8 0, .int .u8 0, .int .u8 0, .int .u8 0, .int .u8 0] : Array Value) = hc zL := rfl
set_option maxRecDepth 20000 in
set_option maxHeartbeats 1000000 in
theorem read_short (s : ByteArray) (h : s.size < 20) (w : World) : Calls Try.prog 49 #[.string s] w fun e w' => e = .returned (.tuple #[pv zL ⟨#[]⟩, .int .i64 1]) ∧ Below w.heap.size w w' := by
  have hZ := pc_zero
  have HK := Lib.hid (heap_alloc_last w (.cells (pc zL ⟨#[]⟩) 100))
  have HS := Lib.hid (stP (l := zL) (s := ⟨#[]⟩) HK.out (pc_size rfl) rfl)
  have HV := Lib.hid (ldW (l := zL) (s := ⟨#[]⟩) rfl HK.out)
  rw [World.setRow_alloc_new] at HS
  unfold pv at *
  generalize pc zL ⟨#[]⟩ = Cz at *
  have q : (s.size : Int) < 20 := by omega
  go_enter Try.func49, Try.ntmps49
  go_wp2_with ((with_reducible refine wpL_store ?_ ?_ HS.out ?_); exact rfl; exact rfl)
  refine bodyPost_ret (results_cell2 rfl rfl HV.out) rfl ⟨rfl, below1 _ _⟩
set_option maxRecDepth 20000 in
set_option maxHeartbeats 2000000 in
theorem read_long (s : ByteArray) (h : 20 ≤ s.size) (w : World) {l : List UInt8} {r y : Nat} (hl : s.data.toList.take 20 = l) (hfl : fltN l s.size = r) (hyl : g2 l 2 = y) : Calls Try.prog 49 #[.string s] w fun e w' => (r ≠ 0 → e = .returned (.tuple #[pv zL ⟨#[]⟩, .int .i64 (r : Nat)])) ∧ (r = 0 → e = .returned (.tuple #[pv l (s.extract 20 y), .int .i64 0])) ∧ Below w.heap.size w w' := by
  have hZ := pc_zero
  have hZ0 := hc_zero
  have hl0 : l.length = 20 := by rw [← hl, List.length_take, blen]; omega
  have HFi := Lib.hid (fun k => show fillL s.data.toList 0 = zL ∧ fillL s.data.toList 20 = l ∧ (k ≤ 20 → (hc (fillL s.data.toList k)).size = 20) from ⟨rfl, by rw [← hl]; simp [fillL], fun hk => by rw [hc_size, fill_len hk (by rw [blen]; exact h)]⟩)
  have HSt := Lib.hid (show ∀ k (x : UInt8), k < 20 → s.data.toList[k]? = some x → (hc (fillL s.data.toList k)).setIfInBounds k (.int .u8 (x.toNat : Int)) = hc (fillL s.data.toList (k + 1)) from fun k x hk hx => by rw [hc_set, fill_set hk hx])
  have HGl := Lib.hid (show r = 0 → 20 ≤ y ∧ y ≤ s.size from fun h => by rw [← hyl]; exact flt_len (hfl.trans h))
  have hgl : y < 65536 := by rw [← hyl]; have := g1_lt l 2; have := g1_lt l (2 + 1); unfold g2; omega
  have HF := Lib.hid (fun w => fault_any (l) hl0 s.size w)
  have HLn := Lib.hid (fun w => length_any (l) hl0 w)
  rw [hfl] at HF
  rw [hyl] at HLn
  clear hl hfl hyl
  have q : ¬ (s.size : Int) < 20 := by omega
  have e0 : hc zL = hc (fillL s.data.toList 0) := rfl
  rw [e0] at hZ0
  unfold pv at *
  have Hz21 := Lib.hid (show (pc zL ⟨#[]⟩).size = 21 from pc_size rfl)
  have HP0 := Lib.hid (fun (w : World) (b : Nat) (h : w.heap[b]? = some (Obj.cells (pc zL ⟨#[]⟩) 100)) => stP (l := zL) (s := ⟨#[]⟩) h (pc_size rfl) rfl)
  have HP1 := Lib.hid (fun (w : World) (b : Nat) (h : w.heap[b]? = some (Obj.cells (pc zL ⟨#[]⟩) 100)) => ldW (l := zL) (s := ⟨#[]⟩) rfl h)
  unfold pv at HP0 HP1
  generalize hcz : pc zL ⟨#[]⟩ = Cz at *
  have HCz := Lib.hid hcz
  clear e0 hcz
  go_enter Try.func49, Try.ntmps49
  go_wp2_with fail
  clear hZ0
  go_loopw [5] (fun iv wr => ∃ k : Nat, k ≤ 20 ∧ iv = .int .i64 k ∧ wr = (w.alloc (.cells Cz 100)).alloc (.cells (hc (fillL s.data.toList k)) 98)) (fun iv _ => 20 - (intOf iv).toNat)
  case atStart => exact ⟨0, Nat.zero_le _, rfl, rfl⟩
  case round =>
    obtain ⟨k, hk, rfl, rfl⟩ := hrel
    by_cases hk2 : k < 20
    · have hks : k < s.size := by omega
      have hx := bget hks
      have hsz := (HFi.out k).2.2 hk
      have hst := HSt.out k s[k] hk2 hx
      have q1 : (k : Int) < 20 := by omega
      have q2 : (0 : Int) ≤ (k : Int) := by omega
      clear hx
      go_wp2_with fail
      exact ⟨⟨k + 1, by omega, by go_num, rfl⟩, by simp [intOf]; omega⟩
    · obtain rfl : k = 20 := by omega
      rw [(HFi.out 0).2.1]
      have HV := Lib.hid (ldV (al2 w (.cells Cz 100) (.cells (hc (l)) 98)) (by rw [hc_size, hl0]))
      have HL1 := Lib.hid (fun (w : World) (b : Nat) (h : w.heap[b]? = some (Obj.cells (hc (l)) 98)) => ldV h (by rw [hc_size, hl0]))
      have Hl0 := Lib.hid hl0
      obtain ⟨t, n, ht, hn, hA, hS⟩ := let_ty
      have HLc := Lib.hid (fun (w : World) (b : Nat) (h : w.heap[b]? = some (Obj.cells (hc (l)) 98)) => show (loadCellsFrom ⟨b, 0, none⟩ 0 n #[]).run Try.prog w = .ok (hc (l)) w by rw [hn]; exact ld20 h (by rw [hc_size, hl0]))
      have hgl : g2 (l) 2 < 65536 := by have := g1_lt (l) 2; have := g1_lt (l) (2 + 1); unfold g2; omega
      have HGl := Lib.hid (show fltN (l) s.size = 0 → 20 ≤ g2 (l) 2 ∧ g2 (l) 2 ≤ s.size from fun h => flt_len h)
      unfold hv at *
      clear HFi HSt hl0 hk hk2
      go_wp2_with ((with_reducible refine wpL_load ?_ HV.out ?_); exact rfl)
      refine (HF.out _).mono ?_
      rintro e w3 ⟨rfl, hb3⟩
      have hk0 := row_below hb3 (al1 w _ _) (by rw [sz1, sz1]; omega)
      have hk1 := row_below hb3 (al2 w _ _) (by rw [sz1, sz1]; omega)
      have HB3 := Lib.hid ((two_al w _ _).trans (hb3.mono (by rw [sz1, sz1]; omega)))
      clear hb3 HV HF
      by_cases hr : r = 0
      case neg =>
        have q1 : ((r : Int) != 0) = true := by simp; omega
        have HS := Lib.hid (HP0.out w3 _ hk0)
        have HV3 := Lib.hid (HP1.out (w3.setRow w.heap.size Cz) _ (setRow_heap _ _ _ _ _ _ hk0))
        clear hk0 hk1 ht hn
        go_wp2_with ((with_reducible refine wpL_store ?_ ?_ HS.out ?_); exact rfl; exact rfl)
        refine bodyPost_ret (results_cell2 rfl rfl HV3.out) rfl ⟨fun _ => rfl, fun h => absurd h hr, fbelow_row _ HB3.out (Nat.le_refl _)⟩
      subst hr
      have hy := HGl.out rfl
      have HV := Lib.hid (HL1.out w3 _ hk1)
      have HK0 := Lib.hid hk0
      have HK1 := Lib.hid hk1
      clear hk0 hk1
      go_wp2_with ((with_reducible refine wpL_load ?_ HV.out ?_); exact rfl)
      refine (HLn.out _).mono ?_
      rintro e w4 ⟨rfl, hw4⟩
      have hk0 : w4.heap[w.heap.size]? = some (.cells Cz 100) := by rw [hw4]; exact row_below (below1 w3 _) HK0.out ((Array.getElem?_eq_some_iff.1 HK0.out).1)
      have hk1 : w4.heap[w.heap.size + 1]? = some (.cells (hc l) 98) := by rw [hw4]; exact row_below (below1 w3 _) HK1.out ((Array.getElem?_eq_some_iff.1 HK1.out).1)
      have HB4 := Lib.hid (show Below w.heap.size w w4 by rw [hw4]; exact HB3.out.trans ((below1 _ _).mono HB3.out.size))
      have hld := HLc.out w4.drew _ hk1
      have HK4 := Lib.hid hk0
      have q3 : ¬ (y : Int) < 20 := by omega
      have q4 : (y : Int) ≤ (s.size : Int) := by omega
      obtain ⟨t2, n2, ht2, hn2, hS2⟩ := let_tp
      have hf := build_fold Hl0.out
      rw [HCz.out] at hf
      have hf2 := build_set Hl0.out ⟨#[]⟩ (s.extract 20 y)
      have hsD : (pc l ⟨#[]⟩).size = 21 := pc_size Hl0.out
      have hsP : (pc l (s.extract 20 y)).size = n2 := by rw [hn2]; exact pc_size Hl0.out
      have hstc := stC (w := w4.drew) (b := w.heap.size) (l := l) (s := s.extract 20 y) hk0 Hz21.out Hl0.out
      have HV5 := Lib.hid (ldW (w := w4.drew.setRow w.heap.size (pc l (s.extract 20 y))) Hl0.out (setRow_heap _ _ _ _ _ _ hk0))
      obtain ⟨w5, hw5⟩ : ∃ w5, w5 = w4.drew.setRow w.heap.size (pc l (s.extract 20 y)) := ⟨_, rfl⟩
      have HB5 := Lib.hid (show Below w.heap.size w w5 by rw [hw5]; exact fbelow_row _ HB4.out.drew (Nat.le_refl _))
      rw [← hw5] at hstc HV5
      have hH20 : (hc l).size = 20 := by rw [hc_size, Hl0.out]
      unfold pv at HV5
      clear hw4 hk0 hk1 HLc HV HL1 HK0 HK1 HLn HP0 HP1 hw5 HK4 HCz
      generalize hc l = H at *
      generalize pc l ⟨#[]⟩ = D at *
      generalize hpc : pc l (s.extract 20 y) = PC at *
      have HPC := Lib.hid hpc
      clear hpc
      go_wp2_with fail
      rw [show (Op.load 98 (.tmp 4)) = Op.load t (.tmp 4) by rw [ht], show (Op.store 100 (.tmp 2) (.tmp 35)) = Op.store t2 (.tmp 2) (.tmp 35) by rw [ht2]]
      clear ht hn ht2 hn2
      have hz21 := Hz21.out
      go_region_with fail
      all_goals
        go_wp2_with fail
        refine bodyPost_ret (results_cell2 rfl rfl HV5.out) rfl ⟨by rw [HPC.out]; rfl, HB5.out⟩
end Go.Proofs.Ytnfkgnjeamnhfab
