import Derived.Test.YtnfkgnjeamnhfabFj
namespace Go.Proofs.Ytnfkgnjeamnhfab
open Go.RowKit

/-- The flow of a packet. -/
def flN (l : List UInt8) : Nat := ((g4 l 12 * 4294967296) ^^^ g4 l 16) ^^^ (g1 l 9 * 72057594037927936)
theorem g4_lt (l : List UInt8) (i : Nat) : g4 l i < 4294967296 := by
  have := g1_lt l i; have := g1_lt l (i + 1); have := g1_lt l (i + 2); have := g1_lt l (i + 3); unfold g4; omega
theorem flN_lt (l : List UInt8) : flN l ≤ 18446744073709551615 := by
  have h1 := g4_lt l 12
  have h2 := g4_lt l 16
  have h3 := g1_lt l 9
  have : flN l < 2 ^ 64 := Nat.xor_lt_two_pow (Nat.xor_lt_two_pow (by omega) (by omega)) (by omega)
  omega
theorem flN_eq (l : List UInt8) : bits .xor .u64 (bits .xor .u64 ((g4 l 12 : Nat) * 4294967296 : Int) (g4 l 16 : Nat)) ((g1 l 9 : Nat) * 72057594037927936 : Int) = (flN l : Int) := by
  have h1 := g4_lt l 12
  have h2 := g4_lt l 16
  have h3 := g1_lt l 9
  have hx : (g4 l 12 * 4294967296) ^^^ g4 l 16 < 2 ^ 64 := Nat.xor_lt_two_pow (by omega) (by omega)
  have e1 := bits_xor_u64_nat (g4 l 12 * 4294967296) (g4 l 16) (by omega) (by omega)
  have e2 := bits_xor_u64_nat ((g4 l 12 * 4294967296) ^^^ g4 l 16) (g1 l 9 * 72057594037927936) (by omega) (by omega)
  have e3 : bits .xor .u64 ((g4 l 12 : Nat) * 4294967296 : Int) (g4 l 16 : Nat) = _ := e1
  rw [e3]
  exact e2
/-- What becomes of a packet without a fault: l its head, b its body. -/
def goV (own : Nat) (l b : List UInt8) (pe ph : Int) : Vd :=
  if pe ≠ 0 then ansV l b own 7 else if ph = 0 then ⟨1, 0, 0, l ++ b⟩ else if 1 < g1 l 8 then ⟨2, 0, ph, sealL (lessL l) ++ b⟩ else ansV l b own 8
/-- What becomes of a packet. -/
def fwdV (own : Nat) (t : List UInt8) (pe : Nat → Int) (ph : Nat → Nat → Int) : Vd :=
  if t.length < 20 then ⟨0, 1, 0, []⟩
  else if fltN (t.take 20) t.length ≠ 0 then ⟨0, (fltN (t.take 20) t.length : Nat), 0, []⟩
  else goV own (t.take 20) ((t.take (g2 (t.take 20) 2)).drop 20) (pe (g4 (t.take 20) 16)) (ph (g4 (t.take 20) 16) (flN (t.take 20)))
theorem ext_list (s : ByteArray) (a b : Nat) : (s.extract a b).data.toList = (s.data.toList.take b).drop a := by
  simp [List.drop_take]
theorem vV_nil (a b c : Int) : vV ⟨a, b, c, []⟩ = .agg #[.int .i64 a, .int .i64 b, .int .i64 c, .string ⟨#[]⟩] := rfl
set_option maxRecDepth 20000 in
set_option maxHeartbeats 2000000 in
theorem forward_no (T : Nat) (s : ByteArray) (w : World) (r : Nat) (hr : r ≠ 0) (HR : ∀ w, Calls Try.prog 49 #[.string s] w fun e w' => e = .returned (.tuple #[pv zL ⟨#[]⟩, .int .i64 (r : Nat)]) ∧ Below w.heap.size w w') :
    Calls Try.prog 24 #[.pointer (some ⟨T, 0, none⟩), .string s] w fun e w' => e = .returned (vV ⟨0, (r : Nat), 0, []⟩) ∧ Below w.heap.size w w' := by
  have HR1 := Lib.hid HR
  have hZ := pc_zero
  have HS := Lib.hid (fun (w : World) => run_storeVar_new (P := Try.prog) w 100 (pc zL ⟨#[]⟩) (pc zL ⟨#[]⟩) (by rw [pc_size rfl]; exact infoP) rfl (pc_one _ _))
  clear HR
  unfold pv at *
  rw [vV_nil]
  generalize pc zL ⟨#[]⟩ = Cz at *
  have q1 : ((r : Int) != 0) = true := by simp; omega
  go_enter Try.func24, Try.ntmps24
  go_wp2_with fail
  refine (HR1.out _).mono ?_
  rintro e w2 ⟨rfl, hb2⟩
  have hk2 := row_below hb2 (heap_alloc_last w _) (by rw [sz1]; omega)
  have hB2 := (below1 w _).trans (hb2.mono (by rw [sz1]; omega))
  have HS2 := Lib.hid (HS.out w2)
  obtain ⟨w3, hw3⟩ : ∃ w3, w3 = w2.alloc (.cells Cz 100) := ⟨_, rfl⟩
  have HB3 := Lib.hid (show Below w.heap.size w w3 by rw [hw3]; exact hB2.trans ((below1 _ _).mono hB2.size))
  have HK3 := Lib.hid (show w3.heap[w.heap.size]? = some (.cells #[.int .i64 0, .int .i64 0, .int .i64 0, .string ⟨#[]⟩] 63) by rw [hw3]; exact row_below (below1 w2 _) hk2 ((Array.getElem?_eq_some_iff.1 hk2).1))
  have k0 := cl20 HK3.out (j := 0) rfl
  have k1 := cl20 HK3.out (j := 1) rfl
  have k2 := cl20 HK3.out (j := 2) rfl
  have k3 := cl20 HK3.out (j := 3) rfl
  have f0 := froz_row (j := 0) HK3.out
  have f1 := froz_row (j := 1) HK3.out
  have f2 := froz_row (j := 2) HK3.out
  have f3 := froz_row (j := 3) HK3.out
  have HS3 := Lib.hid (show (storeVar 100 ⟨w2.heap.size, 0, none⟩ (.agg Cz)).run Try.prog (w2.alloc (.cells Cz 100)) = .ok () w3 by rw [hw3]; exact HS2.out)
  clear hb2 hB2 hk2 hw3 HS HS2
  go_wp2_with ((with_reducible refine wpL_store ?_ ?_ HS3.out ?_); exact rfl; exact rfl)
  exact bodyV rfl rfl HK3.out ⟨rfl, below4 HB3.out (Nat.le_refl _) _ _ _ _⟩
theorem sendV {fn : Func} {R : Ending → World → Prop} {tmps : Array Value} {w : World} {g : Nat} {v : Vd} {x0 x1 x2 x3 : Value} {p : Tmp} (hr : fn.results = #[.cell p 63]) (hp : tmps.getD p undef = .pointer (some ⟨g, 0, none⟩)) (hk : w.heap[g]? = some (.cells #[x0, x1, x2, x3] 63))
    (hR : R (.returned (vV v)) ((((w.setCell ⟨g, 0, none⟩ (.int .i64 v.kind)).setCell ⟨g, 1, none⟩ (.int .i64 v.reason)).setCell ⟨g, 2, none⟩ (.int .i64 v.hop)).setCell ⟨g, 3, none⟩ (.string ⟨v.out.toArray⟩))) :
    bodyPost Try.prog fn R .ret { tmps := tmps, defers := [] } ((((w.setCell ⟨g, 0, none⟩ (.int .i64 v.kind)).setCell ⟨g, 1, none⟩ (.int .i64 v.reason)).setCell ⟨g, 2, none⟩ (.int .i64 v.hop)).setCell ⟨g, 3, none⟩ (.string ⟨v.out.toArray⟩)) :=
  bodyV hr hp hk hR
set_option maxRecDepth 20000 in
set_option maxHeartbeats 4000000 in
theorem forward_yes (T own : Nat) (ho : own < 4294967296) (s b : ByteArray) (l : List UInt8) (hl : l.length = 20) (hb : b.size ≤ 1000000) (w : World) (hT : w.cell? ⟨T, 2, none⟩ = some (.int .u32 own)) (ph pe : Int)
    (HR : ∀ w, Calls Try.prog 49 #[.string s] w fun e w' => e = .returned (.tuple #[pv l b, .int .i64 0]) ∧ Below w.heap.size w w')
    (HP : ∀ w1, Below w.heap.size w w1 → Calls Try.prog 52 #[.pointer (some ⟨T, 0, none⟩), .agg #[.int .i64 4, .int .u64 0, .int .u64 (g4 l 16 : Nat)], .int .u64 (flN l : Nat)] w1 fun e w' => e = .returned (.tuple #[.int .i64 ph, .int .i64 pe]) ∧ Below w1.heap.size w1 w') :
    Calls Try.prog 24 #[.pointer (some ⟨T, 0, none⟩), .string s] w fun e w' => e = .returned (vV (goV own l b.data.toList pe ph)) ∧ Below w.heap.size w w' := by
  have hTl := World.block_lt_of_cell? w _ hT
  have HR1 := Lib.hid HR
  have HP1 := Lib.hid HP
  have hZ := pc_zero
  have HS := Lib.hid (fun (w : World) => run_storeVar_new (P := Try.prog) w 100 (pc zL ⟨#[]⟩) (pc l b) (by rw [pc_size hl]; exact infoP) (by rw [pc_size hl]; rfl) (pc_one _ _))
  have HV := Lib.hid (fun (w : World) (g : Nat) (h : w.heap[g]? = some (Obj.cells (pc l b) 100)) => ldW hl h)
  have HTg := Lib.hid (fun w => ptarget_any l hl b w)
  have HFl := Lib.hid (fun w => flow_any l hl b w)
  rw [flN_eq] at HFl
  have HTx := Lib.hid (fun w => ptext_any l hl b hb w)
  have HCg := Lib.hid (fun w => canGoOn_any l hl b w)
  have HOl := Lib.hid (fun (h : 1 < g1 l 8) w => older_any l hl h b hb w)
  have HSb := Lib.hid (fun (r : Int) (w : World) (h : w.cell? ⟨T, 2, none⟩ = some (.int .u32 own)) => sendBack_any T own ho l hl b hb r w h)
  obtain ⟨V, hV⟩ : ∃ V, goV own l b.data.toList pe ph = V := ⟨_, rfl⟩
  rw [hV]
  unfold goV at hV
  clear HR HP
  unfold pv at *
  obtain ⟨V7, hV7⟩ : ∃ V7, ansV l b.data.toList own 7 = V7 := ⟨_, rfl⟩
  rw [hV7] at hV
  have HV7 := Lib.hid hV7
  clear hV7
  generalize pc zL ⟨#[]⟩ = Cz at *
  generalize pc l b = C at *
  generalize g4 l 16 = tg at *
  generalize flN l = fl at *
  go_enter Try.func24, Try.ntmps24
  go_wp2_with fail
  refine (HR1.out _).mono ?_
  rintro e w2 ⟨rfl, hb2⟩
  have hk2 := row_below hb2 (heap_alloc_last w _) (by rw [sz1]; omega)
  have hB2 := (below1 w _).trans (hb2.mono (by rw [sz1]; omega))
  have HS2 := Lib.hid (HS.out w2)
  obtain ⟨w3, hw3⟩ : ∃ w3, w3 = w2.alloc (.cells C 100) := ⟨_, rfl⟩
  have HB3 := Lib.hid (show Below w.heap.size w w3 by rw [hw3]; exact hB2.trans ((below1 _ _).mono hB2.size))
  have HK3 := Lib.hid (show w3.heap[w.heap.size]? = some (.cells #[.int .i64 0, .int .i64 0, .int .i64 0, .string ⟨#[]⟩] 63) by rw [hw3]; exact row_below (below1 w2 _) hk2 ((Array.getElem?_eq_some_iff.1 hk2).1))
  have HP3 := Lib.hid (show w3.heap[w2.heap.size]? = some (.cells C 100) by rw [hw3]; exact heap_alloc_last w2 _)
  have HS3 := Lib.hid (show (storeVar 100 ⟨w2.heap.size, 0, none⟩ (.agg C)).run Try.prog (w2.alloc (.cells Cz 100)) = .ok () w3 by rw [hw3]; exact HS2.out)
  have HV3 := Lib.hid (HV.out w3 _ HP3.out)
  clear hb2 hB2 hk2 hw3 HS HS2
  go_wp2_with (first | ((with_reducible refine wpL_store ?_ ?_ HS3.out ?_); exact rfl; exact rfl) | ((with_reducible refine wpL_load ?_ HV3.out ?_); exact rfl))
  generalize w2.heap.size = g at *
  clear HS3 HV3 hZ
  refine (HTg.out _).mono ?_
  rintro e w4 ⟨rfl, hb4⟩
  have HB4 := Lib.hid (HB3.out.trans (hb4.mono HB3.out.size))
  have HK4 := Lib.hid (row_below hb4 HK3.out ((Array.getElem?_eq_some_iff.1 HK3.out).1))
  have HP4 := Lib.hid (row_below hb4 HP3.out ((Array.getElem?_eq_some_iff.1 HP3.out).1))
  have HV4 := Lib.hid (HV.out (w4.alloc (.cells #[.int .i64 4, .int .u64 0, .int .u64 (tg : Nat)] 25)) g (row_below (below1 w4 _) HP4.out ((Array.getElem?_eq_some_iff.1 HP4.out).1)))
  clear hb4 HB3 HK3 HP3
  go_wp2_with ((with_reducible refine wpL_load ?_ HV4.out ?_); exact rfl)
  refine (HFl.out _).mono ?_
  rintro e w5 ⟨rfl, hb5⟩
  have HB5 := Lib.hid ((HB4.out.trans ((below1 w4 _).mono HB4.out.size)).trans (hb5.mono (by rw [sz1]; have := HB4.out.size; omega)))
  have HK5 := Lib.hid (row_below hb5 (row_below (below1 w4 _) HK4.out ((Array.getElem?_eq_some_iff.1 HK4.out).1)) (by rw [sz1]; have := (Array.getElem?_eq_some_iff.1 HK4.out).1; omega))
  have HP5 := Lib.hid (row_below hb5 (row_below (below1 w4 _) HP4.out ((Array.getElem?_eq_some_iff.1 HP4.out).1)) (by rw [sz1]; have := (Array.getElem?_eq_some_iff.1 HP4.out).1; omega))
  have hk5 := row_below hb5 (heap_alloc_last w4 _) (by rw [sz1]; omega)
  have a0 := cl20 hk5 (j := 0) rfl
  have a1 := cl20 hk5 (j := 1) rfl
  have a2 := cl20 hk5 (j := 2) rfl
  clear hb5 HV4 HB4 HK4 HP4 hk5
  go_wp2_with fail
  refine (HP1.out _ HB5.out).mono ?_
  rintro e w6 ⟨rfl, hb6⟩
  have HB6 := Lib.hid (HB5.out.trans (hb6.mono HB5.out.size))
  have HK6 := Lib.hid (row_below hb6 HK5.out ((Array.getElem?_eq_some_iff.1 HK5.out).1))
  have HP6 := Lib.hid (row_below hb6 HP5.out ((Array.getElem?_eq_some_iff.1 HP5.out).1))
  have HT6 := Lib.hid ((HB6.out.cell (p := ⟨T, 2, none⟩) hTl).trans hT)
  have HV6 := Lib.hid (HV.out w6 g HP6.out)
  clear hb6 HB5 HK5 HP5 a0 a1 a2 HP1 HTg HFl HR1 hT
  by_cases h1 : pe = 0
  case neg =>
    rw [if_pos h1] at hV
    have q1 : (pe != 0) = true := by simp [h1]
    go_wp2_with ((with_reducible refine wpL_load ?_ HV6.out ?_); exact rfl)
    refine (HSb.out 7 _ HT6.out).mono ?_
    rintro e w7 ⟨rfl, hb7⟩
    have HK7 := Lib.hid (row_below hb7 HK6.out ((Array.getElem?_eq_some_iff.1 HK6.out).1))
    have HB7 := Lib.hid (HB6.out.trans (hb7.mono HB6.out.size))
    have k0 := cl20 HK7.out (j := 0) rfl
    have k1 := cl20 HK7.out (j := 1) rfl
    have k2 := cl20 HK7.out (j := 2) rfl
    have k3 := cl20 HK7.out (j := 3) rfl
    have f0 := froz_row (j := 0) HK7.out
    have f1 := froz_row (j := 1) HK7.out
    have f2 := froz_row (j := 2) HK7.out
    have f3 := froz_row (j := 3) HK7.out
    rw [HV7.out, hV]
    clear hb7 HSb hV
    unfold vV
    go_wp2_with fail
    exact sendV rfl rfl HK7.out ⟨rfl, below4 HB7.out (Nat.le_refl _) _ _ _ _⟩
  subst h1
  rw [if_neg (by simp)] at hV
  by_cases h2 : ph = 0
  case pos =>
    subst h2
    rw [if_pos rfl] at hV
    go_wp2_with ((with_reducible refine wpL_load ?_ HV6.out ?_); exact rfl)
    refine (HTx.out _).mono ?_
    rintro e w7 ⟨rfl, hb7⟩
    have HK7 := Lib.hid (row_below hb7 HK6.out ((Array.getElem?_eq_some_iff.1 HK6.out).1))
    have HB7 := Lib.hid (HB6.out.trans (hb7.mono HB6.out.size))
    have k0 := cl20 HK7.out (j := 0) rfl
    have k1 := cl20 HK7.out (j := 1) rfl
    have k2 := cl20 HK7.out (j := 2) rfl
    have k3 := cl20 HK7.out (j := 3) rfl
    have f0 := froz_row (j := 0) HK7.out
    have f1 := froz_row (j := 1) HK7.out
    have f2 := froz_row (j := 2) HK7.out
    have f3 := froz_row (j := 3) HK7.out
    clear hb7 HSb
    subst hV
    go_wp2_with fail
    exact bodyV rfl rfl HK7.out ⟨by rw [← ba_of (bapp ⟨l.toArray⟩ b)]; rfl, below4 HB7.out (Nat.le_refl _) _ _ _ _⟩
  rw [if_neg h2] at hV
  have q2 : (ph == 0) = false := ine_beq h2
  go_wp2_with ((with_reducible refine wpL_load ?_ HV6.out ?_); exact rfl)
  refine (HCg.out _).mono ?_
  rintro e w7 ⟨rfl, hb7⟩
  have HK7 := Lib.hid (row_below hb7 HK6.out ((Array.getElem?_eq_some_iff.1 HK6.out).1))
  have HB7 := Lib.hid (HB6.out.trans (hb7.mono HB6.out.size))
  have HP7 := Lib.hid (row_below hb7 HP6.out ((Array.getElem?_eq_some_iff.1 HP6.out).1))
  have HT7 := Lib.hid ((hb7.cell (p := ⟨T, 2, none⟩) (World.block_lt_of_cell? w6 _ HT6.out)).trans HT6.out)
  have HV8 := Lib.hid (HV.out w7 g HP7.out)
  clear hb7 HB6 HK6 HP6 HV6 HT6
  by_cases h3 : 1 < g1 l 8
  case neg =>
    rw [if_neg h3] at hV
    rw [decide_eq_false h3]
    go_wp2_with ((with_reducible refine wpL_load ?_ HV8.out ?_); exact rfl)
    refine (HSb.out 8 _ HT7.out).mono ?_
    rintro e w8 ⟨rfl, hb8⟩
    have HK8 := Lib.hid (row_below hb8 HK7.out ((Array.getElem?_eq_some_iff.1 HK7.out).1))
    have HB8 := Lib.hid (HB7.out.trans (hb8.mono HB7.out.size))
    have k0 := cl20 HK8.out (j := 0) rfl
    have k1 := cl20 HK8.out (j := 1) rfl
    have k2 := cl20 HK8.out (j := 2) rfl
    have k3 := cl20 HK8.out (j := 3) rfl
    have f0 := froz_row (j := 0) HK8.out
    have f1 := froz_row (j := 1) HK8.out
    have f2 := froz_row (j := 2) HK8.out
    have f3 := froz_row (j := 3) HK8.out
    rw [hV]
    clear hb8 HSb hV
    unfold vV
    go_wp2_with fail
    exact sendV rfl rfl HK8.out ⟨rfl, below4 HB8.out (Nat.le_refl _) _ _ _ _⟩
  rw [if_pos h3] at hV
  rw [decide_eq_true h3]
  go_wp2_with ((with_reducible refine wpL_load ?_ HV8.out ?_); exact rfl)
  refine (HOl.out h3 _).mono ?_
  rintro e w8 ⟨rfl, hb8⟩
  have HK8 := Lib.hid (row_below hb8 HK7.out ((Array.getElem?_eq_some_iff.1 HK7.out).1))
  have HB8 := Lib.hid (HB7.out.trans (hb8.mono HB7.out.size))
  have k0 := cl20 HK8.out (j := 0) rfl
  have k1 := cl20 HK8.out (j := 1) rfl
  have k2 := cl20 HK8.out (j := 2) rfl
  have k3 := cl20 HK8.out (j := 3) rfl
  have f0 := froz_row (j := 0) HK8.out
  have f1 := froz_row (j := 1) HK8.out
  have f2 := froz_row (j := 2) HK8.out
  have f3 := froz_row (j := 3) HK8.out
  clear hb8 HSb
  subst hV
  go_wp2_with fail
  exact bodyV rfl rfl HK8.out ⟨by rw [← ba_of (bapp ⟨(sealL (lessL l)).toArray⟩ b)]; rfl, below4 HB8.out (Nat.le_refl _) _ _ _ _⟩
theorem forward_any (T own : Nat) (ho : own < 4294967296) (s : ByteArray) (w : World) (hT : w.cell? ⟨T, 2, none⟩ = some (.int .u32 own)) (pe : Nat → Int) (ph : Nat → Nat → Int)
    (HP : ∀ (tg fl : Nat) (w1 : World), tg < 4294967296 → fl ≤ 18446744073709551615 → Below w.heap.size w w1 → Calls Try.prog 52 #[.pointer (some ⟨T, 0, none⟩), .agg #[.int .i64 4, .int .u64 0, .int .u64 tg], .int .u64 fl] w1 fun e w' => e = .returned (.tuple #[.int .i64 (ph tg fl), .int .i64 (pe tg)]) ∧ Below w1.heap.size w1 w') :
    Calls Try.prog 24 #[.pointer (some ⟨T, 0, none⟩), .string s] w fun e w' => e = .returned (vV (fwdV own s.data.toList pe ph)) ∧ Below w.heap.size w w' := by
  unfold fwdV
  rw [blen]
  by_cases h1 : s.size < 20
  · rw [if_pos h1]
    exact forward_no T s w 1 (by decide) (fun w => read_short s h1 w)
  · rw [if_neg h1]
    by_cases h2 : fltN (s.data.toList.take 20) s.size ≠ 0
    · rw [if_pos h2]
      exact forward_no T s w _ h2 (fun w => (read_long s (by omega) w rfl rfl rfl).mono (fun e w' h => ⟨h.1 h2, h.2.2⟩))
    · rw [if_neg h2]
      have h3 : fltN (s.data.toList.take 20) s.size = 0 := by omega
      have hg : g2 (s.data.toList.take 20) 2 < 65536 := by have := g1_lt (s.data.toList.take 20) 2; have := g1_lt (s.data.toList.take 20) (2 + 1); unfold g2; omega
      rw [← ext_list]
      exact forward_yes T own ho s (s.extract 20 (g2 (s.data.toList.take 20) 2)) (s.data.toList.take 20) (by rw [List.length_take, blen]; omega) (by rw [ByteArray.size_extract]; omega) w hT _ _
        (fun w => (read_long s (by omega) w rfl rfl rfl).mono (fun e w' h => ⟨h.2.1 h3, h.2.2⟩))
        (fun w1 hb => HP _ _ w1 (g4_lt _ _) (flN_lt _) hb)
end Go.Proofs.Ytnfkgnjeamnhfab
