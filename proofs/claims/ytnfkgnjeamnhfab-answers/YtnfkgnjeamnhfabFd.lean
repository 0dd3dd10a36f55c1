import Derived.Test.YtnfkgnjeamnhfabFc
import Derived.Laws.ResultCell
namespace Go.Proofs.Ytnfkgnjeamnhfab
open Go.RowKit

/-- A whole array is stored, in one step. -/
theorem wpL_store {P : Program} {ops : Array Oper} {Q : Exit → Act → World → Prop} {a : Act} {w w' : World} {rest : List Oper} {s u : Tmp} {t ty : TypeId} {pos : String} {after : Array Edge} {p : Addr} {v : Value} (hs : a.eval (.tmp s) = .pointer (some p)) (hu : a.eval (.tmp u) = v) (hr : (storeVar t p v).run P w = .ok () w') (h : wpList P ops Q rest (a.put none undef) w') :
    wpList P ops Q (⟨none, .store t (.tmp s) (.tmp u), ty, pos, after, none⟩ :: rest) a w :=
  wpList_plain rfl (fun K hK => by
    have e : (execOp a.eval ⟨none, .store t (.tmp s) (.tmp u), ty, pos, after, none⟩).run P w = .ok .skip w' := by
      simp [execOp, hs, hu, Instr.storeAt, Instr.sureAddr, hr, Result.andThen]
    unfold Oper.wp
    rw [e]
    exact hK _ _ h)
theorem hc_set (l : List UInt8) (k : Nat) (b : UInt8) : (hc l).setIfInBounds k (.int .u8 (b.toNat : Int)) = hc (l.set k b) := by
  simp [hc, List.map_set]
theorem hc_one (l : List UInt8) : (hc l).all (·.oneCell') = true := by
  simp [hc, Value.oneCell']
theorem stV {w : World} {b : Nat} {C : Array Value} {l : List UInt8} (h : w.heap[b]? = some (.cells C 98)) (hC : C.size = 20) (hl : l.length = 20) : (storeVar 98 ⟨b, 0, none⟩ (hv l)).run Try.prog w = .ok () (w.setRow b (hc l)) :=
  run_storeVar_row w b 98 98 C (hc l) h (by rw [hc_size, hl]; exact infoH) (by rw [hC, hc_size, hl]) (hc_one l)
theorem frow_set {w : World} {b k : Nat} {c : Array Value} {t : TypeId} (v : Value) (h : w.heap[b]? = some (.cells c t)) : (w.setCell ⟨b, k, none⟩ v).heap[b]? = some (.cells (c.setIfInBounds k v) t) := by
  have hlt := (Array.getElem?_eq_some_iff.1 h).1
  simp [World.setCell, Array.getElem?_modify, h]
theorem row_other {w : World} {b : Nat} {a : Addr} {o : Obj} (v : Value) (h : w.heap[b]? = some o) (hb : b ≠ a.block) : (w.setCell a v).heap[b]? = some o := by
  rw [Below.heap_setCell w a v b hb]; exact h
theorem row_below {w w' : World} {B b : Nat} {o : Obj} (hb : Below B w w') (h : w.heap[b]? = some o) (hlt : b < B) : w'.heap[b]? = some o := by
  rw [hb.block b hlt]; exact h
theorem row_row {w : World} {b g : Nat} {o : Obj} (c : Array Value) (h : w.heap[b]? = some o) (hb : b ≠ g) : (w.setRow g c).heap[b]? = some o := by
  simp [World.setRow, Array.getElem?_modify, h, Ne.symm hb]
theorem fbelow_row {B : Nat} {w w' : World} {g : Nat} (c : Array Value) (h : Below B w w') (hg : B ≤ g) : Below B w (w'.setRow g c) :=
  ⟨h.os, h.tape, h.output, by simpa [World.setRow] using h.size, fun k hk => by
    rw [← h.block k hk]
    simp [World.setRow, Array.getElem?_modify, show g ≠ k by omega]⟩
theorem froz_row {w : World} {b j : Nat} {c : Array Value} {t : TypeId} (h : w.heap[b]? = some (.cells c t)) : w.frozen? ⟨b, j, none⟩ = false := by
  simp [World.frozen?, h]
theorem sz1 (w : World) (a : Obj) : (w.alloc a).heap.size = w.heap.size + 1 := by simp
theorem al1 (w : World) (a b : Obj) : ((w.alloc a).alloc b).heap[w.heap.size]? = some a := by
  rw [Below.heap_alloc _ _ _ (by rw [sz1]; omega)]; exact heap_alloc_last w _
theorem al2 (w : World) (a b : Obj) : ((w.alloc a).alloc b).heap[w.heap.size + 1]? = some b := by
  have := heap_alloc_last (w.alloc a) b
  rw [sz1] at this; exact this
theorem al31 (w : World) (a b c : Obj) : (((w.alloc a).alloc b).alloc c).heap[w.heap.size]? = some a := by
  rw [Below.heap_alloc _ _ _ (by rw [sz1, sz1]; omega)]; exact al1 w a b
theorem al32 (w : World) (a b c : Obj) : (((w.alloc a).alloc b).alloc c).heap[w.heap.size + 1]? = some b := by
  rw [Below.heap_alloc _ _ _ (by rw [sz1, sz1]; omega)]; exact al2 w a b
theorem three_al (w : World) (a b c : Obj) : Below w.heap.size w (((w.alloc a).alloc b).alloc c) := ((below1 _ _).trans ((below1 _ _).mono (by simp))).trans ((below1 _ _).mono (by rw [sz1, sz1]; omega))
theorem results_cell1 {fn : Func} {p : Tmp} {ty : TypeId} {tmps : Array Value} {P : Program} {w : World} {a : Addr} {v : Value} (h : fn.results = #[.cell p ty]) (ha : tmps.getD p undef = .pointer (some a)) (hl : (loadVar ty a).run P w = .ok v w) : (results fn tmps).run P w = .ok v w := by
  simp only [results, h]
  simp [asAddr, hl, show tmps[p]?.getD undef = .pointer (some a) by simpa using ha]
theorem two_al (w : World) (a b : Obj) : Below w.heap.size w ((w.alloc a).alloc b) := (below1 _ _).trans ((below1 _ _).mono (by simp))
/-- A head whose checksum is left out; with its checksum. -/
def zs (l : List UInt8) : List UInt8 := (l.set 10 0).set 11 0
def sealL (l : List UInt8) : List UInt8 := ((zs l).set 10 (UInt8.ofNat (ck (zs l) / 256))).set 11 (UInt8.ofNat (ck (zs l) % 256))
theorem zs_len {l : List UInt8} : (zs l).length = l.length := by simp [zs]
theorem sealL_len {l : List UInt8} : (sealL l).length = l.length := by simp [sealL, zs]
theorem hc_zs (l : List UInt8) : ((hc l).setIfInBounds 10 (.int .u8 0)).setIfInBounds 11 (.int .u8 0) = hc (zs l) := by
  have h1 := hc_set l 10 0
  have h2 := hc_set (l.set 10 0) 11 0
  simp only [UInt8.toNat_zero, Int.ofNat_zero] at h1 h2
  rw [h1, h2]; rfl
theorem hc_seal (l : List UInt8) : ((hc (zs l)).setIfInBounds 10 (.int .u8 ((ck (zs l) : Nat) / 256 : Int))).setIfInBounds 11 (.int .u8 ((ck (zs l) : Nat) % 256 : Int)) = hc (sealL l) := by
  have hk := ck_lt (zs l)
  have h1 := hc_set (zs l) 10 (UInt8.ofNat (ck (zs l) / 256))
  have h2 := hc_set ((zs l).set 10 (UInt8.ofNat (ck (zs l) / 256))) 11 (UInt8.ofNat (ck (zs l) % 256))
  rw [show ((UInt8.ofNat (ck (zs l) / 256)).toNat : Int) = ((ck (zs l) : Nat) / 256 : Int) by simp; omega] at h1
  rw [show ((UInt8.ofNat (ck (zs l) % 256)).toNat : Int) = ((ck (zs l) : Nat) % 256 : Int) by simp] at h2
  rw [h1, h2]; rfl
set_option maxRecDepth 20000 in
set_option maxHeartbeats 2000000 in
theorem sealed_any (l : List UInt8) (hl : l.length = 20) (w : World) : Calls Try.prog 86 #[hv l] w fun e w' => e = .returned (hv (sealL l)) ∧ Below w.heap.size w w' := by
  have HCs := Lib.hid (show (hc l).size = 20 by rw [hc_size, hl])
  have HT := Lib.hid (fun w => text_any (zs l) (zs_len.trans hl) w)
  have HC := Lib.hid (fun w => checksum_any ⟨(zs l).toArray⟩ w (by simp [ByteArray.size, zs_len, hl]))
  have hc2 := hc_zs l
  have HZ := Lib.hid (show (hc (zs l)).size = 20 by rw [hc_size, zs_len, hl])
  have HV := Lib.hid (show (loadVar 98 ⟨w.heap.size, 0, none⟩).run Try.prog ((w.alloc (.cells (hc (zs l)) 98)).alloc (.cells #[.int .u8 0, .int .u8 0, .int .u8 0, .int .u8 0, .int .u8 0, .int .u8 0, .int .u8 0, .int .u8 0, .int .u8 0, .int .u8 0, .int .u8 0, .int .u8 0, .int .u8 0, .int .u8 0, .int .u8 0, .int .u8 0, .int .u8 0, .int .u8 0, .int .u8 0, .int .u8 0] 98)) = .ok (.agg (hc (zs l))) _ from
    ldV (by rw [Below.heap_alloc _ _ _ (by simp)]; exact heap_alloc_last w _) HZ.out)
  have hC : (hc l).size = 20 := HCs.out
  have hck := ck_lt (zs l)
  have hsl := hc_seal l
  have HSl := Lib.hid (show (hc (sealL l)).size = 20 by rw [hc_size, sealL_len, hl])
  simp only [hv] at *
  go_enter Try.func86, Try.ntmps86
  go_wp2_with ((with_reducible refine wpL_load ?_ HV.out ?_); exact rfl)
  refine (HT.out _).mono ?_
  rintro e w3 ⟨rfl, hw3⟩
  have HB3 := Lib.hid (show Below w.heap.size w w3 by rw [hw3]; exact three_al _ _ _ _)
  have HK3 := Lib.hid (show w3.heap[w.heap.size]? = some (.cells (hc (zs l)) 98) by rw [hw3]; exact al31 _ _ _ _)
  obtain ⟨z, HZ3, hz⟩ : ∃ z : Array Value, Hid (w3.heap[w.heap.size + 1]? = some (.cells z 98)) ∧ z.size = 20 := ⟨#[.int .u8 0, .int .u8 0, .int .u8 0, .int .u8 0, .int .u8 0, .int .u8 0, .int .u8 0, .int .u8 0, .int .u8 0, .int .u8 0, .int .u8 0, .int .u8 0, .int .u8 0, .int .u8 0, .int .u8 0, .int .u8 0, .int .u8 0, .int .u8 0, .int .u8 0, .int .u8 0], (by
    rw [hw3]; exact al32 _ _ _ _), rfl⟩
  clear hw3 HV HT hc2 hC
  go_wp2_with fail
  refine (HC.out _).mono ?_
  rintro e w4 ⟨rfl, rfl⟩
  have k10 := cl20 HK3.out (Array.getElem?_eq_getElem (show 10 < (hc (zs l)).size by rw [HZ.out]; decide))
  have k11 := cl20 HK3.out (Array.getElem?_eq_getElem (show 11 < (hc (zs l)).size by rw [HZ.out]; decide))
  have f10 := froz_row (j := 10) HK3.out
  have f11 := froz_row (j := 11) HK3.out
  generalize ck (zs l) = c at *
  have hb1 : IntKind.u8.wrap ((c : Int) / 256) = (c : Int) / 256 := by simp [IntKind.wrap, IntKind.bits, IntKind.signed]; omega
  have hb2 : IntKind.u8.wrap (c : Int) = (c : Int) % 256 := by simp [IntKind.wrap, IntKind.bits, IntKind.signed]
  clear HC
  obtain ⟨W5, hW5⟩ : ∃ W5, W5 = (w4.setCell ⟨w.heap.size, 10, none⟩ (.int .u8 ((c : Int) / 256))).setCell ⟨w.heap.size, 11, none⟩ (.int .u8 ((c : Int) % 256)) := ⟨_, rfl⟩
  have HV := Lib.hid (ldV (C := hc (sealL l)) (by rw [← hsl]; exact frow_set (Value.int .u8 ((c : Int) % 256)) (frow_set (Value.int .u8 ((c : Int) / 256)) HK3.out)) HSl.out)
  have HS := Lib.hid (stV (l := sealL l) (row_other (a := ⟨w.heap.size, 11, none⟩) (Value.int .u8 ((c : Int) % 256)) (row_other (a := ⟨w.heap.size, 10, none⟩) (Value.int .u8 ((c : Int) / 256)) HZ3.out (by show _ ≠ w.heap.size; omega)) (by show _ ≠ w.heap.size; omega)) hz (sealL_len.trans hl))
  have HB5 := Lib.hid (show Below w.heap.size w W5 by rw [hW5]; exact (HB3.out.setCell (Nat.le_refl _) _).setCell (Nat.le_refl _) _)
  have HZ5 := Lib.hid (show W5.heap[w.heap.size + 1]? = some (.cells z 98) by
    rw [hW5]; exact row_other _ (row_other _ HZ3.out (by show _ ≠ w.heap.size; omega)) (by show _ ≠ w.heap.size; omega))
  simp only [hv] at HS
  go_wp2_with (first | ((with_reducible refine wpL_load ?_ HV.out ?_); exact rfl) | ((with_reducible refine wpL_store ?_ ?_ HS.out ?_); exact rfl; exact rfl))
  rw [← hW5]
  refine bodyPost_ret (v := .agg (hc (sealL l))) ?_ rfl ⟨rfl, fbelow_row _ HB5.out (Nat.le_succ _)⟩
  exact results_cell1 rfl rfl (ldV (setRow_heap _ _ _ _ _ _ HZ5.out) HSl.out)
end Go.Proofs.Ytnfkgnjeamnhfab
