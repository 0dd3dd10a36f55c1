import Derived.Test.YtnfkgnjeamnhfabKni
import Derived.Deep.DeepCutAuto
import Derived.BigQuiet
namespace Go.Proofs.Ytnfkgnjeamnhfab
open Go.RowKit Go.Sort

set_option maxRecDepth 4000 in
set_option maxHeartbeats 4000000 in
theorem sent_mart (limit seed own : Int) (so : Option Addr) (z scap : Nat) (ops : List AOp) (p : Pk) (hp : PkFit p) (w : World) (hsn : Rg seed own) (h1 : ¬ limit < 1) (h2 : ¬ 256 < limit) (hz : ops.length = z) (hz2 : z ≤ 1400000000000) (hS : ScrK w.heap.size w so ops) (gs : Nat → List Int) (rs : List Rt) (hpl : playA limit (gz seed own) [] ops gs rs) (hm : mart (p.src / 16777216) = true ∨ mart (p.dst / 16777216) = true) (hV : fwdV (ownN gs) (pt p) (fun tg => pkE rs (4, 0, tg)) (fun tg fl => pkH gs rs (4, 0, tg) fl) = ⟨0, 6, 0, []⟩) :
    Calls Try.prog 6 #[.int .i64 limit, .int .u64 seed, .int .u32 own, .slice so z scap, pkV p] w fun e w' => e = .returned (.bool true) ∧ Below w.heap.size w w' := by
  obtain ⟨w0, hw0⟩ : ∃ w0, w0 = w.alloc (.cells #[.int .u8 (p.tos.toNat : Nat), .int .u8 (p.life.toNat : Nat), .int .u8 (p.proto.toNat : Nat), .int .u16 (p.id : Nat), .int .u16 (p.part : Nat), .int .u32 (p.src : Nat), .int .u32 (p.dst : Nat), .string p.c, .string p.m] 58) := ⟨_, rfl⟩
  obtain ⟨bx, hbx⟩ : ∃ bx, bx = w.heap.size := ⟨_, rfl⟩
  have hb0 : Below w.heap.size w w0 := by rw [hw0]; exact below1 w _
  have hg0 : w0.heap[bx]? = some (.cells #[.int .u8 (p.tos.toNat : Nat), .int .u8 (p.life.toNat : Nat), .int .u8 (p.proto.toNat : Nat), .int .u16 (p.id : Nat), .int .u16 (p.part : Nat), .int .u32 (p.src : Nat), .int .u32 (p.dst : Nat), .string p.c, .string p.m] 58) := by rw [hw0, hbx]; exact heap_alloc_last w _
  have HR := Lib.hid (ready_fix limit seed own so z scap ops w0 hsn h1 h2 hz hz2 (hS.grow hb0) gs rs hpl)
  have HB := Lib.hid (fun w => show Calls Try.prog 23 #[.agg #[.int .u8 (p.tos.toNat : Nat), .int .u8 (p.life.toNat : Nat), .int .u8 (p.proto.toNat : Nat), .int .u16 (p.id : Nat), .int .u16 (p.part : Nat), .int .u32 (p.src : Nat), .int .u32 (p.dst : Nat), .string p.c, .string p.m]] w _ from built_any p hp w)
  have HS1 := Lib.hid (fun w => strange_any p.src hp.src w)
  have HS2 := Lib.hid (fun w => strange_any p.dst hp.dst w)
  have HV := Lib.hid hV
  have Hn := Lib.hid (nP_le p)
  have Hg0 := Lib.hid hg0
  have Hb0 := Lib.hid hb0
  have Hw0 := Lib.hid hw0
  have Hbx := Lib.hid hbx
  have Hdst := Lib.hid hp.dst
  clear hw0 hbx hb0 hg0 hsn h1 h2 hz hz2 hS hpl hV hp
  unfold pkV
  go_enter Try.func6, Try.ntmps6
  go_wp2_with fail
  rw [← Hw0.out, ← Hbx.out]
  refine HR.out.mono ?_
  rintro e w1 ⟨T, rfl, hb1, hT⟩
  have Hb1 := Lib.hid (Hb0.out.trans (hb1.mono Hb0.out.size))
  have hg1 := row_below hb1 Hg0.out (Array.getElem?_eq_some_iff.1 Hg0.out).1
  have HT := Lib.hid hT
  have Hg1 := Lib.hid hg1
  have k0 := cl20 hg1 (j := 0) rfl
  have k1 := cl20 hg1 (j := 1) rfl
  have k2 := cl20 hg1 (j := 2) rfl
  have k3 := cl20 hg1 (j := 3) rfl
  have k4 := cl20 hg1 (j := 4) rfl
  have k5 := cl20 hg1 (j := 5) rfl
  have k6 := cl20 hg1 (j := 6) rfl
  have k7 := cl20 hg1 (j := 7) rfl
  have k8 := cl20 hg1 (j := 8) rfl
  clear hb1 hT hg1 HR Hg0 Hb0
  go_wp2_with fail
  refine (HB.out _).mono ?_
  rintro e w2 ⟨S, rfl, hSl, hb2⟩
  have hF := HT.out.fw w2 hb2 S
  rw [show S.data.toList = pt p from hSl, HV.out] at hF
  have HF := Lib.hid hF
  have HT2 := Lib.hid (HT.out.grow hb2)
  have hg2 := row_below hb2 Hg1.out (Array.getElem?_eq_some_iff.1 Hg1.out).1
  have Hg2 := Lib.hid hg2
  have Hb2 := Lib.hid (Hb1.out.trans (hb2.mono Hb1.out.size))
  have HSl := Lib.hid (show S.data.toList = pt p from hSl)
  clear k0 k1 k2 k3 k4 k5 k6 k7 k8 hb2 hSl hF HB HT Hg1 Hb1 hg2 HV
  unfold vV at HF
  go_wp2_with fail
  refine HF.out.mono ?_
  rintro e w3 ⟨rfl, hb3⟩
  have HT3 := Lib.hid (HT2.out.grow hb3)
  have hg3 := row_below hb3 Hg2.out (Array.getElem?_eq_some_iff.1 Hg2.out).1
  have Hg3 := Lib.hid hg3
  have Hb3 := Lib.hid (Hb2.out.trans (hb3.mono Hb2.out.size))
  have hlt3 : bx < w3.heap.size := (Array.getElem?_eq_some_iff.1 hg3).1
  clear hb3 HF HT2 Hg2 Hb2
  have k1 := cl20 hg3 (j := 1) rfl
  have k5 := cl20 hg3 (j := 5) rfl
  have k6 := cl20 hg3 (j := 6) rfl
  clear hg3
  go_wp2_with fail
  obtain ⟨w4, hw4⟩ : ∃ w4, w4 = w3.alloc (.cells #[.int .i64 0, .int .i64 6, .int .i64 0, .string ⟨#[]⟩] 63) := ⟨_, rfl⟩
  obtain ⟨bv, hbv⟩ : ∃ bv, bv = w3.heap.size := ⟨_, rfl⟩
  rw [← hw4, ← hbv]
  have hgv : w4.heap[bv]? = some (.cells #[.int .i64 0, .int .i64 6, .int .i64 0, .string ⟨#[]⟩] 63) := by rw [hw4, hbv]; exact heap_alloc_last w3 _
  have hb4 : Below w3.heap.size w3 w4 := by rw [hw4]; exact below1 w3 _
  have hg4 := row_below hb4 Hg3.out (Array.getElem?_eq_some_iff.1 Hg3.out).1
  have Hgv := Lib.hid hgv
  have Hg4 := Lib.hid hg4
  have HT4 := Lib.hid (HT3.out.grow hb4)
  have Hb4 := Lib.hid (Hb3.out.trans (hb4.mono Hb3.out.size))
  clear hb4 hw4 hbv Hg3 HT3 Hb3 hlt3 k1 k5 k6
  have k1 := cl20 hg4 (j := 1) rfl
  have k5 := cl20 hg4 (j := 5) rfl
  have k6 := cl20 hg4 (j := 6) rfl
  have v0 := cl20 hgv (j := 0) rfl
  have v1 := cl20 hgv (j := 1) rfl
  have v2 := cl20 hgv (j := 2) rfl
  have v3 := cl20 hgv (j := 3) rfl
  clear hg4 hgv
  generalize mart (p.src / 16777216) = m1 at *
  generalize mart (p.dst / 16777216) = m2 at *
  refine (HS1.out _).mono ?_
  rintro e w5 ⟨rfl, hw5⟩
  rw [hw5]
  clear hw5 w5
  cases m1
  · obtain rfl : m2 = true := hm.resolve_left (by decide)
    go_wp2_with fail
    refine (HS2.out _).mono ?_
    rintro e w5 ⟨rfl, hw5⟩
    rw [hw5]
    clear hw5 w5
    go_wp2
    go_ret
    exact ⟨rfl, Hb4.out⟩
  · go_wp2
    go_ret
    exact ⟨rfl, Hb4.out⟩
end Go.Proofs.Ytnfkgnjeamnhfab
namespace Go.Proofs.Ytnfkgnjeamnhfab
open Go.RowKit Go.Sort

set_option maxRecDepth 4000 in
set_option maxHeartbeats 4000000 in
theorem sent_none (limit seed own : Int) (so : Option Addr) (z scap : Nat) (ops : List AOp) (p : Pk) (hp : PkFit p) (w : World) (hsn : Rg seed own) (h1 : ¬ limit < 1) (h2 : ¬ 256 < limit) (hz : ops.length = z) (hz2 : z ≤ 1400000000000) (hS : ScrK w.heap.size w so ops) (gs : Nat → List Int) (rs : List Rt) (hpl : playA limit (gz seed own) [] ops gs rs) (hm1 : mart (p.src / 16777216) = false) (hm2 : mart (p.dst / 16777216) = false) (hG : lookGT rs (4, 0, p.dst) = -1) (kd : Int) (hkd : kd = 3 ∨ kd = 0) (ol : List UInt8) (hV : fwdV (ownN gs) (pt p) (fun tg => pkE rs (4, 0, tg)) (fun tg fl => pkH gs rs (4, 0, tg) fl) = ⟨kd, 7, 0, ol⟩) :
    Calls Try.prog 6 #[.int .i64 limit, .int .u64 seed, .int .u32 own, .slice so z scap, pkV p] w fun e w' => e = .returned (.bool true) ∧ Below w.heap.size w w' := by
  obtain ⟨w0, hw0⟩ : ∃ w0, w0 = w.alloc (.cells #[.int .u8 (p.tos.toNat : Nat), .int .u8 (p.life.toNat : Nat), .int .u8 (p.proto.toNat : Nat), .int .u16 (p.id : Nat), .int .u16 (p.part : Nat), .int .u32 (p.src : Nat), .int .u32 (p.dst : Nat), .string p.c, .string p.m] 58) := ⟨_, rfl⟩
  obtain ⟨bx, hbx⟩ : ∃ bx, bx = w.heap.size := ⟨_, rfl⟩
  have hb0 : Below w.heap.size w w0 := by rw [hw0]; exact below1 w _
  have hg0 : w0.heap[bx]? = some (.cells #[.int .u8 (p.tos.toNat : Nat), .int .u8 (p.life.toNat : Nat), .int .u8 (p.proto.toNat : Nat), .int .u16 (p.id : Nat), .int .u16 (p.part : Nat), .int .u32 (p.src : Nat), .int .u32 (p.dst : Nat), .string p.c, .string p.m] 58) := by rw [hw0, hbx]; exact heap_alloc_last w _
  have HR := Lib.hid (ready_fix limit seed own so z scap ops w0 hsn h1 h2 hz hz2 (hS.grow hb0) gs rs hpl)
  have HB := Lib.hid (fun w => show Calls Try.prog 23 #[.agg #[.int .u8 (p.tos.toNat : Nat), .int .u8 (p.life.toNat : Nat), .int .u8 (p.proto.toNat : Nat), .int .u16 (p.id : Nat), .int .u16 (p.part : Nat), .int .u32 (p.src : Nat), .int .u32 (p.dst : Nat), .string p.c, .string p.m]] w _ from built_any p hp w)
  have HS1 := Lib.hid (fun w => strange_any p.src hp.src w)
  have HS2 := Lib.hid (fun w => strange_any p.dst hp.dst w)
  have HV := Lib.hid hV
  have Hn := Lib.hid (nP_le p)
  have Hg0 := Lib.hid hg0
  have Hb0 := Lib.hid hb0
  have Hw0 := Lib.hid hw0
  have Hbx := Lib.hid hbx
  have Hdst := Lib.hid hp.dst
  clear hw0 hbx hb0 hg0 hsn h1 h2 hz hz2 hS hpl hV hp
  unfold pkV
  go_enter Try.func6, Try.ntmps6
  go_wp2_with fail
  rw [← Hw0.out, ← Hbx.out]
  refine HR.out.mono ?_
  rintro e w1 ⟨T, rfl, hb1, hT⟩
  have Hb1 := Lib.hid (Hb0.out.trans (hb1.mono Hb0.out.size))
  have hg1 := row_below hb1 Hg0.out (Array.getElem?_eq_some_iff.1 Hg0.out).1
  have HT := Lib.hid hT
  have Hg1 := Lib.hid hg1
  have k0 := cl20 hg1 (j := 0) rfl
  have k1 := cl20 hg1 (j := 1) rfl
  have k2 := cl20 hg1 (j := 2) rfl
  have k3 := cl20 hg1 (j := 3) rfl
  have k4 := cl20 hg1 (j := 4) rfl
  have k5 := cl20 hg1 (j := 5) rfl
  have k6 := cl20 hg1 (j := 6) rfl
  have k7 := cl20 hg1 (j := 7) rfl
  have k8 := cl20 hg1 (j := 8) rfl
  clear hb1 hT hg1 HR Hg0 Hb0
  go_wp2_with fail
  refine (HB.out _).mono ?_
  rintro e w2 ⟨S, rfl, hSl, hb2⟩
  have hF := HT.out.fw w2 hb2 S
  rw [show S.data.toList = pt p from hSl, HV.out] at hF
  have HF := Lib.hid hF
  have HT2 := Lib.hid (HT.out.grow hb2)
  have hg2 := row_below hb2 Hg1.out (Array.getElem?_eq_some_iff.1 Hg1.out).1
  have Hg2 := Lib.hid hg2
  have Hb2 := Lib.hid (Hb1.out.trans (hb2.mono Hb1.out.size))
  have HSl := Lib.hid (show S.data.toList = pt p from hSl)
  clear k0 k1 k2 k3 k4 k5 k6 k7 k8 hb2 hSl hF HB HT Hg1 Hb1 hg2 HV
  unfold vV at HF
  obtain ⟨ou, hou⟩ : ∃ ou : ByteArray, ou = ⟨ol.toArray⟩ := ⟨_, rfl⟩
  have Hou := Lib.hid (show ou.data.toList = ol by rw [hou])
  replace HF := Lib.hid HF.out
  simp only [← hou] at HF
  clear hou
  go_wp2_with fail
  refine HF.out.mono ?_
  rintro e w3 ⟨rfl, hb3⟩
  have HT3 := Lib.hid (HT2.out.grow hb3)
  have hg3 := row_below hb3 Hg2.out (Array.getElem?_eq_some_iff.1 Hg2.out).1
  have Hg3 := Lib.hid hg3
  have Hb3 := Lib.hid (Hb2.out.trans (hb3.mono Hb2.out.size))
  have hlt3 : bx < w3.heap.size := (Array.getElem?_eq_some_iff.1 hg3).1
  clear hb3 HF HT2 Hg2 Hb2
  have k1 := cl20 hg3 (j := 1) rfl
  have k5 := cl20 hg3 (j := 5) rfl
  have k6 := cl20 hg3 (j := 6) rfl
  clear hg3
  go_wp2_with fail
  obtain ⟨w4, hw4⟩ : ∃ w4, w4 = w3.alloc (.cells #[.int .i64 kd, .int .i64 7, .int .i64 0, .string ou] 63) := ⟨_, rfl⟩
  obtain ⟨bv, hbv⟩ : ∃ bv, bv = w3.heap.size := ⟨_, rfl⟩
  rw [← hw4, ← hbv]
  have hgv : w4.heap[bv]? = some (.cells #[.int .i64 kd, .int .i64 7, .int .i64 0, .string ou] 63) := by rw [hw4, hbv]; exact heap_alloc_last w3 _
  have hb4 : Below w3.heap.size w3 w4 := by rw [hw4]; exact below1 w3 _
  have hg4 := row_below hb4 Hg3.out (Array.getElem?_eq_some_iff.1 Hg3.out).1
  have Hgv := Lib.hid hgv
  have Hg4 := Lib.hid hg4
  have HT4 := Lib.hid (HT3.out.grow hb4)
  have Hb4 := Lib.hid (Hb3.out.trans (hb4.mono Hb3.out.size))
  clear hb4 hw4 hbv Hg3 HT3 Hb3 hlt3 k1 k5 k6
  have k1 := cl20 hg4 (j := 1) rfl
  have k5 := cl20 hg4 (j := 5) rfl
  have k6 := cl20 hg4 (j := 6) rfl
  have v0 := cl20 hgv (j := 0) rfl
  have v1 := cl20 hgv (j := 1) rfl
  have v2 := cl20 hgv (j := 2) rfl
  have v3 := cl20 hgv (j := 3) rfl
  clear hg4 hgv
  rw [hm1] at HS1
  rw [hm2] at HS2
  clear hm1 hm2
  refine (HS1.out _).mono ?_
  rintro e w5 ⟨rfl, hw5⟩
  rw [hw5]
  clear hw5 w5
  go_wp2_with fail
  refine (HS2.out _).mono ?_
  rintro e w5 ⟨rfl, hw5⟩
  rw [hw5]
  clear hw5 w5 k5
  have hwd : IntKind.u64.wrap (p.dst : Int) = (p.dst : Int) := by have := Hdst.out; simp [IntKind.wrap, IntKind.bits, IntKind.signed]; omega
  go_wp2_with fail
  refine (HT4.out.lk w4 (Below.refl _ _) p.dst Hdst.out).mono ?_
  rintro e w5 ⟨ao, n, cap, rfl, hb5⟩
  obtain ⟨w6, hw6⟩ : ∃ w6, w6 = w5.alloc (.cells #[.int .i64 (lookLT rs (4, 0, p.dst)), .int .i64 (lookGT rs (4, 0, p.dst)), .slice ao n cap] 33) := ⟨_, rfl⟩
  obtain ⟨bf, hbf⟩ : ∃ bf, bf = w5.heap.size := ⟨_, rfl⟩
  have hb6 : Below w4.heap.size w4 w6 := by rw [hw6]; exact hb5.trans ((below1 w5 _).mono hb5.size)
  have hgf : w6.heap[bf]? = some (.cells #[.int .i64 (lookLT rs (4, 0, p.dst)), .int .i64 (lookGT rs (4, 0, p.dst)), .slice ao n cap] 33) := by rw [hw6, hbf]; exact heap_alloc_last w5 _
  have Hw6 := Lib.hid hw6
  have Hbf := Lib.hid hbf
  have hg6 := row_below hb6 Hg4.out (Array.getElem?_eq_some_iff.1 Hg4.out).1
  have hgv6 := row_below hb6 Hgv.out (Array.getElem?_eq_some_iff.1 Hgv.out).1
  have Hg6 := Lib.hid hg6
  have Hgv6 := Lib.hid hgv6
  have Hgf := Lib.hid hgf
  have HT6 := Lib.hid (HT4.out.grow hb6)
  have Hb6 := Lib.hid (Hb4.out.trans (hb6.mono Hb4.out.size))
  clear k1 k6 v0 v1 v2 v3 hw6 hbf hb5 Hg4 Hgv HT4 Hb4
  have k1 := cl20 hg6 (j := 1) rfl
  have v0 := cl20 hgv6 (j := 0) rfl
  have v1 := cl20 hgv6 (j := 1) rfl
  have v2 := cl20 hgv6 (j := 2) rfl
  have v3 := cl20 hgv6 (j := 3) rfl
  have f1 := cl20 hgf (j := 1) rfl
  clear hb6 hgf hg6 hgv6
  rw [hG] at f1 Hw6
  rw [hG]
  clear hG
  go_upto_region 9 with fail
  rw [← Hw6.out, ← Hbf.out]
  rcases hkd with rfl | rfl
  all_goals
    go_wp2
    go_ret
    exact ⟨rfl, Hb6.out⟩
end Go.Proofs.Ytnfkgnjeamnhfab
namespace Go.Proofs.Ytnfkgnjeamnhfab
open Go.RowKit Go.Sort

set_option maxRecDepth 4000 in
set_option maxHeartbeats 4000000 in
theorem sent_old (limit seed own : Int) (so : Option Addr) (z scap : Nat) (ops : List AOp) (p : Pk) (hp : PkFit p) (w : World) (hsn : Rg seed own) (h1 : ¬ limit < 1) (h2 : ¬ 256 < limit) (hz : ops.length = z) (hz2 : z ≤ 1400000000000) (hS : ScrK w.heap.size w so ops) (gs : Nat → List Int) (rs : List Rt) (hpl : playA limit (gz seed own) [] ops gs rs) (hm1 : mart (p.src / 16777216) = false) (hm2 : mart (p.dst / 16777216) = false) (hG1 : lookGT rs (4, 0, p.dst) ≠ -1) (hG : hasB gs (lookGT rs (4, 0, p.dst)) = true) (kd : Int) (hkd : kd = 3 ∨ kd = 0) (hlf : p.life.toNat < 2) (ol : List UInt8) (hV : fwdV (ownN gs) (pt p) (fun tg => pkE rs (4, 0, tg)) (fun tg fl => pkH gs rs (4, 0, tg) fl) = ⟨kd, 8, 0, ol⟩) :
    Calls Try.prog 6 #[.int .i64 limit, .int .u64 seed, .int .u32 own, .slice so z scap, pkV p] w fun e w' => e = .returned (.bool true) ∧ Below w.heap.size w w' := by
  obtain ⟨w0, hw0⟩ : ∃ w0, w0 = w.alloc (.cells #[.int .u8 (p.tos.toNat : Nat), .int .u8 (p.life.toNat : Nat), .int .u8 (p.proto.toNat : Nat), .int .u16 (p.id : Nat), .int .u16 (p.part : Nat), .int .u32 (p.src : Nat), .int .u32 (p.dst : Nat), .string p.c, .string p.m] 58) := ⟨_, rfl⟩
  obtain ⟨bx, hbx⟩ : ∃ bx, bx = w.heap.size := ⟨_, rfl⟩
  have hb0 : Below w.heap.size w w0 := by rw [hw0]; exact below1 w _
  have hg0 : w0.heap[bx]? = some (.cells #[.int .u8 (p.tos.toNat : Nat), .int .u8 (p.life.toNat : Nat), .int .u8 (p.proto.toNat : Nat), .int .u16 (p.id : Nat), .int .u16 (p.part : Nat), .int .u32 (p.src : Nat), .int .u32 (p.dst : Nat), .string p.c, .string p.m] 58) := by rw [hw0, hbx]; exact heap_alloc_last w _
  have HR := Lib.hid (ready_fix limit seed own so z scap ops w0 hsn h1 h2 hz hz2 (hS.grow hb0) gs rs hpl)
  have HB := Lib.hid (fun w => show Calls Try.prog 23 #[.agg #[.int .u8 (p.tos.toNat : Nat), .int .u8 (p.life.toNat : Nat), .int .u8 (p.proto.toNat : Nat), .int .u16 (p.id : Nat), .int .u16 (p.part : Nat), .int .u32 (p.src : Nat), .int .u32 (p.dst : Nat), .string p.c, .string p.m]] w _ from built_any p hp w)
  have HS1 := Lib.hid (fun w => strange_any p.src hp.src w)
  have HS2 := Lib.hid (fun w => strange_any p.dst hp.dst w)
  have HV := Lib.hid hV
  have Hn := Lib.hid (nP_le p)
  have Hg0 := Lib.hid hg0
  have Hb0 := Lib.hid hb0
  have Hw0 := Lib.hid hw0
  have Hbx := Lib.hid hbx
  have Hdst := Lib.hid hp.dst
  clear hw0 hbx hb0 hg0 hsn h1 h2 hz hz2 hS hpl hV hp
  unfold pkV
  go_enter Try.func6, Try.ntmps6
  go_wp2_with fail
  rw [← Hw0.out, ← Hbx.out]
  refine HR.out.mono ?_
  rintro e w1 ⟨T, rfl, hb1, hT⟩
  have Hb1 := Lib.hid (Hb0.out.trans (hb1.mono Hb0.out.size))
  have hg1 := row_below hb1 Hg0.out (Array.getElem?_eq_some_iff.1 Hg0.out).1
  have HT := Lib.hid hT
  have Hg1 := Lib.hid hg1
  have k0 := cl20 hg1 (j := 0) rfl
  have k1 := cl20 hg1 (j := 1) rfl
  have k2 := cl20 hg1 (j := 2) rfl
  have k3 := cl20 hg1 (j := 3) rfl
  have k4 := cl20 hg1 (j := 4) rfl
  have k5 := cl20 hg1 (j := 5) rfl
  have k6 := cl20 hg1 (j := 6) rfl
  have k7 := cl20 hg1 (j := 7) rfl
  have k8 := cl20 hg1 (j := 8) rfl
  clear hb1 hT hg1 HR Hg0 Hb0
  go_wp2_with fail
  refine (HB.out _).mono ?_
  rintro e w2 ⟨S, rfl, hSl, hb2⟩
  have hF := HT.out.fw w2 hb2 S
  rw [show S.data.toList = pt p from hSl, HV.out] at hF
  have HF := Lib.hid hF
  have HT2 := Lib.hid (HT.out.grow hb2)
  have hg2 := row_below hb2 Hg1.out (Array.getElem?_eq_some_iff.1 Hg1.out).1
  have Hg2 := Lib.hid hg2
  have Hb2 := Lib.hid (Hb1.out.trans (hb2.mono Hb1.out.size))
  have HSl := Lib.hid (show S.data.toList = pt p from hSl)
  clear k0 k1 k2 k3 k4 k5 k6 k7 k8 hb2 hSl hF HB HT Hg1 Hb1 hg2 HV
  unfold vV at HF
  obtain ⟨ou, hou⟩ : ∃ ou : ByteArray, ou = ⟨ol.toArray⟩ := ⟨_, rfl⟩
  have Hou := Lib.hid (show ou.data.toList = ol by rw [hou])
  replace HF := Lib.hid HF.out
  simp only [← hou] at HF
  clear hou
  go_wp2_with fail
  refine HF.out.mono ?_
  rintro e w3 ⟨rfl, hb3⟩
  have HT3 := Lib.hid (HT2.out.grow hb3)
  have hg3 := row_below hb3 Hg2.out (Array.getElem?_eq_some_iff.1 Hg2.out).1
  have Hg3 := Lib.hid hg3
  have Hb3 := Lib.hid (Hb2.out.trans (hb3.mono Hb2.out.size))
  have hlt3 : bx < w3.heap.size := (Array.getElem?_eq_some_iff.1 hg3).1
  clear hb3 HF HT2 Hg2 Hb2
  have k1 := cl20 hg3 (j := 1) rfl
  have k5 := cl20 hg3 (j := 5) rfl
  have k6 := cl20 hg3 (j := 6) rfl
  clear hg3
  go_wp2_with fail
  obtain ⟨w4, hw4⟩ : ∃ w4, w4 = w3.alloc (.cells #[.int .i64 kd, .int .i64 8, .int .i64 0, .string ou] 63) := ⟨_, rfl⟩
  obtain ⟨bv, hbv⟩ : ∃ bv, bv = w3.heap.size := ⟨_, rfl⟩
  rw [← hw4, ← hbv]
  have hgv : w4.heap[bv]? = some (.cells #[.int .i64 kd, .int .i64 8, .int .i64 0, .string ou] 63) := by rw [hw4, hbv]; exact heap_alloc_last w3 _
  have hb4 : Below w3.heap.size w3 w4 := by rw [hw4]; exact below1 w3 _
  have hg4 := row_below hb4 Hg3.out (Array.getElem?_eq_some_iff.1 Hg3.out).1
  have Hgv := Lib.hid hgv
  have Hg4 := Lib.hid hg4
  have HT4 := Lib.hid (HT3.out.grow hb4)
  have Hb4 := Lib.hid (Hb3.out.trans (hb4.mono Hb3.out.size))
  clear hb4 hw4 hbv Hg3 HT3 Hb3 hlt3 k1 k5 k6
  have k1 := cl20 hg4 (j := 1) rfl
  have k5 := cl20 hg4 (j := 5) rfl
  have k6 := cl20 hg4 (j := 6) rfl
  have v0 := cl20 hgv (j := 0) rfl
  have v1 := cl20 hgv (j := 1) rfl
  have v2 := cl20 hgv (j := 2) rfl
  have v3 := cl20 hgv (j := 3) rfl
  clear hg4 hgv
  rw [hm1] at HS1
  rw [hm2] at HS2
  clear hm1 hm2
  refine (HS1.out _).mono ?_
  rintro e w5 ⟨rfl, hw5⟩
  rw [hw5]
  clear hw5 w5
  go_wp2_with fail
  refine (HS2.out _).mono ?_
  rintro e w5 ⟨rfl, hw5⟩
  rw [hw5]
  clear hw5 w5 k5
  have hwd : IntKind.u64.wrap (p.dst : Int) = (p.dst : Int) := by have := Hdst.out; simp [IntKind.wrap, IntKind.bits, IntKind.signed]; omega
  go_wp2_with fail
  refine (HT4.out.lk w4 (Below.refl _ _) p.dst Hdst.out).mono ?_
  rintro e w5 ⟨ao, n, cap, rfl, hb5⟩
  obtain ⟨w6, hw6⟩ : ∃ w6, w6 = w5.alloc (.cells #[.int .i64 (lookLT rs (4, 0, p.dst)), .int .i64 (lookGT rs (4, 0, p.dst)), .slice ao n cap] 33) := ⟨_, rfl⟩
  obtain ⟨bf, hbf⟩ : ∃ bf, bf = w5.heap.size := ⟨_, rfl⟩
  have hb6 : Below w4.heap.size w4 w6 := by rw [hw6]; exact hb5.trans ((below1 w5 _).mono hb5.size)
  have hgf : w6.heap[bf]? = some (.cells #[.int .i64 (lookLT rs (4, 0, p.dst)), .int .i64 (lookGT rs (4, 0, p.dst)), .slice ao n cap] 33) := by rw [hw6, hbf]; exact heap_alloc_last w5 _
  have Hw6 := Lib.hid hw6
  have Hbf := Lib.hid hbf
  have hg6 := row_below hb6 Hg4.out (Array.getElem?_eq_some_iff.1 Hg4.out).1
  have hgv6 := row_below hb6 Hgv.out (Array.getElem?_eq_some_iff.1 Hgv.out).1
  have Hg6 := Lib.hid hg6
  have Hgv6 := Lib.hid hgv6
  have Hgf := Lib.hid hgf
  have HT6 := Lib.hid (HT4.out.grow hb6)
  have Hb6 := Lib.hid (Hb4.out.trans (hb6.mono Hb4.out.size))
  clear k1 k6 v0 v1 v2 v3 hw6 hbf hb5 Hg4 Hgv HT4 Hb4
  have k1 := cl20 hg6 (j := 1) rfl
  have v0 := cl20 hgv6 (j := 0) rfl
  have v1 := cl20 hgv6 (j := 1) rfl
  have v2 := cl20 hgv6 (j := 2) rfl
  have v3 := cl20 hgv6 (j := 3) rfl
  have f1 := cl20 hgf (j := 1) rfl
  clear hb6 hgf hg6 hgv6
  obtain ⟨G, hGe⟩ : ∃ G, G = lookGT rs (4, 0, p.dst) := ⟨_, rfl⟩
  rw [← hGe] at f1 Hw6 hG hG1
  rw [← hGe]
  clear hGe Hgf
  go_upto_region 9 with fail
  rw [← Hw6.out, ← Hbf.out]
  have hgi : (G == -1) = false := ine_beq hG1
  go_wp2_with fail
  refine (HT6.out.hp w6 (Below.refl _ _) G).mono ?_
  rintro e w7 (⟨h7, -⟩ | ⟨-, g, c, rfl, -, -, hrow, hb7⟩)
  · rw [hG] at h7; cases h7
  have hg7 := row_below hb7 Hg6.out (Array.getElem?_eq_some_iff.1 Hg6.out).1
  have hgv7 := row_below hb7 Hgv6.out (Array.getElem?_eq_some_iff.1 Hgv6.out).1
  have Hb7 := Lib.hid (Hb6.out.trans (hb7.mono Hb6.out.size))
  have HRd := Lib.hid (rd_row hrow rfl)
  obtain ⟨nl, hnl⟩ : ∃ nl, nl = (gs G.toNat).length := ⟨_, rfl⟩
  rw [← hnl] at HRd
  rw [← hnl]
  have Hnl := Lib.hid hnl
  clear k1 v0 v1 v2 v3 f1 hnl hrow hb7 Hg6 Hgv6 HT6 Hb6 hgi Hw6 Hbf
  have k1 := cl20 hg7 (j := 1) rfl
  have v0 := cl20 hgv7 (j := 0) rfl
  have v1 := cl20 hgv7 (j := 1) rfl
  have v2 := cl20 hgv7 (j := 2) rfl
  have v3 := cl20 hgv7 (j := 3) rfl
  clear hg7 hgv7
  have hl2 : decide ((p.life.toNat : Int) < 2) = true := decide_eq_true (by omega)
  rcases hkd with rfl | rfl
  all_goals
    go_wp2
    go_ret
    exact ⟨rfl, Hb7.out⟩
end Go.Proofs.Ytnfkgnjeamnhfab
namespace Go.Proofs.Ytnfkgnjeamnhfab
open Go.RowKit Go.Sort

set_option maxRecDepth 4000 in
set_option maxHeartbeats 4000000 in
theorem sent_home (limit seed own : Int) (so : Option Addr) (z scap : Nat) (ops : List AOp) (p : Pk) (hp : PkFit p) (w : World) (hsn : Rg seed own) (h1 : ¬ limit < 1) (h2 : ¬ 256 < limit) (hz : ops.length = z) (hz2 : z ≤ 1400000000000) (hS : ScrK w.heap.size w so ops) (gs : Nat → List Int) (rs : List Rt) (hpl : playA limit (gz seed own) [] ops gs rs) (hm1 : mart (p.src / 16777216) = false) (hm2 : mart (p.dst / 16777216) = false) (hG1 : lookGT rs (4, 0, p.dst) ≠ -1) (hG : hasB gs (lookGT rs (4, 0, p.dst)) = true) (hxs : (0 : Int) ∈ gs (lookGT rs (4, 0, p.dst)).toNat) (hlen : (gs (lookGT rs (4, 0, p.dst)).toNat).length ≤ 1000) (ol : List UInt8) (hol : ol = sealL (hdL p) ++ bdL p) (hV : fwdV (ownN gs) (pt p) (fun tg => pkE rs (4, 0, tg)) (fun tg fl => pkH gs rs (4, 0, tg) fl) = ⟨1, 0, 0, ol⟩) :
    Calls Try.prog 6 #[.int .i64 limit, .int .u64 seed, .int .u32 own, .slice so z scap, pkV p] w fun e w' => e = .returned (.bool true) ∧ Below w.heap.size w w' := by
  obtain ⟨w0, hw0⟩ : ∃ w0, w0 = w.alloc (.cells #[.int .u8 (p.tos.toNat : Nat), .int .u8 (p.life.toNat : Nat), .int .u8 (p.proto.toNat : Nat), .int .u16 (p.id : Nat), .int .u16 (p.part : Nat), .int .u32 (p.src : Nat), .int .u32 (p.dst : Nat), .string p.c, .string p.m] 58) := ⟨_, rfl⟩
  obtain ⟨bx, hbx⟩ : ∃ bx, bx = w.heap.size := ⟨_, rfl⟩
  have hb0 : Below w.heap.size w w0 := by rw [hw0]; exact below1 w _
  have hg0 : w0.heap[bx]? = some (.cells #[.int .u8 (p.tos.toNat : Nat), .int .u8 (p.life.toNat : Nat), .int .u8 (p.proto.toNat : Nat), .int .u16 (p.id : Nat), .int .u16 (p.part : Nat), .int .u32 (p.src : Nat), .int .u32 (p.dst : Nat), .string p.c, .string p.m] 58) := by rw [hw0, hbx]; exact heap_alloc_last w _
  have HR := Lib.hid (ready_fix limit seed own so z scap ops w0 hsn h1 h2 hz hz2 (hS.grow hb0) gs rs hpl)
  have HB := Lib.hid (fun w => show Calls Try.prog 23 #[.agg #[.int .u8 (p.tos.toNat : Nat), .int .u8 (p.life.toNat : Nat), .int .u8 (p.proto.toNat : Nat), .int .u16 (p.id : Nat), .int .u16 (p.part : Nat), .int .u32 (p.src : Nat), .int .u32 (p.dst : Nat), .string p.c, .string p.m]] w _ from built_any p hp w)
  have HS1 := Lib.hid (fun w => strange_any p.src hp.src w)
  have HS2 := Lib.hid (fun w => strange_any p.dst hp.dst w)
  have HV := Lib.hid hV
  have Hn := Lib.hid (nP_le p)
  have Hg0 := Lib.hid hg0
  have Hb0 := Lib.hid hb0
  have Hw0 := Lib.hid hw0
  have Hbx := Lib.hid hbx
  have Hdst := Lib.hid hp.dst
  clear hw0 hbx hb0 hg0 hsn h1 h2 hz hz2 hS hpl hV hp
  unfold pkV
  go_enter Try.func6, Try.ntmps6
  go_wp2_with fail
  rw [← Hw0.out, ← Hbx.out]
  refine HR.out.mono ?_
  rintro e w1 ⟨T, rfl, hb1, hT⟩
  have Hb1 := Lib.hid (Hb0.out.trans (hb1.mono Hb0.out.size))
  have hg1 := row_below hb1 Hg0.out (Array.getElem?_eq_some_iff.1 Hg0.out).1
  have HT := Lib.hid hT
  have Hg1 := Lib.hid hg1
  have k0 := cl20 hg1 (j := 0) rfl
  have k1 := cl20 hg1 (j := 1) rfl
  have k2 := cl20 hg1 (j := 2) rfl
  have k3 := cl20 hg1 (j := 3) rfl
  have k4 := cl20 hg1 (j := 4) rfl
  have k5 := cl20 hg1 (j := 5) rfl
  have k6 := cl20 hg1 (j := 6) rfl
  have k7 := cl20 hg1 (j := 7) rfl
  have k8 := cl20 hg1 (j := 8) rfl
  clear hb1 hT hg1 HR Hg0 Hb0
  go_wp2_with fail
  refine (HB.out _).mono ?_
  rintro e w2 ⟨S, rfl, hSl, hb2⟩
  have hF := HT.out.fw w2 hb2 S
  rw [show S.data.toList = pt p from hSl, HV.out] at hF
  have HF := Lib.hid hF
  have HT2 := Lib.hid (HT.out.grow hb2)
  have hg2 := row_below hb2 Hg1.out (Array.getElem?_eq_some_iff.1 Hg1.out).1
  have Hg2 := Lib.hid hg2
  have Hb2 := Lib.hid (Hb1.out.trans (hb2.mono Hb1.out.size))
  have HSl := Lib.hid (show S.data.toList = pt p from hSl)
  clear k0 k1 k2 k3 k4 k5 k6 k7 k8 hb2 hSl hF HB HT Hg1 Hb1 hg2 HV
  unfold vV at HF
  obtain ⟨ou, hou⟩ : ∃ ou : ByteArray, ou = ⟨ol.toArray⟩ := ⟨_, rfl⟩
  have Hou := Lib.hid (show ou.data.toList = ol by rw [hou])
  replace HF := Lib.hid HF.out
  simp only [← hou] at HF
  clear hou
  go_wp2_with fail
  refine HF.out.mono ?_
  rintro e w3 ⟨rfl, hb3⟩
  have HT3 := Lib.hid (HT2.out.grow hb3)
  have hg3 := row_below hb3 Hg2.out (Array.getElem?_eq_some_iff.1 Hg2.out).1
  have Hg3 := Lib.hid hg3
  have Hb3 := Lib.hid (Hb2.out.trans (hb3.mono Hb2.out.size))
  have hlt3 : bx < w3.heap.size := (Array.getElem?_eq_some_iff.1 hg3).1
  clear hb3 HF HT2 Hg2 Hb2
  have k1 := cl20 hg3 (j := 1) rfl
  have k5 := cl20 hg3 (j := 5) rfl
  have k6 := cl20 hg3 (j := 6) rfl
  clear hg3
  go_wp2_with fail
  obtain ⟨w4, hw4⟩ : ∃ w4, w4 = w3.alloc (.cells #[.int .i64 1, .int .i64 0, .int .i64 0, .string ou] 63) := ⟨_, rfl⟩
  obtain ⟨bv, hbv⟩ : ∃ bv, bv = w3.heap.size := ⟨_, rfl⟩
  rw [← hw4, ← hbv]
  have hgv : w4.heap[bv]? = some (.cells #[.int .i64 1, .int .i64 0, .int .i64 0, .string ou] 63) := by rw [hw4, hbv]; exact heap_alloc_last w3 _
  have hb4 : Below w3.heap.size w3 w4 := by rw [hw4]; exact below1 w3 _
  have hg4 := row_below hb4 Hg3.out (Array.getElem?_eq_some_iff.1 Hg3.out).1
  have Hgv := Lib.hid hgv
  have Hg4 := Lib.hid hg4
  have HT4 := Lib.hid (HT3.out.grow hb4)
  have Hb4 := Lib.hid (Hb3.out.trans (hb4.mono Hb3.out.size))
  clear hb4 hw4 hbv Hg3 HT3 Hb3 hlt3 k1 k5 k6
  have k1 := cl20 hg4 (j := 1) rfl
  have k5 := cl20 hg4 (j := 5) rfl
  have k6 := cl20 hg4 (j := 6) rfl
  have v0 := cl20 hgv (j := 0) rfl
  have v1 := cl20 hgv (j := 1) rfl
  have v2 := cl20 hgv (j := 2) rfl
  have v3 := cl20 hgv (j := 3) rfl
  clear hg4 hgv
  rw [hm1] at HS1
  rw [hm2] at HS2
  clear hm1 hm2
  refine (HS1.out _).mono ?_
  rintro e w5 ⟨rfl, hw5⟩
  rw [hw5]
  clear hw5 w5
  go_wp2_with fail
  refine (HS2.out _).mono ?_
  rintro e w5 ⟨rfl, hw5⟩
  rw [hw5]
  clear hw5 w5 k5
  have hwd : IntKind.u64.wrap (p.dst : Int) = (p.dst : Int) := by have := Hdst.out; simp [IntKind.wrap, IntKind.bits, IntKind.signed]; omega
  go_wp2_with fail
  refine (HT4.out.lk w4 (Below.refl _ _) p.dst Hdst.out).mono ?_
  rintro e w5 ⟨ao, n, cap, rfl, hb5⟩
  obtain ⟨w6, hw6⟩ : ∃ w6, w6 = w5.alloc (.cells #[.int .i64 (lookLT rs (4, 0, p.dst)), .int .i64 (lookGT rs (4, 0, p.dst)), .slice ao n cap] 33) := ⟨_, rfl⟩
  obtain ⟨bf, hbf⟩ : ∃ bf, bf = w5.heap.size := ⟨_, rfl⟩
  have hb6 : Below w4.heap.size w4 w6 := by rw [hw6]; exact hb5.trans ((below1 w5 _).mono hb5.size)
  have hgf : w6.heap[bf]? = some (.cells #[.int .i64 (lookLT rs (4, 0, p.dst)), .int .i64 (lookGT rs (4, 0, p.dst)), .slice ao n cap] 33) := by rw [hw6, hbf]; exact heap_alloc_last w5 _
  have Hw6 := Lib.hid hw6
  have Hbf := Lib.hid hbf
  have hg6 := row_below hb6 Hg4.out (Array.getElem?_eq_some_iff.1 Hg4.out).1
  have hgv6 := row_below hb6 Hgv.out (Array.getElem?_eq_some_iff.1 Hgv.out).1
  have Hg6 := Lib.hid hg6
  have Hgv6 := Lib.hid hgv6
  have Hgf := Lib.hid hgf
  have HT6 := Lib.hid (HT4.out.grow hb6)
  have Hb6 := Lib.hid (Hb4.out.trans (hb6.mono Hb4.out.size))
  clear k1 k6 v0 v1 v2 v3 hw6 hbf hb5 Hg4 Hgv HT4 Hb4
  have k1 := cl20 hg6 (j := 1) rfl
  have v0 := cl20 hgv6 (j := 0) rfl
  have v1 := cl20 hgv6 (j := 1) rfl
  have v2 := cl20 hgv6 (j := 2) rfl
  have v3 := cl20 hgv6 (j := 3) rfl
  have f1 := cl20 hgf (j := 1) rfl
  clear hb6 hgf hg6 hgv6
  have HXS := Lib.hid (And.intro hxs hlen)
  obtain ⟨G, hGe⟩ : ∃ G, G = lookGT rs (4, 0, p.dst) := ⟨_, rfl⟩
  rw [← hGe] at f1 Hw6 hG hG1 HXS
  rw [← hGe]
  clear hGe Hgf
  go_upto_region 9 with fail
  rw [← Hw6.out, ← Hbf.out]
  have hgi : (G == -1) = false := ine_beq hG1
  go_wp2_with fail
  refine (HT6.out.hp w6 (Below.refl _ _) G).mono ?_
  rintro e w7 (⟨h7, -⟩ | ⟨-, g, c, rfl, -, -, hrow, hb7⟩)
  · rw [hG] at h7; cases h7
  have hg7 := row_below hb7 Hg6.out (Array.getElem?_eq_some_iff.1 Hg6.out).1
  have hgv7 := row_below hb7 Hgv6.out (Array.getElem?_eq_some_iff.1 Hgv6.out).1
  have Hb7 := Lib.hid (Hb6.out.trans (hb7.mono Hb6.out.size))
  have HRd := Lib.hid (rd_row hrow rfl)
  obtain ⟨nl, hnl⟩ : ∃ nl, nl = (gs G.toNat).length := ⟨_, rfl⟩
  rw [← hnl] at HRd
  rw [← hnl]
  have Hnl := Lib.hid hnl
  clear k1 v0 v1 v2 v3 f1 hnl hrow hb7 Hg6 Hgv6 HT6 Hb6 hgi Hw6 Hbf
  have k1 := cl20 hg7 (j := 1) rfl
  have v0 := cl20 hgv7 (j := 0) rfl
  have v1 := cl20 hgv7 (j := 1) rfl
  have v2 := cl20 hgv7 (j := 2) rfl
  have v3 := cl20 hgv7 (j := 3) rfl
  clear hg7 hgv7
  have HI := Lib.hid (kis_any (some ⟨g, 0, none⟩) nl c (gs G.toNat) 0 w7 Hnl.out (by rw [Hnl.out]; exact HXS.out.2) HRd.out)
  rw [decide_eq_true HXS.out.1] at HI
  obtain ⟨nn, hnn⟩ : ∃ nn, nn = nP p := ⟨_, rfl⟩
  have hx : S.extract 0 nn = ou := by
    refine ByteArray.ext (Array.toList_inj.1 ?_)
    rw [ext_list, Hou.out, hol, HSl.out, hnn, List.drop_zero]
    exact pt_whole p
  have hns : nn ≤ S.size := by rw [hnn, ← blen, HSl.out]; exact (pt_len p).1
  have q1 : (nn : Int) ≤ (S.size : Int) := by omega
  have q0 : (0 : Int) ≤ (nn : Int) := by omega
  rw [← hnn]
  clear hnn hns Hn HXS hol Hou HSl hG hG1 hxs hlen
  go_wp2_with fail
  refine HI.out.mono ?_
  rintro e w8 ⟨rfl, hw8⟩
  rw [hw8]
  clear hw8 w8
  go_wp2_with fail
  go_big_quiet (fail)
  go_wp2
  go_ret
  exact ⟨rfl, Hb7.out.os, Hb7.out.tape, Hb7.out.output, Hb7.out.size, Hb7.out.block⟩
end Go.Proofs.Ytnfkgnjeamnhfab
namespace Go.Proofs.Ytnfkgnjeamnhfab
open Go.RowKit Go.Sort

theorem ba_ext {a b : ByteArray} (h : a.data.toList = b.data.toList) : a = b := ByteArray.ext (Array.toList_inj.1 h)
theorem less_take {l : List UInt8} (hl : l.length = 20) (b : List UInt8) : (sealL (lessL l) ++ b).take 8 = (l ++ b).take 8 := by
  obtain ⟨b0, b1, b2, b3, b4, b5, b6, b7, b8, b9, b10, b11, b12, b13, b14, b15, b16, b17, b18, b19, rfl⟩ := list20 hl
  rfl
theorem less_drop {l : List UInt8} (hl : l.length = 20) (b : List UInt8) : (sealL (lessL l) ++ b).drop 12 = (l ++ b).drop 12 := by
  rw [List.drop_append_of_le_length (by rw [sealL_len, lessL_len, hl]; decide), List.drop_append_of_le_length (by rw [hl]; decide)]
  obtain ⟨b0, b1, b2, b3, b4, b5, b6, b7, b8, b9, b10, b11, b12, b13, b14, b15, b16, b17, b18, b19, rfl⟩ := list20 hl
  unfold sealL
  generalize ck (zs (lessL [b0, b1, b2, b3, b4, b5, b6, b7, b8, b9, b10, b11, b12, b13, b14, b15, b16, b17, b18, b19])) = c
  rfl
theorem less_8 {l : List UInt8} (hl : l.length = 20) (b : List UInt8) : g1 (sealL (lessL l) ++ b) 8 = (UInt8.ofNat (g1 l 8 - 1)).toNat := by
  obtain ⟨b0, b1, b2, b3, b4, b5, b6, b7, b8, b9, b10, b11, b12, b13, b14, b15, b16, b17, b18, b19, rfl⟩ := list20 hl
  rfl
theorem less_9 {l : List UInt8} (hl : l.length = 20) (b c : List UInt8) : g1 (sealL (lessL l) ++ b) 9 = g1 (l ++ c) 9 := by
  obtain ⟨b0, b1, b2, b3, b4, b5, b6, b7, b8, b9, b10, b11, b12, b13, b14, b15, b16, b17, b18, b19, rfl⟩ := list20 hl
  rfl
theorem less_len (p : Pk) : (sealL (lessL (sealL (hdL p))) ++ bdL p).length = nP p := by
  unfold nP
  rw [List.length_append, sealL_len, lessL_len, hs_len]
theorem less_head (p : Pk) (b : List UInt8) : (sealL (lessL (sealL (hdL p))) ++ b).take 20 = sealL (lessL (sealL (hdL p))) := List.take_left' (by rw [sealL_len, lessL_len, hs_len])
theorem take8_app (a b : List UInt8) (h : 8 ≤ a.length) : (a ++ b).take 8 = a.take 8 := List.take_append_of_le_length h
set_option maxRecDepth 4000 in
set_option maxHeartbeats 4000000 in
theorem sent_on (limit seed own : Int) (so : Option Addr) (z scap : Nat) (ops : List AOp) (p : Pk) (hp : PkFit p) (w : World) (hsn : Rg seed own) (h1 : ¬ limit < 1) (h2 : ¬ 256 < limit) (hz : ops.length = z) (hz2 : z ≤ 1400000000000) (hS : ScrK w.heap.size w so ops) (gs : Nat → List Int) (rs : List Rt) (hpl : playA limit (gz seed own) [] ops gs rs) (hm1 : mart (p.src / 16777216) = false) (hm2 : mart (p.dst / 16777216) = false) (hG1 : lookGT rs (4, 0, p.dst) ≠ -1) (hG : hasB gs (lookGT rs (4, 0, p.dst)) = true) (ho : Int) (hxs : ho ∈ gs (lookGT rs (4, 0, p.dst)).toNat) (hlen : (gs (lookGT rs (4, 0, p.dst)).toNat).length ≤ 1000) (ho0 : ho ≠ 0) (hlf : 1 < p.life.toNat) (ol : List UInt8) (hol : ol = sealL (lessL (sealL (hdL p))) ++ bdL p) (hV : fwdV (ownN gs) (pt p) (fun tg => pkE rs (4, 0, tg)) (fun tg fl => pkH gs rs (4, 0, tg) fl) = ⟨2, 0, ho, ol⟩) :
    Calls Try.prog 6 #[.int .i64 limit, .int .u64 seed, .int .u32 own, .slice so z scap, pkV p] w fun e w' => e = .returned (.bool true) ∧ Below w.heap.size w w' := by
  obtain ⟨w0, hw0⟩ : ∃ w0, w0 = w.alloc (.cells #[.int .u8 (p.tos.toNat : Nat), .int .u8 (p.life.toNat : Nat), .int .u8 (p.proto.toNat : Nat), .int .u16 (p.id : Nat), .int .u16 (p.part : Nat), .int .u32 (p.src : Nat), .int .u32 (p.dst : Nat), .string p.c, .string p.m] 58) := ⟨_, rfl⟩
  obtain ⟨bx, hbx⟩ : ∃ bx, bx = w.heap.size := ⟨_, rfl⟩
  have hb0 : Below w.heap.size w w0 := by rw [hw0]; exact below1 w _
  have hg0 : w0.heap[bx]? = some (.cells #[.int .u8 (p.tos.toNat : Nat), .int .u8 (p.life.toNat : Nat), .int .u8 (p.proto.toNat : Nat), .int .u16 (p.id : Nat), .int .u16 (p.part : Nat), .int .u32 (p.src : Nat), .int .u32 (p.dst : Nat), .string p.c, .string p.m] 58) := by rw [hw0, hbx]; exact heap_alloc_last w _
  have HR := Lib.hid (ready_fix limit seed own so z scap ops w0 hsn h1 h2 hz hz2 (hS.grow hb0) gs rs hpl)
  have HB := Lib.hid (fun w => show Calls Try.prog 23 #[.agg #[.int .u8 (p.tos.toNat : Nat), .int .u8 (p.life.toNat : Nat), .int .u8 (p.proto.toNat : Nat), .int .u16 (p.id : Nat), .int .u16 (p.part : Nat), .int .u32 (p.src : Nat), .int .u32 (p.dst : Nat), .string p.c, .string p.m]] w _ from built_any p hp w)
  have HS1 := Lib.hid (fun w => strange_any p.src hp.src w)
  have HS2 := Lib.hid (fun w => strange_any p.dst hp.dst w)
  have HV := Lib.hid hV
  have Hn := Lib.hid (nP_le p)
  have Hg0 := Lib.hid hg0
  have Hb0 := Lib.hid hb0
  have Hw0 := Lib.hid hw0
  have Hbx := Lib.hid hbx
  have Hdst := Lib.hid hp.dst
  clear hw0 hbx hb0 hg0 hsn h1 h2 hz hz2 hS hpl hV hp
  unfold pkV
  go_enter Try.func6, Try.ntmps6
  go_wp2_with fail
  rw [← Hw0.out, ← Hbx.out]
  refine HR.out.mono ?_
  rintro e w1 ⟨T, rfl, hb1, hT⟩
  have Hb1 := Lib.hid (Hb0.out.trans (hb1.mono Hb0.out.size))
  have hg1 := row_below hb1 Hg0.out (Array.getElem?_eq_some_iff.1 Hg0.out).1
  have HT := Lib.hid hT
  have Hg1 := Lib.hid hg1
  have k0 := cl20 hg1 (j := 0) rfl
  have k1 := cl20 hg1 (j := 1) rfl
  have k2 := cl20 hg1 (j := 2) rfl
  have k3 := cl20 hg1 (j := 3) rfl
  have k4 := cl20 hg1 (j := 4) rfl
  have k5 := cl20 hg1 (j := 5) rfl
  have k6 := cl20 hg1 (j := 6) rfl
  have k7 := cl20 hg1 (j := 7) rfl
  have k8 := cl20 hg1 (j := 8) rfl
  clear hb1 hT hg1 HR Hg0 Hb0
  go_wp2_with fail
  refine (HB.out _).mono ?_
  rintro e w2 ⟨S, rfl, hSl, hb2⟩
  have hF := HT.out.fw w2 hb2 S
  rw [show S.data.toList = pt p from hSl, HV.out] at hF
  have HF := Lib.hid hF
  have HT2 := Lib.hid (HT.out.grow hb2)
  have hg2 := row_below hb2 Hg1.out (Array.getElem?_eq_some_iff.1 Hg1.out).1
  have Hg2 := Lib.hid hg2
  have Hb2 := Lib.hid (Hb1.out.trans (hb2.mono Hb1.out.size))
  have HSl := Lib.hid (show S.data.toList = pt p from hSl)
  clear k0 k1 k2 k3 k4 k5 k6 k7 k8 hb2 hSl hF HB HT Hg1 Hb1 hg2 HV
  unfold vV at HF
  obtain ⟨ou, hou⟩ : ∃ ou : ByteArray, ou = ⟨ol.toArray⟩ := ⟨_, rfl⟩
  have Hou := Lib.hid (show ou.data.toList = ol by rw [hou])
  replace HF := Lib.hid HF.out
  simp only [← hou] at HF
  clear hou
  go_wp2_with fail
  refine HF.out.mono ?_
  rintro e w3 ⟨rfl, hb3⟩
  have HT3 := Lib.hid (HT2.out.grow hb3)
  have hg3 := row_below hb3 Hg2.out (Array.getElem?_eq_some_iff.1 Hg2.out).1
  have Hg3 := Lib.hid hg3
  have Hb3 := Lib.hid (Hb2.out.trans (hb3.mono Hb2.out.size))
  have hlt3 : bx < w3.heap.size := (Array.getElem?_eq_some_iff.1 hg3).1
  clear hb3 HF HT2 Hg2 Hb2
  have k1 := cl20 hg3 (j := 1) rfl
  have k5 := cl20 hg3 (j := 5) rfl
  have k6 := cl20 hg3 (j := 6) rfl
  clear hg3
  go_wp2_with fail
  obtain ⟨w4, hw4⟩ : ∃ w4, w4 = w3.alloc (.cells #[.int .i64 2, .int .i64 0, .int .i64 ho, .string ou] 63) := ⟨_, rfl⟩
  obtain ⟨bv, hbv⟩ : ∃ bv, bv = w3.heap.size := ⟨_, rfl⟩
  rw [← hw4, ← hbv]
  have hgv : w4.heap[bv]? = some (.cells #[.int .i64 2, .int .i64 0, .int .i64 ho, .string ou] 63) := by rw [hw4, hbv]; exact heap_alloc_last w3 _
  have hb4 : Below w3.heap.size w3 w4 := by rw [hw4]; exact below1 w3 _
  have hg4 := row_below hb4 Hg3.out (Array.getElem?_eq_some_iff.1 Hg3.out).1
  have Hgv := Lib.hid hgv
  have Hg4 := Lib.hid hg4
  have HT4 := Lib.hid (HT3.out.grow hb4)
  have Hb4 := Lib.hid (Hb3.out.trans (hb4.mono Hb3.out.size))
  clear hb4 hw4 hbv Hg3 HT3 Hb3 hlt3 k1 k5 k6
  have k1 := cl20 hg4 (j := 1) rfl
  have k5 := cl20 hg4 (j := 5) rfl
  have k6 := cl20 hg4 (j := 6) rfl
  have v0 := cl20 hgv (j := 0) rfl
  have v1 := cl20 hgv (j := 1) rfl
  have v2 := cl20 hgv (j := 2) rfl
  have v3 := cl20 hgv (j := 3) rfl
  clear hg4 hgv
  rw [hm1] at HS1
  rw [hm2] at HS2
  clear hm1 hm2
  refine (HS1.out _).mono ?_
  rintro e w5 ⟨rfl, hw5⟩
  rw [hw5]
  clear hw5 w5
  go_wp2_with fail
  refine (HS2.out _).mono ?_
  rintro e w5 ⟨rfl, hw5⟩
  rw [hw5]
  clear hw5 w5 k5
  have hwd : IntKind.u64.wrap (p.dst : Int) = (p.dst : Int) := by have := Hdst.out; simp [IntKind.wrap, IntKind.bits, IntKind.signed]; omega
  go_wp2_with fail
  refine (HT4.out.lk w4 (Below.refl _ _) p.dst Hdst.out).mono ?_
  rintro e w5 ⟨ao, n, cap, rfl, hb5⟩
  obtain ⟨w6, hw6⟩ : ∃ w6, w6 = w5.alloc (.cells #[.int .i64 (lookLT rs (4, 0, p.dst)), .int .i64 (lookGT rs (4, 0, p.dst)), .slice ao n cap] 33) := ⟨_, rfl⟩
  obtain ⟨bf, hbf⟩ : ∃ bf, bf = w5.heap.size := ⟨_, rfl⟩
  have hb6 : Below w4.heap.size w4 w6 := by rw [hw6]; exact hb5.trans ((below1 w5 _).mono hb5.size)
  have hgf : w6.heap[bf]? = some (.cells #[.int .i64 (lookLT rs (4, 0, p.dst)), .int .i64 (lookGT rs (4, 0, p.dst)), .slice ao n cap] 33) := by rw [hw6, hbf]; exact heap_alloc_last w5 _
  have Hw6 := Lib.hid hw6
  have Hbf := Lib.hid hbf
  have hg6 := row_below hb6 Hg4.out (Array.getElem?_eq_some_iff.1 Hg4.out).1
  have hgv6 := row_below hb6 Hgv.out (Array.getElem?_eq_some_iff.1 Hgv.out).1
  have Hg6 := Lib.hid hg6
  have Hgv6 := Lib.hid hgv6
  have Hgf := Lib.hid hgf
  have HT6 := Lib.hid (HT4.out.grow hb6)
  have Hb6 := Lib.hid (Hb4.out.trans (hb6.mono Hb4.out.size))
  clear k1 k6 v0 v1 v2 v3 hw6 hbf hb5 Hg4 Hgv HT4 Hb4
  have k1 := cl20 hg6 (j := 1) rfl
  have v0 := cl20 hgv6 (j := 0) rfl
  have v1 := cl20 hgv6 (j := 1) rfl
  have v2 := cl20 hgv6 (j := 2) rfl
  have v3 := cl20 hgv6 (j := 3) rfl
  have f1 := cl20 hgf (j := 1) rfl
  clear hb6 hgf hg6 hgv6
  have HXS := Lib.hid (And.intro hxs hlen)
  obtain ⟨G, hGe⟩ : ∃ G, G = lookGT rs (4, 0, p.dst) := ⟨_, rfl⟩
  rw [← hGe] at f1 Hw6 hG hG1 HXS
  rw [← hGe]
  clear hGe Hgf
  go_upto_region 9 with fail
  rw [← Hw6.out, ← Hbf.out]
  have hgi : (G == -1) = false := ine_beq hG1
  go_wp2_with fail
  refine (HT6.out.hp w6 (Below.refl _ _) G).mono ?_
  rintro e w7 (⟨h7, -⟩ | ⟨-, g, c, rfl, -, -, hrow, hb7⟩)
  · rw [hG] at h7; cases h7
  have hg7 := row_below hb7 Hg6.out (Array.getElem?_eq_some_iff.1 Hg6.out).1
  have hgv7 := row_below hb7 Hgv6.out (Array.getElem?_eq_some_iff.1 Hgv6.out).1
  have Hb7 := Lib.hid (Hb6.out.trans (hb7.mono Hb6.out.size))
  have HRd := Lib.hid (rd_row hrow rfl)
  obtain ⟨nl, hnl⟩ : ∃ nl, nl = (gs G.toNat).length := ⟨_, rfl⟩
  rw [← hnl] at HRd
  rw [← hnl]
  have Hnl := Lib.hid hnl
  clear k1 v0 v1 v2 v3 f1 hnl hrow hb7 Hg6 Hgv6 HT6 Hb6 hgi Hw6 Hbf
  have k1 := cl20 hg7 (j := 1) rfl
  have v0 := cl20 hgv7 (j := 0) rfl
  have v1 := cl20 hgv7 (j := 1) rfl
  have v2 := cl20 hgv7 (j := 2) rfl
  have v3 := cl20 hgv7 (j := 3) rfl
  clear hg7 hgv7
  have HI := Lib.hid (kis_any (some ⟨g, 0, none⟩) nl c (gs G.toNat) ho w7 Hnl.out (by rw [Hnl.out]; exact HXS.out.2) HRd.out)
  rw [decide_eq_true HXS.out.1] at HI
  obtain ⟨nn, hnn⟩ : ∃ nn, nn = nP p := ⟨_, rfl⟩
  have hns : nn ≤ S.size := by rw [hnn, ← blen, HSl.out]; exact (pt_len p).1
  have hos : ou.size = nn := by rw [hnn, ← blen, Hou.out, hol]; exact less_len p
  have hn20 : 20 ≤ nn := by rw [hnn]; exact (pt_len p).2
  have hpt : pt p = sealL (hdL p) ++ (bdL p ++ p.m.data.toList) := by unfold pt; rw [List.append_assoc]
  have hx8 : ou.extract 0 8 = S.extract 0 8 := ba_ext (by rw [ext_list, ext_list, Hou.out, hol, HSl.out, List.drop_zero, List.drop_zero, less_take (hs_len p), hpt, take8_app _ _ (by rw [hs_len]; decide), take8_app _ _ (by rw [hs_len]; decide)])
  have hx12 : ou.extract 12 nn = S.extract 12 nn := ba_ext (by rw [ext_list, ext_list, Hou.out, hol, HSl.out, hnn, pt_whole, List.take_of_length_le (by rw [less_len]; exact Nat.le_refl _), less_drop (hs_len p)])
  have l8 : 8 < ou.size := by omega
  have l9 : 9 < ou.size := by omega
  have m9 : 9 < S.size := by omega
  have hlt := p.life.toNat_lt
  have hg8 : ((ou[8]'l8).toNat : Int) = (p.life.toNat : Int) - 1 := by
    have : (ou[8]'l8).toNat = p.life.toNat - 1 := by rw [← g1_b l8, Hou.out, hol, less_8 (hs_len p), hs_8, u8_of (by omega)]
    omega
  have hg9 : (ou[9]'l9).toNat = (S[9]'m9).toNat := by rw [← g1_b l9, ← g1_b m9, Hou.out, hol, HSl.out, hpt, less_9 (hs_len p)]
  obtain ⟨o20, ho20⟩ : ∃ o, o = ou.extract 0 20 := ⟨_, rfl⟩
  have d20 : o20.data.toList = sealL (lessL (sealL (hdL p))) := by rw [ho20, ext_list, Hou.out, hol, List.drop_zero, less_head]
  have HSm := Lib.hid (fun w => ksum_any o20 (by rw [← blen, d20, sealL_len, lessL_len, hs_len]; decide) w)
  rw [d20, seal_sum (by rw [lessL_len, hs_len])] at HSm
  have hwl : IntKind.u8.wrap ((p.life.toNat : Int) - 1) = (p.life.toNat : Int) - 1 := by simp [IntKind.wrap, IntKind.bits, IntKind.signed]; omega
  have hl2 : decide ((p.life.toNat : Int) < 2) = false := decide_eq_false (by omega)
  have hoi : (ho == 0) = false := ine_beq ho0
  have q1 : (nn : Int) ≤ (S.size : Int) := by omega
  have q0 : (0 : Int) ≤ (nn : Int) := by omega
  have q2 : (20 : Int) ≤ (nn : Int) := by omega
  have q3 : (8 : Int) ≤ (nn : Int) := by omega
  have q4 : (8 : Int) ≤ (S.size : Int) := by omega
  have q5 : (8 : Int) < (nn : Int) := by omega
  have q6 : (9 : Int) < (nn : Int) := by omega
  have q7 : (9 : Int) < (S.size : Int) := by omega
  have q8 : (12 : Int) ≤ (nn : Int) := by omega
  rw [← hnn]
  clear hnn hns Hn HXS hol Hou HSl hG hG1 hxs hlen hpt d20 hlf ho0 hlt
  go_wp2_with fail
  refine HI.out.mono ?_
  rintro e w8 ⟨rfl, hw8⟩
  rw [hw8]
  clear hw8 w8
  go_wp2_with fail
  rw [← ho20]
  refine (HSm.out _).mono ?_
  rintro e w8 ⟨rfl, hw8⟩
  rw [hw8]
  clear hw8 w8
  go_wp2_with fail
  go_big_quiet (fail)
  go_wp2
  go_ret
  exact ⟨rfl, Hb7.out.os, Hb7.out.tape, Hb7.out.output, Hb7.out.size, Hb7.out.block⟩
end Go.Proofs.Ytnfkgnjeamnhfab
namespace Go.Proofs.Ytnfkgnjeamnhfab
open Go.RowKit Go.Sort

theorem Ok.hops8 {gs : Nat → List Int} {rs : List Rt} {lim : Int} (h : Ok gs rs lim) {g : Int} (hg : hasB gs g = true) : (gs g.toNat).length ≤ 1000 := by
  obtain ⟨j, rfl, hj, h0⟩ := hasB_some hg
  rw [Int.toNat_natCast]
  rcases h.hops j hj with h1 | h1
  · omega
  · have := (goodB_len h1).2; omega
theorem ans_kind (l b : List UInt8) (own : Nat) (r : Int) : ∃ kd ol, (kd = 3 ∨ kd = 0) ∧ ansV l b own r = ⟨kd, r, 0, ol⟩ := by
  unfold ansV
  split
  · exact ⟨3, _, .inl rfl, rfl⟩
  · exact ⟨0, _, .inr rfl, rfl⟩
set_option maxRecDepth 4000 in
set_option maxHeartbeats 2000000 in
theorem sent_no (limit seed own : Int) (so : Option Addr) (z scap : Nat) (p : Pk) (w : World) (h : limit < 1 ∨ 256 < limit) :
    Calls Try.prog 6 #[.int .i64 limit, .int .u64 seed, .int .u32 own, .slice so z scap, pkV p] w fun e w' => e = .returned (.bool true) ∧ Below w.heap.size w w' := by
  have H1 := Lib.hid (fun w => ready_no limit seed own so z scap w h)
  clear h
  unfold pkV
  go_enter Try.func6, Try.ntmps6
  go_wp2_with fail
  refine (H1.out _).mono ?_
  rintro e w1 ⟨rfl, hb⟩
  have HB := Lib.hid ((below1 w _).trans (hb.mono (below1 w _).size))
  clear hb
  go_wp2
  go_ret
  exact ⟨rfl, HB.out⟩
set_option maxRecDepth 4000 in
set_option maxHeartbeats 2000000 in
theorem sent_void (limit seed own : Int) (so : Option Addr) (z scap : Nat) (ops : List AOp) (p : Pk) (w : World) (hsn : Rg seed own) (h1 : ¬ limit < 1) (h2 : ¬ 256 < limit) (hz : ops.length = z) (hz2 : z ≤ 1400000000000) (hS : ScrK w.heap.size w so ops) (hex : ¬ ∃ gs rs, playA limit (gz seed own) [] ops gs rs ∧ Ok gs rs limit) :
    Calls Try.prog 6 #[.int .i64 limit, .int .u64 seed, .int .u32 own, .slice so z scap, pkV p] w fun e w' => e = .returned (.bool true) ∧ Below w.heap.size w w' := by
  have H1 := Lib.hid (fun (o : Obj) => ready_tab limit seed own so z scap ops (w.alloc o) hsn h1 h2 hz hz2 (hS.grow (below1 w o)))
  clear hsn h1 h2 hz hz2 hS
  unfold pkV
  go_enter Try.func6, Try.ntmps6
  go_wp2_with fail
  refine (H1.out _).mono ?_
  rintro e w1 ⟨T, rfl, -, gs, rs, k1, k2, -⟩
  exact absurd ⟨gs, rs, k1, k2⟩ hex
/-- Sent: the law. -/
theorem sent_law (limit seed own : Int) (so : Option Addr) (z scap : Nat) (ops : List AOp) (p : Pk) (hp : PkFit p) (w : World) (hsn : Rg seed own) (hz : ops.length = z) (hz2 : z ≤ 1400000000000) (hS : ScrK w.heap.size w so ops) :
    Calls Try.prog 6 #[.int .i64 limit, .int .u64 seed, .int .u32 own, .slice so z scap, pkV p] w fun e w' => e = .returned (.bool true) ∧ Below w.heap.size w w' := by
  by_cases hlim : limit < 1 ∨ 256 < limit
  · exact sent_no limit seed own so z scap p w hlim
  have h1 : ¬ limit < 1 := fun h => hlim (.inl h)
  have h2 : ¬ 256 < limit := fun h => hlim (.inr h)
  rcases Classical.em (∃ gs rs, playA limit (gz seed own) [] ops gs rs ∧ Ok gs rs limit) with ⟨gs, rs, hpl, hok⟩ | hex
  case' inr => exact sent_void limit seed own so z scap ops p w hsn h1 h2 hz hz2 hS hex
  by_cases hm : mart (p.src / 16777216) = true ∨ mart (p.dst / 16777216) = true
  · exact sent_mart limit seed own so z scap ops p hp w hsn h1 h2 hz hz2 hS gs rs hpl hm (fwd_mart hp _ _ _ hm)
  have hm1 : mart (p.src / 16777216) = false := by rw [Bool.eq_false_iff]; exact fun h => hm (.inl h)
  have hm2 : mart (p.dst / 16777216) = false := by rw [Bool.eq_false_iff]; exact fun h => hm (.inr h)
  have hV := fwd_good hp (ownN gs) (fun tg => pkE rs (4, 0, tg)) (fun tg fl => pkH gs rs (4, 0, tg) fl) hm1 hm2
  simp only [pkE_4 rs hp.dst, pkH_4 gs rs hp.dst] at hV
  by_cases hG1 : lookGT rs (4, 0, p.dst) = -1
  · rw [if_pos hG1, if_pos hG1] at hV
    obtain ⟨kd, ol, hkd, ha⟩ := ans_kind (sealL (hdL p)) (bdL p) (ownN gs) 7
    unfold goV at hV
    rw [if_pos (by decide), ha] at hV
    exact sent_none limit seed own so z scap ops p hp w hsn h1 h2 hz hz2 hS gs rs hpl hm1 hm2 hG1 kd hkd ol hV
  · have hG := (look_grp (gs := gs) hok.grp (a := (4, 0, p.dst)) (adr4 hp.dst)).resolve_left hG1
    rw [if_neg hG1, if_neg hG1] at hV
    have hin := hop_in hG (mixN (flN (sealL (hdL p)) ^^^ sdN gs))
    generalize hopN gs (lookGT rs (4, 0, p.dst)) (mixN (flN (sealL (hdL p)) ^^^ sdN gs)) = ho at *
    unfold goV at hV
    rw [if_neg (by decide), hs_8] at hV
    by_cases h0 : ho = 0
    · rw [if_pos h0] at hV
      rw [h0] at hin
      exact sent_home limit seed own so z scap ops p hp w hsn h1 h2 hz hz2 hS gs rs hpl hm1 hm2 hG1 hG hin (hok.hops8 hG) _ rfl hV
    · rw [if_neg h0] at hV
      by_cases hl : 1 < p.life.toNat
      · rw [if_pos hl] at hV
        exact sent_on limit seed own so z scap ops p hp w hsn h1 h2 hz hz2 hS gs rs hpl hm1 hm2 hG1 hG ho hin (hok.hops8 hG) h0 hl _ rfl hV
      · rw [if_neg hl] at hV
        obtain ⟨kd, ol, hkd, ha⟩ := ans_kind (sealL (hdL p)) (bdL p) (ownN gs) 8
        rw [ha] at hV
        exact sent_old limit seed own so z scap ops p hp w hsn h1 h2 hz hz2 hS gs rs hpl hm1 hm2 hG1 hG kd hkd (by omega) ol hV
end Go.Proofs.Ytnfkgnjeamnhfab
