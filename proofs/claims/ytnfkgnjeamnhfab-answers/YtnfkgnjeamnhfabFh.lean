import Derived.Test.YtnfkgnjeamnhfabFg
namespace Go.Proofs.Ytnfkgnjeamnhfab
open Go.RowKit

/-- The head of an answer to l from own, n bytes behind it, without its checksum. -/
def ansZ (l : List UInt8) (own n : Nat) : List UInt8 := [69, 0, UInt8.ofNat ((20 + n) / 256), UInt8.ofNat ((20 + n) % 256), 0, 0, 0, 0, 64, 1, 0, 0, UInt8.ofNat (own / 16777216), UInt8.ofNat (own / 65536 % 256), UInt8.ofNat (own / 256 % 256), UInt8.ofNat (own % 256), l.getD 12 0, l.getD 13 0, l.getD 14 0, l.getD 15 0]
theorem ansZ_eq (l : List UInt8) {own n : Nat} (ho : own < 4294967296) (hn : n ≤ 36) : (#[.int .u8 69, .int .u8 0, .int .u8 ((20 + (n : Int)) / 256), .int .u8 (20 + (n : Int)), .int .u8 0, .int .u8 0, .int .u8 0, .int .u8 0, .int .u8 64, .int .u8 1, .int .u8 0, .int .u8 0, .int .u8 ((own : Int) / 16777216), .int .u8 ((own : Int) / 65536 % 256), .int .u8 ((own : Int) / 256 % 256), .int .u8 ((own : Int) % 256), .int .u8 (g1 l 12 : Nat), .int .u8 (g1 l 13 : Nat), .int .u8 (g1 l 14 : Nat), .int .u8 (g1 l 15 : Nat)] : Array Value) = hc (ansZ l own n) := by
  simp only [hc, ansZ, List.map_cons, List.map_nil, g1]
  have e1 : (((UInt8.ofNat ((20 + n) / 256)).toNat : Nat) : Int) = (20 + (n : Int)) / 256 := by simp; omega
  have e2 : (((UInt8.ofNat ((20 + n) % 256)).toNat : Nat) : Int) = 20 + (n : Int) := by simp; omega
  have e3 : (((UInt8.ofNat (own / 16777216)).toNat : Nat) : Int) = (own : Int) / 16777216 := by simp; omega
  have e4 : (((UInt8.ofNat (own / 65536 % 256)).toNat : Nat) : Int) = (own : Int) / 65536 % 256 := by simp
  have e5 : (((UInt8.ofNat (own / 256 % 256)).toNat : Nat) : Int) = (own : Int) / 256 % 256 := by simp
  have e6 : (((UInt8.ofNat (own % 256)).toNat : Nat) : Int) = (own : Int) % 256 := by simp
  rw [e1, e2, e3, e4, e5, e6]
  rfl
set_option maxRecDepth 20000 in
set_option maxHeartbeats 1000000 in
theorem answer_any (l : List UInt8) (hl : l.length = 20) (s : ByteArray) (hs : s.size ≤ 1000000) (own : Nat) (ho : own < 4294967296) (r : Int) (w : World) : Calls Try.prog 84 #[pv l s, .int .u32 own, .int .i64 r] w fun e w' => ∃ q : ByteArray, e = .returned (.string q) ∧ q.data.toList = sealL (ansZ l own (noteL (kindB r) (l ++ s.data.toList.take 8)).length) ++ noteL (kindB r) (l ++ s.data.toList.take 8) ∧ Below w.heap.size w w' := by
  have HV := Lib.hid (ldW hl (heap_alloc_last w (.cells (pc l s) 100)))
  have HM := Lib.hid (fun w => message_any l hl s hs r w)
  have e12 := pc_at (s := s) hl (show 12 < 20 by decide)
  have e13 := pc_at (s := s) hl (show 13 < 20 by decide)
  have e14 := pc_at (s := s) hl (show 14 < 20 by decide)
  have e15 := pc_at (s := s) hl (show 15 < 20 by decide)
  have hnl : (noteL (kindB r) (l ++ s.data.toList.take 8)).length ≤ 36 := by simp [noteL, hl]; omega
  have HlA : ∀ n, (ansZ l own n).length = 20 := fun n => rfl
  have hE := fun (n : Nat) (hn : n ≤ 36) => ansZ_eq l ho hn
  have HX := Lib.hid (fun n w => sealed_any (ansZ l own n) rfl w)
  have HTx := Lib.hid (fun n w => text_any (sealL (ansZ l own n)) (sealL_len.trans (HlA n)) w)
  have HStV := Lib.hid (fun (n : Nat) (w : World) (b : Nat) (h : w.heap[b]? = some (Obj.cells (hc (ansZ l own n)) 98)) => stV (l := sealL (ansZ l own n)) h (by rw [hc_size]; rfl) (sealL_len.trans (HlA n)))
  have HLd := Lib.hid (fun (n : Nat) (w : World) (b : Nat) (h : w.heap[b]? = some (Obj.cells (hc (sealL (ansZ l own n))) 98)) => ldV h (by rw [hc_size, sealL_len]; rfl))
  have HLd0 := Lib.hid (fun (n : Nat) (w : World) (b : Nat) (h : w.heap[b]? = some (Obj.cells (hc (ansZ l own n)) 98)) => ldV h (by rw [hc_size]; rfl))
  have HLs := Lib.hid (fun n => show (hc (sealL (ansZ l own n))).size = 20 by rw [hc_size, sealL_len]; rfl)
  clear HlA
  unfold hv at *
  unfold pv at *
  generalize noteL (kindB r) (l ++ s.data.toList.take 8) = nl at *
  generalize pc l s = C at *
  generalize g1 l 12 = x12 at *
  generalize g1 l 13 = x13 at *
  generalize g1 l 14 = x14 at *
  generalize g1 l 15 = x15 at *
  go_enter Try.func84, Try.ntmps84
  go_wp2_with ((with_reducible refine wpL_load ?_ HV.out ?_); exact rfl)
  refine (HM.out _).mono ?_
  rintro e w2 ⟨q, rfl, hq, hb2⟩
  have hk2 := row_below hb2 (heap_alloc_last w _) (by rw [sz1]; omega)
  have hlt := (Array.getElem?_eq_some_iff.1 hk2).1
  have d12 := cl20 hk2 e12
  have d13 := cl20 hk2 e13
  have d14 := cl20 hk2 e14
  have d15 := cl20 hk2 e15
  have HB2 := Lib.hid ((below1 w _).trans (hb2.mono (by rw [sz1]; omega)))
  have hqs : q.size ≤ 36 := by rw [← blen, hq]; exact hnl
  have Hq := Lib.hid hq
  clear hb2 hk2 hq HV HM e12 e13 e14 e15 hnl
  have hE1 := hE q.size hqs
  clear hE
  have hnq : nl.length = q.size := by rw [← Hq.out, blen]
  have Hn := Lib.hid hnq
  clear hnq
  have HV3 := Lib.hid (HLd0.out q.size _ _ (heap_alloc_last w2 (.cells (hc (ansZ l own q.size)) 98)))
  have HX1 := Lib.hid (fun w => HX.out q.size w)
  have HT1 := Lib.hid (fun w => HTx.out q.size w)
  have HSt1 := Lib.hid (HStV.out q.size)
  have HL1 := Lib.hid (HLd.out q.size)
  obtain ⟨A, hA⟩ : ∃ A, A = ansZ l own q.size := ⟨_, rfl⟩
  have HA := Lib.hid hA
  rw [← hA] at hE1 HV3 HX1 HT1 HSt1 HL1
  clear hA HX HTx HStV HLd HLd0 HLs
  go_wp2_with ((with_reducible refine wpL_load ?_ HV3.out ?_); exact rfl)
  refine (HX1.out _).mono ?_
  rintro e w3 ⟨rfl, hb3⟩
  have hk3 := row_below hb3 (heap_alloc_last w2 _) (by rw [sz1]; omega)
  have HB3 := Lib.hid ((HB2.out.trans ((below1 w2 _).mono HB2.out.size)).trans (hb3.mono (by rw [sz1]; have := HB2.out.size; omega)))
  have HS3 := Lib.hid (HSt1.out w3 _ hk3)
  obtain ⟨w4, hw4⟩ : ∃ w4, w4 = w3.setRow w2.heap.size (hc (sealL A)) := ⟨_, rfl⟩
  have HB4 := Lib.hid (show Below w.heap.size w w4 by rw [hw4]; exact fbelow_row _ HB3.out HB2.out.size)
  have HV4 := Lib.hid (HL1.out w4 w2.heap.size (by rw [hw4]; exact setRow_heap _ _ _ _ _ _ hk3))
  rw [← hw4] at HS3
  have hq2 : ¬ 9223372036854775807 < 20 + q.size := by omega
  have hA20 : (sealL A).length = 20 := by rw [sealL_len, HA.out]; rfl
  clear hb3 hk3 hw4 hE1 HV3 HX1 HSt1 HL1 d12 d13 d14 d15
  go_wp2_with (first | ((with_reducible refine wpL_store ?_ ?_ HS3.out ?_); exact rfl; exact rfl) | ((with_reducible refine wpL_load ?_ HV4.out ?_); exact rfl))
  refine (HT1.out _).mono ?_
  rintro e w5 ⟨rfl, hw5⟩
  have HB5 := Lib.hid (show Below w.heap.size w w5 by rw [hw5]; exact HB4.out.trans ((below1 _ _).mono HB4.out.size))
  clear hw5
  go_wp2_with fail
  go_ret
  refine ⟨_, rfl, ?_, HB5.out⟩
  rw [bapp, Hq.out, Hn.out, ← HA.out]
end Go.Proofs.Ytnfkgnjeamnhfab
