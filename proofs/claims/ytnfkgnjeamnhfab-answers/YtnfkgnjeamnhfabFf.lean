import Derived.Test.YtnfkgnjeamnhfabFe
namespace Go.Proofs.Ytnfkgnjeamnhfab
open Go.RowKit

theorem bapp (a b : ByteArray) : (a ++ b).data.toList = a.data.toList ++ b.data.toList := by simp
theorem quote_any (l : List UInt8) (hl : l.length = 20) (s : ByteArray) (hs : s.size ≤ 1000000) (w : World) : Calls Try.prog 99 #[pv l s] w fun e w' => ∃ q : ByteArray, e = .returned (.string q) ∧ q.data.toList = l ++ s.data.toList.take 8 ∧ Below w.heap.size w w' := by
  have HV := Lib.hid (ldP hl (heap_alloc_last w (.cells (pc l s) 100)))
  have HT := Lib.hid (fun w => text_any l hl w)
  have e20 := pc_body (s := s) hl
  have hq : ¬ 9223372036854775807 < 20 + s.size := by omega
  unfold pv
  generalize pc l s = C at *
  generalize hv l = H at *
  go_enter Try.func99, Try.ntmps99
  by_cases h : 8 < s.size
  · have q1 : (8 : Int) < (s.size : Int) := by omega
    go_wp2_with ((with_reducible refine wpL_load ?_ HV.out ?_); exact rfl)
    refine (HT.out _).mono ?_
    rintro e w2 ⟨rfl, rfl⟩
    go_wp2_with fail
    go_ret
    exact ⟨_, rfl, by rw [bapp]; simp, two_al _ _ _⟩
  · have q1 : ¬ (8 : Int) < (s.size : Int) := by omega
    go_wp2_with ((with_reducible refine wpL_load ?_ HV.out ?_); exact rfl)
    refine (HT.out _).mono ?_
    rintro e w2 ⟨rfl, rfl⟩
    go_wp2_with fail
    go_ret
    exact ⟨_, rfl, by rw [bapp, List.take_of_length_le (by rw [blen]; omega)], two_al _ _ _⟩
/-- Two bytes as a text. -/
theorem conv2 {w : World} {g : Nat} {a b : UInt8} {x y : Int} (hx : x = (a.toNat : Int)) (hy : y = (b.toNat : Int)) (h : w.heap[g]? = some (.cells #[.int .u8 x, .int .u8 y] 5)) : (convert 96 9 (.slice (some ⟨g, 0, none⟩) 2 2)).run Try.prog w = .ok (.string ⟨#[a, b]⟩) w := by
  subst hx hy
  refine run_convert_bytes_back (P := Try.prog) _ 96 9 5 ⟨g, 0, none⟩ 2 [a, b] Try.underlying96 Try.underlying5 Try.underlying9 (fun j hj => ?_)
  rw [Lib.add_plain, Nat.zero_add]
  match j, hj with
  | 0, _ => exact cl20 h rfl
  | 1, _ => exact cl20 h rfl
/-- The kind of an answer. -/
def kindB (r : Int) : UInt8 := if r = 8 then 11 else 3
theorem kindB_eq (r : Int) : (if r = 8 then (11 : Int) else 3) = ((kindB r).toNat : Int) := by unfold kindB; split <;> rfl
/-- What stands behind the head of an answer. -/
def noteZ (k : UInt8) (q : List UInt8) : List UInt8 := [k, 0, 0, 0, 0, 0, 0, 0] ++ q
def noteL (k : UInt8) (q : List UInt8) : List UInt8 := [k, 0, UInt8.ofNat (ck (noteZ k q) / 256), UInt8.ofNat (ck (noteZ k q) % 256), 0, 0, 0, 0] ++ q
theorem byte_hi {c : Nat} (h : c < 65536) : (c : Int) / 256 = ((UInt8.ofNat (c / 256)).toNat : Int) := by simp; omega
theorem byte_lo (c : Nat) : (c : Int) % 256 = ((UInt8.ofNat (c % 256)).toNat : Int) := by simp
theorem wrap_hi {c : Nat} (h : c < 65536) : IntKind.u8.wrap ((c : Int) / 256) = (c : Int) / 256 := by simp [IntKind.wrap, IntKind.bits, IntKind.signed]; omega
theorem wrap_lo (c : Nat) : IntKind.u8.wrap (c : Int) = (c : Int) % 256 := by simp [IntKind.wrap, IntKind.bits, IntKind.signed]
set_option maxRecDepth 20000 in
theorem message_any (l : List UInt8) (hl : l.length = 20) (s : ByteArray) (hs : s.size ≤ 1000000) (r : Int) (w : World) : Calls Try.prog 96 #[pv l s, .int .i64 r] w fun e w' => ∃ q : ByteArray, e = .returned (.string q) ∧ q.data.toList = noteL (kindB r) (l ++ s.data.toList.take 8) ∧ Below w.heap.size w w' := by
  have HV := Lib.hid (fun o => ldW hl (al1 w (.cells (pc l s) 100) o))
  have HM := Lib.hid (fun w => messageOf_any r w)
  have HQ := Lib.hid (fun w => quote_any l hl s hs w)
  have hC := pc_size (s := s) hl
  have hcv0 : ∀ C : Array Value, (convert 96 9 (.slice (some ⟨w.heap.size + 1, 0, none⟩) 2 2)).run Try.prog ((w.alloc (.cells C 100)).alloc (.cells #[.int .u8 ((kindB r).toNat : Int), .int .u8 0] 5)) = .ok (.string ⟨#[kindB r, 0]⟩) ((w.alloc (.cells C 100)).alloc (.cells #[.int .u8 ((kindB r).toNat : Int), .int .u8 0] 5)) := fun C => conv2 (b := 0) rfl rfl (al2 w _ _)
  rw [kindB_eq] at HM
  generalize hk : kindB r = k at *
  clear hk
  have HZ := Lib.hid (fun (a : ByteArray) (w : World) (h : a.size ≤ 100000) => checksum_any a w h)
  have HL := Lib.hid (show (l ++ s.data.toList.take 8).length ≤ 28 by rw [List.length_append, List.length_take, hl]; omega)
  have hcv := hcv0 (pc l s)
  clear hcv0
  unfold pv at *
  generalize pc l s = C at *
  generalize l ++ s.data.toList.take 8 = ql at *
  go_enter Try.func96, Try.ntmps96
  go_wp2_with fail
  refine (HM.out _).mono ?_
  rintro e w2 ⟨rfl, rfl⟩
  go_wp2_with ((with_reducible refine wpL_load ?_ (HV.out _) ?_); exact rfl)
  refine (HQ.out _).mono ?_
  rintro e w3 ⟨q, rfl, hq, hb3⟩
  have hqs : q.size ≤ 28 := by rw [← blen, hq]; exact HL.out
  have HB3 := Lib.hid ((two_al w _ _).trans (hb3.mono (by rw [sz1, sz1]; omega)))
  have Hq := Lib.hid hq
  clear hb3 hq HV HM HQ hcv HL
  have hq1 : ¬ 9223372036854775807 < 4 + q.size := by omega
  go_wp2_with fail
  have hzl : (((⟨#[k, 0]⟩ : ByteArray) ++ ⟨#[0, 0]⟩) ++ ((⟨#[0, 0, 0, 0]⟩ : ByteArray) ++ q)).data.toList = noteZ k ql := by
    rw [bapp, bapp, bapp, Hq.out]; rfl
  have hzs : (((⟨#[k, 0]⟩ : ByteArray) ++ ⟨#[0, 0]⟩) ++ ((⟨#[0, 0, 0, 0]⟩ : ByteArray) ++ q)).size ≤ 100000 := by
    rw [← blen, hzl, noteZ, List.length_append, ← Hq.out, blen]
    simp; omega
  refine (HZ.out _ _ hzs).mono ?_
  rintro e w4 ⟨rfl, rfl⟩
  rw [hzl]
  obtain ⟨c, hc⟩ : ∃ c, ck (noteZ k ql) = c := ⟨_, rfl⟩
  have hck : c < 65536 := by rw [← hc]; exact ck_lt _
  rw [hc]
  have Hc := Lib.hid hc
  have hb1 := wrap_hi hck
  have hb2 := wrap_lo c
  have hcv := conv2 (byte_hi hck) (byte_lo c) (heap_alloc_last w4 (.cells #[.int .u8 ((c : Int) / 256), .int .u8 ((c : Int) % 256)] 5))
  generalize hx : UInt8.ofNat (c / 256) = x at *
  generalize hy : UInt8.ofNat (c % 256) = y at *
  have Hx := Lib.hid hx
  have Hy := Lib.hid hy
  clear hc hzl hzs HZ hx hy
  go_wp2_with fail
  go_ret
  refine ⟨_, rfl, ?_, HB3.out.trans ((below1 _ _).mono HB3.out.size)⟩
  rw [bapp, bapp, bapp, Hq.out]
  unfold noteL
  rw [Hc.out, Hx.out, Hy.out]
  rfl
end Go.Proofs.Ytnfkgnjeamnhfab
