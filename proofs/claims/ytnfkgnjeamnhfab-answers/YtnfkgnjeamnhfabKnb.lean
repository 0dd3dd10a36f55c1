import Derived.Test.YtnfkgnjeamnhfabKna
namespace Go.Proofs.Ytnfkgnjeamnhfab
open Go.RowKit

/-- A number as two bytes. -/
def tw (v : Nat) : List UInt8 := [UInt8.ofNat (v / 256), UInt8.ofNat (v % 256)]
theorem two_any (v : Nat) (hv : v < 65536) (w : World) : Calls Try.prog 29 #[.int .i64 v] w fun e w' => e = .returned (.string ⟨(tw v).toArray⟩) ∧ Below w.heap.size w w' := by
  have hcv := conv2 (byte_hi hv) (byte_lo v) (heap_alloc_last w (.cells #[.int .u8 ((v : Int) / 256), .int .u8 ((v : Int) % 256)] 5))
  have h1 : ((v : Int) / 256) % 256 = (v : Int) / 256 := by omega
  have h2 := wrap_hi hv
  have h3 : IntKind.u8.wrap ((v : Int) % 256) = (v : Int) % 256 := by simp [IntKind.wrap, IntKind.bits, IntKind.signed]
  unfold tw
  generalize UInt8.ofNat (v / 256) = x at *
  generalize UInt8.ofNat (v % 256) = y at *
  go_enter Try.func29, Try.ntmps29
  go_wp2
  go_ret
  exact ⟨rfl, below1 _ _⟩
theorem four_any (v : Nat) (hv : v < 4294967296) (w : World) : Calls Try.prog 30 #[.int .u32 v] w fun e w' => e = .returned (.string ⟨(tw (v / 65536) ++ tw (v % 65536)).toArray⟩) ∧ Below w.heap.size w w' := by
  have HA := Lib.hid (fun w => two_any (v / 65536) (by omega) w)
  have HB := Lib.hid (fun w => two_any (v % 65536) (by omega) w)
  have e : (⟨(tw (v / 65536) ++ tw (v % 65536)).toArray⟩ : ByteArray) = ⟨(tw (v / 65536)).toArray⟩ ++ ⟨(tw (v % 65536)).toArray⟩ := ba_of (by rw [bapp])
  rw [e]
  obtain ⟨a, ha⟩ : ∃ a : ByteArray, a = ⟨(tw (v / 65536)).toArray⟩ := ⟨_, rfl⟩
  obtain ⟨b, hb⟩ : ∃ b : ByteArray, b = ⟨(tw (v % 65536)).toArray⟩ := ⟨_, rfl⟩
  have za : a.size = 2 := by rw [ha]; rfl
  have zb : b.size = 2 := by rw [hb]; rfl
  rw [← ha] at HA ⊢
  rw [← hb] at HB ⊢
  obtain ⟨x, hx⟩ : ∃ x : Int, (v : Int) / 65536 = x := ⟨_, rfl⟩
  obtain ⟨y, hy⟩ : ∃ y : Int, (v : Int) % 65536 = y := ⟨_, rfl⟩
  rw [show ((v / 65536 : Nat) : Int) = x by rw [← hx]; omega] at HA
  rw [show ((v % 65536 : Nat) : Int) = y by rw [← hy]; omega] at HB
  have w1 : IntKind.i64.wrap x = x := by simp [IntKind.wrap, IntKind.bits, IntKind.signed]; omega
  have w2 : IntKind.i64.wrap y = y := by simp [IntKind.wrap, IntKind.bits, IntKind.signed]; omega
  clear ha hb e
  go_enter Try.func30, Try.ntmps30
  go_wp2_with fail
  refine (HA.out _).mono ?_
  rintro e w3 ⟨rfl, hb3⟩
  have HB3 := Lib.hid hb3
  clear hb3
  go_wp2_with fail
  refine (HB.out _).mono ?_
  rintro e w4 ⟨rfl, hb4⟩
  have HB4 := Lib.hid (HB3.out.trans (hb4.mono HB3.out.size))
  clear hb4
  go_wp2_with fail
  go_ret
  exact ⟨rfl, HB4.out⟩
end Go.Proofs.Ytnfkgnjeamnhfab
