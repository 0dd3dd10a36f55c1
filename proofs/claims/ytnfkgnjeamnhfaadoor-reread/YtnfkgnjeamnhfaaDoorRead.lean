import Derived.Test.YtnfkgnjeamnhfaaDoorLeaf
import Derived.Lib.Strings
import Derived.Lib.IndexBytes
namespace Go.Proofs.YtnfkgnjeamnhfaaDoor
open Go.RowKit

theorem ba_ext {a b : ByteArray} (h : a.data.toList = b.data.toList) : a = b := by
  apply ByteArray.ext; exact Array.toList_inj.1 h
theorem ba_mk {a : ByteArray} {l : List UInt8} (h : a.data.toList = l) : a = ⟨l.toArray⟩ := ba_ext (by simpa using h)

theorem ret_strb {s t : ByteArray} {b : Value} (h : s = t) : Ending.returned (.tuple #[.string s, b]) = .returned (.tuple #[.string t, b]) := by rw [h]

set_option maxHeartbeats 400000 in
theorem skip_empty (t m : ByteArray) (w : World) (ht : t.size = 0) :
    Calls Tryd.prog 33 #[.string t, .string m] w fun e w' => e = .returned (.tuple #[.string ⟨#[]⟩, .bool false]) ∧ w' = w := by
  have h : ((t.size : Int) == 0) = true := by rw [ht]; rfl
  have h2 : ¬ (1 : Int) ≤ (t.size : Int) := by omega
  go_enter Tryd.func33, Tryd.ntmps33
  go_wp2
  go_ret2
  exact ⟨rfl, rfl⟩
set_option maxHeartbeats 400000 in
theorem skip_yes (t m : ByteArray) (c : UInt8) (r : List UInt8) (w : World) (ht : t.data.toList = c :: r) (_hs : t.size ≤ maxLen) (hm : m.data.toList = [c]) :
    Calls Tryd.prog 33 #[.string t, .string m] w fun e w' => e = .returned (.tuple #[.string ⟨r.toArray⟩, .bool true]) ∧ w' = w := by
  have h1 : (1 : Int) ≤ (t.size : Int) := by rw [Lib.size_eq, ht]; simp; omega
  have h : ((t.size : Int) == 0) = false := by rw [Lib.size_eq, ht]; simp; omega
  have h2 : ((t.extract 0 1).toList == m.toList) = true := by rw [Lib.extract_toList, Lib.toList_data, hm, ht]; simp
  have E : Hid (t.extract 1 t.size = ⟨r.toArray⟩) := ba_mk (by rw [Lib.extract_to_end, ht]; rfl)
  clear ht hm
  unfold maxLen at _hs
  go_enter Tryd.func33, Tryd.ntmps33
  go_wp2
  go_ret2
  exact ⟨ret_strb E.out, rfl⟩
set_option maxHeartbeats 400000 in
theorem skip_no (t m : ByteArray) (c d : UInt8) (r : List UInt8) (w : World) (ht : t.data.toList = c :: r) (_hs : t.size ≤ maxLen) (hm : m.data.toList = [d]) (hcd : c ≠ d) :
    Calls Tryd.prog 33 #[.string t, .string m] w fun e w' => e = .returned (.tuple #[.string ⟨#[]⟩, .bool false]) ∧ w' = w := by
  have h1 : (1 : Int) ≤ (t.size : Int) := by rw [Lib.size_eq, ht]; simp; omega
  have h : ((t.size : Int) == 0) = false := by rw [Lib.size_eq, ht]; simp; omega
  have h2 : ((t.extract 0 1).toList == m.toList) = false := by rw [Lib.extract_toList, Lib.toList_data, hm, ht]; simp [hcd]
  clear ht hm
  unfold maxLen at _hs
  go_enter Tryd.func33, Tryd.ntmps33
  go_wp2
  go_ret2
  exact ⟨rfl, rfl⟩

theorem get0 (t : ByteArray) (c : UInt8) (r : List UInt8) (ht : t.data.toList = c :: r) (h : 0 < t.size) : t[0] = c := by
  have := Lib.data_getElem? t 0 h
  rw [ht] at this
  simpa using this.symm

/-- What readNumber hands back. -/
def NumPost (base greatest : Nat) (l : List UInt8) (e : Ending) : Prop :=
  match readN base greatest 0 false l with
  | some (v, r) => e = .returned (.tuple #[.int .i64 v, .string ⟨r.toArray⟩, .bool true])
  | none => ∃ v u, e = .returned (.tuple #[.int .i64 v, .string u, .bool false])
theorem NumPost.some {base greatest : Nat} {l : List UInt8} {v : Nat} {r : List UInt8} {v' : Int} {u : ByteArray} {b : Bool} (h : readN base greatest 0 false l = some (v, r)) (hv : v' = (v : Int)) (hu : u.data.toList = r) (hb : b = true) : NumPost base greatest l (.returned (.tuple #[.int .i64 v', .string u, .bool b])) := by
  unfold NumPost; rw [h, hv, ba_mk hu, hb]
theorem NumPost.none {base greatest : Nat} {l : List UInt8} {v' : Int} {u : ByteArray} {b : Bool} (h : readN base greatest 0 false l = none) (hb : b = false) : NumPost base greatest l (.returned (.tuple #[.int .i64 v', .string u, .bool b])) := by
  unfold NumPost; rw [h]; exact ⟨_, _, by rw [hb]⟩

theorem readN_nil {base g v : Nat} {k : Nat} (h : 0 < k) : readN base g v (decide (0 < k)) [] = some (v, []) := by simp [readN, h]
theorem readN_nil0 {base g v : Nat} {k : Nat} (h : ¬ 0 < k) : readN base g v (decide (0 < k)) [] = none := by simp [readN, h]
theorem readN_end {base g v : Nat} {k : Nat} {c : UInt8} {r : List UInt8} (hd : base ≤ dgt c.toNat) (h : 0 < k) : readN base g v (decide (0 < k)) (c :: r) = some (v, c :: r) := by simp [readN, h, hd]
theorem readN_end0 {base g v : Nat} {k : Nat} {c : UInt8} {r : List UInt8} (hd : base ≤ dgt c.toNat) (h : ¬ 0 < k) : readN base g v (decide (0 < k)) (c :: r) = none := by simp [readN, h, hd]
theorem readN_zero {base g v : Nat} {k : Nat} {c : UInt8} {r : List UInt8} (hd : ¬ base ≤ dgt c.toNat) (h : 0 < k) (hv : v = 0) : readN base g v (decide (0 < k)) (c :: r) = none := by simp [readN, h, hd, hv]
theorem readN_great {base g v : Nat} {k : Nat} {c : UInt8} {r : List UInt8} (hd : ¬ base ≤ dgt c.toNat) (h : g < v * base + dgt c.toNat) : readN base g v (decide (0 < k)) (c :: r) = none := by simp [readN, hd, h]
theorem readN_next {base g v : Nat} {k : Nat} {c : UInt8} {r : List UInt8} (hd : ¬ base ≤ dgt c.toNat) (hz : ¬ (0 < k ∧ v = 0)) (h : ¬ g < v * base + dgt c.toNat) : readN base g v (decide (0 < k)) (c :: r) = readN base g (v * base + dgt c.toNat) (decide (0 < k + 1)) r := by
  have hz' : ¬ (decide (0 < k) = true ∧ v = 0) := by simpa using hz
  simp only [readN, hd, hz', h]; simp
def lenOf : Value → Nat | .string u => u.size | _ => 0

set_option maxHeartbeats 1000000 in
theorem num_10 (t : ByteArray) (greatest : Nat) (w : World) (hs : t.size ≤ maxLen) (hg : greatest ≤ 65535) :
    Calls Tryd.prog 35 #[.string t, .int .i64 10, .int .i64 greatest] w fun e w' => NumPost 10 greatest t.data.toList e ∧ w' = w := by
  unfold maxLen at hs
  go_enter Tryd.func35, Tryd.ntmps35
  go_wp2
  go_loop [0, 9, 10] (fun tx v d => ∃ (u : ByteArray) (x k : Nat), tx = .string u ∧ v = .int .i64 x ∧ d = .int .i64 k ∧ u.size + k = t.size ∧ x ≤ 65535 ∧ Hid (readN 10 greatest x (decide (0 < k)) u.data.toList = readN 10 greatest 0 false t.data.toList)) (fun tx _ _ => lenOf tx)
  case atStart => exact ⟨t, 0, 0, rfl, rfl, rfl, rfl, by omega, rfl⟩
  case round =>
    obtain ⟨u, x, k, rfl, rfl, rfl, hsz0, hx, HR⟩ := hrel
    have hk : k ≤ t.size := by omega
    have hu : u.size ≤ t.size := by omega
    have HZ : Hid (u.size + k = t.size) := hsz0
    clear hsz0
    rcases hl : u.data.toList with _ | ⟨c, r⟩
    · have h0 : u.size = 0 := by rw [Lib.size_eq, hl]; rfl
      have h1 : ((u.size : Int)) ≤ 0 := by omega
      have HL : Hid _ := hl
      clear hl h0
      go_wp2
      go_ret3
      refine ⟨?_, rfl⟩
      have hl := HL.out
      have hr := HR.out
      rw [hl] at hr
      by_cases h : 0 < k
      · exact NumPost.some (hr.symm.trans (readN_nil h)) rfl hl (by simp; omega)
      · exact NumPost.none (hr.symm.trans (readN_nil0 h)) (by simp; omega)
    · have h1 : (1 : Int) ≤ (u.size : Int) := by rw [Lib.size_eq, hl]; simp; omega
      have hc : u[0]'(by omega) = c := get0 u c r hl (by omega)
      have hk2 : k + 1 ≤ t.size := by have := HZ.out; omega
      have hcb : c.toNat ≤ 255 := by have := c.toNat_lt; omega
      have hdb : dgt c.toNat ≤ 16 := by unfold dgt; split <;> (try split) <;> omega
      have HE : Hid ((u.extract 1 u.size).data.toList = r) := by rw [Lib.extract_to_end, hl]; rfl
      have HU : Hid ((u.extract 1 u.size).size + 1 = u.size) := by
        show (u.extract 1 u.size).size + 1 = u.size
        rw [Lib.size_eq, HE.out, Lib.size_eq, hl]; rfl
      have HL : Hid _ := hl
      clear hl
      by_cases hd : 10 ≤ dgt c.toNat
      · have hd' : (10 : Int) ≤ (dgt c.toNat : Int) := by omega
        go_wp2_with (first | (go_at_call 43; refine (digit_any _ _ hcb).mono ?_; rintro e w' ⟨rfl, rfl⟩))
        go_ret3
        refine ⟨?_, rfl⟩
        have hr := HR.out
        rw [HL.out] at hr
        by_cases h : 0 < k
        · exact NumPost.some (hr.symm.trans (readN_end hd h)) rfl HL.out (by simp; omega)
        · exact NumPost.none (hr.symm.trans (readN_end0 hd h)) (by simp; omega)
      · have hd' : ¬ (10 : Int) ≤ (dgt c.toNat : Int) := by omega
        by_cases hz : 0 < k ∧ x = 0
        · obtain ⟨hz1, hz2⟩ := hz
          have hz1' : (0 : Int) < (k : Int) := by omega
          subst hz2
          go_wp2_with (first | (go_at_call 43; refine (digit_any _ _ hcb).mono ?_; rintro e w' ⟨rfl, rfl⟩))
          go_ret3
          refine ⟨?_, rfl⟩
          have hr := HR.out
          rw [HL.out] at hr
          exact NumPost.none (hr.symm.trans (readN_zero hd hz1 rfl)) rfl
        · by_cases hgr : greatest < x * 10 + dgt c.toNat
          · have hgr' : (greatest : Int) < (x : Int) * 10 + (dgt c.toNat : Int) := by omega
            by_cases hk0 : 0 < k
            · have hk1 : (0 : Int) < (k : Int) := by omega
              have hx0 : ((x : Int) == 0) = false := by simp; omega
              go_wp2_with (first | (go_at_call 43; refine (digit_any _ _ hcb).mono ?_; rintro e w' ⟨rfl, rfl⟩))
              go_ret3
              refine ⟨?_, rfl⟩
              have hr := HR.out
              rw [HL.out] at hr
              exact NumPost.none (hr.symm.trans (readN_great hd hgr)) rfl
            · have hk1 : ¬ (0 : Int) < (k : Int) := by omega
              go_wp2_with (first | (go_at_call 43; refine (digit_any _ _ hcb).mono ?_; rintro e w' ⟨rfl, rfl⟩))
              go_ret3
              refine ⟨?_, rfl⟩
              have hr := HR.out
              rw [HL.out] at hr
              exact NumPost.none (hr.symm.trans (readN_great hd hgr)) rfl
          · have hgr' : ¬ (greatest : Int) < (x : Int) * 10 + (dgt c.toNat : Int) := by omega
            by_cases hk0 : 0 < k
            · have hk1 : (0 : Int) < (k : Int) := by omega
              have hx0 : ((x : Int) == 0) = false := by simp; omega
              go_wp2_with (first | (go_at_call 43; refine (digit_any _ _ hcb).mono ?_; rintro e w' ⟨rfl, rfl⟩))
              go_round
              case rel =>
                have hr := HR.out
                rw [HL.out] at hr
                exact ⟨_, x * 10 + dgt c.toNat, k + 1, rfl, by go_num, by go_num, by have := HU.out; have := HZ.out; omega, by omega, by show _ = _; rw [HE.out, ← hr, readN_next hd hz hgr]⟩
              case measure => simp only [lenOf]; have := HU.out; omega
            · have hk1 : ¬ (0 : Int) < (k : Int) := by omega
              go_wp2_with (first | (go_at_call 43; refine (digit_any _ _ hcb).mono ?_; rintro e w' ⟨rfl, rfl⟩))
              go_round
              case rel =>
                have hr := HR.out
                rw [HL.out] at hr
                exact ⟨_, x * 10 + dgt c.toNat, k + 1, rfl, by go_num, by go_num, by have := HU.out; have := HZ.out; omega, by omega, by show _ = _; rw [HE.out, ← hr, readN_next hd hz hgr]⟩
              case measure => simp only [lenOf]; have := HU.out; omega

set_option maxHeartbeats 1000000 in
theorem num_16 (t : ByteArray) (greatest : Nat) (w : World) (hs : t.size ≤ maxLen) (hg : greatest ≤ 65535) :
    Calls Tryd.prog 35 #[.string t, .int .i64 16, .int .i64 greatest] w fun e w' => NumPost 16 greatest t.data.toList e ∧ w' = w := by
  unfold maxLen at hs
  go_enter Tryd.func35, Tryd.ntmps35
  go_wp2
  go_loop [0, 9, 10] (fun tx v d => ∃ (u : ByteArray) (x k : Nat), tx = .string u ∧ v = .int .i64 x ∧ d = .int .i64 k ∧ u.size + k = t.size ∧ x ≤ 65535 ∧ Hid (readN 16 greatest x (decide (0 < k)) u.data.toList = readN 16 greatest 0 false t.data.toList)) (fun tx _ _ => lenOf tx)
  case atStart => exact ⟨t, 0, 0, rfl, rfl, rfl, rfl, by omega, rfl⟩
  case round =>
    obtain ⟨u, x, k, rfl, rfl, rfl, hsz0, hx, HR⟩ := hrel
    have hk : k ≤ t.size := by omega
    have hu : u.size ≤ t.size := by omega
    have HZ : Hid (u.size + k = t.size) := hsz0
    clear hsz0
    rcases hl : u.data.toList with _ | ⟨c, r⟩
    · have h0 : u.size = 0 := by rw [Lib.size_eq, hl]; rfl
      have h1 : ((u.size : Int)) ≤ 0 := by omega
      have HL : Hid _ := hl
      clear hl h0
      go_wp2
      go_ret3
      refine ⟨?_, rfl⟩
      have hl := HL.out
      have hr := HR.out
      rw [hl] at hr
      by_cases h : 0 < k
      · exact NumPost.some (hr.symm.trans (readN_nil h)) rfl hl (by simp; omega)
      · exact NumPost.none (hr.symm.trans (readN_nil0 h)) (by simp; omega)
    · have h1 : (1 : Int) ≤ (u.size : Int) := by rw [Lib.size_eq, hl]; simp; omega
      have hc : u[0]'(by omega) = c := get0 u c r hl (by omega)
      have hk2 : k + 1 ≤ t.size := by have := HZ.out; omega
      have hcb : c.toNat ≤ 255 := by have := c.toNat_lt; omega
      have hdb : dgt c.toNat ≤ 16 := by unfold dgt; split <;> (try split) <;> omega
      have HE : Hid ((u.extract 1 u.size).data.toList = r) := by rw [Lib.extract_to_end, hl]; rfl
      have HU : Hid ((u.extract 1 u.size).size + 1 = u.size) := by
        show (u.extract 1 u.size).size + 1 = u.size
        rw [Lib.size_eq, HE.out, Lib.size_eq, hl]; rfl
      have HL : Hid _ := hl
      clear hl
      by_cases hd : 16 ≤ dgt c.toNat
      · have hd' : (16 : Int) ≤ (dgt c.toNat : Int) := by omega
        go_wp2_with (first | (go_at_call 43; refine (digit_any _ _ hcb).mono ?_; rintro e w' ⟨rfl, rfl⟩))
        go_ret3
        refine ⟨?_, rfl⟩
        have hr := HR.out
        rw [HL.out] at hr
        by_cases h : 0 < k
        · exact NumPost.some (hr.symm.trans (readN_end hd h)) rfl HL.out (by simp; omega)
        · exact NumPost.none (hr.symm.trans (readN_end0 hd h)) (by simp; omega)
      · have hd' : ¬ (16 : Int) ≤ (dgt c.toNat : Int) := by omega
        by_cases hz : 0 < k ∧ x = 0
        · obtain ⟨hz1, hz2⟩ := hz
          have hz1' : (0 : Int) < (k : Int) := by omega
          subst hz2
          go_wp2_with (first | (go_at_call 43; refine (digit_any _ _ hcb).mono ?_; rintro e w' ⟨rfl, rfl⟩))
          go_ret3
          refine ⟨?_, rfl⟩
          have hr := HR.out
          rw [HL.out] at hr
          exact NumPost.none (hr.symm.trans (readN_zero hd hz1 rfl)) rfl
        · by_cases hgr : greatest < x * 16 + dgt c.toNat
          · have hgr' : (greatest : Int) < (x : Int) * 16 + (dgt c.toNat : Int) := by omega
            by_cases hk0 : 0 < k
            · have hk1 : (0 : Int) < (k : Int) := by omega
              have hx0 : ((x : Int) == 0) = false := by simp; omega
              go_wp2_with (first | (go_at_call 43; refine (digit_any _ _ hcb).mono ?_; rintro e w' ⟨rfl, rfl⟩))
              go_ret3
              refine ⟨?_, rfl⟩
              have hr := HR.out
              rw [HL.out] at hr
              exact NumPost.none (hr.symm.trans (readN_great hd hgr)) rfl
            · have hk1 : ¬ (0 : Int) < (k : Int) := by omega
              go_wp2_with (first | (go_at_call 43; refine (digit_any _ _ hcb).mono ?_; rintro e w' ⟨rfl, rfl⟩))
              go_ret3
              refine ⟨?_, rfl⟩
              have hr := HR.out
              rw [HL.out] at hr
              exact NumPost.none (hr.symm.trans (readN_great hd hgr)) rfl
          · have hgr' : ¬ (greatest : Int) < (x : Int) * 16 + (dgt c.toNat : Int) := by omega
            by_cases hk0 : 0 < k
            · have hk1 : (0 : Int) < (k : Int) := by omega
              have hx0 : ((x : Int) == 0) = false := by simp; omega
              go_wp2_with (first | (go_at_call 43; refine (digit_any _ _ hcb).mono ?_; rintro e w' ⟨rfl, rfl⟩))
              go_round
              case rel =>
                have hr := HR.out
                rw [HL.out] at hr
                exact ⟨_, x * 16 + dgt c.toNat, k + 1, rfl, by go_num, by go_num, by have := HU.out; have := HZ.out; omega, by omega, by show _ = _; rw [HE.out, ← hr, readN_next hd hz hgr]⟩
              case measure => simp only [lenOf]; have := HU.out; omega
            · have hk1 : ¬ (0 : Int) < (k : Int) := by omega
              go_wp2_with (first | (go_at_call 43; refine (digit_any _ _ hcb).mono ?_; rintro e w' ⟨rfl, rfl⟩))
              go_round
              case rel =>
                have hr := HR.out
                rw [HL.out] at hr
                exact ⟨_, x * 16 + dgt c.toNat, k + 1, rfl, by go_num, by go_num, by have := HU.out; have := HZ.out; omega, by omega, by show _ = _; rw [HE.out, ← hr, readN_next hd hz hgr]⟩
              case measure => simp only [lenOf]; have := HU.out; omega
end Go.Proofs.YtnfkgnjeamnhfaaDoor
