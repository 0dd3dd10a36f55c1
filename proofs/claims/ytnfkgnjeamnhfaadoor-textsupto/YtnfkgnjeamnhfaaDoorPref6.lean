import Derived.Test.YtnfkgnjeamnhfaaDoorPref
import Derived.Test.YtnfkgnjeamnhfaaDoorAddr6
namespace Go.Proofs.YtnfkgnjeamnhfaaDoor
open Go.RowKit

theorem addr6_some (t : ByteArray) (hs : t.size ≤ maxLen) {a : Nat × Nat} {r : List UInt8} (h : rdA 58 16 65535 step6 8 true (0, 0) t.data.toList = some (a, r)) (w : World) :
    Calls Tryd.prog 32 #[.string t, sty6] w fun e w' => e = .returned (.tuple #[addr 6 a.1 a.2, .string ⟨r.toArray⟩, .bool true]) ∧ Below w.heap.size w w' := by
  refine (addr6_any t w hs).mono ?_
  rintro e w' ⟨hp, hb⟩
  unfold AddrPost at hp
  rw [h] at hp
  exact ⟨hp, hb⟩
theorem addr6_none (t : ByteArray) (hs : t.size ≤ maxLen) (h : rdA 58 16 65535 step6 8 true (0, 0) t.data.toList = none) (w : World) :
    Calls Tryd.prog 32 #[.string t, sty6] w fun e w' => e = .returned (.tuple #[addr 0 0 0, .string ⟨#[]⟩, .bool false]) ∧ Below w.heap.size w w' := by
  refine (addr6_any t w hs).mono ?_
  rintro e w' ⟨hp, hb⟩
  unfold AddrPost at hp
  rw [h] at hp
  exact ⟨hp, hb⟩
set_option maxHeartbeats 4000000 in
theorem pre6_a (t : ByteArray)  (w : World) (o : Option (Nat × Nat × Nat)) (HP : Hid (o = none)) (HN : Hid (∀ w, Calls Tryd.prog 32 #[.string t, sty6] w fun e w' => e = .returned (.tuple #[addr 0 0 0, .string ⟨#[]⟩, .bool false]) ∧ Below w.heap.size w w')) :
    Calls Tryd.prog 22 #[.string t, sty6] w fun e w' => PrefPost 6 o e ∧ Below w.heap.size w w' := by
  go_enter Tryd.func22, Tryd.ntmps22
  go_wp2_with (first | (go_at_call 32; refine (HN.out _).mono ?_; rintro e w1 ⟨rfl, hb⟩; obtain ⟨hc, hf⟩ := bcell hb; have hz : w.heap.size + 1 < w1.heap.size := (by have := hb.size; simp at this; omega); have hz0 : w.heap.size < w1.heap.size := (by omega)))

  refine bodyPost_ret (v := .tuple #[pref 0 0 0 0, .bool false]) (by simp [results, Tryd.results22, go_sem, hc, hz]) rfl ⟨?_, ?_⟩
  · rw [HP.out]; rfl
  · have B0 : Below w.heap.size w w1 := (((Below.refl _ _).alloc (Nat.le_refl _) _).alloc (by simp) _).trans (hb.mono (by simp; omega))
    exact ((((B0.setCell (by dsimp only; omega) _).setCell (by dsimp only; omega) _).setCell (by dsimp only; omega) _).setCell (by dsimp only; omega) _).alloc (by simp; omega) _
set_option maxHeartbeats 4000000 in
theorem pre6_b (t : ByteArray) (hi lo : Nat) (u : ByteArray) (w : World) (o : Option (Nat × Nat × Nat)) (HP : Hid (o = none)) (HN : Hid (∀ w, Calls Tryd.prog 32 #[.string t, sty6] w fun e w' => e = .returned (.tuple #[addr 6 hi lo, .string u, .bool true]) ∧ Below w.heap.size w w')) (HS : Hid (∀ w, Calls Tryd.prog 33 #[.string u, .string { data := #[47] }] w fun e w' => e = .returned (.tuple #[.string ⟨#[]⟩, .bool false]) ∧ w' = w)) :
    Calls Tryd.prog 22 #[.string t, sty6] w fun e w' => PrefPost 6 o e ∧ Below w.heap.size w w' := by
  go_enter Tryd.func22, Tryd.ntmps22
  go_wp2_with (first | (go_at_call 32; refine (HN.out _).mono ?_; rintro e w1 ⟨rfl, hb⟩; obtain ⟨hc, hf⟩ := bcell hb; have hz : w.heap.size + 1 < w1.heap.size := (by have := hb.size; simp at this; omega); have hz0 : w.heap.size < w1.heap.size := (by omega)) | (go_at_call 33; refine (HS.out _).mono ?_; rintro e w2 ⟨rfl, rfl⟩))

  refine bodyPost_ret (v := .tuple #[pref 0 0 0 0, .bool false]) (by simp [results, Tryd.results22, go_sem, hc, hz]) rfl ⟨?_, ?_⟩
  · rw [HP.out]; rfl
  · have B0 : Below w.heap.size w w1 := (((Below.refl _ _).alloc (Nat.le_refl _) _).alloc (by simp) _).trans (hb.mono (by simp; omega))
    exact ((((B0.setCell (by dsimp only; omega) _).setCell (by dsimp only; omega) _).setCell (by dsimp only; omega) _).setCell (by dsimp only; omega) _).alloc (by simp; omega) _
set_option maxHeartbeats 4000000 in
theorem pre6_c (t : ByteArray) (hi lo : Nat) (u u1 : ByteArray) (w : World) (o : Option (Nat × Nat × Nat)) (HP : Hid (o = none)) (HN : Hid (∀ w, Calls Tryd.prog 32 #[.string t, sty6] w fun e w' => e = .returned (.tuple #[addr 6 hi lo, .string u, .bool true]) ∧ Below w.heap.size w w')) (HS : Hid (∀ w, Calls Tryd.prog 33 #[.string u, .string { data := #[47] }] w fun e w' => e = .returned (.tuple #[.string u1, .bool true]) ∧ w' = w)) (HR : Hid (∀ w, Calls Tryd.prog 35 #[.string u1, .int .i64 10, .int .i64 128] w fun e w' => (∃ v u2, e = .returned (.tuple #[.int .i64 v, .string u2, .bool false])) ∧ w' = w)) :
    Calls Tryd.prog 22 #[.string t, sty6] w fun e w' => PrefPost 6 o e ∧ Below w.heap.size w w' := by
  go_enter Tryd.func22, Tryd.ntmps22
  go_wp2_with (first | (go_at_call 32; refine (HN.out _).mono ?_; rintro e w1 ⟨rfl, hb⟩; obtain ⟨hc, hf⟩ := bcell hb; have hz : w.heap.size + 1 < w1.heap.size := (by have := hb.size; simp at this; omega); have hz0 : w.heap.size < w1.heap.size := (by omega)) | (go_at_call 33; refine (HS.out _).mono ?_; rintro e w2 ⟨rfl, rfl⟩) | (go_at_call 34; refine (width_6 _).mono ?_; rintro e w2 ⟨rfl, rfl⟩) | (go_at_call 35; refine (HR.out _).mono ?_; rintro e w2 ⟨⟨v2, u2, rfl⟩, rfl⟩))

  refine bodyPost_ret (v := .tuple #[pref 0 0 0 0, .bool false]) (by simp [results, Tryd.results22, go_sem, hc, hz]) rfl ⟨?_, ?_⟩
  · rw [HP.out]; rfl
  · have B0 : Below w.heap.size w w1 := (((Below.refl _ _).alloc (Nat.le_refl _) _).alloc (by simp) _).trans (hb.mono (by simp; omega))
    exact ((((B0.setCell (by dsimp only; omega) _).setCell (by dsimp only; omega) _).setCell (by dsimp only; omega) _).setCell (by dsimp only; omega) _).alloc (by simp; omega) _
set_option maxHeartbeats 4000000 in
theorem pre6_d (t : ByteArray) (hi lo v : Nat) (u u1 u2 : ByteArray) (w : World) (o : Option (Nat × Nat × Nat)) (HP : Hid (o = none)) (hu2 : (u2.toList.isEmpty) = false) (HN : Hid (∀ w, Calls Tryd.prog 32 #[.string t, sty6] w fun e w' => e = .returned (.tuple #[addr 6 hi lo, .string u, .bool true]) ∧ Below w.heap.size w w')) (HS : Hid (∀ w, Calls Tryd.prog 33 #[.string u, .string { data := #[47] }] w fun e w' => e = .returned (.tuple #[.string u1, .bool true]) ∧ w' = w)) (HR : Hid (∀ w, Calls Tryd.prog 35 #[.string u1, .int .i64 10, .int .i64 128] w fun e w' => e = .returned (.tuple #[.int .i64 v, .string u2, .bool true]) ∧ w' = w)) :
    Calls Tryd.prog 22 #[.string t, sty6] w fun e w' => PrefPost 6 o e ∧ Below w.heap.size w w' := by
  go_enter Tryd.func22, Tryd.ntmps22
  go_wp2_with (first | (go_at_call 32; refine (HN.out _).mono ?_; rintro e w1 ⟨rfl, hb⟩; obtain ⟨hc, hf⟩ := bcell hb; have hz : w.heap.size + 1 < w1.heap.size := (by have := hb.size; simp at this; omega); have hz0 : w.heap.size < w1.heap.size := (by omega)) | (go_at_call 33; refine (HS.out _).mono ?_; rintro e w2 ⟨rfl, rfl⟩) | (go_at_call 34; refine (width_6 _).mono ?_; rintro e w2 ⟨rfl, rfl⟩) | (go_at_call 35; refine (HR.out _).mono ?_; rintro e w2 ⟨rfl, rfl⟩))

  refine bodyPost_ret (v := .tuple #[pref 0 0 0 0, .bool false]) (by simp [results, Tryd.results22, go_sem, hc, hz]) rfl ⟨?_, ?_⟩
  · rw [HP.out]; rfl
  · have B0 : Below w.heap.size w w1 := (((Below.refl _ _).alloc (Nat.le_refl _) _).alloc (by simp) _).trans (hb.mono (by simp; omega))
    exact ((((B0.setCell (by dsimp only; omega) _).setCell (by dsimp only; omega) _).setCell (by dsimp only; omega) _).setCell (by dsimp only; omega) _).alloc (by simp; omega) _
set_option maxHeartbeats 4000000 in
theorem pre6_e (t : ByteArray) (hi lo v : Nat) (u u1 : ByteArray) (w : World) (o : Option (Nat × Nat × Nat)) (HP : Hid (o = some (hi, lo, v))) (HN : Hid (∀ w, Calls Tryd.prog 32 #[.string t, sty6] w fun e w' => e = .returned (.tuple #[addr 6 hi lo, .string u, .bool true]) ∧ Below w.heap.size w w')) (HS : Hid (∀ w, Calls Tryd.prog 33 #[.string u, .string { data := #[47] }] w fun e w' => e = .returned (.tuple #[.string u1, .bool true]) ∧ w' = w)) (HR : Hid (∀ w, Calls Tryd.prog 35 #[.string u1, .int .i64 10, .int .i64 128] w fun e w' => e = .returned (.tuple #[.int .i64 v, .string ⟨#[]⟩, .bool true]) ∧ w' = w)) :
    Calls Tryd.prog 22 #[.string t, sty6] w fun e w' => PrefPost 6 o e ∧ Below w.heap.size w w' := by
  go_enter Tryd.func22, Tryd.ntmps22
  go_wp2_with (first | (go_at_call 32; refine (HN.out _).mono ?_; rintro e w1 ⟨rfl, hb⟩; obtain ⟨hc, hf⟩ := bcell hb; have hz : w.heap.size + 1 < w1.heap.size := (by have := hb.size; simp at this; omega); have hz0 : w.heap.size < w1.heap.size := (by omega)) | (go_at_call 33; refine (HS.out _).mono ?_; rintro e w2 ⟨rfl, rfl⟩) | (go_at_call 34; refine (width_6 _).mono ?_; rintro e w2 ⟨rfl, rfl⟩) | (go_at_call 35; refine (HR.out _).mono ?_; rintro e w2 ⟨rfl, rfl⟩))

  refine bodyPost_ret (v := .tuple #[pref 6 hi lo v, .bool true]) (by simp [results, Tryd.results22, go_sem, hc, hz]) rfl ⟨?_, ?_⟩
  · rw [HP.out]; rfl
  · have B0 : Below w.heap.size w w1 := (((Below.refl _ _).alloc (Nat.le_refl _) _).alloc (by simp) _).trans (hb.mono (by simp; omega))
    exact ((((B0.setCell (by dsimp only; omega) _).setCell (by dsimp only; omega) _).setCell (by dsimp only; omega) _).setCell (by dsimp only; omega) _).alloc (by simp; omega) _
theorem pre6_any (t : ByteArray) (w : World) (hs : t.size ≤ maxLen) :
    Calls Tryd.prog 22 #[.string t, sty6] w fun e w' => PrefPost 6 (rdP 58 16 65535 step6 8 128 t.data.toList) e ∧ Below w.heap.size w w' := by
  rcases ha : rdA 58 16 65535 step6 8 true (0, 0) t.data.toList with _ | ⟨⟨hi, lo⟩, r⟩
  · exact pre6_a t w _ (by show _ = _; simp [rdP, ha]) (addr6_none t hs ha)
  · have hrl : r.length ≤ t.size := by rw [Lib.size_eq]; exact rdA_length ha
    rcases r with _ | ⟨c, r1⟩
    · exact pre6_b t hi lo _ w _ (by show _ = _; simp [rdP, ha, skipB]) (addr6_some t hs ha) (fun w => skip_empty _ _ w rfl)
    · have hr1 : r1.length + 1 ≤ t.size := hrl
      by_cases hc : c = 47
      · subst hc
        rcases hn : readN 10 128 0 false r1 with _ | ⟨v, r2⟩
        · exact pre6_c t hi lo _ _ w _ (by show _ = _; simp [rdP, ha, skipB, hn]) (addr6_some t hs ha) (fun w => skip_yes _ _ 47 r1 w rfl (by rw [mk_size]; simp; omega) rfl) (num_10_none ⟨r1.toArray⟩ 128 (by rw [mk_size]; omega) (by decide) (by simpa using hn))
        · rcases r2 with _ | ⟨x, xs⟩
          · exact pre6_e t hi lo v _ _ w _ (by show _ = _; simp [rdP, ha, skipB, hn]) (addr6_some t hs ha) (fun w => skip_yes _ _ 47 r1 w rfl (by rw [mk_size]; simp; omega) rfl) (num_10_some ⟨r1.toArray⟩ 128 (by rw [mk_size]; omega) (by decide) (by simpa using hn))
          · exact pre6_d t hi lo v _ _ ⟨(x :: xs).toArray⟩ w _ (by show _ = _; simp [rdP, ha, skipB, hn]) (by rw [ByteArray.toList_mk]; rfl) (addr6_some t hs ha) (fun w => skip_yes _ _ 47 r1 w rfl (by rw [mk_size]; simp; omega) rfl) (num_10_some ⟨r1.toArray⟩ 128 (by rw [mk_size]; omega) (by decide) (by simpa using hn))
      · exact pre6_b t hi lo _ w _ (by show _ = _; simp [rdP, ha, skipB, hc]) (addr6_some t hs ha) (fun w => skip_no _ _ c 47 r1 w rfl (by rw [mk_size]; simp; omega) rfl hc)
end Go.Proofs.YtnfkgnjeamnhfaaDoor
