import Derived.Test.YtnfkgnjeamnhfaaGreatUa
import Derived.Deep.DeepCutAuto
import Derived.Deep.RegionWith
namespace Go.Proofs.YtnfkgnjeamnhfaaGreat
open Go.RowKit

set_option maxHeartbeats 1000000 in
theorem rcheck_any (s : ByteArray) (w : World) (hs : s.size ≤ 100000) :
    Calls Tryz.prog 125 #[.string s] w fun e w' => e = .returned (.int .i64 (ck s.data.toList : Nat)) ∧ w' = w := by
  go_enter Tryz.func125, Tryz.ntmps125
  go_wp2
  go_loop [3, 4] (fun v i => ∃ (c k : Nat), k ≤ s.size ∧ i = .int .i64 k ∧ v = .int .u64 c ∧ c ≤ 65280 * k ∧ Hid (c = cs 0 (s.data.toList.take k))) (fun _ i => s.size - (intOf i).toNat)
  case atStart => exact ⟨0, 0, Nat.zero_le _, rfl, rfl, Nat.zero_le _, rfl⟩
  case round =>
    obtain ⟨c, k, hk, rfl, rfl, hc, HC⟩ := hrel
    by_cases hks : k < s.size
    · have hg := bget hks
      have h1 := cs_take hg
      have ha := s[k].toNat_lt
      by_cases hp : k % 2 = 0
      · rw [if_pos hp] at h1
        go_wp2
        exact ⟨⟨c + s[k].toNat * 256, k + 1, by omega, by go_num, by go_num, by omega, by show _ = _; rw [HC.out, h1]⟩, by simp [intOf]; omega⟩
      · rw [if_neg hp] at h1
        go_wp2
        exact ⟨⟨c + s[k].toNat, k + 1, by omega, by go_num, by go_num, by omega, by show _ = _; rw [HC.out, h1]⟩, by simp [intOf]; omega⟩
    · have hkk : k = s.size := by omega
      have HC1 := Lib.hid (show c = cs 0 s.data.toList by rw [HC.out, List.take_of_length_le (by rw [blen]; omega)])
      clear HC
      subst hkk
      by_cases hc0 : c = 0
      · subst hc0
        go_wp2
        go_ret
        exact ⟨ret_nat (by unfold ck; rw [← HC1.out]; rfl), rfl⟩
      · have q1 : ((c : Int) == 0) = false := ine_beq (by omega)
        have q2 : ¬ (c : Int) = 0 := by omega
        go_wp2
        go_ret
        exact ⟨ret_nat (by unfold ck; rw [← HC1.out]; unfold fold; rw [if_neg hc0]; omega), rfl⟩
/-- The number in n bytes. -/
def atN (l : List UInt8) (i : Nat) : Nat → Nat
  | 0 => 0
  | n + 1 => 256 * atN l i n + g1 l (i + n)
theorem at2 (l : List UInt8) (i : Nat) : atN l i 2 = g2 l i := by simp [atN, g2]; omega
theorem at4 (l : List UInt8) (i : Nat) : atN l i 4 = g4 l i := by simp [atN, g4]; omega
theorem at_lt (l : List UInt8) (i : Nat) : ∀ n, n ≤ 4 → atN l i n < 4294967296 := by
  have h0 := g1_lt l (i + 0)
  have h1 := g1_lt l (i + 1)
  have h2 := g1_lt l (i + 2)
  have h3 := g1_lt l (i + 3)
  intro n hn
  rcases (show n = 0 ∨ n = 1 ∨ n = 2 ∨ n = 3 ∨ n = 4 by omega) with rfl | rfl | rfl | rfl | rfl <;> simp only [atN] <;> omega
set_option maxHeartbeats 1000000 in
theorem fat_any (s : ByteArray) (i n : Nat) (hn : n ≤ 4) (hi : i + n ≤ s.size) (hi2 : i ≤ 100) (w : World) :
    Calls Tryz.prog 84 #[.string s, .int .i64 i, .int .i64 n] w fun e w' => e = .returned (.int .u64 (atN s.data.toList i n : Nat)) ∧ w' = w := by
  go_enter Tryz.func84, Tryz.ntmps84
  go_wp2
  go_loop [7, 8] (fun v kv => ∃ (c k : Nat), k ≤ n ∧ kv = .int .i64 ((i + k : Nat) : Int) ∧ v = .int .u64 c ∧ c < 4294967296 ∧ Hid (c = atN s.data.toList i k)) (fun _ kv => i + n - (intOf kv).toNat)
  case atStart => exact ⟨0, 0, Nat.zero_le _, by simp, rfl, by omega, rfl⟩
  case round =>
    obtain ⟨c, k, hk, rfl, rfl, hc, HC⟩ := hrel
    by_cases hkn : k < n
    · have hks : i + k < s.size := by omega
      have hg := g1_b hks
      have ha := s[i + k].toNat_lt
      have q1 : ((i + k : Nat) : Int) < (i : Int) + (n : Int) := by omega
      have h1 : atN s.data.toList i (k + 1) = 256 * c + s[i + k].toNat := by rw [HC.out]; show 256 * _ + g1 _ _ = _; rw [hg]
      have h2 := at_lt s.data.toList i (k + 1) (by omega)
      go_wp2
      exact ⟨⟨256 * c + s[i + k].toNat, k + 1, by omega, by go_num, by go_num, by omega, h1.symm⟩, by simp [intOf]; omega⟩
    · obtain rfl : k = n := by omega
      have q1 : ¬ ((i + k : Nat) : Int) < (i : Int) + (k : Int) := by omega
      go_wp2
      go_ret
      exact ⟨ret_nat (by rw [← HC.out]), rfl⟩
/-- A number as n bytes. -/
def textL : Nat → Nat → List UInt8
  | _, 0 => []
  | v, n + 1 => textL (v / 256) n ++ [UInt8.ofNat (v % 256)]
theorem textL_len (v n : Nat) : (textL v n).length = n := by
  induction n generalizing v with
  | zero => rfl
  | succ n ih => simp [textL, ih]
theorem conv1 {w : World} {g : Nat} {a : UInt8} {x : Int} (hx : x = (a.toNat : Int)) (h : w.heap[g]? = some (.cells #[.int .u8 x] 5)) : (convert 178 9 (.slice (some ⟨g, 0, none⟩) 1 1)).run Tryz.prog w = .ok (.string ⟨#[a]⟩) w := by
  subst hx
  refine run_convert_bytes_back (P := Tryz.prog) _ 178 9 5 ⟨g, 0, none⟩ 1 [a] Tryz.underlying178 Tryz.underlying5 Tryz.underlying9 (fun j hj => ?_)
  rw [Lib.add_plain, Nat.zero_add]
  match j, hj with
  | 0, _ => exact cl20 h rfl
set_option maxHeartbeats 1000000 in
theorem rtext_any (v n : Nat) (hv : v < 9223372036854775807) (hn : n ≤ 8) (w : World) :
    Calls Tryz.prog 86 #[.int .i64 v, .int .i64 n] w fun e w' => ∃ q : ByteArray, e = .returned (.string q) ∧ q.data.toList = textL v n ∧ Below w.heap.size w w' := by
  go_enter Tryz.func86, Tryz.ntmps86
  go_wp2
  go_loopw [0, 1, 5] (fun vv nv sv wr => ∃ (x k : Nat) (q : ByteArray), k ≤ n ∧ nv = .int .i64 k ∧ vv = .int .i64 x ∧ sv = .string q ∧ x < 9223372036854775807 ∧ q.size ≤ n - k ∧ Hid (textL v n = textL x k ++ q.data.toList) ∧ Hid (Below w.heap.size w wr)) (fun _ nv _ _ => (intOf nv).toNat)
  case atStart => exact ⟨v, n, ⟨#[]⟩, Nat.le_refl _, rfl, rfl, rfl, hv, Nat.zero_le _, (List.append_nil _).symm, Below.refl _ _⟩
  case round =>
    obtain ⟨x, k, q, hk, rfl, rfl, rfl, hx, hq, HT, HB⟩ := hrel
    rcases k with _ | k
    · go_wp2
      go_ret
      exact ⟨q, rfl, by rw [HT.out]; simp [textL], HB.out⟩
    · have q1 : (0 : Int) < ((k + 1 : Nat) : Int) := by omega
      have hcv := conv1 (byte_lo x) (heap_alloc_last wr (.cells #[.int .u8 ((x : Int) % 256)] 5))
      have hw1 : IntKind.u8.wrap ((x : Int) % 256) = (x : Int) % 256 := by simp [IntKind.wrap, IntKind.bits, IntKind.signed]
      have hq1 : ¬ 9223372036854775807 < 1 + q.size := by omega
      generalize hy : UInt8.ofNat (x % 256) = y at *
      have Hy := Lib.hid hy
      clear hy
      have hsz : ((⟨#[y]⟩ : ByteArray) ++ q).size ≤ n - k := by rw [ByteArray.size_append]; show 1 + q.size ≤ n - k; omega
      have HT2 := Lib.hid (show textL v n = textL (x / 256) k ++ ((⟨#[y]⟩ : ByteArray) ++ q).data.toList by rw [HT.out, bapp, textL, Hy.out, List.append_assoc])
      go_wp2
      exact ⟨⟨x / 256, k, _, by omega, rfl, by go_num, rfl, by omega, hsz, HT2, HB.out.trans ((below1 wr _).mono HB.out.size)⟩, by simp [intOf]⟩
/-- Bytes with their checksum in the place of the two from i on. -/
def sumL (z : List UInt8) (i : Nat) : List UInt8 := z.take i ++ textL (ck (z.take i ++ [0, 0] ++ z.drop (i + 2))) 2 ++ z.drop (i + 2)
set_option maxHeartbeats 1000000 in
theorem summed_any (s : ByteArray) (i : Nat) (hi : i + 2 ≤ s.size) (hs : s.size ≤ 1000) (w : World) :
    Calls Tryz.prog 87 #[.string s, .int .i64 i] w fun e w' => ∃ q : ByteArray, e = .returned (.string q) ∧ q.data.toList = sumL s.data.toList i ∧ Below w.heap.size w w' := by
  obtain ⟨j, hj⟩ : ∃ j, j = i + 2 := ⟨_, rfl⟩
  have e1 : (s.extract 0 i).data.toList = s.data.toList.take i := by rw [ext_list]; simp
  have e2 : (s.extract j s.size).data.toList = s.data.toList.drop (i + 2) := by rw [ext_list, List.take_of_length_le (by rw [blen]; omega), hj]
  have z1 : (s.extract 0 i).size = i := by rw [ByteArray.size_extract]; omega
  have z2 : (s.extract j s.size).size = s.size - j := by rw [ByteArray.size_extract]; omega
  have hel : ((s.extract 0 i ++ ⟨#[0, 0]⟩) ++ s.extract j s.size).data.toList = s.data.toList.take i ++ [0, 0] ++ s.data.toList.drop (i + 2) := by
    rw [bapp, bapp, e1, e2]
  have HC := Lib.hid (fun w => rcheck_any ((s.extract 0 i ++ ⟨#[0, 0]⟩) ++ s.extract j s.size) w (by rw [← blen, hel]; simp; omega))
  rw [hel] at HC
  obtain ⟨c, hc⟩ : ∃ c, ck (s.data.toList.take i ++ [0, 0] ++ s.data.toList.drop (i + 2)) = c := ⟨_, rfl⟩
  rw [hc] at HC
  have hck : c < 65536 := by rw [← hc]; exact ck_lt _
  have HT := Lib.hid (fun w => rtext_any c 2 (by omega) (by decide) w)
  have HZ := Lib.hid (show ∀ q : ByteArray, q.data.toList = textL c 2 → ((s.extract 0 i ++ q) ++ s.extract j s.size).data.toList = sumL s.data.toList i from fun q h => by
    unfold sumL
    rw [hc, bapp, bapp, e1, e2, h])
  have HQ := Lib.hid (show ∀ q : ByteArray, q.data.toList = textL c 2 → q.size = 2 from fun q h => by rw [← blen, h, textL_len])
  have q1 : (i : Int) ≤ (s.size : Int) := by omega
  have q2 : IntKind.i64.wrap ((i : Int) + 2) = (j : Int) := by rw [hj]; exact wrap_i64_nat (n := i + 2) (by omega)
  have q4 : (j : Int) ≤ (s.size : Int) := by omega
  have q5 : (0 : Int) ≤ (j : Int) := by omega
  have r1 : ¬ 9223372036854775807 < i + 2 := by omega
  have r2 : ¬ 9223372036854775807 < i + 2 + (s.size - j) := by omega
  have Hj := Lib.hid hj
  have q3 : (0 : Int) ≤ (i : Int) := by omega
  clear e1 e2 hel hc hj
  go_enter Tryz.func87, Tryz.ntmps87
  go_wp2_with fail
  go_region_with (go_at_call 125; refine (HC.out _).mono ?_; rintro e w2 ⟨rfl, rfl⟩)
  all_goals
    go_wp2_with fail
    go_region_with (go_at_call 86; refine (HT.out _).mono ?_; rintro e w3 ⟨q, rfl, hq, hb3⟩; have hq2 := HQ.out q hq; have HZq := Lib.hid (HZ.out q hq); have HB3 := Lib.hid (show Below w.heap.size w w3 from ⟨hb3.os, hb3.tape, hb3.output, hb3.size, hb3.block⟩); clear hq hb3)
    all_goals
      go_wp2_with fail
      go_ret
      exact ⟨_, rfl, HZq.out, HB3.out⟩
end Go.Proofs.YtnfkgnjeamnhfaaGreat
namespace Go.Proofs.YtnfkgnjeamnhfaaGreat
open Go.RowKit

theorem text1 (v : Nat) : textL v 1 = [UInt8.ofNat (v % 256)] := rfl
theorem text2 {v : Nat} (h : v < 65536) : textL v 2 = [UInt8.ofNat (v / 256), UInt8.ofNat (v % 256)] := by
  show [UInt8.ofNat (v / 256 % 256), UInt8.ofNat (v % 256)] = _
  rw [Nat.mod_eq_of_lt (show v / 256 < 256 by omega)]
theorem text4 {v : Nat} (h : v < 4294967296) : textL v 4 = [UInt8.ofNat (v / 16777216), UInt8.ofNat (v / 65536 % 256), UInt8.ofNat (v / 256 % 256), UInt8.ofNat (v % 256)] := by
  show [UInt8.ofNat (v / 256 / 256 / 256 % 256), UInt8.ofNat (v / 256 / 256 % 256), UInt8.ofNat (v / 256 % 256), UInt8.ofNat (v % 256)] = _
  rw [show v / 256 / 256 / 256 % 256 = v / 16777216 by omega, show v / 256 / 256 % 256 = v / 65536 % 256 by omega]
theorem seal_sum {l : List UInt8} (hl : l.length = 20) : sealL l = sumL l 10 := by
  obtain ⟨b0, b1, b2, b3, b4, b5, b6, b7, b8, b9, b10, b11, b12, b13, b14, b15, b16, b17, b18, b19, rfl⟩ := list20 hl
  unfold sealL sumL
  have e : zs [b0, b1, b2, b3, b4, b5, b6, b7, b8, b9, b10, b11, b12, b13, b14, b15, b16, b17, b18, b19] = [b0, b1, b2, b3, b4, b5, b6, b7, b8, b9, 0, 0, b12, b13, b14, b15, b16, b17, b18, b19] := rfl
  rw [e]
  rw [show (List.take 10 [b0, b1, b2, b3, b4, b5, b6, b7, b8, b9, b10, b11, b12, b13, b14, b15, b16, b17, b18, b19] ++ [0, 0] ++ List.drop (10 + 2) [b0, b1, b2, b3, b4, b5, b6, b7, b8, b9, b10, b11, b12, b13, b14, b15, b16, b17, b18, b19]) = [b0, b1, b2, b3, b4, b5, b6, b7, b8, b9, 0, 0, b12, b13, b14, b15, b16, b17, b18, b19] from rfl]
  rw [text2 (ck_lt _)]
  rfl
theorem note_sum (k : UInt8) (q : List UInt8) : noteL k q = sumL (noteZ k q) 2 := by
  unfold noteL sumL
  rw [show List.take 2 (noteZ k q) ++ [0, 0] ++ List.drop (2 + 2) (noteZ k q) = noteZ k q from rfl, text2 (ck_lt _)]
  rfl
theorem take28 (t : List UInt8) : t.take 20 ++ (t.drop 20).take 8 = t.take 28 := by
  rw [show (28 : Nat) = 20 + 8 from rfl, List.take_add]
theorem note_len (k : UInt8) (q : List UInt8) : (noteL k q).length = 8 + q.length := by simp [noteL]; omega
theorem g1_take {t : List UInt8} {i n : Nat} (h : i < n) : g1 (t.take n) i = g1 t i := by
  unfold g1
  rw [List.getD_eq_getElem?_getD, List.getD_eq_getElem?_getD, List.getElem?_take, if_pos h]
theorem g1_drop (t : List UInt8) (i n : Nat) : g1 (t.drop n) i = g1 t (n + i) := by
  unfold g1
  rw [List.getD_eq_getElem?_getD, List.getD_eq_getElem?_getD, List.getElem?_drop]
theorem g2_take {t : List UInt8} {i n : Nat} (h : i + 1 < n) : g2 (t.take n) i = g2 t i := by
  unfold g2; rw [g1_take (by omega), g1_take h]
theorem g4_take {t : List UInt8} {i n : Nat} (h : i + 3 < n) : g4 (t.take n) i = g4 t i := by
  unfold g4; rw [g1_take (by omega), g1_take (by omega), g1_take (by omega), g1_take h]
/-- The document's head of an answer. -/
theorem head_sum (t : List UInt8) (ht : 20 ≤ t.length) {own n : Nat} (ho : own < 4294967296) (hn : n ≤ 1000) :
    [69] ++ textL 0 1 ++ textL (28 + n) 2 ++ textL 0 4 ++ textL 64 1 ++ textL 1 1 ++ textL 0 2 ++ textL own 4 ++ (t.take 16).drop 12 = ansZ (t.take 20) own (8 + n) := by
  rw [text2 (v := 28 + n) (by omega), text4 ho, show 28 + n = 20 + (8 + n) by omega]
  have e : (t.take 16).drop 12 = [(t.take 20).getD 12 0, (t.take 20).getD 13 0, (t.take 20).getD 14 0, (t.take 20).getD 15 0] := by
    obtain ⟨b0, b1, b2, b3, b4, b5, b6, b7, b8, b9, b10, b11, b12, b13, b14, b15, b16, b17, b18, b19, he⟩ := list20 (l := t.take 20) (by rw [List.length_take]; omega)
    rw [show t.take 16 = (t.take 20).take 16 by rw [List.take_take]; rfl, he]
    rfl
  rw [e]
  rfl
/-- The document's test: is a packet not answered? -/
theorem may_iff (t : List UInt8) (ht : 20 ≤ t.length) : mayB (t.take 20) (t.drop 20) = true ↔ ¬ (g1 t 9 = 1 ∧ 20 < t.length ∧ g1 t 20 ≠ 0 ∧ g1 t 20 ≠ 8) ∧ g2 t 6 % 8192 = 0 := by
  unfold mayB
  rw [g2_take (by decide), g1_take (by decide), g1_drop, List.length_drop]
  by_cases h1 : g2 t 6 % 8192 = 0
  · rw [if_pos h1]
    by_cases h2 : g1 t 9 ≠ 1 ∨ t.length - 20 = 0
    · rw [if_pos h2]
      simp only [h1, and_true, true_iff]
      omega
    · rw [if_neg h2]
      simp only [decide_eq_true_eq, h1, and_true, Nat.add_zero]
      omega
  · rw [if_neg h1]
    simp [h1]
/-- A head whose life is less, as the document makes it. -/
theorem less_sum (t : List UInt8) (ht : 20 ≤ t.length) (h1 : 1 < g1 t 8) : t.take 8 ++ textL (g1 t 8 - 1) 1 ++ (t.take 20).drop 9 = lessL (t.take 20) := by
  have h8 := g1_lt t 8
  obtain ⟨b0, b1, b2, b3, b4, b5, b6, b7, b8, b9, b10, b11, b12, b13, b14, b15, b16, b17, b18, b19, he⟩ := list20 (l := t.take 20) (by rw [List.length_take]; omega)
  have e8 : g1 t 8 = b8.toNat := by rw [← g1_take (n := 20) (by decide), he]; rfl
  rw [show t.take 8 = (t.take 20).take 8 by rw [List.take_take]; rfl, he, text1, e8, Nat.mod_eq_of_lt (by omega)]
  unfold lessL
  rw [show g1 [b0, b1, b2, b3, b4, b5, b6, b7, b8, b9, b10, b11, b12, b13, b14, b15, b16, b17, b18, b19] 8 = b8.toNat from rfl]
  rfl
end Go.Proofs.YtnfkgnjeamnhfaaGreat
namespace Go.Proofs.YtnfkgnjeamnhfaaGreat
open Go.RowKit

theorem rtext_ex (v n : Nat) (hv : v < 9223372036854775807) (hn : n ≤ 8) (w : World) : Calls Tryz.prog 86 #[.int .i64 v, .int .i64 n] w fun e w' => e = .returned (.string ⟨(textL v n).toArray⟩) ∧ Below w.heap.size w w' :=
  (rtext_any v n hv hn w).mono (fun e w' ⟨q, h1, h2, h3⟩ => ⟨by rw [h1, ba_of h2], h3⟩)
theorem summed_ex (s : ByteArray) (i : Nat) (hi : i + 2 ≤ s.size) (hs : s.size ≤ 1000) (w : World) : Calls Tryz.prog 87 #[.string s, .int .i64 i] w fun e w' => e = .returned (.string ⟨(sumL s.data.toList i).toArray⟩) ∧ Below w.heap.size w w' :=
  (summed_any s i hi hs w).mono (fun e w' ⟨q, h1, h2, h3⟩ => ⟨by rw [h1, ba_of h2], h3⟩)
theorem byte_one (k : UInt8) : [UInt8.ofNat (k.toNat % 256)].toArray = #[k] := by
  have := k.toNat_lt
  rw [Nat.mod_eq_of_lt (by omega)]; simp
theorem noteZ_len (k : UInt8) (q : List UInt8) : (noteZ k q).length = 8 + q.length := by
  rw [noteZ, List.length_append]; rfl
/-- A contract over a base. -/
theorem on_base {f : FuncId} {a : Array Value} {w w1 : World} {v : Value} (hb : Hid (Below w.heap.size w w1)) (h : Calls Tryz.prog f a w1 fun e w' => e = .returned v ∧ Below w1.heap.size w1 w') : Calls Tryz.prog f a w1 fun e w' => e = .returned v ∧ Hid (Below w.heap.size w w') :=
  h.mono (fun _ _ h => ⟨h.1, hb.out.trans (h.2.mono hb.out.size)⟩)
set_option maxRecDepth 4000 in
set_option maxHeartbeats 4000000 in
theorem ranswer_any (s : ByteArray) (h20 : 20 ≤ s.size) (hs : s.size ≤ 65535) (r : Int) (own : Nat) (ho : own < 4294967296) (w : World) :
    Calls Tryz.prog 85 #[.string s, .int .i64 r, .int .u32 own] w fun e w' => e = .returned (vV (ansV (s.data.toList.take 20) (s.data.toList.drop 20) own r)) ∧ Below w.heap.size w w' := by
  have hA := Lib.hid (fun w => fat_any s 6 2 (by decide) (by omega) (by decide) w)
  rw [at2] at hA
  have hmay := may_iff s.data.toList (by rw [blen]; exact h20)
  rw [blen] at hmay
  have h9 := g1_b (show 9 < s.size by omega)
  obtain ⟨V, hV⟩ : ∃ V, ansV (s.data.toList.take 20) (s.data.toList.drop 20) own r = V := ⟨_, rfl⟩
  rw [hV]
  obtain ⟨qb, hqb⟩ : ∃ qb : Bool, qb = decide (g1 s.data.toList 9 = 1 ∧ 20 < s.size ∧ g1 s.data.toList 20 ≠ 0 ∧ g1 s.data.toList 20 ≠ 8) := ⟨_, rfl⟩
  have Hqb := Lib.hid hqb
  have Hmay := Lib.hid hmay
  have HV := Lib.hid hV
  clear hqb hmay hV h9
  go_enter Tryz.func85, Tryz.ntmps85
  apply wp_seq_k
  intro K1 hK1
  have HK1 := Lib.hid hK1
  clear hK1
  go_wp2_with fail
  refine HK1.out _ _ ?_
  obtain ⟨w1, hw1⟩ : ∃ w1, w1 = w.alloc (.cells #[.int .i64 0, .int .i64 0, .int .i64 0, .string ⟨#[]⟩] 83) := ⟨_, rfl⟩
  have HB1 := Lib.hid (show Below w.heap.size w w1 by rw [hw1]; exact below1 _ _)
  have HR1 := Lib.hid (show w1.heap[w.heap.size]? = some (.cells #[.int .i64 0, .int .i64 0, .int .i64 0, .string ⟨#[]⟩] 83) by rw [hw1]; exact heap_alloc_last w _)
  rw [← hw1]
  clear hw1 HK1
  apply wp_seq_k
  intro K2 hK2
  have HK2 := Lib.hid hK2
  clear hK2
  go_cut [7] (fun v wx => v = .bool qb ∧ wx = w1)
  case first =>
    have l9 : (9 : Nat) < s.size := by omega
    have hqb := Hqb.out
    rw [g1_b l9] at hqb
    have b9 := (s[9]'l9).toNat_lt
    by_cases h1 : (s[9]'l9).toNat = 1
    case neg =>
      obtain rfl : qb = false := by rw [hqb]; exact decide_eq_false (fun h => h1 h.1)
      have q1 : (((s[9]'l9).toNat : Int) == 1) = false := ine_beq (by omega)
      clear hqb
      go_wp2_with fail
      go_meet
      exact ⟨rfl, rfl⟩
    by_cases h2 : 20 < s.size
    case neg =>
      obtain rfl : qb = false := by rw [hqb]; exact decide_eq_false (fun h => h2 h.2.1)
      have q2 : ¬ (20 : Int) < (s.size : Int) := by omega
      clear hqb
      go_wp2_with fail
      go_meet
      exact ⟨rfl, rfl⟩
    rw [g1_b h2] at hqb
    have b20 := (s[20]'h2).toNat_lt
    have q2 : (20 : Int) < (s.size : Int) := by omega
    by_cases h3 : (s[20]'h2).toNat = 0
    case pos =>
      obtain rfl : qb = false := by rw [hqb]; exact decide_eq_false (fun h => h.2.2.1 h3)
      clear hqb
      go_wp2_with fail
      go_meet
      exact ⟨rfl, rfl⟩
    have q3 : (((s[20]'h2).toNat : Int) != 0) = true := by simp; omega
    by_cases h4 : (s[20]'h2).toNat = 8
    case pos =>
      obtain rfl : qb = false := by rw [hqb]; exact decide_eq_false (fun h => h.2.2.2 h4)
      clear hqb
      go_wp2_with fail
      go_meet
      exact ⟨rfl, rfl⟩
    have q4 : (((s[20]'h2).toNat : Int) != 8) = true := by simp; omega
    obtain rfl : qb = true := by rw [hqb]; exact decide_eq_true ⟨h1, h2, h3, h4⟩
    clear hqb
    go_wp2_with fail
    go_meet
    exact ⟨rfl, rfl⟩
  case rest =>
  obtain ⟨rfl, rfl⟩ := hcut
  refine HK2.out _ _ ?_
  clear HK2
  apply wp_seq_k
  intro K3 hK3
  have HK3 := Lib.hid hK3
  clear hK3
  have HNo := Lib.hid (show (qb = true ∨ g2 s.data.toList 6 % 8192 ≠ 0) → V = ⟨0, r, 0, []⟩ from fun h => by
    rw [← HV.out]
    unfold ansV
    rw [if_neg]
    intro hm
    have := Hmay.out.1 hm
    rcases h with h | h
    · rw [Hqb.out] at h
      exact this.1 (of_decide_eq_true h)
    · exact h this.2)
  have HYes := Lib.hid (show (qb = false ∧ g2 s.data.toList 6 % 8192 = 0) → mayB (s.data.toList.take 20) (s.data.toList.drop 20) = true from fun h => Hmay.out.2 ⟨fun hh => absurd ((Hqb.out.trans (decide_eq_true hh)).symm.trans h.1) (by decide), h.2⟩)
  clear Hqb Hmay
  generalize g2 s.data.toList 6 = y at *
  have k0 := cl20 HR1.out (j := 0) rfl
  have k1 := cl20 HR1.out (j := 1) rfl
  have k2 := cl20 HR1.out (j := 2) rfl
  have k3 := cl20 HR1.out (j := 3) rfl
  have f0 := froz_row (j := 0) HR1.out
  have f1 := froz_row (j := 1) HR1.out
  have f2 := froz_row (j := 2) HR1.out
  have f3 := froz_row (j := 3) HR1.out
  cases qb with
  | true =>
    have hv := HNo.out (.inl rfl)
    subst hv
    go_wp2_with fail
    exact bodyV rfl rfl HR1.out ⟨rfl, below4 HB1.out (Nat.le_refl _) _ _ _ _⟩
  | false =>
  go_wp2_with fail
  refine (hA.out _).mono ?_
  rintro e w2 ⟨rfl, rfl⟩
  by_cases hy : y % 8192 = 0
  case neg =>
    have hv := HNo.out (.inr hy)
    subst hv
    have q1 : ((y : Int) % 8192 != 0) = true := by simp; omega
    go_wp2_with fail
    exact bodyV rfl rfl HR1.out ⟨rfl, below4 HB1.out (Nat.le_refl _) _ _ _ _⟩
  have hm := HYes.out ⟨by first | rfl | trivial, hy⟩
  have HM := Lib.hid hm
  have q1 : ((y : Int) % 8192 != 0) = false := by simp; omega
  go_wp2_with fail
  refine HK3.out _ _ ?_
  clear HK3 HNo HYes hm q1 hA hy
  apply wp_seq_k
  intro K4 hK4
  have HK4 := Lib.hid hK4
  clear hK4
  go_wp2_with fail
  refine HK4.out _ _ ?_
  clear HK4
  apply wp_seq_k
  intro K5 hK5
  have HK5 := Lib.hid hK5
  clear hK5
  obtain ⟨k, hk⟩ : ∃ k, k = kindB r := ⟨_, rfl⟩
  have Hk := Lib.hid hk
  clear hk
  go_cut [8] (fun v wx => v = .int .i64 (k.toNat : Int) ∧ wx = w2)
  case first =>
    have hk := Hk.out
    unfold kindB at hk
    by_cases h1 : r = 8
    · rw [if_pos h1] at hk
      subst h1 hk
      go_wp2_with fail
      go_meet
      exact ⟨rfl, rfl⟩
    · rw [if_neg h1] at hk
      subst hk
      have q1 : (r == 8) = false := ine_beq h1
      go_wp2_with fail
      go_meet
      exact ⟨rfl, rfl⟩
  case rest =>
  obtain ⟨rfl, rfl⟩ := hcut
  refine HK5.out _ _ ?_
  clear HK5
  apply wp_seq_k
  intro K6 hK6
  have HK6 := Lib.hid hK6
  clear hK6
  go_wp2_with fail
  refine HK6.out _ _ ?_
  clear HK6
  apply wp_seq_k
  intro K7 hK7
  have HK7 := Lib.hid hK7
  clear hK7
  obtain ⟨n, hn⟩ : ∃ n, n = min s.size 28 := ⟨_, rfl⟩
  have Hn := Lib.hid hn
  clear hn
  go_cut [9] (fun v wx => v = .int .i64 (n : Int) ∧ wx = wc)
  case first =>
    have hn := Hn.out
    by_cases h1 : 28 < s.size
    · have q1 : (28 : Int) < (s.size : Int) := by omega
      rw [Nat.min_eq_right (by omega)] at hn
      subst hn
      go_wp2_with fail
      go_meet
      exact ⟨rfl, rfl⟩
    · have q1 : ¬ (28 : Int) < (s.size : Int) := by omega
      rw [Nat.min_eq_left (by omega)] at hn
      subst hn
      go_wp2_with fail
      go_meet
      exact ⟨rfl, rfl⟩
  case rest =>
  obtain ⟨rfl, rfl⟩ := hcut
  refine HK7.out _ _ ?_
  clear HK7
  have hn1 : n ≤ 28 := by rw [Hn.out]; omega
  have hn2 : n ≤ s.size := by rw [Hn.out]; omega
  have hn3 : s.data.toList.take n = s.data.toList.take 28 := by
    rw [Hn.out]
    rcases Nat.le_total s.size 28 with h | h
    · rw [Nat.min_eq_left h, List.take_of_length_le (by rw [blen]; omega), List.take_of_length_le (by rw [blen]; omega)]
    · rw [Nat.min_eq_right h]
  have Hn3 := Lib.hid hn3
  clear hn3
  generalize wc = wb at *
  apply wp_seq_k
  intro K8 hK8
  have HK8 := Lib.hid hK8
  clear hK8 k0 k1 k2 k3 f0 f1 f2 f3
  obtain ⟨b1, hb1⟩ : ∃ b1 : ByteArray, b1 = ⟨#[k]⟩ := ⟨_, rfl⟩
  obtain ⟨b2, hb2⟩ : ∃ b2 : ByteArray, b2 = ⟨#[0, 0, 0, 0, 0, 0, 0]⟩ := ⟨_, rfl⟩
  have zb1 : b1.size = 1 := by rw [hb1]; rfl
  have zb2 : b2.size = 7 := by rw [hb2]; rfl
  have zn : (s.extract 0 n).size = n := by rw [ByteArray.size_extract]; omega
  have en : (s.extract 0 n).data.toList = s.data.toList.take n := by rw [ext_list]; simp
  have en2 : ((b1 ++ b2) ++ s.extract 0 n).data.toList = noteZ k (s.data.toList.take n) := by rw [bapp, bapp, en, hb1, hb2]; rfl
  obtain ⟨NT, hNT⟩ : ∃ NT : ByteArray, NT = ⟨(noteL k (s.data.toList.take n)).toArray⟩ := ⟨_, rfl⟩
  have HNT := Lib.hid (show NT.data.toList = noteL k (s.data.toList.take n) by rw [hNT])
  have hNs : NT.size = 8 + n := by rw [← blen, HNT.out, note_len, List.length_take, blen]; omega
  have HT1 := Lib.hid (show ∀ w1, Hid (Below wb.heap.size wb w1) → Calls Tryz.prog 86 #[.int .i64 (k.toNat : Int), .int .i64 1] w1 fun e w' => e = .returned (.string b1) ∧ Hid (Below wb.heap.size wb w') from fun w1 hb => by
    have h := on_base hb (rtext_ex k.toNat 1 (by have := k.toNat_lt; omega) (by decide) w1)
    rw [show (textL k.toNat 1).toArray = #[k] by rw [text1]; exact byte_one k, ← hb1] at h
    exact h)
  have HT2 := Lib.hid (show ∀ w1, Hid (Below wb.heap.size wb w1) → Calls Tryz.prog 86 #[.int .i64 0, .int .i64 7] w1 fun e w' => e = .returned (.string b2) ∧ Hid (Below wb.heap.size wb w') from fun w1 hb => by rw [hb2]; exact on_base hb (rtext_ex 0 7 (by decide) (by decide) w1))
  have HS1 := Lib.hid (show ∀ w1, Hid (Below wb.heap.size wb w1) → Calls Tryz.prog 87 #[.string ((b1 ++ b2) ++ s.extract 0 n), .int .i64 2] w1 fun e w' => e = .returned (.string NT) ∧ Hid (Below wb.heap.size wb w') from fun w1 hb => by
    have h := on_base hb (summed_ex ((b1 ++ b2) ++ s.extract 0 n) 2 (by rw [← blen, en2, noteZ_len]; omega) (by rw [← blen, en2, noteZ_len, List.length_take]; omega) w1)
    rw [en2, ← note_sum, ← hNT] at h
    exact h)
  have HB2 := Lib.hid (show Below wb.heap.size wb wb.drew from (Below.refl _ _).drew)
  have r1 : ¬ 9223372036854775807 < 8 + n := by omega
  have q5 : (0 : Int) ≤ (n : Int) := by omega
  have q6 : (n : Int) ≤ (s.size : Int) := by omega
  have r2 : ¬ 9223372036854775807 < 1 + 7 + n := by omega
  clear en en2 hNT hb1 hb2
  go_cut [10] (fun v wx => v = .string NT ∧ Hid (Below wb.heap.size wb wx))
  case first =>
    go_region_with ((first | (go_at_call_of 86 (Value.int IntKind.i64 (k.toNat : Int)); refine (HT1.out _ (by assumption)).mono ?_) | (go_at_call_of 86 (Value.int IntKind.i64 7); refine (HT2.out _ (by assumption)).mono ?_) | (go_at_call 87; refine (HS1.out _ (by assumption)).mono ?_)); rintro e wx ⟨rfl, HBx⟩)
    all_goals
      go_wp2_with fail
      go_meet
      exact ⟨rfl, HBx⟩
  case rest =>
  obtain ⟨rfl, HB3⟩ := hcut
  refine HK8.out _ _ ?_
  clear HK8 HT1 HT2 HS1 HB2
  apply wp_seq_k
  intro K9 hK9
  have HK9 := Lib.hid hK9
  clear hK9
  obtain ⟨x1, x2, hx⟩ : ∃ x1 x2, textL (28 + n) 2 = [x1, x2] := ⟨_, _, rfl⟩
  obtain ⟨o1, o2, o3, o4, hox⟩ : ∃ o1 o2 o3 o4, textL own 4 = [o1, o2, o3, o4] := ⟨_, _, _, _, rfl⟩
  obtain ⟨a1, ha1⟩ : ∃ x : ByteArray, x = ⟨#[0]⟩ := ⟨_, rfl⟩
  have za1 : a1.size = 1 := by rw [ha1]; rfl
  obtain ⟨a2, ha2⟩ : ∃ x : ByteArray, x = ⟨#[x1, x2]⟩ := ⟨_, rfl⟩
  have za2 : a2.size = 2 := by rw [ha2]; rfl
  obtain ⟨a3, ha3⟩ : ∃ x : ByteArray, x = ⟨#[0, 0, 0, 0]⟩ := ⟨_, rfl⟩
  have za3 : a3.size = 4 := by rw [ha3]; rfl
  obtain ⟨a4, ha4⟩ : ∃ x : ByteArray, x = ⟨#[64]⟩ := ⟨_, rfl⟩
  have za4 : a4.size = 1 := by rw [ha4]; rfl
  obtain ⟨a5, ha5⟩ : ∃ x : ByteArray, x = ⟨#[1]⟩ := ⟨_, rfl⟩
  have za5 : a5.size = 1 := by rw [ha5]; rfl
  obtain ⟨a6, ha6⟩ : ∃ x : ByteArray, x = ⟨#[0, 0]⟩ := ⟨_, rfl⟩
  have za6 : a6.size = 2 := by rw [ha6]; rfl
  obtain ⟨a7, ha7⟩ : ∃ x : ByteArray, x = ⟨#[o1, o2, o3, o4]⟩ := ⟨_, rfl⟩
  have za7 : a7.size = 4 := by rw [ha7]; rfl
  have zE : (⟨#[69]⟩ : ByteArray).size = 1 := rfl
  have HA1 := Lib.hid (show ∀ w1, Hid (Below wb.heap.size wb w1) → Calls Tryz.prog 86 #[.int .i64 0, .int .i64 1] w1 fun e w' => e = .returned (.string a1) ∧ Hid (Below wb.heap.size wb w') from fun w1 hb => by rw [ha1]; exact on_base hb (rtext_ex 0 1 (by decide) (by decide) w1))
  have HA2 := Lib.hid (show ∀ w1, Hid (Below wb.heap.size wb w1) → Calls Tryz.prog 86 #[.int .i64 0, .int .i64 4] w1 fun e w' => e = .returned (.string a3) ∧ Hid (Below wb.heap.size wb w') from fun w1 hb => by rw [ha3]; exact on_base hb (rtext_ex 0 4 (by decide) (by decide) w1))
  have HA3 := Lib.hid (show ∀ w1, Hid (Below wb.heap.size wb w1) → Calls Tryz.prog 86 #[.int .i64 64, .int .i64 1] w1 fun e w' => e = .returned (.string a4) ∧ Hid (Below wb.heap.size wb w') from fun w1 hb => by rw [ha4]; exact on_base hb (rtext_ex 64 1 (by decide) (by decide) w1))
  have HA4 := Lib.hid (show ∀ w1, Hid (Below wb.heap.size wb w1) → Calls Tryz.prog 86 #[.int .i64 1, .int .i64 1] w1 fun e w' => e = .returned (.string a5) ∧ Hid (Below wb.heap.size wb w') from fun w1 hb => by rw [ha5]; exact on_base hb (rtext_ex 1 1 (by decide) (by decide) w1))
  have HA5 := Lib.hid (show ∀ w1, Hid (Below wb.heap.size wb w1) → Calls Tryz.prog 86 #[.int .i64 0, .int .i64 2] w1 fun e w' => e = .returned (.string a6) ∧ Hid (Below wb.heap.size wb w') from fun w1 hb => by rw [ha6]; exact on_base hb (rtext_ex 0 2 (by decide) (by decide) w1))
  obtain ⟨m28, hm28⟩ : ∃ m : Int, m = 28 + (n : Int) := ⟨_, rfl⟩
  have HA6 := Lib.hid (show ∀ w1, Hid (Below wb.heap.size wb w1) → Calls Tryz.prog 86 #[.int .i64 m28, .int .i64 2] w1 fun e w' => e = .returned (.string a2) ∧ Hid (Below wb.heap.size wb w') from fun w1 hb => by
    have h := on_base hb (rtext_ex (28 + n) 2 (by omega) (by decide) w1)
    rw [hx, ← ha2, show ((28 + n : Nat) : Int) = m28 by rw [hm28]; omega] at h
    exact h)
  have HA7 := Lib.hid (show ∀ w1, Hid (Below wb.heap.size wb w1) → Calls Tryz.prog 86 #[.int .i64 (own : Int), .int .i64 4] w1 fun e w' => e = .returned (.string a7) ∧ Hid (Below wb.heap.size wb w') from fun w1 hb => by
    have h := on_base hb (rtext_ex own 4 (by omega) (by decide) w1)
    rw [hox, ← ha7] at h
    exact h)
  have zs1 : (s.extract 12 16).size = 4 := by rw [ByteArray.size_extract]; omega
  have es1 : (s.extract 12 16).data.toList = (s.data.toList.take 16).drop 12 := ext_list _ _ _
  have es2 : ((⟨#[69]⟩ : ByteArray) ++ a1 ++ a2 ++ a3 ++ a4 ++ a5 ++ a6 ++ a7 ++ s.extract 12 16).data.toList = ansZ (s.data.toList.take 20) own (8 + n) := by
    rw [← head_sum s.data.toList (by rw [blen]; exact h20) ho (by omega), hx, hox, bapp, bapp, bapp, bapp, bapp, bapp, bapp, bapp, es1, ha1, ha2, ha3, ha4, ha5, ha6, ha7]
    rfl
  have hA20 : (ansZ (s.data.toList.take 20) own (8 + n)).length = 20 := rfl
  obtain ⟨HD, hHD⟩ : ∃ HD : ByteArray, HD = ⟨(sealL (ansZ (s.data.toList.take 20) own (8 + n))).toArray⟩ := ⟨_, rfl⟩
  have HHD := Lib.hid (show HD.data.toList = sealL (ansZ (s.data.toList.take 20) own (8 + n)) by rw [hHD])
  have hDs : HD.size = 20 := by rw [← blen, HHD.out, sealL_len]; rfl
  have HS2 := Lib.hid (show ∀ w1, Hid (Below wb.heap.size wb w1) → Calls Tryz.prog 87 #[.string ((⟨#[69]⟩ : ByteArray) ++ a1 ++ a2 ++ a3 ++ a4 ++ a5 ++ a6 ++ a7 ++ s.extract 12 16), .int .i64 10] w1 fun e w' => e = .returned (.string HD) ∧ Hid (Below wb.heap.size wb w') from fun w1 hb => by
    have h := on_base hb (summed_ex ((⟨#[69]⟩ : ByteArray) ++ a1 ++ a2 ++ a3 ++ a4 ++ a5 ++ a6 ++ a7 ++ s.extract 12 16) 10 (by rw [← blen, es2, hA20]; decide) (by rw [← blen, es2, hA20]; decide) w1)
    rw [es2, ← seal_sum hA20, ← hHD] at h
    exact h)
  have HB4 := Lib.hid (show Below wb.heap.size wb wc.drew from HB3.out.drew)
  have q7 : (16 : Int) ≤ (s.size : Int) := by omega
  have q9 : IntKind.i64.wrap (own : Int) = (own : Int) := wrap_i64_nat (by omega)
  have q8 : IntKind.i64.wrap (28 + (n : Int)) = m28 := by rw [hm28, show (28 : Int) + (n : Int) = ((28 + n : Nat) : Int) by omega]; exact wrap_i64_nat (by omega)
  clear es1 es2 hA20 hHD hx hox hm28 ha1 ha2 ha3 ha4 ha5 ha6 ha7
  go_cut [11] (fun v wx => v = .string HD ∧ Hid (Below wb.heap.size wb wx))
  case first =>
    go_region_with ((first | (go_at_call_of 86 (Value.int IntKind.i64 m28); refine (HA6.out _ (by assumption)).mono ?_) | (go_at_call_of 86 (Value.int IntKind.i64 64); refine (HA3.out _ (by assumption)).mono ?_) | (go_at_call_of 86 (Value.int IntKind.i64 0); go_at_call_of 86 (Value.int IntKind.i64 4); refine (HA2.out _ (by assumption)).mono ?_) | (go_at_call_of 86 (Value.int IntKind.i64 0); go_at_call_of 86 (Value.int IntKind.i64 1); refine (HA1.out _ (by assumption)).mono ?_) | (go_at_call_of 86 (Value.int IntKind.i64 0); go_at_call_of 86 (Value.int IntKind.i64 2); refine (HA5.out _ (by assumption)).mono ?_) | (go_at_call_of 86 (Value.int IntKind.i64 (own : Int)); refine (HA7.out _ (by assumption)).mono ?_) | (go_at_call_of 86 (Value.int IntKind.i64 1); refine (HA4.out _ (by assumption)).mono ?_) | (go_at_call 87; refine (HS2.out _ (by assumption)).mono ?_)); rintro e wx ⟨rfl, HBx⟩)
    all_goals
      go_wp2_with fail
      go_meet
      exact ⟨rfl, HBx⟩
  case rest =>
  obtain ⟨rfl, HB5⟩ := hcut
  refine HK9.out _ _ ?_
  clear HK9 HA1 HA2 HA3 HA4 HA5 HA6 HA7 HS2 HB4
  have HK5 := Lib.hid (row_below HB5.out HR1.out ((Array.getElem?_eq_some_iff.1 HR1.out).1))
  have HBf := Lib.hid (HB1.out.trans (HB5.out.mono HB1.out.size))
  have r3 : ¬ 9223372036854775807 < 20 + (8 + n) := by omega
  have HVf := Lib.hid (show V = ⟨3, r, 0, (HD ++ NT).data.toList⟩ by
    rw [← HV.out]
    unfold ansV
    rw [if_pos HM.out, take28, ← Hn3.out, ← Hk.out, note_len, List.length_take, blen, Nat.min_eq_left hn2, bapp, HHD.out, HNT.out])
  have k0 := cl20 HK5.out (j := 0) rfl
  have k1 := cl20 HK5.out (j := 1) rfl
  have k2 := cl20 HK5.out (j := 2) rfl
  have k3 := cl20 HK5.out (j := 3) rfl
  have f0 := froz_row (j := 0) HK5.out
  have f1 := froz_row (j := 1) HK5.out
  have f2 := froz_row (j := 2) HK5.out
  have f3 := froz_row (j := 3) HK5.out
  clear HV HM Hk Hn HR1 HB1 HB3 HB5 Hn3 HHD HNT
  go_wp2_with fail
  exact bodyV rfl rfl HK5.out ⟨by rw [HVf.out]; unfold vV; rw [ba_of rfl], below4 HBf.out (Nat.le_refl _) _ _ _ _⟩
end Go.Proofs.YtnfkgnjeamnhfaaGreat
