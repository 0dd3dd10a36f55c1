import Derived.Test.YtnfkgnjeamnhfabKnb
import Derived.Test.YtnfkgnjeamnhfabKnf
import Derived.Deep.DeepCutAuto
namespace Go.Proofs.Ytnfkgnjeamnhfab
open Go.RowKit

/-- A packet in raw. -/
structure Pk where
  tos : UInt8
  life : UInt8
  proto : UInt8
  id : Nat
  part : Nat
  src : Nat
  dst : Nat
  c : ByteArray
  m : ByteArray
def pkV (p : Pk) : Value := .agg #[.int .u8 (p.tos.toNat : Nat), .int .u8 (p.life.toNat : Nat), .int .u8 (p.proto.toNat : Nat), .int .u16 (p.id : Nat), .int .u16 (p.part : Nat), .int .u32 (p.src : Nat), .int .u32 (p.dst : Nat), .string p.c, .string p.m]
structure PkFit (p : Pk) : Prop where
  id : p.id < 65536
  part : p.part < 65536
  src : p.src < 4294967296
  dst : p.dst < 4294967296
  m : p.m.size ≤ 140737488351232
def bdL (p : Pk) : List UInt8 := p.c.data.toList.take 1000
def nP (p : Pk) : Nat := 20 + (bdL p).length
def frL (p : Pk) : List UInt8 := [69, p.tos] ++ tw (nP p) ++ tw p.id ++ tw p.part ++ [p.life, p.proto]
def laL (p : Pk) : List UInt8 := (tw (p.src / 65536) ++ tw (p.src % 65536)) ++ (tw (p.dst / 65536) ++ tw (p.dst % 65536))
def hdL (p : Pk) : List UInt8 := frL p ++ [0, 0] ++ laL p
theorem conv1 {w : World} {g : Nat} {a : UInt8} {x : Int} (hx : x = (a.toNat : Int)) (h : w.heap[g]? = some (.cells #[.int .u8 x] 5)) : (convert 96 9 (.slice (some ⟨g, 0, none⟩) 1 1)).run Try.prog w = .ok (.string ⟨#[a]⟩) w := by
  subst hx
  refine run_convert_bytes_back (P := Try.prog) _ 96 9 5 ⟨g, 0, none⟩ 1 [a] Try.underlying96 Try.underlying5 Try.underlying9 (fun j hj => ?_)
  rw [Lib.add_plain, Nat.zero_add]
  match j, hj with
  | 0, _ => exact cl20 h rfl
theorem cs_ex {x : ByteArray} {l : List UInt8} (h : x.data.toList = l) : ∃ C : ByteArray, C = x ∧ C.data.toList = l := ⟨x, rfl, h⟩
/-- What the first part's making yields, one operation after the other. -/
def fA (bx : Nat) (n : Int) (tos life proto : UInt8) (id part : Int) (s3 s4 s6 s7 s11 s12 s16 s17 s23 s24 : ByteArray) : Nat → Value → World → Prop
  | 0, v, _ => v = .pointer (some ⟨bx, 0, none⟩)
  | 1, v, _ => v = .int .u8 (tos.toNat : Nat)
  | 2, v, w => ∃ b, v = .slice (some ⟨b, 0, none⟩) 1 1 ∧ w.heap[b]? = some (.cells #[.int .u8 (tos.toNat : Nat)] 5)
  | 3, v, _ => v = .string s3
  | 4, v, _ => v = .string s4
  | 5, v, _ => v = .int .i64 n
  | 6, v, _ => v = .string s6
  | 7, v, _ => v = .string s7
  | 8, v, _ => v = .pointer (some ⟨bx, 3, none⟩)
  | 9, v, _ => v = .int .u16 id
  | 10, v, _ => v = .int .i64 id
  | 11, v, _ => v = .string s11
  | 12, v, _ => v = .string s12
  | 13, v, _ => v = .pointer (some ⟨bx, 4, none⟩)
  | 14, v, _ => v = .int .u16 part
  | 15, v, _ => v = .int .i64 part
  | 16, v, _ => v = .string s16
  | 17, v, _ => v = .string s17
  | 18, v, _ => v = .pointer (some ⟨bx, 1, none⟩)
  | 19, v, _ => v = .int .u8 (life.toNat : Nat)
  | 20, v, _ => v = .pointer (some ⟨bx, 2, none⟩)
  | 21, v, _ => v = .int .u8 (proto.toNat : Nat)
  | 22, v, w => ∃ b, v = .slice (some ⟨b, 0, none⟩) 2 2 ∧ w.heap[b]? = some (.cells #[.int .u8 (life.toNat : Nat), .int .u8 (proto.toNat : Nat)] 5)
  | 23, v, _ => v = .string s23
  | 24, v, _ => v = .string s24
  | 25, v, _ => v = .string s24
  | _, _, _ => True
theorem fA_on {bx : Nat} {n : Int} {tos life proto : UInt8} {id part : Int} {s3 s4 s6 s7 s11 s12 s16 s17 s23 s24 : ByteArray} (j : Nat) (v : Value) (w w' : World) (h : fA bx n tos life proto id part s3 s4 s6 s7 s11 s12 s16 s17 s23 s24 j v w) (hb : Below w.heap.size w w') : fA bx n tos life proto id part s3 s4 s6 s7 s11 s12 s16 s17 s23 s24 j v w' := by
  have key : ∀ (b : Nat) (x : Obj), w.heap[b]? = some x → w'.heap[b]? = some x := fun b x h => (hb.block b (Array.getElem?_eq_some_iff.1 h).1).trans h
  iterate 26 (rcases j with _ | j; · first | exact h | (obtain ⟨b, h1, h2⟩ := h; exact ⟨b, h1, key b _ h2⟩))
  exact trivial
set_option maxRecDepth 4000 in
set_option maxHeartbeats 4000000 in
theorem built_any (p : Pk) (hp : PkFit p) (w : World) :
    Calls Try.prog 23 #[pkV p] w fun e w' => ∃ S : ByteArray, e = .returned (.tuple #[.string S, .int .i64 (nP p : Nat)]) ∧ S.data.toList = sealL (hdL p) ++ bdL p ++ p.m.data.toList ∧ Below w.heap.size w w' := by
  have hn : nP p < 65536 := by unfold nP bdL; rw [List.length_take]; omega
  obtain ⟨id, hid⟩ : ∃ id : Int, id = (p.id : Nat) := ⟨_, rfl⟩
  obtain ⟨part, hpart⟩ : ∃ part : Int, part = (p.part : Nat) := ⟨_, rfl⟩
  obtain ⟨n, hnn⟩ : ∃ n : Int, n = (nP p : Nat) := ⟨_, rfl⟩
  have H1 := Lib.hid (fun w => two_any (nP p) hn w)
  have H2 := Lib.hid (fun w => two_any p.id hp.id w)
  have H3 := Lib.hid (fun w => two_any p.part hp.part w)
  rw [← hid] at H2
  rw [← hpart] at H3
  rw [← hnn] at H1
  have vid : IntKind.i64.wrap id = id := by have := hp.id; simp [IntKind.wrap, IntKind.bits, IntKind.signed]; omega
  have vpart : IntKind.i64.wrap part = part := by have := hp.part; simp [IntKind.wrap, IntKind.bits, IntKind.signed]; omega
  obtain ⟨C, hC, hCe⟩ : ∃ C : ByteArray, C.data.toList = bdL p ∧ C = if 1000 < p.c.size then p.c.extract 0 1000 else p.c := by
    refine ⟨_, ?_, rfl⟩
    unfold bdL
    split
    · rw [ext_list]; rfl
    · rw [List.take_of_length_le (by rw [blen]; omega)]
  have hCn : (20 : Int) + (C.size : Nat) = n := by rw [hnn]; unfold nP; rw [← hC, blen]; omega
  unfold pkV
  rw [← hid, ← hpart]
  obtain ⟨s3, h3⟩ : ∃ s : ByteArray, s = ⟨#[p.tos]⟩ := ⟨_, rfl⟩
  obtain ⟨s4, h4⟩ : ∃ s : ByteArray, s = ⟨#[69]⟩ ++ s3 := ⟨_, rfl⟩
  obtain ⟨s6, h6⟩ : ∃ s : ByteArray, s = ⟨(tw (nP p)).toArray⟩ := ⟨_, rfl⟩
  obtain ⟨s7, h7⟩ : ∃ s : ByteArray, s = s4 ++ s6 := ⟨_, rfl⟩
  obtain ⟨s11, h11⟩ : ∃ s : ByteArray, s = ⟨(tw p.id).toArray⟩ := ⟨_, rfl⟩
  obtain ⟨s12, h12⟩ : ∃ s : ByteArray, s = s7 ++ s11 := ⟨_, rfl⟩
  obtain ⟨s16, h16⟩ : ∃ s : ByteArray, s = ⟨(tw p.part).toArray⟩ := ⟨_, rfl⟩
  obtain ⟨s17, h17⟩ : ∃ s : ByteArray, s = s12 ++ s16 := ⟨_, rfl⟩
  obtain ⟨s23, h23⟩ : ∃ s : ByteArray, s = ⟨#[p.life, p.proto]⟩ := ⟨_, rfl⟩
  obtain ⟨s24, h24⟩ : ∃ s : ByteArray, s = s17 ++ s23 := ⟨_, rfl⟩
  have z3 : s3.size = 1 := by rw [h3]; rfl
  have z4 : s4.size = 2 := by rw [h4, ByteArray.size_append, z3]; rfl
  have z6 : s6.size = 2 := by rw [h6]; rfl
  have z7 : s7.size = 4 := by rw [h7, ByteArray.size_append, z4, z6]
  have z11 : s11.size = 2 := by rw [h11]; rfl
  have z12 : s12.size = 6 := by rw [h12, ByteArray.size_append, z7, z11]
  have z16 : s16.size = 2 := by rw [h16]; rfl
  have z17 : s17.size = 8 := by rw [h17, ByteArray.size_append, z12, z16]
  have z23 : s23.size = 2 := by rw [h23]; rfl
  have z24 : s24.size = 10 := by rw [h24, ByteArray.size_append, z17, z23]
  rw [← h6] at H1
  rw [← h11] at H2
  rw [← h16] at H3
  have G3 := Lib.hid h3
  have G4 := Lib.hid h4
  have G6 := Lib.hid h6
  have G7 := Lib.hid h7
  have G11 := Lib.hid h11
  have G12 := Lib.hid h12
  have G16 := Lib.hid h16
  have G17 := Lib.hid h17
  have G23 := Lib.hid h23
  have G24 := Lib.hid h24
  have H4 := Lib.hid (fun w => four_any p.src hp.src w)
  have H5 := Lib.hid (fun w => four_any p.dst hp.dst w)
  obtain ⟨t2, f2⟩ : ∃ s : ByteArray, s = ⟨(tw (p.src / 65536) ++ tw (p.src % 65536)).toArray⟩ := ⟨_, rfl⟩
  obtain ⟨t5, f5⟩ : ∃ s : ByteArray, s = ⟨(tw (p.dst / 65536) ++ tw (p.dst % 65536)).toArray⟩ := ⟨_, rfl⟩
  obtain ⟨t6, f6⟩ : ∃ s : ByteArray, s = t2 ++ t5 := ⟨_, rfl⟩
  obtain ⟨t7, f7⟩ : ∃ s : ByteArray, s = s24 ++ ⟨#[0, 0]⟩ ++ t6 := ⟨_, rfl⟩
  have y2 : t2.size = 4 := by rw [f2]; rfl
  have y5 : t5.size = 4 := by rw [f5]; rfl
  have y6 : t6.size = 8 := by rw [f6, ByteArray.size_append, y2, y5]
  have d24 : s24.data.toList = frL p := by
    rw [h24, bapp, h17, bapp, h12, bapp, h7, bapp, h4, bapp, h3, h6, h11, h16, h23]; rfl
  have d6 : t6.data.toList = laL p := by rw [f6, bapp, f2, f5]; rfl
  have d7 : t7.data.toList = hdL p := by rw [f7, bapp, bapp, d24, d6]; rfl
  have y7 : t7.size = 20 := by rw [← blen, d7]; rfl
  rw [← f2] at H4
  rw [← f5] at H5
  obtain ⟨v, hv⟩ : ∃ v : Int, v = (fold (cs 0 (hdL p)) : Nat) := ⟨_, rfl⟩
  obtain ⟨c, hvc⟩ : ∃ c : Int, c = (ck (hdL p) : Nat) := ⟨_, rfl⟩
  have HS := Lib.hid (fun w => ksum_any t7 (by omega) w)
  rw [d7, ← hv] at HS
  have hcv : 65535 - v = c := by rw [hv, hvc]; unfold ck; have := fold_le (cs 0 (hdL p)); omega
  have Hvc := Lib.hid hcv
  have Hwc := Lib.hid (show IntKind.i64.wrap c = c by have := ck_lt (hdL p); simp [IntKind.wrap, IntKind.bits, IntKind.signed]; omega)
  have H6 := Lib.hid (fun w => two_any (ck (hdL p)) (ck_lt _) w)
  rw [← hvc] at H6
  obtain ⟨u3, g3⟩ : ∃ s : ByteArray, s = ⟨(tw (ck (hdL p))).toArray⟩ := ⟨_, rfl⟩
  rw [← g3] at H6
  obtain ⟨u4, g4'⟩ : ∃ s : ByteArray, s = s24 ++ u3 := ⟨_, rfl⟩
  obtain ⟨u6, g6⟩ : ∃ s : ByteArray, s = u4 ++ t6 := ⟨_, rfl⟩
  have x3 : u3.size = 2 := by rw [g3]; rfl
  have x4 : u4.size = 12 := by rw [g4', ByteArray.size_append, z24, x3]
  have x6 : u6.size = 20 := by rw [g6, ByteArray.size_append, x4, y6]
  have d8 : u6.data.toList = sealL (hdL p) := by rw [g6, bapp, g4', bapp, d24, g3, d6]; rfl
  have F6 := Lib.hid f6
  have F7 := Lib.hid f7
  have E4 := Lib.hid g4'
  have E6 := Lib.hid g6
  have D8 := Lib.hid d8
  clear f2 f5 f6 f7 g3 g4' g6 d8 d7 d24 d6 hv hvc hcv
  obtain ⟨bx, hbx⟩ : ∃ bx, bx = w.heap.size := ⟨_, rfl⟩
  have Hid := Lib.hid hid
  have Hpart := Lib.hid hpart
  have Hnn := Lib.hid hnn
  have Hbx := Lib.hid hbx
  have HC := Lib.hid hC
  have HCn := Lib.hid hCn
  have Hvid := Lib.hid vid
  have Hvpart := Lib.hid vpart
  clear hid hpart hnn hbx hC hCn h3 h4 h6 h7 h11 h12 h16 h17 h23 h24 vid vpart
  by_cases hc : 1000 < p.c.size
  case' pos =>
    rw [if_pos hc] at hCe
    have HN := Lib.hid (show (20 : Int) + ((min 1000 p.c.size : Nat) : Int) = n by rw [← HCn.out, hCe, ← blen (p.c.extract 0 1000), ext_list]; simp)
  case' neg =>
    rw [if_neg hc] at hCe
    have HN := Lib.hid (show (20 : Int) + ((p.c.size : Nat) : Int) = n by rw [← HCn.out, hCe])
  all_goals
    rw [hCe] at HC
    have Hc := Lib.hid hc
    go_enter Try.func23, Try.ntmps23
    go_wp2_with fail
    rw [HN.out, ← Hbx.out]
    generalize hw1 : w.alloc _ = w1
    have hg : w1.heap[bx]? = some (.cells #[.int .u8 (p.tos.toNat : Nat), .int .u8 (p.life.toNat : Nat), .int .u8 (p.proto.toNat : Nat), .int .u16 id, .int .u16 part, .int .u32 (p.src : Nat), .int .u32 (p.dst : Nat), .string p.c, .string p.m] 58) := by rw [← hw1, Hbx.out]; exact heap_alloc_last w _
    have Hb1 := Lib.hid (show Below w.heap.size w w1 by rw [← hw1]; exact below1 w _)
    have Hg := Lib.hid hg
    clear hg hw1
    refine wp_region_rely' (fun w w' => Below w.heap.size w w') (fA bx n p.tos p.life p.proto id part s3 s4 s6 s7 s11 s12 s16 s17 s23 s24) [19, 20, 21, 22, 23, 24, 25, 26, 27, 28, 29, 30, 31, 32, 33, 34, 35, 36, 37, 38, 39, 40, 41, 42, 43, 6] (by kernel_rfl) (plain_of (by kernel_rfl)) (by kernel_rfl) (fun a b c h1 h2 => h1.trans (h2.mono h1.size)) ⟨rfl, rfl, rfl, Nat.le_refl _, fun _ _ => rfl⟩ fA_on ?hop ?hend
    case hop =>
      intro i o ho a w2 hR hF hd
      have e1 := ev_get (show a.eval (.tmp 1) = .pointer (some ⟨bx, 0, none⟩) from hF.ev 1 (by kernel_rfl))
      have e5 := ev_get (show a.eval (.tmp 5) = .int .i64 n from hF.ev 5 (by kernel_rfl))
      have hg2 := row_below hR Hg.out (Array.getElem?_eq_some_iff.1 Hg.out).1
      have k0 := cl20 hg2 (j := 0) rfl
      have k1 := cl20 hg2 (j := 1) rfl
      have k2 := cl20 hg2 (j := 2) rfl
      have k3 := cl20 hg2 (j := 3) rfl
      have k4 := cl20 hg2 (j := 4) rfl
      rcases i with _ | i
      · obtain rfl := Option.some.inj ho
        exact op_value (v := .pointer (some ⟨bx, 0, none⟩)) (by simp [go_sem, execOp, e1]) ⟨_, rfl, Below.refl _ _, rfl⟩
      rcases i with _ | i
      · obtain rfl := Option.some.inj ho
        have e19 := ev_get (show a.eval (.tmp 19) = .pointer (some ⟨bx, 0, none⟩) from dep_of hd 0 (by kernel_rfl))
        exact op_value (v := .int .u8 (p.tos.toNat : Nat)) (by simp [go_sem, execOp, e19, k0]) ⟨_, rfl, Below.refl _ _, rfl⟩
      rcases i with _ | i
      · obtain rfl := Option.some.inj ho
        have e20 := ev_get (show a.eval (.tmp 20) = .int .u8 (p.tos.toNat : Nat) from dep_of hd 1 (by kernel_rfl))
        exact op_value (w' := w2.alloc (.cells #[.int .u8 (p.tos.toNat : Nat)] 5)) (v := .slice (some ⟨w2.heap.size, 0, none⟩) 1 1) (by simp [go_sem, execOp, e20]) ⟨_, rfl, below1 _ _, _, rfl, heap_alloc_last _ _⟩
      rcases i with _ | i
      · obtain rfl := Option.some.inj ho
        obtain ⟨b2, e21, hb2⟩ := dep_of hd 2 (by kernel_rfl)
        replace e21 := ev_get (show a.eval (.tmp 21) = .slice (some ⟨b2, 0, none⟩) 1 1 from e21)
        have hcv := conv1 rfl hb2
        rw [← G3.out] at hcv
        exact op_value (v := .string s3) (by simp [go_sem, execOp, e21, hcv]) ⟨_, rfl, Below.refl _ _, rfl⟩
      rcases i with _ | i
      · obtain rfl := Option.some.inj ho
        have e22 := ev_get (show a.eval (.tmp 22) = .string s3 from dep_of hd 3 (by kernel_rfl))
        exact op_value (v := .string s4) (by rw [G4.out]; simp [go_sem, execOp, e22, z3]) ⟨_, rfl, Below.refl _ _, rfl⟩
      rcases i with _ | i
      · obtain rfl := Option.some.inj ho
        exact op_value (v := .int .i64 n) (by simp [go_sem, execOp, e5]) ⟨_, rfl, Below.refl _ _, rfl⟩
      rcases i with _ | i
      · obtain rfl := Option.some.inj ho
        have e24 := ev_get (show a.eval (.tmp 24) = .int .i64 n from dep_of hd 5 (by kernel_rfl))
        exact op_enter (f := 29) (args := #[.int .i64 n]) (by simp [go_sem, execOp, e24]) ((H1.out w2).mono fun e w3 ⟨he, hb⟩ => ⟨_, he, _, rfl, hb, rfl⟩)
      rcases i with _ | i
      · obtain rfl := Option.some.inj ho
        have e23 := ev_get (show a.eval (.tmp 23) = .string s4 from dep_of hd 4 (by kernel_rfl))
        have e25 := ev_get (show a.eval (.tmp 25) = .string s6 from dep_of hd 6 (by kernel_rfl))
        exact op_value (v := .string s7) (by rw [G7.out]; simp [go_sem, execOp, e23, e25, z4, z6]) ⟨_, rfl, Below.refl _ _, rfl⟩
      rcases i with _ | i
      · obtain rfl := Option.some.inj ho
        exact op_value (v := .pointer (some ⟨bx, 3, none⟩)) (by simp [go_sem, execOp, e1]) ⟨_, rfl, Below.refl _ _, rfl⟩
      rcases i with _ | i
      · obtain rfl := Option.some.inj ho
        have e27 := ev_get (show a.eval (.tmp 27) = .pointer (some ⟨bx, 3, none⟩) from dep_of hd 8 (by kernel_rfl))
        exact op_value (v := .int .u16 id) (by simp [go_sem, execOp, e27, k3]) ⟨_, rfl, Below.refl _ _, rfl⟩
      rcases i with _ | i
      · obtain rfl := Option.some.inj ho
        have e28 := ev_get (show a.eval (.tmp 28) = .int .u16 id from dep_of hd 9 (by kernel_rfl))
        exact op_value (v := .int .i64 id) (by simp [go_sem, execOp, e28, Hvid.out]) ⟨_, rfl, Below.refl _ _, rfl⟩
      rcases i with _ | i
      · obtain rfl := Option.some.inj ho
        have e29 := ev_get (show a.eval (.tmp 29) = .int .i64 id from dep_of hd 10 (by kernel_rfl))
        exact op_enter (f := 29) (args := #[.int .i64 id]) (by simp [go_sem, execOp, e29]) ((H2.out w2).mono fun e w3 ⟨he, hb⟩ => ⟨_, he, _, rfl, hb, rfl⟩)
      rcases i with _ | i
      · obtain rfl := Option.some.inj ho
        have e26 := ev_get (show a.eval (.tmp 26) = .string s7 from dep_of hd 7 (by kernel_rfl))
        have e30 := ev_get (show a.eval (.tmp 30) = .string s11 from dep_of hd 11 (by kernel_rfl))
        exact op_value (v := .string s12) (by rw [G12.out]; simp [go_sem, execOp, e26, e30, z7, z11]) ⟨_, rfl, Below.refl _ _, rfl⟩
      rcases i with _ | i
      · obtain rfl := Option.some.inj ho
        exact op_value (v := .pointer (some ⟨bx, 4, none⟩)) (by simp [go_sem, execOp, e1]) ⟨_, rfl, Below.refl _ _, rfl⟩
      rcases i with _ | i
      · obtain rfl := Option.some.inj ho
        have e32 := ev_get (show a.eval (.tmp 32) = .pointer (some ⟨bx, 4, none⟩) from dep_of hd 13 (by kernel_rfl))
        exact op_value (v := .int .u16 part) (by simp [go_sem, execOp, e32, k4]) ⟨_, rfl, Below.refl _ _, rfl⟩
      rcases i with _ | i
      · obtain rfl := Option.some.inj ho
        have e33 := ev_get (show a.eval (.tmp 33) = .int .u16 part from dep_of hd 14 (by kernel_rfl))
        exact op_value (v := .int .i64 part) (by simp [go_sem, execOp, e33, Hvpart.out]) ⟨_, rfl, Below.refl _ _, rfl⟩
      rcases i with _ | i
      · obtain rfl := Option.some.inj ho
        have e34 := ev_get (show a.eval (.tmp 34) = .int .i64 part from dep_of hd 15 (by kernel_rfl))
        exact op_enter (f := 29) (args := #[.int .i64 part]) (by simp [go_sem, execOp, e34]) ((H3.out w2).mono fun e w3 ⟨he, hb⟩ => ⟨_, he, _, rfl, hb, rfl⟩)
      rcases i with _ | i
      · obtain rfl := Option.some.inj ho
        have e31 := ev_get (show a.eval (.tmp 31) = .string s12 from dep_of hd 12 (by kernel_rfl))
        have e35 := ev_get (show a.eval (.tmp 35) = .string s16 from dep_of hd 16 (by kernel_rfl))
        exact op_value (v := .string s17) (by rw [G17.out]; simp [go_sem, execOp, e31, e35, z12, z16]) ⟨_, rfl, Below.refl _ _, rfl⟩
      rcases i with _ | i
      · obtain rfl := Option.some.inj ho
        exact op_value (v := .pointer (some ⟨bx, 1, none⟩)) (by simp [go_sem, execOp, e1]) ⟨_, rfl, Below.refl _ _, rfl⟩
      rcases i with _ | i
      · obtain rfl := Option.some.inj ho
        have e37 := ev_get (show a.eval (.tmp 37) = .pointer (some ⟨bx, 1, none⟩) from dep_of hd 18 (by kernel_rfl))
        exact op_value (v := .int .u8 (p.life.toNat : Nat)) (by simp [go_sem, execOp, e37, k1]) ⟨_, rfl, Below.refl _ _, rfl⟩
      rcases i with _ | i
      · obtain rfl := Option.some.inj ho
        exact op_value (v := .pointer (some ⟨bx, 2, none⟩)) (by simp [go_sem, execOp, e1]) ⟨_, rfl, Below.refl _ _, rfl⟩
      rcases i with _ | i
      · obtain rfl := Option.some.inj ho
        have e39 := ev_get (show a.eval (.tmp 39) = .pointer (some ⟨bx, 2, none⟩) from dep_of hd 20 (by kernel_rfl))
        exact op_value (v := .int .u8 (p.proto.toNat : Nat)) (by simp [go_sem, execOp, e39, k2]) ⟨_, rfl, Below.refl _ _, rfl⟩
      rcases i with _ | i
      · obtain rfl := Option.some.inj ho
        have e38 := ev_get (show a.eval (.tmp 38) = .int .u8 (p.life.toNat : Nat) from dep_of hd 19 (by kernel_rfl))
        have e40 := ev_get (show a.eval (.tmp 40) = .int .u8 (p.proto.toNat : Nat) from dep_of hd 21 (by kernel_rfl))
        exact op_value (w' := w2.alloc (.cells #[.int .u8 (p.life.toNat : Nat), .int .u8 (p.proto.toNat : Nat)] 5)) (v := .slice (some ⟨w2.heap.size, 0, none⟩) 2 2) (by simp [go_sem, execOp, e38, e40]) ⟨_, rfl, below1 _ _, _, rfl, heap_alloc_last _ _⟩
      rcases i with _ | i
      · obtain rfl := Option.some.inj ho
        obtain ⟨b22, e41, hb22⟩ := dep_of hd 22 (by kernel_rfl)
        replace e41 := ev_get (show a.eval (.tmp 41) = .slice (some ⟨b22, 0, none⟩) 2 2 from e41)
        have hcv := conv2 rfl rfl hb22
        rw [← G23.out] at hcv
        exact op_value (v := .string s23) (by simp [go_sem, execOp, e41, hcv]) ⟨_, rfl, Below.refl _ _, rfl⟩
      rcases i with _ | i
      · obtain rfl := Option.some.inj ho
        have e36 := ev_get (show a.eval (.tmp 36) = .string s17 from dep_of hd 17 (by kernel_rfl))
        have e42 := ev_get (show a.eval (.tmp 42) = .string s23 from dep_of hd 23 (by kernel_rfl))
        exact op_value (v := .string s24) (by rw [G24.out]; simp [go_sem, execOp, e36, e42, z17, z23]) ⟨_, rfl, Below.refl _ _, rfl⟩
      rcases i with _ | i
      · obtain rfl := Option.some.inj ho
        have e43 := ev_get (show a.eval (.tmp 43) = .string s24 from dep_of hd 24 (by kernel_rfl))
        exact op_value (v := .string s24) (by simp [go_sem, execOp, e43]) ⟨_, rfl, Below.refl _ _, rfl⟩
      · exact absurd (Array.getElem?_eq_some_iff.1 ho).1 (by simp)
    case hend =>
      intro X w2 hR hall
      have x25 : X 25 = .string s24 := hall 25 (by simp)
      have Hb2 := Lib.hid (Hb1.out.trans (hR.mono Hb1.out.size))
      have Hg2 := Lib.hid (row_below hR Hg.out (Array.getElem?_eq_some_iff.1 Hg.out).1)
      clear hR hall Hg Hb1 H1 H2 H3
      simp only [putAll, Act.put, List.setIfInBounds_toArray, List.set_cons_zero, List.set_cons_succ, x25, Nat.zero_add, Nat.reduceAdd]
      clear x25
      go_wp2_with fail
      refine wp_region_rely' (fun w w' => Below w.heap.size w w') (vA [.pointer (some ⟨bx, 5, none⟩), .int .u32 (p.src : Nat), .string t2, .pointer (some ⟨bx, 6, none⟩), .int .u32 (p.dst : Nat), .string t5, .string t6, .string t6]) [44, 45, 46, 47, 48, 49, 50, 7] (by kernel_rfl) (plain_of (by kernel_rfl)) (by kernel_rfl) (fun a b c h1 h2 => h1.trans (h2.mono h1.size)) ⟨rfl, rfl, rfl, Nat.le_refl _, fun _ _ => rfl⟩ (fun _ _ _ _ h _ => h) ?hop ?hend
      case hop =>
        intro i o ho a w3 hR hF hd
        have e1 := ev_get (show a.eval (.tmp 1) = .pointer (some ⟨bx, 0, none⟩) from hF.ev 1 (by kernel_rfl))
        have hg2 := row_below hR Hg2.out (Array.getElem?_eq_some_iff.1 Hg2.out).1
        have k5 := cl20 hg2 (j := 5) rfl
        have k6 := cl20 hg2 (j := 6) rfl
        rcases i with _ | i
        · obtain rfl := Option.some.inj ho
          exact op_value (v := .pointer (some ⟨bx, 5, none⟩)) (by simp [go_sem, execOp, e1]) ⟨_, rfl, Below.refl _ _, rfl⟩
        rcases i with _ | i
        · obtain rfl := Option.some.inj ho
          have e44 := ev_get (show a.eval (.tmp 44) = .pointer (some ⟨bx, 5, none⟩) from dep_of hd 0 (by kernel_rfl))
          exact op_value (v := .int .u32 (p.src : Nat)) (by simp [go_sem, execOp, e44, k5]) ⟨_, rfl, Below.refl _ _, rfl⟩
        rcases i with _ | i
        · obtain rfl := Option.some.inj ho
          have e45 := ev_get (show a.eval (.tmp 45) = .int .u32 (p.src : Nat) from dep_of hd 1 (by kernel_rfl))
          exact op_enter (f := 30) (args := #[.int .u32 (p.src : Nat)]) (by simp [go_sem, execOp, e45]) ((H4.out w3).mono fun e w4 ⟨he, hb⟩ => ⟨_, he, _, rfl, hb, rfl⟩)
        rcases i with _ | i
        · obtain rfl := Option.some.inj ho
          exact op_value (v := .pointer (some ⟨bx, 6, none⟩)) (by simp [go_sem, execOp, e1]) ⟨_, rfl, Below.refl _ _, rfl⟩
        rcases i with _ | i
        · obtain rfl := Option.some.inj ho
          have e47 := ev_get (show a.eval (.tmp 47) = .pointer (some ⟨bx, 6, none⟩) from dep_of hd 3 (by kernel_rfl))
          exact op_value (v := .int .u32 (p.dst : Nat)) (by simp [go_sem, execOp, e47, k6]) ⟨_, rfl, Below.refl _ _, rfl⟩
        rcases i with _ | i
        · obtain rfl := Option.some.inj ho
          have e48 := ev_get (show a.eval (.tmp 48) = .int .u32 (p.dst : Nat) from dep_of hd 4 (by kernel_rfl))
          exact op_enter (f := 30) (args := #[.int .u32 (p.dst : Nat)]) (by simp [go_sem, execOp, e48]) ((H5.out w3).mono fun e w4 ⟨he, hb⟩ => ⟨_, he, _, rfl, hb, rfl⟩)
        rcases i with _ | i
        · obtain rfl := Option.some.inj ho
          have e46 := ev_get (show a.eval (.tmp 46) = .string t2 from dep_of hd 2 (by kernel_rfl))
          have e49 := ev_get (show a.eval (.tmp 49) = .string t5 from dep_of hd 5 (by kernel_rfl))
          exact op_value (v := .string t6) (by rw [F6.out]; simp [go_sem, execOp, e46, e49, y2, y5]) ⟨_, rfl, Below.refl _ _, rfl⟩
        rcases i with _ | i
        · obtain rfl := Option.some.inj ho
          have e50 := ev_get (show a.eval (.tmp 50) = .string t6 from dep_of hd 6 (by kernel_rfl))
          exact op_value (v := .string t6) (by simp [go_sem, execOp, e50]) ⟨_, rfl, Below.refl _ _, rfl⟩
        · exact absurd (Array.getElem?_eq_some_iff.1 ho).1 (by simp)
      case hend =>
      intro X2 w3 hR hall
      have x7 : X2 7 = .string t6 := hall 7 (by simp)
      have Hb3 := Lib.hid (Hb2.out.trans (hR.mono Hb2.out.size))
      have Hg3 := Lib.hid (row_below hR Hg2.out (Array.getElem?_eq_some_iff.1 Hg2.out).1)
      clear hR hall Hg2 Hb2 H4 H5
      simp only [putAll, Act.put, List.setIfInBounds_toArray, List.set_cons_zero, List.set_cons_succ, x7, Nat.zero_add, Nat.reduceAdd]
      clear x7
      go_wp2_with fail
      rw [← F7.out]
      refine (HS.out _).mono ?_
      rintro e w4 ⟨rfl, hw4⟩
      rw [hw4]
      clear hw4 w4
      go_wp2_with fail
      obtain ⟨Cs, hCs, hxs⟩ := cs_ex HC.out
      rw [← hCs]
      have xc : Cs.size ≤ 1000 := by rw [← blen, hxs]; unfold bdL; rw [List.length_take]; omega
      obtain ⟨u8, g8⟩ : ∃ s : ByteArray, s = u6 ++ Cs := ⟨_, rfl⟩
      obtain ⟨u11, g11⟩ : ∃ s : ByteArray, s = u8 ++ p.m := ⟨_, rfl⟩
      have x8 : u8.size + p.m.size ≤ 9223372036854775807 := by rw [g8, ByteArray.size_append, x6]; have := hp.m; omega
      have x7 : 20 + Cs.size ≤ 9223372036854775807 := by omega
      have d11 : u11.data.toList = sealL (hdL p) ++ bdL p ++ p.m.data.toList := by rw [g11, bapp, g8, bapp, D8.out, hxs]
      have E8 := Lib.hid g8
      have E11 := Lib.hid g11
      have D11 := Lib.hid d11
      clear g8 g11 d11 hxs hCs
      refine wp_region_rely' (fun w w' => Below w.heap.size w w') (vA [.string s24, .int .i64 v, .int .i64 c, .string u3, .string u4, .string t6, .string u6, .string Cs, .string u8, .pointer (some ⟨bx, 8, none⟩), .string p.m, .string u11, .int .i64 n, .string u11, .int .i64 n]) [56, 57, 58, 59, 60, 61, 62, 63, 64, 65, 66, 67, 68, 2, 3] (by kernel_rfl) (plain_of (by kernel_rfl)) (by kernel_rfl) (fun a b c h1 h2 => h1.trans (h2.mono h1.size)) ⟨rfl, rfl, rfl, Nat.le_refl _, fun _ _ => rfl⟩ (fun _ _ _ _ h _ => h) ?hop ?hend
      case hop =>
        intro i o ho a w6 hR hF hd
        have e1 := ev_get (show a.eval (.tmp 1) = .pointer (some ⟨bx, 0, none⟩) from hF.ev 1 (by kernel_rfl))
        have e4 := ev_get (show a.eval (.tmp 4) = .string Cs from hF.ev 4 (by kernel_rfl))
        have e5 := ev_get (show a.eval (.tmp 5) = .int .i64 n from hF.ev 5 (by kernel_rfl))
        have e6 := ev_get (show a.eval (.tmp 6) = .string s24 from hF.ev 6 (by kernel_rfl))
        have e7 := ev_get (show a.eval (.tmp 7) = .string t6 from hF.ev 7 (by kernel_rfl))
        have e8 := ev_get (show a.eval (.tmp 8) = .int .i64 v from hF.ev 8 (by kernel_rfl))
        have hg2 := row_below hR Hg3.out (Array.getElem?_eq_some_iff.1 Hg3.out).1
        have k8 := cl20 hg2 (j := 8) rfl
        rcases i with _ | i
        · obtain rfl := Option.some.inj ho
          exact op_value (v := .string s24) (by simp [go_sem, execOp, e6]) ⟨_, rfl, Below.refl _ _, rfl⟩
        rcases i with _ | i
        · obtain rfl := Option.some.inj ho
          exact op_value (v := .int .i64 v) (by simp [go_sem, execOp, e8]) ⟨_, rfl, Below.refl _ _, rfl⟩
        rcases i with _ | i
        · obtain rfl := Option.some.inj ho
          have e57 := ev_get (show a.eval (.tmp 57) = .int .i64 v from dep_of hd 1 (by kernel_rfl))
          exact op_value (v := .int .i64 c) (by simp [go_sem, execOp, e57, Hvc.out, Hwc.out]) ⟨_, rfl, Below.refl _ _, rfl⟩
        rcases i with _ | i
        · obtain rfl := Option.some.inj ho
          have e58 := ev_get (show a.eval (.tmp 58) = .int .i64 c from dep_of hd 2 (by kernel_rfl))
          exact op_enter (f := 29) (args := #[.int .i64 c]) (by simp [go_sem, execOp, e58]) ((H6.out w6).mono fun e w7 ⟨he, hb⟩ => ⟨_, he, _, rfl, hb, rfl⟩)
        rcases i with _ | i
        · obtain rfl := Option.some.inj ho
          have e56 := ev_get (show a.eval (.tmp 56) = .string s24 from dep_of hd 0 (by kernel_rfl))
          have e59 := ev_get (show a.eval (.tmp 59) = .string u3 from dep_of hd 3 (by kernel_rfl))
          exact op_value (v := .string u4) (by rw [E4.out]; simp [go_sem, execOp, e56, e59, z24, x3]) ⟨_, rfl, Below.refl _ _, rfl⟩
        rcases i with _ | i
        · obtain rfl := Option.some.inj ho
          exact op_value (v := .string t6) (by simp [go_sem, execOp, e7]) ⟨_, rfl, Below.refl _ _, rfl⟩
        rcases i with _ | i
        · obtain rfl := Option.some.inj ho
          have e60 := ev_get (show a.eval (.tmp 60) = .string u4 from dep_of hd 4 (by kernel_rfl))
          have e61 := ev_get (show a.eval (.tmp 61) = .string t6 from dep_of hd 5 (by kernel_rfl))
          exact op_value (v := .string u6) (by rw [E6.out]; simp [go_sem, execOp, e60, e61, x4, y6]) ⟨_, rfl, Below.refl _ _, rfl⟩
        rcases i with _ | i
        · obtain rfl := Option.some.inj ho
          exact op_value (v := .string Cs) (by simp [go_sem, execOp, e4]) ⟨_, rfl, Below.refl _ _, rfl⟩
        rcases i with _ | i
        · obtain rfl := Option.some.inj ho
          have e62 := ev_get (show a.eval (.tmp 62) = .string u6 from dep_of hd 6 (by kernel_rfl))
          have e63 := ev_get (show a.eval (.tmp 63) = .string Cs from dep_of hd 7 (by kernel_rfl))
          exact op_value (v := .string u8) (by rw [E8.out]; simp [go_sem, execOp, e62, e63, x6, x7]) ⟨_, rfl, Below.refl _ _, rfl⟩
        rcases i with _ | i
        · obtain rfl := Option.some.inj ho
          exact op_value (v := .pointer (some ⟨bx, 8, none⟩)) (by simp [go_sem, execOp, e1]) ⟨_, rfl, Below.refl _ _, rfl⟩
        rcases i with _ | i
        · obtain rfl := Option.some.inj ho
          have e65 := ev_get (show a.eval (.tmp 65) = .pointer (some ⟨bx, 8, none⟩) from dep_of hd 9 (by kernel_rfl))
          exact op_value (v := .string p.m) (by simp [go_sem, execOp, e65, k8]) ⟨_, rfl, Below.refl _ _, rfl⟩
        rcases i with _ | i
        · obtain rfl := Option.some.inj ho
          have e64 := ev_get (show a.eval (.tmp 64) = .string u8 from dep_of hd 8 (by kernel_rfl))
          have e66 := ev_get (show a.eval (.tmp 66) = .string p.m from dep_of hd 10 (by kernel_rfl))
          exact op_value (v := .string u11) (by rw [E11.out]; simp [go_sem, execOp, e64, e66, x8]) ⟨_, rfl, Below.refl _ _, rfl⟩
        rcases i with _ | i
        · obtain rfl := Option.some.inj ho
          exact op_value (v := .int .i64 n) (by simp [go_sem, execOp, e5]) ⟨_, rfl, Below.refl _ _, rfl⟩
        rcases i with _ | i
        · obtain rfl := Option.some.inj ho
          have e67 := ev_get (show a.eval (.tmp 67) = .string u11 from dep_of hd 11 (by kernel_rfl))
          exact op_value (v := .string u11) (by simp [go_sem, execOp, e67]) ⟨_, rfl, Below.refl _ _, rfl⟩
        rcases i with _ | i
        · obtain rfl := Option.some.inj ho
          have e68 := ev_get (show a.eval (.tmp 68) = .int .i64 n from dep_of hd 12 (by kernel_rfl))
          exact op_value (v := .int .i64 n) (by simp [go_sem, execOp, e68]) ⟨_, rfl, Below.refl _ _, rfl⟩
        · exact absurd (Array.getElem?_eq_some_iff.1 ho).1 (by simp)
      case hend =>
      intro X3 w6 hR hall
      have x13 : X3 13 = .string u11 := hall 13 (by simp)
      have x14 : X3 14 = .int .i64 n := hall 14 (by simp)
      have Hb4 := Lib.hid (Hb3.out.trans (hR.mono Hb3.out.size))
      clear hR hall Hg3 Hb3 H6
      simp only [putAll, Act.put, List.setIfInBounds_toArray, List.set_cons_zero, List.set_cons_succ, x13, x14, Nat.zero_add, Nat.reduceAdd]
      clear x13 x14
      go_wp2_with fail
      go_ret2
      exact ⟨u11, by rw [← Hnn.out]; rfl, D11.out, Hb4.out⟩
end Go.Proofs.Ytnfkgnjeamnhfab
