import Derived.Test.YtnfkgnjeamnhfaaKg
import Derived.Deep.RegionWith
import Derived.Deep.DeepCutAuto
namespace Go.Proofs.Ytnfkgnjeamnhfaa
open Go.RowKit Go.Sort

theorem famF_app (a b : List Rt) (f : Int) : famF (a ++ b) f = famF a f ++ famF b f := by unfold famF; rw [List.filter_append]
theorem famF_yes {r : Rt} {l : List Rt} {f : Int} (h : r.f = f) : famF (r :: l) f = r :: famF l f := by unfold famF; rw [List.filter_cons, if_pos (by simp [h])]
theorem famF_no {r : Rt} {l : List Rt} {f : Int} (h : ¬ r.f = f) : famF (r :: l) f = famF l f := by unfold famF; rw [List.filter_cons, if_neg (by simp [h])]
/-- The first route of a family is taken away. -/
theorem take_first {gs : Nat → List Int} {rs : List Rt} {lim : Int} (h : Ok gs rs lim) {r : Rt} {l : List Rt} {f : Int} (hf : famF rs f = r :: l) :
    (takeT rs r).1 = 0 ∧ famF (takeT rs r).2 f = l ∧ ∀ f', f' ≠ f → famF (takeT rs r).2 f' = famF rs f' := by
  have hm : r ∈ famF rs f := by rw [hf]; simp
  obtain ⟨hmem, hrf⟩ := famF_mem.1 hm
  obtain ⟨k, hk⟩ := List.getElem?_of_mem hmem
  obtain ⟨e1, e2⟩ := srt_found h.srt hk rfl
  have hkl := (List.getElem?_eq_some_iff.1 hk).1
  have hsp : rs = rs.take k ++ r :: rs.drop (k + 1) := by
    have e : rs[k] = r := (List.getElem?_eq_some_iff.1 hk).2
    rw [← e, List.getElem_cons_drop, List.take_append_drop]
  have hA : famF rs f = famF (rs.take k) f ++ r :: famF (rs.drop (k + 1)) f := by
    conv => lhs; rw [hsp]
    rw [famF_app, famF_yes hrf]
  have hnil : famF (rs.take k) f = [] := by
    cases hc : famF (rs.take k) f with
    | nil => rfl
    | cons x xs =>
      rw [hA, hc] at hf
      have hx : x = r := by simp at hf; exact hf.1
      have hxm : x ∈ rs.take k := (famF_mem.1 (by rw [hc]; simp)).1
      obtain ⟨i, hi⟩ := List.getElem?_of_mem hxm
      have hik : i < k := by have := (List.getElem?_eq_some_iff.1 hi).1; rw [List.length_take] at this; omega
      rw [List.getElem?_take_of_lt hik] at hi
      have := h.srt.uniq hi hk (by rw [hx])
      omega
  have ht : takeT rs r = (0, rs.eraseIdx k) := by
    unfold takeT takeC
    rw [if_pos (h.gd r hmem).ok, e2, if_pos rfl, e1]
  rw [ht]
  refine ⟨rfl, ?_, fun f' hf' => ?_⟩
  · show famF (rs.eraseIdx k) f = l
    rw [List.eraseIdx_eq_take_drop_succ, famF_app, hnil]
    rw [hA, hnil] at hf
    simpa using hf
  · show famF (rs.eraseIdx k) f' = famF rs f'
    rw [List.eraseIdx_eq_take_drop_succ, famF_app]
    conv => rhs; rw [hsp]
    rw [famF_app, famF_no (by rw [hrf]; exact fun e => hf' e.symm)]
theorem lens_none {rs : List Rt} {f : Int} (h : famF rs f = []) : lensT rs f = [] := by
  unfold lensT lnsT
  rw [h]
  split
  · decide
  · rfl
theorem ents_none {rs : List Rt} {f m : Int} (h : famF rs f = []) : entsT rs f m = [] := by
  unfold entsT
  rw [h]
  split
  · rfl
  · rfl
theorem adrE_fam {r : Rt} (h : Gd r) : r.f = 4 ∨ r.f = 6 := by
  rcases chk_ok h.ok with h1 | h1
  · exact .inl h1.1
  · exact .inr h1.1
theorem gd_lenE {r : Rt} (h : Gd r) : H.lenE r.f r.n = 0 := by
  have h1 := wid_gd h
  have h2 := adrE_fam h
  unfold H.lenE
  unfold wid at h1
  rcases h2 with h2 | h2
  · rw [if_pos h2, if_neg (by rw [if_pos h2] at h1; omega)]
  · rw [if_neg (by omega), if_pos h2, if_neg (by rw [if_neg (by omega)] at h1; omega)]
theorem no_routes {gs : Nat → List Int} {rs : List Rt} {lim : Int} (h : Ok gs rs lim) (h4 : famF rs 4 = []) (h6 : famF rs 6 = []) : rs = [] := by
  cases rs with
  | nil => rfl
  | cons r l =>
    rcases adrE_fam (h.gd r (by simp)) with h1 | h1
    · rw [famF_yes h1] at h4; cases h4
    · rw [famF_yes h1] at h6; cases h6
theorem family_any (b : Bool) (w : World) : Calls Try.prog 12 #[.bool b] w fun e w' => e = .returned (.int .i64 (if b then 6 else 4)) ∧ w' = w := by
  cases b
  · go_enter Try.func12, Try.ntmps12
    go_wp2
    go_ret
    exact ⟨rfl, rfl⟩
  · go_enter Try.func12, Try.ntmps12
    go_wp2
    go_ret
    exact ⟨rfl, rfl⟩
/-- What stands behind some families. -/
def GoneI (N : Nat) (ρ : Nat → Nat) (w : World) (T : Nat) (lim : Int) (s : Nat) (w' : World) : Prop :=
  ∃ ρ' gs rs, Kt N ρ' w' T 8 gs rs lim ∧ Wh N ρ' w' ∧ (1 ≤ s → famF rs 4 = []) ∧ (2 ≤ s → famF rs 6 = []) ∧ Ev (fun q => 1 ≤ q) ρ w ρ' w'
/-- Behind i takes. -/
def TkI (N : Nat) (ρ : Nat → Nat) (w : World) (T : Nat) (lim : Int) (gs : Nat → List Int) (rs l : List Rt) (fm : Int) (v : Value) (M i : Nat) (wq : World) : Prop :=
  ∃ ρ5 rs5, Kt N ρ5 wq T 8 gs rs5 lim ∧ Wh N ρ5 wq ∧ famF rs5 fm = l.drop i ∧ (∀ f', f' ≠ fm → famF rs5 f' = famF rs f') ∧ OwnZ M ρ5 wq 13 39 5 v l.length (flat l) ∧ Ev (fun q => 1 ≤ q) ρ w ρ5 wq
theorem TkI.below {N : Nat} {ρ : Nat → Nat} {w : World} {T : Nat} {lim : Int} {gs : Nat → List Int} {rs l : List Rt} {fm : Int} {v : Value} {M i : Nat} {wq w' : World} (h : TkI N ρ w T lim gs rs l fm v M i wq) (hb : Below wq.heap.size wq w') : TkI N ρ w T lim gs rs l fm v M i w' := by
  obtain ⟨ρ5, rs5, h1, h2, h3, h4, h5, h6⟩ := h
  exact ⟨ρ5, rs5, h1.below hb (by decide) (by decide), h2.below hb, h3, h4, h5.ev (Ev.of_below (R := fun _ => False) ρ5 hb) id (by decide), h6.trans (Ev.of_below ρ5 hb)⟩
theorem TkI.take {N : Nat} {ρ : Nat → Nat} {w : World} {T : Nat} {lim : Int} {gs : Nat → List Int} {rs l : List Rt} {fm : Int} {v : Value} {M i : Nat} {wq : World} (h : TkI N ρ w T lim gs rs l fm v M i wq) {r : Rt} (hr : l[i]? = some r) :
    Calls Try.prog 14 #[.pointer (some ⟨T, 0, none⟩), .agg #[.int .i64 r.f, .int .u64 r.hi, .int .u64 r.lo, .int .i64 r.n]] wq fun e w' => e = .returned (.int .i64 0) ∧ TkI N ρ w T lim gs rs l fm v M (i + 1) w' := by
  obtain ⟨ρ5, rs5, h1, h2, h3, h4, h5, h6⟩ := h
  have hil := (List.getElem?_eq_some_iff.1 hr).1
  have hd : l.drop i = r :: l.drop (i + 1) := by
    have e : l[i] = r := (List.getElem?_eq_some_iff.1 hr).2
    rw [← e, List.getElem_cons_drop]
  rw [hd] at h3
  obtain ⟨t1, t2, t3⟩ := take_first h1.ok h3
  have hm : r ∈ rs5 := (famF_mem.1 (show r ∈ famF rs5 fm by rw [h3]; simp)).1
  refine (kt_take h1 h2 (by decide) (by decide) r (h1.ok.gd r hm).fit).mono ?_
  rintro e w' ⟨rfl, ρ6, j1, j2, j3⟩
  rw [t1]
  exact ⟨rfl, ρ6, _, j1, j2, t2, fun f' hf' => (t3 f' hf').trans (h4 f' hf'), h5.ev j3 (by decide) (by decide), h6.trans (j3.mono (fun q h => by omega))⟩
theorem TkI.lens {N : Nat} {ρ : Nat → Nat} {w : World} {T : Nat} {lim : Int} {gs : Nat → List Int} {rs l : List Rt} {fm : Int} {v : Value} {M : Nat} {wq : World} (h : TkI N ρ w T lim gs rs l fm v M l.length wq) (hfm : famE fm = 0) :
    Calls Try.prog 15 #[.pointer (some ⟨T, 0, none⟩), .int .i64 fm] wq fun e w' => ∃ ao cap, e = .returned (.tuple #[.slice ao 0 cap, .int .i64 0]) ∧ TkI N ρ w T lim gs rs l fm v M l.length w' := by
  have h' := h
  obtain ⟨ρ5, rs5, h1, h2, h3, h4, h5, h6⟩ := h
  rw [List.drop_length] at h3
  refine (kt_lens h1 fm).mono ?_
  rintro e w' ⟨ao, n, cap, rfl, hn, -, hb⟩
  rw [lens_none h3] at hn
  subst hn
  rw [hfm]
  exact ⟨ao, cap, rfl, h'.below hb⟩
theorem TkI.ents {N : Nat} {ρ : Nat → Nat} {w : World} {T : Nat} {lim : Int} {gs : Nat → List Int} {rs l : List Rt} {fm : Int} {v : Value} {M : Nat} {wq : World} (h : TkI N ρ w T lim gs rs l fm v M l.length wq) {m : Int} (hm : H.lenE fm m = 0) :
    Calls Try.prog 16 #[.pointer (some ⟨T, 0, none⟩), .int .i64 fm, .int .i64 m] wq fun e w' => ∃ ao cap, e = .returned (.tuple #[.slice ao 0 cap, .int .i64 0]) ∧ TkI N ρ w T lim gs rs l fm v M l.length w' := by
  have h' := h
  obtain ⟨ρ5, rs5, h1, h2, h3, h4, h5, h6⟩ := h
  rw [List.drop_length] at h3
  refine (kt_ents h1 fm m).mono ?_
  rintro e w' ⟨ao, n, cap, rfl, hn, -, hb⟩
  rw [ents_none h3] at hn
  subst hn
  rw [hm]
  exact ⟨ao, cap, rfl, h'.below hb⟩
theorem TkI.at {N : Nat} {ρ : Nat → Nat} {w : World} {T : Nat} {lim : Int} {gs : Nat → List Int} {rs l : List Rt} {fm : Int} {lo : Option Addr} {y lc M i : Nat} {wq : World} (h : TkI N ρ w T lim gs rs l fm (.slice lo y lc) M i wq) {j : Nat} {r : Rt} (hr : l[j]? = some r) : ∃ g, lo = some ⟨g, 0, none⟩ ∧ RtAt wq g (j * 5) r := by
  obtain ⟨ρ5, rs5, h1, h2, h3, h4, h5, h6⟩ := h
  obtain ⟨g, e, hat, -⟩ := RwO.at h5.1 hr
  exact ⟨g, e, hat⟩
theorem GoneI.dump {N : Nat} {ρ : Nat → Nat} {w : World} {T : Nat} {lim : Int} {s : Nat} {wr : World} (h : GoneI N ρ w T lim s wr) (fm : Int) (hfm : fm = 4 ∨ fm = 6) (hs : fm = 6 → s = 1) (hs4 : fm = 4 → s = 0) :
    Calls Try.prog 13 #[.pointer (some ⟨T, 0, none⟩), .int .i64 fm] wr fun e w' => ∃ lo y lc gs rs l, e = .returned (.tuple #[.slice lo y lc, .int .i64 0]) ∧ y = l.length ∧ l.length ≤ 256 ∧ (∀ r ∈ l, Gd r ∧ r.f = fm) ∧ TkI N ρ w T lim gs rs l fm (.slice lo y lc) wr.heap.size 0 w' ∧ (∀ wz, TkI N ρ w T lim gs rs l fm (.slice lo y lc) wr.heap.size l.length wz → GoneI N ρ w T lim (s + 1) wz) := by
  obtain ⟨ρ', gs, rs, k1, k2, k3, k4, k5⟩ := h
  refine (kt_dump k1 fm).mono ?_
  rintro e w' ⟨lo, y, lc, rfl, hy, hrw, hb⟩
  rw [show dumpT rs fm = famF rs fm by unfold dumpT; rw [if_pos hfm]] at hy hrw
  rw [show famE fm = 0 by unfold famE; rw [if_pos hfm]]
  obtain ⟨ρ4, t1, t2, t3, t4⟩ := tag13 k2.fr k2.n15 hb hrw
  refine ⟨lo, y, lc, gs, rs, famF rs fm, rfl, hy, Nat.le_trans (famF_le rs fm) k1.ok.len256, fun r hr => ⟨k1.ok.gd r (famF_mem.1 hr).1, (famF_mem.1 hr).2⟩, ⟨ρ4, rs, k1.evs t1 (by decide) (by decide), ⟨Nat.le_trans k2.n hb.size, t2, t3⟩, by rw [List.drop_zero], fun _ _ => rfl, ⟨hrw, t4⟩, k5.trans (t1 _)⟩, ?_⟩
  rintro wz ⟨ρ5, rs5, h1, h2, h3, h4, h5, h6⟩
  rw [List.drop_length] at h3
  refine ⟨ρ5, gs, rs5, h1, h2, fun _ => ?_, fun hs2 => ?_, h6⟩
  · rcases hfm with rfl | rfl
    · exact h3
    · rw [h4 4 (by decide)]; exact k3 (by rw [hs rfl]; decide)
  · rcases hfm with rfl | rfl
    · have := hs4 rfl; omega
    · exact h3
/-- Groups alone. -/
def GrI (N : Nat) (ρ : Nat → Nat) (w : World) (T : Nat) (lim : Int) (w' : World) : Prop := ∃ ρ' gs, Kt N ρ' w' T 8 gs [] lim ∧ Wh N ρ' w' ∧ Ev (fun q => 1 ≤ q) ρ w ρ' w'
theorem GrI.hops {N : Nat} {ρ : Nat → Nat} {w : World} {T : Nat} {lim : Int} {wr : World} (h : GrI N ρ w T lim wr) (k : Int) :
    Calls Try.prog 17 #[.pointer (some ⟨T, 0, none⟩), .int .i64 k] wr fun e w' => ∃ (c : Int) (ao : Option Addr) (n cap : Nat), e = .returned (.tuple #[.slice ao n cap, .int .i64 c]) ∧ (c = 0 ∨ c = 7) ∧
      Calls Try.prog 18 #[.pointer (some ⟨T, 0, none⟩), .int .i64 k] w' fun e w'' => e = .returned (.int .i64 c) ∧ GrI N ρ w T lim w'' := by
  obtain ⟨ρ', gs, k1, k2, k5⟩ := h
  have hdrop : ∀ (w' : World), Below wr.heap.size wr w' → ∀ c : Int, ((hasB gs k = false ∧ c = 7) ∨ (hasB gs k = true ∧ c = 0)) → Calls Try.prog 18 #[.pointer (some ⟨T, 0, none⟩), .int .i64 k] w' fun e w'' => e = .returned (.int .i64 c) ∧ GrI N ρ w T lim w'' := by
    intro w' hb c hc
    refine (kt_drop (k1.below hb (by decide) (by decide)) (k2.below hb) (by decide) (by decide) k).mono ?_
    rintro e w'' ⟨d, gs', rfl, hd, ρ6, j1, j2, j3⟩
    have hcd : d = c := by
      rcases hd with ⟨h1, rfl, rfl⟩ | ⟨h1, h2, rfl, rfl⟩ | ⟨h1, h2, rfl, rfl⟩ <;> rcases hc with ⟨g1, rfl⟩ | ⟨g1, rfl⟩
      · rfl
      · rw [h1] at g1; cases g1
      · rw [h1] at g1; cases g1
      · cases h2
      · rw [h1] at g1; cases g1
      · rfl
    subst hcd
    exact ⟨rfl, ρ6, gs', j1, j2, (k5.trans (Ev.of_below ρ' hb)).trans (j3.mono (fun q h => by omega))⟩
  refine (kt_hops k1 k).mono ?_
  rintro e w' (⟨h1, rfl, hb⟩ | ⟨h1, g, cp, rfl, -, -, -, hb⟩)
  · exact ⟨7, none, 0, 0, rfl, .inr rfl, hdrop w' hb 7 (.inl ⟨h1, rfl⟩)⟩
  · exact ⟨0, some ⟨g, 0, none⟩, _, cp, rfl, .inl rfl, hdrop w' hb 0 (.inr ⟨h1, rfl⟩)⟩
set_option maxRecDepth 4000 in
set_option maxHeartbeats 4000000 in
theorem gone_law (limit : Int) (so : Option Addr) (z scap : Nat) (ops : List AOp) (w : World) (hz : ops.length = z) (hz2 : z ≤ 1400000000000) (hS : ScrK w.heap.size w so ops) :
    Calls Try.prog 5 #[.int .i64 limit, .slice so z scap] w fun e w' => e = .returned (.bool true) ∧ Below w.heap.size w w' := by
  by_cases hlim : limit < 1 ∨ 256 < limit
  · have H1 := Lib.hid (begin_no limit 9 10 w hlim)
    clear hlim hS
    go_enter Try.func5, Try.ntmps5
    go_wp2_with (go_at_call 6; refine H1.out.mono ?_; rintro e w1 ⟨rfl, hb⟩; have HB := Lib.hid hb; clear hb)
    go_ret
    exact ⟨rfl, HB.out⟩
  · have H1 := Lib.hid (begin_any w.heap.size (rho0 w.heap.size) 8 limit 9 10 w (wh0 w) (by decide) (by decide) (by unfold Rg; decide) (by omega) (by omega))
    have HS0 := Lib.hid hS
    clear hlim hS
    go_enter Try.func5, Try.ntmps5
    go_wp2_with fail
    refine H1.out.mono ?_
    rintro e w1 ⟨T, rfl, ρ2, k1, k2, k3⟩
    have hz0 : ∀ b, b < w.heap.size → rho0 w.heap.size b = 0 := fun b hb => by simp [rho0, hb]
    have HP := Lib.hid (play_any w.heap.size ρ2 w1 T 8 (gz 9 10) [] limit so z scap ops hz hz2 k1 k2 (by decide) (by decide) (fun b hb => by rw [(k3 (fun _ => False)).role b hb (by rw [hz0 b hb]; decide)]; exact hz0 b hb) (HS0.out.ev (Nat.le_refl _) (k3 (fun _ => False)) hz0 id))
    have HE1 := Lib.hid (k3 (fun q => 1 ≤ q))
    clear k1 k2 k3
    go_wp2_with fail
    refine HP.out.mono ?_
    rintro e w2 ⟨rfl, ρ3, gs, rs, k1, k2, -, k4⟩
    have HI := Lib.hid (show GoneI w.heap.size (rho0 w.heap.size) w T limit 0 w2 from ⟨ρ3, gs, rs, k1, k2, fun h => by omega, fun h => by omega, HE1.out.trans (k4.mono (fun q h => by omega))⟩)
    have HFm := Lib.hid family_any
    clear k1 k2 k4 HP HE1 HS0 H1 hz0
    go_wp2
    go_loopw [7] (fun i wr => ∃ s : Nat, s ≤ 2 ∧ i = .int .i64 s ∧ Hid (GoneI w.heap.size (rho0 w.heap.size) w T limit s wr)) (fun i _ => 2 - (intOf i).toNat)
    case atStart => exact ⟨0, Nat.zero_le _, rfl, HI⟩
    case round =>
      obtain ⟨s, hs, rfl, HK⟩ := hrel
      rcases (show s = 0 ∨ s = 1 ∨ s = 2 by omega) with rfl | rfl | rfl
      · obtain ⟨M0, hM0⟩ : ∃ M, M = wr.heap.size := ⟨_, rfl⟩
        have HM0 := Lib.hid hM0
        have HD := Lib.hid (HK.out.dump 4 (by decide) (by decide) (by decide))
        rw [← hM0] at HD
        clear hM0
        clear HK
        go_wp2_with (first | (go_at_call 12; refine (HFm.out _ _).mono ?_; rintro e wf ⟨rfl, rfl⟩))
        refine HD.out.mono ?_
        rintro e w3 ⟨lo, y, lc, gs, rs, l, rfl, hy, hl256, hgd, hT0, hfin⟩
        have HT0 := Lib.hid hT0
        have HFin := Lib.hid hfin
        have HGd := Lib.hid hgd
        have Hy := Lib.hid hy
        have hy2 : y ≤ 256 := by rw [hy]; exact hl256
        clear HD hT0 hfin hgd hy hl256
        go_wp2
        go_loopw [10, 11] (fun ev iv wq => ∃ i : Nat, i ≤ y ∧ iv = .int .i64 i ∧ ev = .int .i64 0 ∧ Hid (TkI w.heap.size (rho0 w.heap.size) w T limit gs rs l 4 (.slice lo y lc) M0 i wq)) (fun _ iv _ => y - (intOf iv).toNat)
        case atStart => exact ⟨0, Nat.zero_le _, rfl, rfl, HT0⟩
        case round =>
          obtain ⟨i, hi, rfl, rfl, HT⟩ := hrel
          by_cases hiy : i < y
          · obtain ⟨r, hr⟩ : ∃ r, l[i]? = some r := ⟨_, List.getElem?_eq_getElem (by rw [← Hy.out]; exact hiy)⟩
            obtain ⟨g, rfl, hat⟩ := HT.out.at hr
            have HTk := Lib.hid (HT.out.take hr)
            have c0 := hat.c0
            have c1 := hat.c1
            have c2 := hat.c2
            have c3 := hat.c3
            have q1 : (i : Int) < (y : Int) := by omega
            have q0 : (0 : Int) ≤ (i : Int) := by omega
            clear hat hr HT
            go_wp2_with (go_at_call 14; refine HTk.out.mono ?_; rintro e w4 ⟨rfl, hT1⟩; have HT1 := Lib.hid hT1; clear hT1)
            go_roundw
            case rel => exact ⟨i + 1, by omega, by go_num, rfl, HT1⟩
            case measure => simp [intOf]; omega
          · obtain rfl : i = y := by omega
            have HTl := Lib.hid (show TkI w.heap.size (rho0 w.heap.size) w T limit gs rs l 4 (.slice lo i lc) M0 l.length wr from by
              have h := HT.out
              have e : i = l.length := Hy.out
              rw [← e]; exact h)
            have HLn := Lib.hid (HTl.out.lens rfl)
            clear HT HTl
            go_wp2_with fail
            refine HLn.out.mono ?_
            rintro e w5 ⟨ao, cap, rfl, hT1⟩
            have HT1 := Lib.hid hT1
            clear hT1 HLn
            go_wp2
            go_loopw [14] (fun iv wq => ∃ k : Nat, k ≤ i ∧ iv = .int .i64 k ∧ Hid (TkI w.heap.size (rho0 w.heap.size) w T limit gs rs l 4 (.slice lo i lc) M0 l.length wq)) (fun iv _ => i - (intOf iv).toNat)
            case atStart => exact ⟨0, Nat.zero_le _, rfl, HT1⟩
            case round =>
              obtain ⟨k, hk, rfl, HT⟩ := hrel
              by_cases hki : k < i
              · obtain ⟨r, hr⟩ : ∃ r, l[k]? = some r := ⟨_, List.getElem?_eq_getElem (by rw [← Hy.out]; exact hki)⟩
                obtain ⟨g, rfl, hat⟩ := HT.out.at hr
                have hgr := HGd.out r (List.mem_of_getElem? hr)
                have HEn := Lib.hid (HT.out.ents (m := r.n) (by rw [← hgr.2]; exact gd_lenE hgr.1))
                have c3 := hat.c3
                have q1 : (k : Int) < (i : Int) := by omega
                have q0 : (0 : Int) ≤ (k : Int) := by omega
                clear hat hr HT hgr
                go_wp2_with (go_at_call 16; refine HEn.out.mono ?_; rintro e w6 ⟨ao2, cap2, rfl, hT2⟩; have HT2 := Lib.hid hT2; clear hT2)
                go_roundw
                case rel => exact ⟨k + 1, by omega, by go_num, HT2⟩
                case measure => simp [intOf]; omega
              · have HG := Lib.hid (HFin.out _ HT.out)
                clear HT
                go_wp2
                exact ⟨⟨1, by omega, rfl, HG⟩, by simp [intOf]⟩
      · obtain ⟨M0, hM0⟩ : ∃ M, M = wr.heap.size := ⟨_, rfl⟩
        have HM0 := Lib.hid hM0
        have HD := Lib.hid (HK.out.dump 6 (by decide) (by decide) (by decide))
        rw [← hM0] at HD
        clear hM0
        clear HK
        go_wp2_with (first | (go_at_call 12; refine (HFm.out _ _).mono ?_; rintro e wf ⟨rfl, rfl⟩))
        refine HD.out.mono ?_
        rintro e w3 ⟨lo, y, lc, gs, rs, l, rfl, hy, hl256, hgd, hT0, hfin⟩
        have HT0 := Lib.hid hT0
        have HFin := Lib.hid hfin
        have HGd := Lib.hid hgd
        have Hy := Lib.hid hy
        have hy2 : y ≤ 256 := by rw [hy]; exact hl256
        clear HD hT0 hfin hgd hy hl256
        go_wp2
        go_loopw [10, 11] (fun ev iv wq => ∃ i : Nat, i ≤ y ∧ iv = .int .i64 i ∧ ev = .int .i64 0 ∧ Hid (TkI w.heap.size (rho0 w.heap.size) w T limit gs rs l 6 (.slice lo y lc) M0 i wq)) (fun _ iv _ => y - (intOf iv).toNat)
        case atStart => exact ⟨0, Nat.zero_le _, rfl, rfl, HT0⟩
        case round =>
          obtain ⟨i, hi, rfl, rfl, HT⟩ := hrel
          by_cases hiy : i < y
          · obtain ⟨r, hr⟩ : ∃ r, l[i]? = some r := ⟨_, List.getElem?_eq_getElem (by rw [← Hy.out]; exact hiy)⟩
            obtain ⟨g, rfl, hat⟩ := HT.out.at hr
            have HTk := Lib.hid (HT.out.take hr)
            have c0 := hat.c0
            have c1 := hat.c1
            have c2 := hat.c2
            have c3 := hat.c3
            have q1 : (i : Int) < (y : Int) := by omega
            have q0 : (0 : Int) ≤ (i : Int) := by omega
            clear hat hr HT
            go_wp2_with (go_at_call 14; refine HTk.out.mono ?_; rintro e w4 ⟨rfl, hT1⟩; have HT1 := Lib.hid hT1; clear hT1)
            go_roundw
            case rel => exact ⟨i + 1, by omega, by go_num, rfl, HT1⟩
            case measure => simp [intOf]; omega
          · obtain rfl : i = y := by omega
            have HTl := Lib.hid (show TkI w.heap.size (rho0 w.heap.size) w T limit gs rs l 6 (.slice lo i lc) M0 l.length wr from by
              have h := HT.out
              have e : i = l.length := Hy.out
              rw [← e]; exact h)
            have HLn := Lib.hid (HTl.out.lens rfl)
            clear HT HTl
            go_wp2_with fail
            refine HLn.out.mono ?_
            rintro e w5 ⟨ao, cap, rfl, hT1⟩
            have HT1 := Lib.hid hT1
            clear hT1 HLn
            go_wp2
            go_loopw [14] (fun iv wq => ∃ k : Nat, k ≤ i ∧ iv = .int .i64 k ∧ Hid (TkI w.heap.size (rho0 w.heap.size) w T limit gs rs l 6 (.slice lo i lc) M0 l.length wq)) (fun iv _ => i - (intOf iv).toNat)
            case atStart => exact ⟨0, Nat.zero_le _, rfl, HT1⟩
            case round =>
              obtain ⟨k, hk, rfl, HT⟩ := hrel
              by_cases hki : k < i
              · obtain ⟨r, hr⟩ : ∃ r, l[k]? = some r := ⟨_, List.getElem?_eq_getElem (by rw [← Hy.out]; exact hki)⟩
                obtain ⟨g, rfl, hat⟩ := HT.out.at hr
                have hgr := HGd.out r (List.mem_of_getElem? hr)
                have HEn := Lib.hid (HT.out.ents (m := r.n) (by rw [← hgr.2]; exact gd_lenE hgr.1))
                have c3 := hat.c3
                have q1 : (k : Int) < (i : Int) := by omega
                have q0 : (0 : Int) ≤ (k : Int) := by omega
                clear hat hr HT hgr
                go_wp2_with (go_at_call 16; refine HEn.out.mono ?_; rintro e w6 ⟨ao2, cap2, rfl, hT2⟩; have HT2 := Lib.hid hT2; clear hT2)
                go_roundw
                case rel => exact ⟨k + 1, by omega, by go_num, HT2⟩
                case measure => simp [intOf]; omega
              · have HG := Lib.hid (HFin.out _ HT.out)
                clear HT
                go_wp2
                exact ⟨⟨2, by omega, rfl, HG⟩, by simp [intOf]⟩
      · obtain ⟨ρ', gs, rs, k1, k2, k3, k4, k5⟩ := HK.out
        obtain rfl := no_routes k1.ok (k3 (by decide)) (k4 (by decide))
        have HG := Lib.hid (show GrI w.heap.size (rho0 w.heap.size) w T limit wr from ⟨ρ', gs, k1, k2, k5⟩)
        clear HK k1 k2 k3 k4 k5
        rw [show ((2 : Nat) : Int) = 2 from rfl]
        go_wp2
        go_loopw [17] (fun iv wq => ∃ k : Nat, k ≤ 32 ∧ iv = .int .i64 k ∧ Hid (GrI w.heap.size (rho0 w.heap.size) w T limit wq)) (fun iv _ => 32 - (intOf iv).toNat)
        case atStart => exact ⟨0, Nat.zero_le _, rfl, HG⟩
        case round =>
          obtain ⟨k, hk, rfl, HT⟩ := hrel
          by_cases hki : k < 32
          · have q1 : (k : Int) < 32 := by omega
            have HH := Lib.hid (HT.out.hops k)
            clear HT
            go_wp2_with fail
            refine HH.out.mono ?_
            rintro e w6 ⟨c, ao, n, cap, rfl, hc, hD⟩
            have HD := Lib.hid hD
            clear hD HH
            go_wp2_with fail
            refine HD.out.mono ?_
            rintro e w7 ⟨rfl, hT1⟩
            have HT1 := Lib.hid hT1
            clear hT1 HD
            rcases hc with rfl | rfl
            · go_wp2_with fail
              go_roundw
              case rel => exact ⟨k + 1, by omega, by go_num, HT1⟩
              case measure => simp [intOf]; omega
            · go_wp2_with fail
              go_roundw
              case rel => exact ⟨k + 1, by omega, by go_num, HT1⟩
              case measure => simp [intOf]; omega
          · obtain ⟨ρ', gs, k1, k2, k5⟩ := HT.out
            have HB := Lib.hid (below_ev k5)
            clear HT k1 k2 k5
            go_wp2
            go_ret
            exact ⟨rfl, HB.out⟩
end Go.Proofs.Ytnfkgnjeamnhfaa
