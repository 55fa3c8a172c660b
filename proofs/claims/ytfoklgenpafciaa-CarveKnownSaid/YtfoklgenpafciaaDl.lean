/-
  The walk of the law CarveKnown. Condition: none.
-/
import Derived.Test.YtfoklgenpafciaaBz
import Derived.Test.YtfoklgenpafciaaDt
namespace Go.Proofs.Ytfoklgenpafciaa
open Go.RowKit
set_option linter.unusedSimpArgs false
set_option linter.unusedVariables false

theorem s64_len : s64.sl.length = 32 ∧ s64.th.length = 16 := ⟨s64_slots, s64_things⟩
theorem ckx_len : ckx.sl.length = 32 ∧ ckx.th.length = 16 := ⟨by kernel_rfl, by kernel_rfl⟩
theorem cky_len : cky.sl.length = 32 ∧ cky.th.length = 16 := ⟨by kernel_rfl, by kernel_rfl⟩
theorem ckz_len : ckz.sl.length = 32 ∧ ckz.th.length = 16 := ⟨by kernel_rfl, by kernel_rfl⟩
theorem ckl_len : ckl.sl.length = 32 ∧ ckl.th.length = 16 := ⟨by kernel_rfl, by kernel_rfl⟩
theorem ckn_len : ckn.sl.length = 32 ∧ ckn.th.length = 16 := ⟨by kernel_rfl, by kernel_rfl⟩
theorem ckm_len : (cdone ckn aw15).sl.length = 32 ∧ (cdone ckn aw15).th.length = 16 := ⟨by kernel_rfl, by kernel_rfl⟩
theorem ckpos_of {s : St} (h : s.sl.length = 32 ∧ s.th.length = 16) : ∀ s', some s = some s' → 0 < s'.sl.length ∧ 0 < s'.th.length := fun s' e => by
  injection e with e
  rw [← e, h.1, h.2]
  decide
theorem ckpos_none : ∀ s', (none : Option St) = some s' → 0 < s'.sl.length ∧ 0 < s'.th.length := fun s' e => by cases e
theorem ck_low : (⟨s64.g, s64.sl.set 0 ⟨⟨1, 0, 1, 0⟩, -1⟩, s64.th⟩ : St) = ckl := rfl
theorem ck_new : (⟨s64.g, s64.sl, s64.th.set 0 ⟨1, 0, 0, 64, 64, 0, 0, false, 0, 0, 0, 0, 0⟩⟩ : St) = ckn := rfl

set_option maxRecDepth 100000 in
set_option maxHeartbeats 32000000 in
theorem carve_known (w : World) : Calls Try.prog 3 #[] w fun e w' => e = .returned (.bool true) ∧ Below w.heap.size w w' := by
  go_enter Try.func3, Try.ntmps3
  go_wp2_with fail
  refine (awake15_is w).mono ?_
  rintro e w1 ⟨rfl, hb⟩
  have HB1 := Lib.hid hb
  clear hb
  go_wp2_with fail
  refine (first_is w1).mono ?_
  rintro e w2 ⟨A, ca, C, cc, rfl, hS, hF, hb⟩
  obtain ⟨Ps, Qs, rfl, rfl, hO⟩ := hF.ost (by rw [s64_len.1]; decide) (by rw [s64_len.2]; decide) hb
  have HC_s := Lib.hid (⟨hS.hca, hS.hcc⟩ : 32 ≤ ca ∧ 16 ≤ cc)
  have HB2 := Lib.hid (below_on HB1.out hb)
  go_upto_region 4 with fail
  have K := Bxs.new w2 [.int .i64 2, .int .i64 32, .int .i64 16, .slice (some ⟨Ps, 0, none⟩) 32 ca, .slice (some ⟨Qs, 0, none⟩) 16 cc] 28
  have hal := below_alloc w2 (.cells #[.int .i64 2, .int .i64 32, .int .i64 16, .slice (some ⟨Ps, 0, none⟩) 32 ca, .slice (some ⟨Qs, 0, none⟩) 16 cc] 28)
  have HW := Lib.hid (below_on HB2.out hal)
  have O_s := Lib.hid (hO.on hal)
  clear hS hF hO hb hal HB1 HB2
  obtain ⟨gs, hgs⟩ : ∃ gs, gs = w2.heap.size := ⟨_, rfl⟩
  rw [← hgs] at K ⊢
  clear hgs
  generalize w2.alloc _ = v4 at K HW O_s ⊢
  have K_s := Lib.hid K
  clear K
  refine wp_region_held_drew (S := fun w' => Below v4.heap.size v4 w') (by kernel_rfl) (below_self v4).drew (fun hH => ?_)
  refine wpAnyH_take (i := 0) (v := .agg #[.int .i64 2, .int .i64 32, .int .i64 16, .slice (some ⟨Ps, 0, none⟩) 32 ca, .slice (some ⟨Qs, 0, none⟩) 16 cc]) rfl (by kernel_rfl) (by kernel_rfl) (by kernel_rfl) (fun _ _ _ h => h) (yieldsIf_load_mid (by rfl) 28 (.tmp 1) (by rfl) gs 0 (by rfl) [.int .i64 2, .int .i64 32, .int .i64 16, .slice (some ⟨Ps, 0, none⟩) 32 ca, .slice (some ⟨Qs, 0, none⟩) 16 cc] _ (fun w hS => ((K_s.out.on hS).range)) Try.underlying28 rfl info_state) (by assumption) ?_
  try simp only [Act.put, List.setIfInBounds_toArray, List.set_cons_zero, List.set_cons_succ, List.getElem_toArray, List.getElem_cons_zero, List.getElem_cons_succ]
  refine wpAnyH_inv (f0 := 1) [1, 2, 3, 4, 5, 6, 7, 8, 9, 10] [39, 40, 41, 42, 43, 37, 44, 45, 2] (fun l tm w => PHI v4 [1] [3] 2 32 16 (some ⟨Ps, 0, none⟩) 32 ca (some ⟨Qs, 0, none⟩) 16 cc none (.int .i64 7) [] true true (fun _ _ => undef) (l 1) (l 2) (l 3) (l 4) false (l 5) (l 6) (l 7) (l 8) (l 9) false (l 10) (tm 39) (tm 40) (tm 41) (tm 42) undef (tm 43) (tm 37) (tm 44) (tm 45) (tm 2) undef w) (by kernel_rfl) (by kernel_rfl) rfl (by decide) (fun l tm w h => h.bb) ?start (AllSteps.cons rfl ?o1 (AllSteps.cons rfl ?o2 (AllSteps.cons rfl ?o3 (AllSteps.cons rfl ?o4 (AllSteps.cons rfl ?o5 (AllSteps.cons rfl ?o6 (AllSteps.cons rfl ?o7 (AllSteps.cons rfl ?o8 (AllSteps.cons rfl ?o9 (AllSteps.cons rfl ?o10 AllSteps.nil)))))))))) ?fin
  case o1 =>
    intro l tm w h hl hd K hK
    try dsimp only at h
    rw [hl] at h
    have hh := h.addB1 (below_alloc w (.cells #[.int .i64 1] 3)) (lis_one w 1)
    exact st_run (v := .slice (some ⟨w.heap.size, 0, none⟩) 1 1) (by rfl) (by kernel_rfl) (hK.out _ _ hh)
  case o2 =>
    intro l tm w h hl hd K hK
    try dsimp only at h
    rw [hl] at h
    have hs := h.early1.1
    have h0 := h
    rw [hs] at h0
    obtain ⟨⟨B, nB, cB, eB, -⟩, -⟩ := h0.way1 (hd 1 (by kernel_rfl))
    have hc := way_is (A := B) (n := nB) (cap := cB) w
    rw [← eB] at hc
    refine st_call (f := 11) (args := #[(tm 39)]) (w' := w) (by rfl) (by kernel_rfl) (hc.mono ?_)
    rintro e w1 ⟨rfl, hb⟩
    exact ⟨_, rfl, hK.out _ _ (h.addW1 (hd 1 (by kernel_rfl)) hb rfl)⟩
  case o3 =>
    intro l tm w h hl hd K hK
    try dsimp only at h
    rw [hl] at h
    have hh := h.addB2 (below_alloc w (.cells #[.int .i64 3] 3)) (lis_one w 3)
    exact st_run (v := .slice (some ⟨w.heap.size, 0, none⟩) 1 1) (by rfl) (by kernel_rfl) (hK.out _ _ hh)
  case o4 =>
    intro l tm w h hl hd K hK
    try dsimp only at h
    rw [hl] at h
    have hs := h.early2.1
    have h0 := h
    rw [hs] at h0
    obtain ⟨⟨B, nB, cB, eB, -⟩, -⟩ := h0.way2 (hd 3 (by kernel_rfl))
    have hc := way_is (A := B) (n := nB) (cap := cB) w
    rw [← eB] at hc
    refine st_call (f := 11) (args := #[(tm 41)]) (w' := w) (by rfl) (by kernel_rfl) (hc.mono ?_)
    rintro e w1 ⟨rfl, hb⟩
    exact ⟨_, rfl, hK.out _ _ (h.addW2 (hd 3 (by kernel_rfl)) hb rfl)⟩
  case o5 =>
    intro l tm w h hl hd K hK
    try dsimp only at h
    rw [hl] at h
    have d1 := hd 2 (by kernel_rfl)
    have d2 := hd 4 (by kernel_rfl)
    have hs : l 10 = false := h.notS.1
    have h0 := h
    rw [hs] at h0
    obtain ⟨⟨B1, n1, k1, eB1, eN1, eK1, eI1⟩, eW1⟩ := h0.way1 ((h0.rg rfl).w1 d1).1
    obtain ⟨⟨B2, n2, k2, eB2, eN2, eK2, eI2⟩, eW2⟩ := h0.way2 ((h0.rg rfl).w2 d2).1
    have hW1 := (eW1 d1).trans (by rw [eB1])
    have hW2 := (eW2 d2).trans (by rw [eB2])
    have hA : #[.agg #[.int .i64 2, .int .i64 32, .int .i64 16, .slice (some ⟨Ps, 0, none⟩) 32 ca, .slice (some ⟨Qs, 0, none⟩) 16 cc], (tm 40), (tm 42), .int .i64 4, .int .i64 0] = #[.agg #[.int .i64 2, .int .i64 32, .int .i64 16, .slice (some ⟨Ps, 0, none⟩) 32 ca, .slice (some ⟨Qs, 0, none⟩) 16 cc], .agg #[.slice B1 n1 k1], .agg #[.slice B2 n2 k2], .int .i64 4, .int .i64 0] := by rw [hW1, hW2]
    refine st_call (f := 10) (args := #[.agg #[.int .i64 2, .int .i64 32, .int .i64 16, .slice (some ⟨Ps, 0, none⟩) 32 ca, .slice (some ⟨Qs, 0, none⟩) 16 cc], (tm 40), (tm 42), .int .i64 4, .int .i64 0]) (w' := w) (by rfl) (by kernel_rfl) ?_
    rw [hA]
    refine (does_is ⟨(O_s.out.on h.bb).lies, rfl, s64_len.1.symm, s64_len.2.symm, by decide, by decide, HC_s.out.1, HC_s.out.2⟩ eN1 eK1 eI1 eN2 eK2 eI2 ck_a).mono ?_
    rintro e w1 ⟨A', ca', C', cc', rfl, hb, hm⟩
    obtain ⟨q1, q2⟩ := resD_of (a := 2) (b := 32) (c := 16) (R := (.int .i64 7)) h.bb.size hm ckpos_none
    exact ⟨_, rfl, hK.out _ _ (h.addD hb q1 q2)⟩
  case o6 =>
    intro l tm w h hl hd K hK
    try dsimp only at h
    rw [hl] at h
    exact st_run (v := tm 43) (w' := w) (by rfl) (by kernel_rfl) (hK.out _ _ (h.addMv (hd 5 (by kernel_rfl)) rfl))
  case o7 =>
    intro l tm w h hl hd K hK
    try dsimp only at h
    rw [hl] at h
    obtain ⟨A', ca', C', cc', eT, -⟩ := h.tup (hd 6 (by kernel_rfl))
    refine st_run (v := .agg #[.int .i64 2, .int .i64 32, .int .i64 16, .slice A' 32 ca', .slice C' 16 cc']) (w' := w) (by rfl) ?_ (hK.out _ _ (h.addE1 (hd 6 (by kernel_rfl)) eT))
    simp only [List.getElem_toArray, List.getElem_cons_zero, List.getElem_cons_succ, pmA, List.foldl_cons, List.foldl_nil, Act.put, List.setIfInBounds_toArray, List.set_cons_zero, List.set_cons_succ]
    rw [eT]
    kernel_rfl
  case o8 =>
    intro l tm w h hl hd K hK
    try dsimp only at h
    rw [hl] at h
    obtain ⟨A', ca', C', cc', eT, -⟩ := h.tup (hd 6 (by kernel_rfl))
    refine st_run (v := (.int .i64 7)) (w' := w) (by rfl) ?_ (hK.out _ _ (h.addE2 (hd 6 (by kernel_rfl)) eT))
    simp only [List.getElem_toArray, List.getElem_cons_zero, List.getElem_cons_succ, pmA, List.foldl_cons, List.foldl_nil, Act.put, List.setIfInBounds_toArray, List.set_cons_zero, List.set_cons_succ]
    rw [eT]
    kernel_rfl
  case o9 =>
    intro l tm w h hl hd K hK
    try dsimp only at h
    rw [hl] at h
    have hh := h.addQ ckpos_none 28
    exact st_run (v := ptr w.heap.size) (by rfl) (by kernel_rfl) (hK.out _ _ hh)
  case o10 =>
    intro l tm w h hl hd K hK
    try dsimp only at h
    rw [hl] at h
    obtain ⟨x, A', ca', C', cc', ex, e1, ed, hw⟩ := h.atS' (hd 5 (by kernel_rfl)) (hd 6 (by kernel_rfl)) (hd 7 (by kernel_rfl)) (hd 9 (by kernel_rfl))
    have HT : Hid (w.there x 0 (#[.int .i64 2, .int .i64 32, .int .i64 16, .slice A' 32 ca', .slice C' 16 cc'] : Array Value).size) := Lib.hid (hw.there (n := 5) rfl)
    have HO := Lib.hid (state_one 2 32 16 A' 32 ca' C' 16 cc')
    refine st_store (by rfl) 28 (.tmp 2) (.tmp 44) (by rfl) x 0 #[.int .i64 2, .int .i64 32, .int .i64 16, .slice A' 32 ca', .slice C' 16 cc'] ((by kernel_rfl : _ = tm 2).trans ex) ((by kernel_rfl : _ = tm 44).trans e1) HT.out info_state HO.out ?_
    refine hK.out undef (w.setCells x 0 [.int .i64 2, .int .i64 32, .int .i64 16, .slice A' 32 ca', .slice C' 16 cc']) ?_
    exact h.addS' (hd 1 (by kernel_rfl)) (hd 2 (by kernel_rfl)) (hd 3 (by kernel_rfl)) (hd 4 (by kernel_rfl)) (fun e => absurd e (by decide)) (hd 5 (by kernel_rfl)) (hd 6 (by kernel_rfl)) (hd 7 (by kernel_rfl)) (hd 9 (by kernel_rfl)) (fun e => absurd e (by decide)) ex ed
  case start => exact ⟨hH, fun _ => ⟨hH, fun e => ff rfl e, fun e => ff rfl e, fun e => ff rfl e, fun e => ff rfl e, fun e => ff rfl e, fun e => ff rfl e, fun e => ff rfl e, fun e => ff rfl e, fun e => ff rfl e, fun e => ff rfl e⟩, fun e => ff rfl e, fun e => ff rfl e, fun e => ff rfl e, fun e => ff rfl e, fun e => ff rfl e, fun e => ff rfl e⟩
  case fin =>
    intro tm v5 h
    try dsimp only at h
    obtain ⟨hbb, hR, hP⟩ := h.fin (by kernel_rfl) (by kernel_rfl)
    obtain ⟨g4, A4, ca4, C4, cc4, ed, ex, hx, hm, -⟩ := hP
    simp only [ptr] at ex
    clear h ed
    simp only [pmA, List.foldl_cons, List.foldl_nil, Act.put, List.setIfInBounds_toArray, List.set_cons_zero, List.set_cons_succ]
    rw [ex, hR]
    clear ex hR
    refine wpAnyH_take (i := 11) (v := ?_) rfl (by kernel_rfl) (by kernel_rfl) (by kernel_rfl) (fun _ _ _ h => h) (Or.inl ⟨by rfl, ?_⟩) (by assumption) ?_
    rotate_left
    · intro w hSw; go_simp; try with_reducible rfl
    try simp only [Act.put, List.setIfInBounds_toArray, List.set_cons_zero, List.set_cons_succ, List.getElem_toArray, List.getElem_cons_zero, List.getElem_cons_succ]
    refine wpAnyH_done (by kernel_rfl) ?_ _
    replace K_s := Lib.hid (K_s.out.on hbb)
    replace O_s := Lib.hid (O_s.out.on hbb)
    replace HW := Lib.hid (below_on HW.out hbb)
    clear hbb hx hH
    clear hm
    go_upto_region 5 with fail
    refine wp_region_held_drew (S := fun w' => Below v5.heap.size v5 w') (by kernel_rfl) (below_self v5).drew (fun hH => ?_)
    refine wpAnyH_take (i := 0) (v := .agg #[.int .i64 2, .int .i64 32, .int .i64 16, .slice (some ⟨Ps, 0, none⟩) 32 ca, .slice (some ⟨Qs, 0, none⟩) 16 cc]) rfl (by kernel_rfl) (by kernel_rfl) (by kernel_rfl) (fun _ _ _ h => h) (yieldsIf_load_mid (by rfl) 28 (.tmp 1) (by rfl) gs 0 (by rfl) [.int .i64 2, .int .i64 32, .int .i64 16, .slice (some ⟨Ps, 0, none⟩) 32 ca, .slice (some ⟨Qs, 0, none⟩) 16 cc] _ (fun w hS => ((K_s.out.on hS).range)) Try.underlying28 rfl info_state) (by assumption) ?_
    try simp only [Act.put, List.setIfInBounds_toArray, List.set_cons_zero, List.set_cons_succ, List.getElem_toArray, List.getElem_cons_zero, List.getElem_cons_succ]
    refine wpAnyH_inv (f0 := 1) [1, 2, 3, 4, 5, 6, 7, 8, 9, 10] [48, 49, 50, 51, 52, 46, 53, 54, 4] (fun l tm w => PHI v5 [4] [3] 2 32 16 (some ⟨Ps, 0, none⟩) 32 ca (some ⟨Qs, 0, none⟩) 16 cc none (.int .i64 4) [] true true (fun _ _ => undef) (l 1) (l 2) (l 3) (l 4) false (l 5) (l 6) (l 7) (l 8) (l 9) false (l 10) (tm 48) (tm 49) (tm 50) (tm 51) undef (tm 52) (tm 46) (tm 53) (tm 54) (tm 4) undef w) (by kernel_rfl) (by kernel_rfl) rfl (by decide) (fun l tm w h => h.bb) ?start (AllSteps.cons rfl ?o1 (AllSteps.cons rfl ?o2 (AllSteps.cons rfl ?o3 (AllSteps.cons rfl ?o4 (AllSteps.cons rfl ?o5 (AllSteps.cons rfl ?o6 (AllSteps.cons rfl ?o7 (AllSteps.cons rfl ?o8 (AllSteps.cons rfl ?o9 (AllSteps.cons rfl ?o10 AllSteps.nil)))))))))) ?fin
    case o1 =>
      intro l tm w h hl hd K hK
      try dsimp only at h
      rw [hl] at h
      have hh := h.addB1 (below_alloc w (.cells #[.int .i64 4] 3)) (lis_one w 4)
      exact st_run (v := .slice (some ⟨w.heap.size, 0, none⟩) 1 1) (by rfl) (by kernel_rfl) (hK.out _ _ hh)
    case o2 =>
      intro l tm w h hl hd K hK
      try dsimp only at h
      rw [hl] at h
      have hs := h.early1.1
      have h0 := h
      rw [hs] at h0
      obtain ⟨⟨B, nB, cB, eB, -⟩, -⟩ := h0.way1 (hd 1 (by kernel_rfl))
      have hc := way_is (A := B) (n := nB) (cap := cB) w
      rw [← eB] at hc
      refine st_call (f := 11) (args := #[(tm 48)]) (w' := w) (by rfl) (by kernel_rfl) (hc.mono ?_)
      rintro e w1 ⟨rfl, hb⟩
      exact ⟨_, rfl, hK.out _ _ (h.addW1 (hd 1 (by kernel_rfl)) hb rfl)⟩
    case o3 =>
      intro l tm w h hl hd K hK
      try dsimp only at h
      rw [hl] at h
      have hh := h.addB2 (below_alloc w (.cells #[.int .i64 3] 3)) (lis_one w 3)
      exact st_run (v := .slice (some ⟨w.heap.size, 0, none⟩) 1 1) (by rfl) (by kernel_rfl) (hK.out _ _ hh)
    case o4 =>
      intro l tm w h hl hd K hK
      try dsimp only at h
      rw [hl] at h
      have hs := h.early2.1
      have h0 := h
      rw [hs] at h0
      obtain ⟨⟨B, nB, cB, eB, -⟩, -⟩ := h0.way2 (hd 3 (by kernel_rfl))
      have hc := way_is (A := B) (n := nB) (cap := cB) w
      rw [← eB] at hc
      refine st_call (f := 11) (args := #[(tm 50)]) (w' := w) (by rfl) (by kernel_rfl) (hc.mono ?_)
      rintro e w1 ⟨rfl, hb⟩
      exact ⟨_, rfl, hK.out _ _ (h.addW2 (hd 3 (by kernel_rfl)) hb rfl)⟩
    case o5 =>
      intro l tm w h hl hd K hK
      try dsimp only at h
      rw [hl] at h
      have d1 := hd 2 (by kernel_rfl)
      have d2 := hd 4 (by kernel_rfl)
      have hs : l 10 = false := h.notS.1
      have h0 := h
      rw [hs] at h0
      obtain ⟨⟨B1, n1, k1, eB1, eN1, eK1, eI1⟩, eW1⟩ := h0.way1 ((h0.rg rfl).w1 d1).1
      obtain ⟨⟨B2, n2, k2, eB2, eN2, eK2, eI2⟩, eW2⟩ := h0.way2 ((h0.rg rfl).w2 d2).1
      have hW1 := (eW1 d1).trans (by rw [eB1])
      have hW2 := (eW2 d2).trans (by rw [eB2])
      have hA : #[.agg #[.int .i64 2, .int .i64 32, .int .i64 16, .slice (some ⟨Ps, 0, none⟩) 32 ca, .slice (some ⟨Qs, 0, none⟩) 16 cc], (tm 49), (tm 51), .int .i64 4, .int .i64 0] = #[.agg #[.int .i64 2, .int .i64 32, .int .i64 16, .slice (some ⟨Ps, 0, none⟩) 32 ca, .slice (some ⟨Qs, 0, none⟩) 16 cc], .agg #[.slice B1 n1 k1], .agg #[.slice B2 n2 k2], .int .i64 4, .int .i64 0] := by rw [hW1, hW2]
      refine st_call (f := 10) (args := #[.agg #[.int .i64 2, .int .i64 32, .int .i64 16, .slice (some ⟨Ps, 0, none⟩) 32 ca, .slice (some ⟨Qs, 0, none⟩) 16 cc], (tm 49), (tm 51), .int .i64 4, .int .i64 0]) (w' := w) (by rfl) (by kernel_rfl) ?_
      rw [hA]
      refine (does_is ⟨(O_s.out.on h.bb).lies, rfl, s64_len.1.symm, s64_len.2.symm, by decide, by decide, HC_s.out.1, HC_s.out.2⟩ eN1 eK1 eI1 eN2 eK2 eI2 ck_b).mono ?_
      rintro e w1 ⟨A', ca', C', cc', rfl, hb, hm⟩
      obtain ⟨q1, q2⟩ := resD_of (a := 2) (b := 32) (c := 16) (R := (.int .i64 4)) h.bb.size hm ckpos_none
      exact ⟨_, rfl, hK.out _ _ (h.addD hb q1 q2)⟩
    case o6 =>
      intro l tm w h hl hd K hK
      try dsimp only at h
      rw [hl] at h
      exact st_run (v := tm 52) (w' := w) (by rfl) (by kernel_rfl) (hK.out _ _ (h.addMv (hd 5 (by kernel_rfl)) rfl))
    case o7 =>
      intro l tm w h hl hd K hK
      try dsimp only at h
      rw [hl] at h
      obtain ⟨A', ca', C', cc', eT, -⟩ := h.tup (hd 6 (by kernel_rfl))
      refine st_run (v := .agg #[.int .i64 2, .int .i64 32, .int .i64 16, .slice A' 32 ca', .slice C' 16 cc']) (w' := w) (by rfl) ?_ (hK.out _ _ (h.addE1 (hd 6 (by kernel_rfl)) eT))
      simp only [List.getElem_toArray, List.getElem_cons_zero, List.getElem_cons_succ, pmA, List.foldl_cons, List.foldl_nil, Act.put, List.setIfInBounds_toArray, List.set_cons_zero, List.set_cons_succ]
      rw [eT]
      kernel_rfl
    case o8 =>
      intro l tm w h hl hd K hK
      try dsimp only at h
      rw [hl] at h
      obtain ⟨A', ca', C', cc', eT, -⟩ := h.tup (hd 6 (by kernel_rfl))
      refine st_run (v := (.int .i64 4)) (w' := w) (by rfl) ?_ (hK.out _ _ (h.addE2 (hd 6 (by kernel_rfl)) eT))
      simp only [List.getElem_toArray, List.getElem_cons_zero, List.getElem_cons_succ, pmA, List.foldl_cons, List.foldl_nil, Act.put, List.setIfInBounds_toArray, List.set_cons_zero, List.set_cons_succ]
      rw [eT]
      kernel_rfl
    case o9 =>
      intro l tm w h hl hd K hK
      try dsimp only at h
      rw [hl] at h
      have hh := h.addQ ckpos_none 28
      exact st_run (v := ptr w.heap.size) (by rfl) (by kernel_rfl) (hK.out _ _ hh)
    case o10 =>
      intro l tm w h hl hd K hK
      try dsimp only at h
      rw [hl] at h
      obtain ⟨x, A', ca', C', cc', ex, e1, ed, hw⟩ := h.atS' (hd 5 (by kernel_rfl)) (hd 6 (by kernel_rfl)) (hd 7 (by kernel_rfl)) (hd 9 (by kernel_rfl))
      have HT : Hid (w.there x 0 (#[.int .i64 2, .int .i64 32, .int .i64 16, .slice A' 32 ca', .slice C' 16 cc'] : Array Value).size) := Lib.hid (hw.there (n := 5) rfl)
      have HO := Lib.hid (state_one 2 32 16 A' 32 ca' C' 16 cc')
      refine st_store (by rfl) 28 (.tmp 4) (.tmp 53) (by rfl) x 0 #[.int .i64 2, .int .i64 32, .int .i64 16, .slice A' 32 ca', .slice C' 16 cc'] ((by kernel_rfl : _ = tm 4).trans ex) ((by kernel_rfl : _ = tm 53).trans e1) HT.out info_state HO.out ?_
      refine hK.out undef (w.setCells x 0 [.int .i64 2, .int .i64 32, .int .i64 16, .slice A' 32 ca', .slice C' 16 cc']) ?_
      exact h.addS' (hd 1 (by kernel_rfl)) (hd 2 (by kernel_rfl)) (hd 3 (by kernel_rfl)) (hd 4 (by kernel_rfl)) (fun e => absurd e (by decide)) (hd 5 (by kernel_rfl)) (hd 6 (by kernel_rfl)) (hd 7 (by kernel_rfl)) (hd 9 (by kernel_rfl)) (fun e => absurd e (by decide)) ex ed
    case start => exact ⟨hH, fun _ => ⟨hH, fun e => ff rfl e, fun e => ff rfl e, fun e => ff rfl e, fun e => ff rfl e, fun e => ff rfl e, fun e => ff rfl e, fun e => ff rfl e, fun e => ff rfl e, fun e => ff rfl e, fun e => ff rfl e⟩, fun e => ff rfl e, fun e => ff rfl e, fun e => ff rfl e, fun e => ff rfl e, fun e => ff rfl e, fun e => ff rfl e⟩
    case fin =>
      intro tm v6 h
      try dsimp only at h
      obtain ⟨hbb, hR, hP⟩ := h.fin (by kernel_rfl) (by kernel_rfl)
      obtain ⟨g5, A5, ca5, C5, cc5, ed, ex, hx, hm, -⟩ := hP
      simp only [ptr] at ex
      clear h ed
      simp only [pmA, List.foldl_cons, List.foldl_nil, Act.put, List.setIfInBounds_toArray, List.set_cons_zero, List.set_cons_succ]
      rw [ex, hR]
      clear ex hR
      refine wpAnyH_take (i := 11) (v := ?_) rfl (by kernel_rfl) (by kernel_rfl) (by kernel_rfl) (fun _ _ _ h => h) (Or.inl ⟨by rfl, ?_⟩) (by assumption) ?_
      rotate_left
      · intro w hSw; go_simp; try with_reducible rfl
      try simp only [Act.put, List.setIfInBounds_toArray, List.set_cons_zero, List.set_cons_succ, List.getElem_toArray, List.getElem_cons_zero, List.getElem_cons_succ]
      refine wpAnyH_done (by kernel_rfl) ?_ _
      replace K_s := Lib.hid (K_s.out.on hbb)
      replace O_s := Lib.hid (O_s.out.on hbb)
      replace HW := Lib.hid (below_on HW.out hbb)
      clear hbb hx hH
      clear hm
      go_upto_region 6 with fail
      refine wp_region_held_drew (S := fun w' => Below v6.heap.size v6 w') (by kernel_rfl) (below_self v6).drew (fun hH => ?_)
      refine wpAnyH_take (i := 0) (v := .agg #[.int .i64 2, .int .i64 32, .int .i64 16, .slice (some ⟨Ps, 0, none⟩) 32 ca, .slice (some ⟨Qs, 0, none⟩) 16 cc]) rfl (by kernel_rfl) (by kernel_rfl) (by kernel_rfl) (fun _ _ _ h => h) (yieldsIf_load_mid (by rfl) 28 (.tmp 1) (by rfl) gs 0 (by rfl) [.int .i64 2, .int .i64 32, .int .i64 16, .slice (some ⟨Ps, 0, none⟩) 32 ca, .slice (some ⟨Qs, 0, none⟩) 16 cc] _ (fun w hS => ((K_s.out.on hS).range)) Try.underlying28 rfl info_state) (by assumption) ?_
      try simp only [Act.put, List.setIfInBounds_toArray, List.set_cons_zero, List.set_cons_succ, List.getElem_toArray, List.getElem_cons_zero, List.getElem_cons_succ]
      refine wpAnyH_inv (f0 := 1) [1, 2, 3, 4, 5, 6, 7, 8, 9, 10] [57, 58, 59, 60, 61, 55, 62, 63, 6] (fun l tm w => PHI v6 [0] [1] 2 32 16 (some ⟨Ps, 0, none⟩) 32 ca (some ⟨Qs, 0, none⟩) 16 cc none (.int .i64 5) [] true true (fun _ _ => undef) (l 1) (l 2) (l 3) (l 4) false (l 5) (l 6) (l 7) (l 8) (l 9) false (l 10) (tm 57) (tm 58) (tm 59) (tm 60) undef (tm 61) (tm 55) (tm 62) (tm 63) (tm 6) undef w) (by kernel_rfl) (by kernel_rfl) rfl (by decide) (fun l tm w h => h.bb) ?start (AllSteps.cons rfl ?o1 (AllSteps.cons rfl ?o2 (AllSteps.cons rfl ?o3 (AllSteps.cons rfl ?o4 (AllSteps.cons rfl ?o5 (AllSteps.cons rfl ?o6 (AllSteps.cons rfl ?o7 (AllSteps.cons rfl ?o8 (AllSteps.cons rfl ?o9 (AllSteps.cons rfl ?o10 AllSteps.nil)))))))))) ?fin
      case o1 =>
        intro l tm w h hl hd K hK
        try dsimp only at h
        rw [hl] at h
        have hh := h.addB1 (below_alloc w (.cells #[.int .i64 0] 3)) (lis_one w 0)
        exact st_run (v := .slice (some ⟨w.heap.size, 0, none⟩) 1 1) (by rfl) (by kernel_rfl) (hK.out _ _ hh)
      case o2 =>
        intro l tm w h hl hd K hK
        try dsimp only at h
        rw [hl] at h
        have hs := h.early1.1
        have h0 := h
        rw [hs] at h0
        obtain ⟨⟨B, nB, cB, eB, -⟩, -⟩ := h0.way1 (hd 1 (by kernel_rfl))
        have hc := way_is (A := B) (n := nB) (cap := cB) w
        rw [← eB] at hc
        refine st_call (f := 11) (args := #[(tm 57)]) (w' := w) (by rfl) (by kernel_rfl) (hc.mono ?_)
        rintro e w1 ⟨rfl, hb⟩
        exact ⟨_, rfl, hK.out _ _ (h.addW1 (hd 1 (by kernel_rfl)) hb rfl)⟩
      case o3 =>
        intro l tm w h hl hd K hK
        try dsimp only at h
        rw [hl] at h
        have hh := h.addB2 (below_alloc w (.cells #[.int .i64 1] 3)) (lis_one w 1)
        exact st_run (v := .slice (some ⟨w.heap.size, 0, none⟩) 1 1) (by rfl) (by kernel_rfl) (hK.out _ _ hh)
      case o4 =>
        intro l tm w h hl hd K hK
        try dsimp only at h
        rw [hl] at h
        have hs := h.early2.1
        have h0 := h
        rw [hs] at h0
        obtain ⟨⟨B, nB, cB, eB, -⟩, -⟩ := h0.way2 (hd 3 (by kernel_rfl))
        have hc := way_is (A := B) (n := nB) (cap := cB) w
        rw [← eB] at hc
        refine st_call (f := 11) (args := #[(tm 59)]) (w' := w) (by rfl) (by kernel_rfl) (hc.mono ?_)
        rintro e w1 ⟨rfl, hb⟩
        exact ⟨_, rfl, hK.out _ _ (h.addW2 (hd 3 (by kernel_rfl)) hb rfl)⟩
      case o5 =>
        intro l tm w h hl hd K hK
        try dsimp only at h
        rw [hl] at h
        have d1 := hd 2 (by kernel_rfl)
        have d2 := hd 4 (by kernel_rfl)
        have hs : l 10 = false := h.notS.1
        have h0 := h
        rw [hs] at h0
        obtain ⟨⟨B1, n1, k1, eB1, eN1, eK1, eI1⟩, eW1⟩ := h0.way1 ((h0.rg rfl).w1 d1).1
        obtain ⟨⟨B2, n2, k2, eB2, eN2, eK2, eI2⟩, eW2⟩ := h0.way2 ((h0.rg rfl).w2 d2).1
        have hW1 := (eW1 d1).trans (by rw [eB1])
        have hW2 := (eW2 d2).trans (by rw [eB2])
        have hA : #[.agg #[.int .i64 2, .int .i64 32, .int .i64 16, .slice (some ⟨Ps, 0, none⟩) 32 ca, .slice (some ⟨Qs, 0, none⟩) 16 cc], (tm 58), (tm 60), .int .i64 4, .int .i64 0] = #[.agg #[.int .i64 2, .int .i64 32, .int .i64 16, .slice (some ⟨Ps, 0, none⟩) 32 ca, .slice (some ⟨Qs, 0, none⟩) 16 cc], .agg #[.slice B1 n1 k1], .agg #[.slice B2 n2 k2], .int .i64 4, .int .i64 0] := by rw [hW1, hW2]
        refine st_call (f := 10) (args := #[.agg #[.int .i64 2, .int .i64 32, .int .i64 16, .slice (some ⟨Ps, 0, none⟩) 32 ca, .slice (some ⟨Qs, 0, none⟩) 16 cc], (tm 58), (tm 60), .int .i64 4, .int .i64 0]) (w' := w) (by rfl) (by kernel_rfl) ?_
        rw [hA]
        refine (does_is ⟨(O_s.out.on h.bb).lies, rfl, s64_len.1.symm, s64_len.2.symm, by decide, by decide, HC_s.out.1, HC_s.out.2⟩ eN1 eK1 eI1 eN2 eK2 eI2 ck_c).mono ?_
        rintro e w1 ⟨A', ca', C', cc', rfl, hb, hm⟩
        obtain ⟨q1, q2⟩ := resD_of (a := 2) (b := 32) (c := 16) (R := (.int .i64 5)) h.bb.size hm ckpos_none
        exact ⟨_, rfl, hK.out _ _ (h.addD hb q1 q2)⟩
      case o6 =>
        intro l tm w h hl hd K hK
        try dsimp only at h
        rw [hl] at h
        exact st_run (v := tm 61) (w' := w) (by rfl) (by kernel_rfl) (hK.out _ _ (h.addMv (hd 5 (by kernel_rfl)) rfl))
      case o7 =>
        intro l tm w h hl hd K hK
        try dsimp only at h
        rw [hl] at h
        obtain ⟨A', ca', C', cc', eT, -⟩ := h.tup (hd 6 (by kernel_rfl))
        refine st_run (v := .agg #[.int .i64 2, .int .i64 32, .int .i64 16, .slice A' 32 ca', .slice C' 16 cc']) (w' := w) (by rfl) ?_ (hK.out _ _ (h.addE1 (hd 6 (by kernel_rfl)) eT))
        simp only [List.getElem_toArray, List.getElem_cons_zero, List.getElem_cons_succ, pmA, List.foldl_cons, List.foldl_nil, Act.put, List.setIfInBounds_toArray, List.set_cons_zero, List.set_cons_succ]
        rw [eT]
        kernel_rfl
      case o8 =>
        intro l tm w h hl hd K hK
        try dsimp only at h
        rw [hl] at h
        obtain ⟨A', ca', C', cc', eT, -⟩ := h.tup (hd 6 (by kernel_rfl))
        refine st_run (v := (.int .i64 5)) (w' := w) (by rfl) ?_ (hK.out _ _ (h.addE2 (hd 6 (by kernel_rfl)) eT))
        simp only [List.getElem_toArray, List.getElem_cons_zero, List.getElem_cons_succ, pmA, List.foldl_cons, List.foldl_nil, Act.put, List.setIfInBounds_toArray, List.set_cons_zero, List.set_cons_succ]
        rw [eT]
        kernel_rfl
      case o9 =>
        intro l tm w h hl hd K hK
        try dsimp only at h
        rw [hl] at h
        have hh := h.addQ ckpos_none 28
        exact st_run (v := ptr w.heap.size) (by rfl) (by kernel_rfl) (hK.out _ _ hh)
      case o10 =>
        intro l tm w h hl hd K hK
        try dsimp only at h
        rw [hl] at h
        obtain ⟨x, A', ca', C', cc', ex, e1, ed, hw⟩ := h.atS' (hd 5 (by kernel_rfl)) (hd 6 (by kernel_rfl)) (hd 7 (by kernel_rfl)) (hd 9 (by kernel_rfl))
        have HT : Hid (w.there x 0 (#[.int .i64 2, .int .i64 32, .int .i64 16, .slice A' 32 ca', .slice C' 16 cc'] : Array Value).size) := Lib.hid (hw.there (n := 5) rfl)
        have HO := Lib.hid (state_one 2 32 16 A' 32 ca' C' 16 cc')
        refine st_store (by rfl) 28 (.tmp 6) (.tmp 62) (by rfl) x 0 #[.int .i64 2, .int .i64 32, .int .i64 16, .slice A' 32 ca', .slice C' 16 cc'] ((by kernel_rfl : _ = tm 6).trans ex) ((by kernel_rfl : _ = tm 62).trans e1) HT.out info_state HO.out ?_
        refine hK.out undef (w.setCells x 0 [.int .i64 2, .int .i64 32, .int .i64 16, .slice A' 32 ca', .slice C' 16 cc']) ?_
        exact h.addS' (hd 1 (by kernel_rfl)) (hd 2 (by kernel_rfl)) (hd 3 (by kernel_rfl)) (hd 4 (by kernel_rfl)) (fun e => absurd e (by decide)) (hd 5 (by kernel_rfl)) (hd 6 (by kernel_rfl)) (hd 7 (by kernel_rfl)) (hd 9 (by kernel_rfl)) (fun e => absurd e (by decide)) ex ed
      case start => exact ⟨hH, fun _ => ⟨hH, fun e => ff rfl e, fun e => ff rfl e, fun e => ff rfl e, fun e => ff rfl e, fun e => ff rfl e, fun e => ff rfl e, fun e => ff rfl e, fun e => ff rfl e, fun e => ff rfl e, fun e => ff rfl e⟩, fun e => ff rfl e, fun e => ff rfl e, fun e => ff rfl e, fun e => ff rfl e, fun e => ff rfl e, fun e => ff rfl e⟩
      case fin =>
        intro tm v7 h
        try dsimp only at h
        obtain ⟨hbb, hR, hP⟩ := h.fin (by kernel_rfl) (by kernel_rfl)
        obtain ⟨g6, A6, ca6, C6, cc6, ed, ex, hx, hm, -⟩ := hP
        simp only [ptr] at ex
        clear h ed
        simp only [pmA, List.foldl_cons, List.foldl_nil, Act.put, List.setIfInBounds_toArray, List.set_cons_zero, List.set_cons_succ]
        rw [ex, hR]
        clear ex hR
        refine wpAnyH_take (i := 11) (v := ?_) rfl (by kernel_rfl) (by kernel_rfl) (by kernel_rfl) (fun _ _ _ h => h) (Or.inl ⟨by rfl, ?_⟩) (by assumption) ?_
        rotate_left
        · intro w hSw; go_simp; try with_reducible rfl
        try simp only [Act.put, List.setIfInBounds_toArray, List.set_cons_zero, List.set_cons_succ, List.getElem_toArray, List.getElem_cons_zero, List.getElem_cons_succ]
        refine wpAnyH_done (by kernel_rfl) ?_ _
        replace K_s := Lib.hid (K_s.out.on hbb)
        replace O_s := Lib.hid (O_s.out.on hbb)
        replace HW := Lib.hid (below_on HW.out hbb)
        clear hbb hx hH
        clear hm
        go_upto_region 7 with fail
        refine wp_region_held_drew (S := fun w' => Below v7.heap.size v7 w') (by kernel_rfl) (below_self v7).drew (fun hH => ?_)
        refine wpAnyH_take (i := 0) (v := .agg #[.int .i64 2, .int .i64 32, .int .i64 16, .slice (some ⟨Ps, 0, none⟩) 32 ca, .slice (some ⟨Qs, 0, none⟩) 16 cc]) rfl (by kernel_rfl) (by kernel_rfl) (by kernel_rfl) (fun _ _ _ h => h) (yieldsIf_load_mid (by rfl) 28 (.tmp 1) (by rfl) gs 0 (by rfl) [.int .i64 2, .int .i64 32, .int .i64 16, .slice (some ⟨Ps, 0, none⟩) 32 ca, .slice (some ⟨Qs, 0, none⟩) 16 cc] _ (fun w hS => ((K_s.out.on hS).range)) Try.underlying28 rfl info_state) (by assumption) ?_
        try simp only [Act.put, List.setIfInBounds_toArray, List.set_cons_zero, List.set_cons_succ, List.getElem_toArray, List.getElem_cons_zero, List.getElem_cons_succ]
        refine wpAnyH_inv (f0 := 1) [1, 2, 3, 4, 5, 6, 7, 8, 9, 10] [66, 67, 68, 69, 70, 64, 71, 72, 8] (fun l tm w => PHI v7 [0] [3] 2 32 16 (some ⟨Ps, 0, none⟩) 32 ca (some ⟨Qs, 0, none⟩) 16 cc none (.int .i64 8) [] true true (fun _ _ => undef) (l 1) (l 2) (l 3) (l 4) false (l 5) (l 6) (l 7) (l 8) (l 9) false (l 10) (tm 66) (tm 67) (tm 68) (tm 69) undef (tm 70) (tm 64) (tm 71) (tm 72) (tm 8) undef w) (by kernel_rfl) (by kernel_rfl) rfl (by decide) (fun l tm w h => h.bb) ?start (AllSteps.cons rfl ?o1 (AllSteps.cons rfl ?o2 (AllSteps.cons rfl ?o3 (AllSteps.cons rfl ?o4 (AllSteps.cons rfl ?o5 (AllSteps.cons rfl ?o6 (AllSteps.cons rfl ?o7 (AllSteps.cons rfl ?o8 (AllSteps.cons rfl ?o9 (AllSteps.cons rfl ?o10 AllSteps.nil)))))))))) ?fin
        case o1 =>
          intro l tm w h hl hd K hK
          try dsimp only at h
          rw [hl] at h
          have hh := h.addB1 (below_alloc w (.cells #[.int .i64 0] 3)) (lis_one w 0)
          exact st_run (v := .slice (some ⟨w.heap.size, 0, none⟩) 1 1) (by rfl) (by kernel_rfl) (hK.out _ _ hh)
        case o2 =>
          intro l tm w h hl hd K hK
          try dsimp only at h
          rw [hl] at h
          have hs := h.early1.1
          have h0 := h
          rw [hs] at h0
          obtain ⟨⟨B, nB, cB, eB, -⟩, -⟩ := h0.way1 (hd 1 (by kernel_rfl))
          have hc := way_is (A := B) (n := nB) (cap := cB) w
          rw [← eB] at hc
          refine st_call (f := 11) (args := #[(tm 66)]) (w' := w) (by rfl) (by kernel_rfl) (hc.mono ?_)
          rintro e w1 ⟨rfl, hb⟩
          exact ⟨_, rfl, hK.out _ _ (h.addW1 (hd 1 (by kernel_rfl)) hb rfl)⟩
        case o3 =>
          intro l tm w h hl hd K hK
          try dsimp only at h
          rw [hl] at h
          have hh := h.addB2 (below_alloc w (.cells #[.int .i64 3] 3)) (lis_one w 3)
          exact st_run (v := .slice (some ⟨w.heap.size, 0, none⟩) 1 1) (by rfl) (by kernel_rfl) (hK.out _ _ hh)
        case o4 =>
          intro l tm w h hl hd K hK
          try dsimp only at h
          rw [hl] at h
          have hs := h.early2.1
          have h0 := h
          rw [hs] at h0
          obtain ⟨⟨B, nB, cB, eB, -⟩, -⟩ := h0.way2 (hd 3 (by kernel_rfl))
          have hc := way_is (A := B) (n := nB) (cap := cB) w
          rw [← eB] at hc
          refine st_call (f := 11) (args := #[(tm 68)]) (w' := w) (by rfl) (by kernel_rfl) (hc.mono ?_)
          rintro e w1 ⟨rfl, hb⟩
          exact ⟨_, rfl, hK.out _ _ (h.addW2 (hd 3 (by kernel_rfl)) hb rfl)⟩
        case o5 =>
          intro l tm w h hl hd K hK
          try dsimp only at h
          rw [hl] at h
          have d1 := hd 2 (by kernel_rfl)
          have d2 := hd 4 (by kernel_rfl)
          have hs : l 10 = false := h.notS.1
          have h0 := h
          rw [hs] at h0
          obtain ⟨⟨B1, n1, k1, eB1, eN1, eK1, eI1⟩, eW1⟩ := h0.way1 ((h0.rg rfl).w1 d1).1
          obtain ⟨⟨B2, n2, k2, eB2, eN2, eK2, eI2⟩, eW2⟩ := h0.way2 ((h0.rg rfl).w2 d2).1
          have hW1 := (eW1 d1).trans (by rw [eB1])
          have hW2 := (eW2 d2).trans (by rw [eB2])
          have hA : #[.agg #[.int .i64 2, .int .i64 32, .int .i64 16, .slice (some ⟨Ps, 0, none⟩) 32 ca, .slice (some ⟨Qs, 0, none⟩) 16 cc], (tm 67), (tm 69), .int .i64 1, .int .i64 65] = #[.agg #[.int .i64 2, .int .i64 32, .int .i64 16, .slice (some ⟨Ps, 0, none⟩) 32 ca, .slice (some ⟨Qs, 0, none⟩) 16 cc], .agg #[.slice B1 n1 k1], .agg #[.slice B2 n2 k2], .int .i64 1, .int .i64 65] := by rw [hW1, hW2]
          refine st_call (f := 10) (args := #[.agg #[.int .i64 2, .int .i64 32, .int .i64 16, .slice (some ⟨Ps, 0, none⟩) 32 ca, .slice (some ⟨Qs, 0, none⟩) 16 cc], (tm 67), (tm 69), .int .i64 1, .int .i64 65]) (w' := w) (by rfl) (by kernel_rfl) ?_
          rw [hA]
          refine (does_is ⟨(O_s.out.on h.bb).lies, rfl, s64_len.1.symm, s64_len.2.symm, by decide, by decide, HC_s.out.1, HC_s.out.2⟩ eN1 eK1 eI1 eN2 eK2 eI2 ck_d).mono ?_
          rintro e w1 ⟨A', ca', C', cc', rfl, hb, hm⟩
          obtain ⟨q1, q2⟩ := resD_of (a := 2) (b := 32) (c := 16) (R := (.int .i64 8)) h.bb.size hm ckpos_none
          exact ⟨_, rfl, hK.out _ _ (h.addD hb q1 q2)⟩
        case o6 =>
          intro l tm w h hl hd K hK
          try dsimp only at h
          rw [hl] at h
          exact st_run (v := tm 70) (w' := w) (by rfl) (by kernel_rfl) (hK.out _ _ (h.addMv (hd 5 (by kernel_rfl)) rfl))
        case o7 =>
          intro l tm w h hl hd K hK
          try dsimp only at h
          rw [hl] at h
          obtain ⟨A', ca', C', cc', eT, -⟩ := h.tup (hd 6 (by kernel_rfl))
          refine st_run (v := .agg #[.int .i64 2, .int .i64 32, .int .i64 16, .slice A' 32 ca', .slice C' 16 cc']) (w' := w) (by rfl) ?_ (hK.out _ _ (h.addE1 (hd 6 (by kernel_rfl)) eT))
          simp only [List.getElem_toArray, List.getElem_cons_zero, List.getElem_cons_succ, pmA, List.foldl_cons, List.foldl_nil, Act.put, List.setIfInBounds_toArray, List.set_cons_zero, List.set_cons_succ]
          rw [eT]
          kernel_rfl
        case o8 =>
          intro l tm w h hl hd K hK
          try dsimp only at h
          rw [hl] at h
          obtain ⟨A', ca', C', cc', eT, -⟩ := h.tup (hd 6 (by kernel_rfl))
          refine st_run (v := (.int .i64 8)) (w' := w) (by rfl) ?_ (hK.out _ _ (h.addE2 (hd 6 (by kernel_rfl)) eT))
          simp only [List.getElem_toArray, List.getElem_cons_zero, List.getElem_cons_succ, pmA, List.foldl_cons, List.foldl_nil, Act.put, List.setIfInBounds_toArray, List.set_cons_zero, List.set_cons_succ]
          rw [eT]
          kernel_rfl
        case o9 =>
          intro l tm w h hl hd K hK
          try dsimp only at h
          rw [hl] at h
          have hh := h.addQ ckpos_none 28
          exact st_run (v := ptr w.heap.size) (by rfl) (by kernel_rfl) (hK.out _ _ hh)
        case o10 =>
          intro l tm w h hl hd K hK
          try dsimp only at h
          rw [hl] at h
          obtain ⟨x, A', ca', C', cc', ex, e1, ed, hw⟩ := h.atS' (hd 5 (by kernel_rfl)) (hd 6 (by kernel_rfl)) (hd 7 (by kernel_rfl)) (hd 9 (by kernel_rfl))
          have HT : Hid (w.there x 0 (#[.int .i64 2, .int .i64 32, .int .i64 16, .slice A' 32 ca', .slice C' 16 cc'] : Array Value).size) := Lib.hid (hw.there (n := 5) rfl)
          have HO := Lib.hid (state_one 2 32 16 A' 32 ca' C' 16 cc')
          refine st_store (by rfl) 28 (.tmp 8) (.tmp 71) (by rfl) x 0 #[.int .i64 2, .int .i64 32, .int .i64 16, .slice A' 32 ca', .slice C' 16 cc'] ((by kernel_rfl : _ = tm 8).trans ex) ((by kernel_rfl : _ = tm 71).trans e1) HT.out info_state HO.out ?_
          refine hK.out undef (w.setCells x 0 [.int .i64 2, .int .i64 32, .int .i64 16, .slice A' 32 ca', .slice C' 16 cc']) ?_
          exact h.addS' (hd 1 (by kernel_rfl)) (hd 2 (by kernel_rfl)) (hd 3 (by kernel_rfl)) (hd 4 (by kernel_rfl)) (fun e => absurd e (by decide)) (hd 5 (by kernel_rfl)) (hd 6 (by kernel_rfl)) (hd 7 (by kernel_rfl)) (hd 9 (by kernel_rfl)) (fun e => absurd e (by decide)) ex ed
        case start => exact ⟨hH, fun _ => ⟨hH, fun e => ff rfl e, fun e => ff rfl e, fun e => ff rfl e, fun e => ff rfl e, fun e => ff rfl e, fun e => ff rfl e, fun e => ff rfl e, fun e => ff rfl e, fun e => ff rfl e, fun e => ff rfl e⟩, fun e => ff rfl e, fun e => ff rfl e, fun e => ff rfl e, fun e => ff rfl e, fun e => ff rfl e, fun e => ff rfl e⟩
        case fin =>
          intro tm v8 h
          try dsimp only at h
          obtain ⟨hbb, hR, hP⟩ := h.fin (by kernel_rfl) (by kernel_rfl)
          obtain ⟨g7, A7, ca7, C7, cc7, ed, ex, hx, hm, -⟩ := hP
          simp only [ptr] at ex
          clear h ed
          simp only [pmA, List.foldl_cons, List.foldl_nil, Act.put, List.setIfInBounds_toArray, List.set_cons_zero, List.set_cons_succ]
          rw [ex, hR]
          clear ex hR
          refine wpAnyH_take (i := 11) (v := ?_) rfl (by kernel_rfl) (by kernel_rfl) (by kernel_rfl) (fun _ _ _ h => h) (Or.inl ⟨by rfl, ?_⟩) (by assumption) ?_
          rotate_left
          · intro w hSw; go_simp; try with_reducible rfl
          try simp only [Act.put, List.setIfInBounds_toArray, List.set_cons_zero, List.set_cons_succ, List.getElem_toArray, List.getElem_cons_zero, List.getElem_cons_succ]
          refine wpAnyH_done (by kernel_rfl) ?_ _
          replace K_s := Lib.hid (K_s.out.on hbb)
          replace O_s := Lib.hid (O_s.out.on hbb)
          replace HW := Lib.hid (below_on HW.out hbb)
          clear hbb hx hH
          clear hm
          go_upto_region 8 with fail
          refine wp_region_held_drew (S := fun w' => Below v8.heap.size v8 w') (by kernel_rfl) (below_self v8).drew (fun hH => ?_)
          refine wpAnyH_take (i := 0) (v := .agg #[.int .i64 2, .int .i64 32, .int .i64 16, .slice (some ⟨Ps, 0, none⟩) 32 ca, .slice (some ⟨Qs, 0, none⟩) 16 cc]) rfl (by kernel_rfl) (by kernel_rfl) (by kernel_rfl) (fun _ _ _ h => h) (yieldsIf_load_mid (by rfl) 28 (.tmp 1) (by rfl) gs 0 (by rfl) [.int .i64 2, .int .i64 32, .int .i64 16, .slice (some ⟨Ps, 0, none⟩) 32 ca, .slice (some ⟨Qs, 0, none⟩) 16 cc] _ (fun w hS => ((K_s.out.on hS).range)) Try.underlying28 rfl info_state) (by assumption) ?_
          try simp only [Act.put, List.setIfInBounds_toArray, List.set_cons_zero, List.set_cons_succ, List.getElem_toArray, List.getElem_cons_zero, List.getElem_cons_succ]
          refine wpAnyH_inv (f0 := 1) [1, 2, 3, 4, 5, 6, 7, 8, 9, 10] [75, 76, 77, 78, 79, 73, 80, 81, 10] (fun l tm w => PHI v8 [0] [3] 2 32 16 (some ⟨Ps, 0, none⟩) 32 ca (some ⟨Qs, 0, none⟩) 16 cc none (.int .i64 1) [] true true (fun _ _ => undef) (l 1) (l 2) (l 3) (l 4) false (l 5) (l 6) (l 7) (l 8) (l 9) false (l 10) (tm 75) (tm 76) (tm 77) (tm 78) undef (tm 79) (tm 73) (tm 80) (tm 81) (tm 10) undef w) (by kernel_rfl) (by kernel_rfl) rfl (by decide) (fun l tm w h => h.bb) ?start (AllSteps.cons rfl ?o1 (AllSteps.cons rfl ?o2 (AllSteps.cons rfl ?o3 (AllSteps.cons rfl ?o4 (AllSteps.cons rfl ?o5 (AllSteps.cons rfl ?o6 (AllSteps.cons rfl ?o7 (AllSteps.cons rfl ?o8 (AllSteps.cons rfl ?o9 (AllSteps.cons rfl ?o10 AllSteps.nil)))))))))) ?fin
          case o1 =>
            intro l tm w h hl hd K hK
            try dsimp only at h
            rw [hl] at h
            have hh := h.addB1 (below_alloc w (.cells #[.int .i64 0] 3)) (lis_one w 0)
            exact st_run (v := .slice (some ⟨w.heap.size, 0, none⟩) 1 1) (by rfl) (by kernel_rfl) (hK.out _ _ hh)
          case o2 =>
            intro l tm w h hl hd K hK
            try dsimp only at h
            rw [hl] at h
            have hs := h.early1.1
            have h0 := h
            rw [hs] at h0
            obtain ⟨⟨B, nB, cB, eB, -⟩, -⟩ := h0.way1 (hd 1 (by kernel_rfl))
            have hc := way_is (A := B) (n := nB) (cap := cB) w
            rw [← eB] at hc
            refine st_call (f := 11) (args := #[(tm 75)]) (w' := w) (by rfl) (by kernel_rfl) (hc.mono ?_)
            rintro e w1 ⟨rfl, hb⟩
            exact ⟨_, rfl, hK.out _ _ (h.addW1 (hd 1 (by kernel_rfl)) hb rfl)⟩
          case o3 =>
            intro l tm w h hl hd K hK
            try dsimp only at h
            rw [hl] at h
            have hh := h.addB2 (below_alloc w (.cells #[.int .i64 3] 3)) (lis_one w 3)
            exact st_run (v := .slice (some ⟨w.heap.size, 0, none⟩) 1 1) (by rfl) (by kernel_rfl) (hK.out _ _ hh)
          case o4 =>
            intro l tm w h hl hd K hK
            try dsimp only at h
            rw [hl] at h
            have hs := h.early2.1
            have h0 := h
            rw [hs] at h0
            obtain ⟨⟨B, nB, cB, eB, -⟩, -⟩ := h0.way2 (hd 3 (by kernel_rfl))
            have hc := way_is (A := B) (n := nB) (cap := cB) w
            rw [← eB] at hc
            refine st_call (f := 11) (args := #[(tm 77)]) (w' := w) (by rfl) (by kernel_rfl) (hc.mono ?_)
            rintro e w1 ⟨rfl, hb⟩
            exact ⟨_, rfl, hK.out _ _ (h.addW2 (hd 3 (by kernel_rfl)) hb rfl)⟩
          case o5 =>
            intro l tm w h hl hd K hK
            try dsimp only at h
            rw [hl] at h
            have d1 := hd 2 (by kernel_rfl)
            have d2 := hd 4 (by kernel_rfl)
            have hs : l 10 = false := h.notS.1
            have h0 := h
            rw [hs] at h0
            obtain ⟨⟨B1, n1, k1, eB1, eN1, eK1, eI1⟩, eW1⟩ := h0.way1 ((h0.rg rfl).w1 d1).1
            obtain ⟨⟨B2, n2, k2, eB2, eN2, eK2, eI2⟩, eW2⟩ := h0.way2 ((h0.rg rfl).w2 d2).1
            have hW1 := (eW1 d1).trans (by rw [eB1])
            have hW2 := (eW2 d2).trans (by rw [eB2])
            have hA : #[.agg #[.int .i64 2, .int .i64 32, .int .i64 16, .slice (some ⟨Ps, 0, none⟩) 32 ca, .slice (some ⟨Qs, 0, none⟩) 16 cc], (tm 76), (tm 78), .int .i64 2, .int .i64 5] = #[.agg #[.int .i64 2, .int .i64 32, .int .i64 16, .slice (some ⟨Ps, 0, none⟩) 32 ca, .slice (some ⟨Qs, 0, none⟩) 16 cc], .agg #[.slice B1 n1 k1], .agg #[.slice B2 n2 k2], .int .i64 2, .int .i64 5] := by rw [hW1, hW2]
            refine st_call (f := 10) (args := #[.agg #[.int .i64 2, .int .i64 32, .int .i64 16, .slice (some ⟨Ps, 0, none⟩) 32 ca, .slice (some ⟨Qs, 0, none⟩) 16 cc], (tm 76), (tm 78), .int .i64 2, .int .i64 5]) (w' := w) (by rfl) (by kernel_rfl) ?_
            rw [hA]
            refine (does_is ⟨(O_s.out.on h.bb).lies, rfl, s64_len.1.symm, s64_len.2.symm, by decide, by decide, HC_s.out.1, HC_s.out.2⟩ eN1 eK1 eI1 eN2 eK2 eI2 ck_e).mono ?_
            rintro e w1 ⟨A', ca', C', cc', rfl, hb, hm⟩
            obtain ⟨q1, q2⟩ := resD_of (a := 2) (b := 32) (c := 16) (R := (.int .i64 1)) h.bb.size hm ckpos_none
            exact ⟨_, rfl, hK.out _ _ (h.addD hb q1 q2)⟩
          case o6 =>
            intro l tm w h hl hd K hK
            try dsimp only at h
            rw [hl] at h
            exact st_run (v := tm 79) (w' := w) (by rfl) (by kernel_rfl) (hK.out _ _ (h.addMv (hd 5 (by kernel_rfl)) rfl))
          case o7 =>
            intro l tm w h hl hd K hK
            try dsimp only at h
            rw [hl] at h
            obtain ⟨A', ca', C', cc', eT, -⟩ := h.tup (hd 6 (by kernel_rfl))
            refine st_run (v := .agg #[.int .i64 2, .int .i64 32, .int .i64 16, .slice A' 32 ca', .slice C' 16 cc']) (w' := w) (by rfl) ?_ (hK.out _ _ (h.addE1 (hd 6 (by kernel_rfl)) eT))
            simp only [List.getElem_toArray, List.getElem_cons_zero, List.getElem_cons_succ, pmA, List.foldl_cons, List.foldl_nil, Act.put, List.setIfInBounds_toArray, List.set_cons_zero, List.set_cons_succ]
            rw [eT]
            kernel_rfl
          case o8 =>
            intro l tm w h hl hd K hK
            try dsimp only at h
            rw [hl] at h
            obtain ⟨A', ca', C', cc', eT, -⟩ := h.tup (hd 6 (by kernel_rfl))
            refine st_run (v := (.int .i64 1)) (w' := w) (by rfl) ?_ (hK.out _ _ (h.addE2 (hd 6 (by kernel_rfl)) eT))
            simp only [List.getElem_toArray, List.getElem_cons_zero, List.getElem_cons_succ, pmA, List.foldl_cons, List.foldl_nil, Act.put, List.setIfInBounds_toArray, List.set_cons_zero, List.set_cons_succ]
            rw [eT]
            kernel_rfl
          case o9 =>
            intro l tm w h hl hd K hK
            try dsimp only at h
            rw [hl] at h
            have hh := h.addQ ckpos_none 28
            exact st_run (v := ptr w.heap.size) (by rfl) (by kernel_rfl) (hK.out _ _ hh)
          case o10 =>
            intro l tm w h hl hd K hK
            try dsimp only at h
            rw [hl] at h
            obtain ⟨x, A', ca', C', cc', ex, e1, ed, hw⟩ := h.atS' (hd 5 (by kernel_rfl)) (hd 6 (by kernel_rfl)) (hd 7 (by kernel_rfl)) (hd 9 (by kernel_rfl))
            have HT : Hid (w.there x 0 (#[.int .i64 2, .int .i64 32, .int .i64 16, .slice A' 32 ca', .slice C' 16 cc'] : Array Value).size) := Lib.hid (hw.there (n := 5) rfl)
            have HO := Lib.hid (state_one 2 32 16 A' 32 ca' C' 16 cc')
            refine st_store (by rfl) 28 (.tmp 10) (.tmp 80) (by rfl) x 0 #[.int .i64 2, .int .i64 32, .int .i64 16, .slice A' 32 ca', .slice C' 16 cc'] ((by kernel_rfl : _ = tm 10).trans ex) ((by kernel_rfl : _ = tm 80).trans e1) HT.out info_state HO.out ?_
            refine hK.out undef (w.setCells x 0 [.int .i64 2, .int .i64 32, .int .i64 16, .slice A' 32 ca', .slice C' 16 cc']) ?_
            exact h.addS' (hd 1 (by kernel_rfl)) (hd 2 (by kernel_rfl)) (hd 3 (by kernel_rfl)) (hd 4 (by kernel_rfl)) (fun e => absurd e (by decide)) (hd 5 (by kernel_rfl)) (hd 6 (by kernel_rfl)) (hd 7 (by kernel_rfl)) (hd 9 (by kernel_rfl)) (fun e => absurd e (by decide)) ex ed
          case start => exact ⟨hH, fun _ => ⟨hH, fun e => ff rfl e, fun e => ff rfl e, fun e => ff rfl e, fun e => ff rfl e, fun e => ff rfl e, fun e => ff rfl e, fun e => ff rfl e, fun e => ff rfl e, fun e => ff rfl e, fun e => ff rfl e⟩, fun e => ff rfl e, fun e => ff rfl e, fun e => ff rfl e, fun e => ff rfl e, fun e => ff rfl e, fun e => ff rfl e⟩
          case fin =>
            intro tm v9 h
            try dsimp only at h
            obtain ⟨hbb, hR, hP⟩ := h.fin (by kernel_rfl) (by kernel_rfl)
            obtain ⟨g8, A8, ca8, C8, cc8, ed, ex, hx, hm, -⟩ := hP
            simp only [ptr] at ex
            clear h ed
            simp only [pmA, List.foldl_cons, List.foldl_nil, Act.put, List.setIfInBounds_toArray, List.set_cons_zero, List.set_cons_succ]
            rw [ex, hR]
            clear ex hR
            refine wpAnyH_take (i := 11) (v := ?_) rfl (by kernel_rfl) (by kernel_rfl) (by kernel_rfl) (fun _ _ _ h => h) (Or.inl ⟨by rfl, ?_⟩) (by assumption) ?_
            rotate_left
            · intro w hSw; go_simp; try with_reducible rfl
            try simp only [Act.put, List.setIfInBounds_toArray, List.set_cons_zero, List.set_cons_succ, List.getElem_toArray, List.getElem_cons_zero, List.getElem_cons_succ]
            refine wpAnyH_done (by kernel_rfl) ?_ _
            replace K_s := Lib.hid (K_s.out.on hbb)
            replace O_s := Lib.hid (O_s.out.on hbb)
            replace HW := Lib.hid (below_on HW.out hbb)
            clear hbb hx hH
            clear hm
            go_upto_region 9 with fail
            refine wp_region_held_drew (S := fun w' => Below v9.heap.size v9 w') (by kernel_rfl) (below_self v9).drew (fun hH => ?_)
            refine wpAnyH_take (i := 0) (v := .agg #[.int .i64 2, .int .i64 32, .int .i64 16, .slice (some ⟨Ps, 0, none⟩) 32 ca, .slice (some ⟨Qs, 0, none⟩) 16 cc]) rfl (by kernel_rfl) (by kernel_rfl) (by kernel_rfl) (fun _ _ _ h => h) (yieldsIf_load_mid (by rfl) 28 (.tmp 1) (by rfl) gs 0 (by rfl) [.int .i64 2, .int .i64 32, .int .i64 16, .slice (some ⟨Ps, 0, none⟩) 32 ca, .slice (some ⟨Qs, 0, none⟩) 16 cc] _ (fun w hS => ((K_s.out.on hS).range)) Try.underlying28 rfl info_state) (by assumption) ?_
            try simp only [Act.put, List.setIfInBounds_toArray, List.set_cons_zero, List.set_cons_succ, List.getElem_toArray, List.getElem_cons_zero, List.getElem_cons_succ]
            refine wpAnyH_inv (f0 := 1) [1, 2, 3, 4, 5, 6, 7, 8, 9, 10] [84, 85, 86, 87, 88, 82, 89, 90, 12] (fun l tm w => PHI v9 [0] [9] 2 32 16 (some ⟨Ps, 0, none⟩) 32 ca (some ⟨Qs, 0, none⟩) 16 cc none (.int .i64 3) [] true true (fun _ _ => undef) (l 1) (l 2) (l 3) (l 4) false (l 5) (l 6) (l 7) (l 8) (l 9) false (l 10) (tm 84) (tm 85) (tm 86) (tm 87) undef (tm 88) (tm 82) (tm 89) (tm 90) (tm 12) undef w) (by kernel_rfl) (by kernel_rfl) rfl (by decide) (fun l tm w h => h.bb) ?start (AllSteps.cons rfl ?o1 (AllSteps.cons rfl ?o2 (AllSteps.cons rfl ?o3 (AllSteps.cons rfl ?o4 (AllSteps.cons rfl ?o5 (AllSteps.cons rfl ?o6 (AllSteps.cons rfl ?o7 (AllSteps.cons rfl ?o8 (AllSteps.cons rfl ?o9 (AllSteps.cons rfl ?o10 AllSteps.nil)))))))))) ?fin
            case o1 =>
              intro l tm w h hl hd K hK
              try dsimp only at h
              rw [hl] at h
              have hh := h.addB1 (below_alloc w (.cells #[.int .i64 0] 3)) (lis_one w 0)
              exact st_run (v := .slice (some ⟨w.heap.size, 0, none⟩) 1 1) (by rfl) (by kernel_rfl) (hK.out _ _ hh)
            case o2 =>
              intro l tm w h hl hd K hK
              try dsimp only at h
              rw [hl] at h
              have hs := h.early1.1
              have h0 := h
              rw [hs] at h0
              obtain ⟨⟨B, nB, cB, eB, -⟩, -⟩ := h0.way1 (hd 1 (by kernel_rfl))
              have hc := way_is (A := B) (n := nB) (cap := cB) w
              rw [← eB] at hc
              refine st_call (f := 11) (args := #[(tm 84)]) (w' := w) (by rfl) (by kernel_rfl) (hc.mono ?_)
              rintro e w1 ⟨rfl, hb⟩
              exact ⟨_, rfl, hK.out _ _ (h.addW1 (hd 1 (by kernel_rfl)) hb rfl)⟩
            case o3 =>
              intro l tm w h hl hd K hK
              try dsimp only at h
              rw [hl] at h
              have hh := h.addB2 (below_alloc w (.cells #[.int .i64 9] 3)) (lis_one w 9)
              exact st_run (v := .slice (some ⟨w.heap.size, 0, none⟩) 1 1) (by rfl) (by kernel_rfl) (hK.out _ _ hh)
            case o4 =>
              intro l tm w h hl hd K hK
              try dsimp only at h
              rw [hl] at h
              have hs := h.early2.1
              have h0 := h
              rw [hs] at h0
              obtain ⟨⟨B, nB, cB, eB, -⟩, -⟩ := h0.way2 (hd 3 (by kernel_rfl))
              have hc := way_is (A := B) (n := nB) (cap := cB) w
              rw [← eB] at hc
              refine st_call (f := 11) (args := #[(tm 86)]) (w' := w) (by rfl) (by kernel_rfl) (hc.mono ?_)
              rintro e w1 ⟨rfl, hb⟩
              exact ⟨_, rfl, hK.out _ _ (h.addW2 (hd 3 (by kernel_rfl)) hb rfl)⟩
            case o5 =>
              intro l tm w h hl hd K hK
              try dsimp only at h
              rw [hl] at h
              have d1 := hd 2 (by kernel_rfl)
              have d2 := hd 4 (by kernel_rfl)
              have hs : l 10 = false := h.notS.1
              have h0 := h
              rw [hs] at h0
              obtain ⟨⟨B1, n1, k1, eB1, eN1, eK1, eI1⟩, eW1⟩ := h0.way1 ((h0.rg rfl).w1 d1).1
              obtain ⟨⟨B2, n2, k2, eB2, eN2, eK2, eI2⟩, eW2⟩ := h0.way2 ((h0.rg rfl).w2 d2).1
              have hW1 := (eW1 d1).trans (by rw [eB1])
              have hW2 := (eW2 d2).trans (by rw [eB2])
              have hA : #[.agg #[.int .i64 2, .int .i64 32, .int .i64 16, .slice (some ⟨Ps, 0, none⟩) 32 ca, .slice (some ⟨Qs, 0, none⟩) 16 cc], (tm 85), (tm 87), .int .i64 4, .int .i64 0] = #[.agg #[.int .i64 2, .int .i64 32, .int .i64 16, .slice (some ⟨Ps, 0, none⟩) 32 ca, .slice (some ⟨Qs, 0, none⟩) 16 cc], .agg #[.slice B1 n1 k1], .agg #[.slice B2 n2 k2], .int .i64 4, .int .i64 0] := by rw [hW1, hW2]
              refine st_call (f := 10) (args := #[.agg #[.int .i64 2, .int .i64 32, .int .i64 16, .slice (some ⟨Ps, 0, none⟩) 32 ca, .slice (some ⟨Qs, 0, none⟩) 16 cc], (tm 85), (tm 87), .int .i64 4, .int .i64 0]) (w' := w) (by rfl) (by kernel_rfl) ?_
              rw [hA]
              refine (does_is ⟨(O_s.out.on h.bb).lies, rfl, s64_len.1.symm, s64_len.2.symm, by decide, by decide, HC_s.out.1, HC_s.out.2⟩ eN1 eK1 eI1 eN2 eK2 eI2 ck_f).mono ?_
              rintro e w1 ⟨A', ca', C', cc', rfl, hb, hm⟩
              obtain ⟨q1, q2⟩ := resD_of (a := 2) (b := 32) (c := 16) (R := (.int .i64 3)) h.bb.size hm ckpos_none
              exact ⟨_, rfl, hK.out _ _ (h.addD hb q1 q2)⟩
            case o6 =>
              intro l tm w h hl hd K hK
              try dsimp only at h
              rw [hl] at h
              exact st_run (v := tm 88) (w' := w) (by rfl) (by kernel_rfl) (hK.out _ _ (h.addMv (hd 5 (by kernel_rfl)) rfl))
            case o7 =>
              intro l tm w h hl hd K hK
              try dsimp only at h
              rw [hl] at h
              obtain ⟨A', ca', C', cc', eT, -⟩ := h.tup (hd 6 (by kernel_rfl))
              refine st_run (v := .agg #[.int .i64 2, .int .i64 32, .int .i64 16, .slice A' 32 ca', .slice C' 16 cc']) (w' := w) (by rfl) ?_ (hK.out _ _ (h.addE1 (hd 6 (by kernel_rfl)) eT))
              simp only [List.getElem_toArray, List.getElem_cons_zero, List.getElem_cons_succ, pmA, List.foldl_cons, List.foldl_nil, Act.put, List.setIfInBounds_toArray, List.set_cons_zero, List.set_cons_succ]
              rw [eT]
              kernel_rfl
            case o8 =>
              intro l tm w h hl hd K hK
              try dsimp only at h
              rw [hl] at h
              obtain ⟨A', ca', C', cc', eT, -⟩ := h.tup (hd 6 (by kernel_rfl))
              refine st_run (v := (.int .i64 3)) (w' := w) (by rfl) ?_ (hK.out _ _ (h.addE2 (hd 6 (by kernel_rfl)) eT))
              simp only [List.getElem_toArray, List.getElem_cons_zero, List.getElem_cons_succ, pmA, List.foldl_cons, List.foldl_nil, Act.put, List.setIfInBounds_toArray, List.set_cons_zero, List.set_cons_succ]
              rw [eT]
              kernel_rfl
            case o9 =>
              intro l tm w h hl hd K hK
              try dsimp only at h
              rw [hl] at h
              have hh := h.addQ ckpos_none 28
              exact st_run (v := ptr w.heap.size) (by rfl) (by kernel_rfl) (hK.out _ _ hh)
            case o10 =>
              intro l tm w h hl hd K hK
              try dsimp only at h
              rw [hl] at h
              obtain ⟨x, A', ca', C', cc', ex, e1, ed, hw⟩ := h.atS' (hd 5 (by kernel_rfl)) (hd 6 (by kernel_rfl)) (hd 7 (by kernel_rfl)) (hd 9 (by kernel_rfl))
              have HT : Hid (w.there x 0 (#[.int .i64 2, .int .i64 32, .int .i64 16, .slice A' 32 ca', .slice C' 16 cc'] : Array Value).size) := Lib.hid (hw.there (n := 5) rfl)
              have HO := Lib.hid (state_one 2 32 16 A' 32 ca' C' 16 cc')
              refine st_store (by rfl) 28 (.tmp 12) (.tmp 89) (by rfl) x 0 #[.int .i64 2, .int .i64 32, .int .i64 16, .slice A' 32 ca', .slice C' 16 cc'] ((by kernel_rfl : _ = tm 12).trans ex) ((by kernel_rfl : _ = tm 89).trans e1) HT.out info_state HO.out ?_
              refine hK.out undef (w.setCells x 0 [.int .i64 2, .int .i64 32, .int .i64 16, .slice A' 32 ca', .slice C' 16 cc']) ?_
              exact h.addS' (hd 1 (by kernel_rfl)) (hd 2 (by kernel_rfl)) (hd 3 (by kernel_rfl)) (hd 4 (by kernel_rfl)) (fun e => absurd e (by decide)) (hd 5 (by kernel_rfl)) (hd 6 (by kernel_rfl)) (hd 7 (by kernel_rfl)) (hd 9 (by kernel_rfl)) (fun e => absurd e (by decide)) ex ed
            case start => exact ⟨hH, fun _ => ⟨hH, fun e => ff rfl e, fun e => ff rfl e, fun e => ff rfl e, fun e => ff rfl e, fun e => ff rfl e, fun e => ff rfl e, fun e => ff rfl e, fun e => ff rfl e, fun e => ff rfl e, fun e => ff rfl e⟩, fun e => ff rfl e, fun e => ff rfl e, fun e => ff rfl e, fun e => ff rfl e, fun e => ff rfl e, fun e => ff rfl e⟩
            case fin =>
              intro tm v10 h
              try dsimp only at h
              obtain ⟨hbb, hR, hP⟩ := h.fin (by kernel_rfl) (by kernel_rfl)
              obtain ⟨g9, A9, ca9, C9, cc9, ed, ex, hx, hm, -⟩ := hP
              simp only [ptr] at ex
              clear h ed
              simp only [pmA, List.foldl_cons, List.foldl_nil, Act.put, List.setIfInBounds_toArray, List.set_cons_zero, List.set_cons_succ]
              rw [ex, hR]
              clear ex hR
              refine wpAnyH_take (i := 11) (v := ?_) rfl (by kernel_rfl) (by kernel_rfl) (by kernel_rfl) (fun _ _ _ h => h) (Or.inl ⟨by rfl, ?_⟩) (by assumption) ?_
              rotate_left
              · intro w hSw; go_simp; try with_reducible rfl
              try simp only [Act.put, List.setIfInBounds_toArray, List.set_cons_zero, List.set_cons_succ, List.getElem_toArray, List.getElem_cons_zero, List.getElem_cons_succ]
              refine wpAnyH_done (by kernel_rfl) ?_ _
              replace K_s := Lib.hid (K_s.out.on hbb)
              replace O_s := Lib.hid (O_s.out.on hbb)
              replace HW := Lib.hid (below_on HW.out hbb)
              clear hbb hx hH
              clear hm
              go_upto_region 10 with fail
              refine wp_region_held_drew (S := fun w' => Below v10.heap.size v10 w') (by kernel_rfl) (below_self v10).drew (fun hH => ?_)
              refine wpAnyH_take (i := 0) (v := .agg #[.int .i64 2, .int .i64 32, .int .i64 16, .slice (some ⟨Ps, 0, none⟩) 32 ca, .slice (some ⟨Qs, 0, none⟩) 16 cc]) rfl (by kernel_rfl) (by kernel_rfl) (by kernel_rfl) (fun _ _ _ h => h) (yieldsIf_load_mid (by rfl) 28 (.tmp 1) (by rfl) gs 0 (by rfl) [.int .i64 2, .int .i64 32, .int .i64 16, .slice (some ⟨Ps, 0, none⟩) 32 ca, .slice (some ⟨Qs, 0, none⟩) 16 cc] _ (fun w hS => ((K_s.out.on hS).range)) Try.underlying28 rfl info_state) (by assumption) ?_
              try simp only [Act.put, List.setIfInBounds_toArray, List.set_cons_zero, List.set_cons_succ, List.getElem_toArray, List.getElem_cons_zero, List.getElem_cons_succ]
              refine wpAnyH_inv (f0 := 1) [1, 2, 3, 4, 5, 6, 7, 8, 9, 10] [93, 94, 95, 96, 97, 91, 98, 99, 14] (fun l tm w => PHI v10 [0] [3] 2 32 16 (some ⟨Ps, 0, none⟩) 32 ca (some ⟨Qs, 0, none⟩) 16 cc (some ckx) (.int .i64 0) [] true true (fun _ _ => undef) (l 1) (l 2) (l 3) (l 4) false (l 5) (l 6) (l 7) (l 8) (l 9) false (l 10) (tm 93) (tm 94) (tm 95) (tm 96) undef (tm 97) (tm 91) (tm 98) (tm 99) (tm 14) undef w) (by kernel_rfl) (by kernel_rfl) rfl (by decide) (fun l tm w h => h.bb) ?start (AllSteps.cons rfl ?o1 (AllSteps.cons rfl ?o2 (AllSteps.cons rfl ?o3 (AllSteps.cons rfl ?o4 (AllSteps.cons rfl ?o5 (AllSteps.cons rfl ?o6 (AllSteps.cons rfl ?o7 (AllSteps.cons rfl ?o8 (AllSteps.cons rfl ?o9 (AllSteps.cons rfl ?o10 AllSteps.nil)))))))))) ?fin
              case o1 =>
                intro l tm w h hl hd K hK
                try dsimp only at h
                rw [hl] at h
                have hh := h.addB1 (below_alloc w (.cells #[.int .i64 0] 3)) (lis_one w 0)
                exact st_run (v := .slice (some ⟨w.heap.size, 0, none⟩) 1 1) (by rfl) (by kernel_rfl) (hK.out _ _ hh)
              case o2 =>
                intro l tm w h hl hd K hK
                try dsimp only at h
                rw [hl] at h
                have hs := h.early1.1
                have h0 := h
                rw [hs] at h0
                obtain ⟨⟨B, nB, cB, eB, -⟩, -⟩ := h0.way1 (hd 1 (by kernel_rfl))
                have hc := way_is (A := B) (n := nB) (cap := cB) w
                rw [← eB] at hc
                refine st_call (f := 11) (args := #[(tm 93)]) (w' := w) (by rfl) (by kernel_rfl) (hc.mono ?_)
                rintro e w1 ⟨rfl, hb⟩
                exact ⟨_, rfl, hK.out _ _ (h.addW1 (hd 1 (by kernel_rfl)) hb rfl)⟩
              case o3 =>
                intro l tm w h hl hd K hK
                try dsimp only at h
                rw [hl] at h
                have hh := h.addB2 (below_alloc w (.cells #[.int .i64 3] 3)) (lis_one w 3)
                exact st_run (v := .slice (some ⟨w.heap.size, 0, none⟩) 1 1) (by rfl) (by kernel_rfl) (hK.out _ _ hh)
              case o4 =>
                intro l tm w h hl hd K hK
                try dsimp only at h
                rw [hl] at h
                have hs := h.early2.1
                have h0 := h
                rw [hs] at h0
                obtain ⟨⟨B, nB, cB, eB, -⟩, -⟩ := h0.way2 (hd 3 (by kernel_rfl))
                have hc := way_is (A := B) (n := nB) (cap := cB) w
                rw [← eB] at hc
                refine st_call (f := 11) (args := #[(tm 95)]) (w' := w) (by rfl) (by kernel_rfl) (hc.mono ?_)
                rintro e w1 ⟨rfl, hb⟩
                exact ⟨_, rfl, hK.out _ _ (h.addW2 (hd 3 (by kernel_rfl)) hb rfl)⟩
              case o5 =>
                intro l tm w h hl hd K hK
                try dsimp only at h
                rw [hl] at h
                have d1 := hd 2 (by kernel_rfl)
                have d2 := hd 4 (by kernel_rfl)
                have hs : l 10 = false := h.notS.1
                have h0 := h
                rw [hs] at h0
                obtain ⟨⟨B1, n1, k1, eB1, eN1, eK1, eI1⟩, eW1⟩ := h0.way1 ((h0.rg rfl).w1 d1).1
                obtain ⟨⟨B2, n2, k2, eB2, eN2, eK2, eI2⟩, eW2⟩ := h0.way2 ((h0.rg rfl).w2 d2).1
                have hW1 := (eW1 d1).trans (by rw [eB1])
                have hW2 := (eW2 d2).trans (by rw [eB2])
                have hA : #[.agg #[.int .i64 2, .int .i64 32, .int .i64 16, .slice (some ⟨Ps, 0, none⟩) 32 ca, .slice (some ⟨Qs, 0, none⟩) 16 cc], (tm 94), (tm 96), .int .i64 1, .int .i64 60] = #[.agg #[.int .i64 2, .int .i64 32, .int .i64 16, .slice (some ⟨Ps, 0, none⟩) 32 ca, .slice (some ⟨Qs, 0, none⟩) 16 cc], .agg #[.slice B1 n1 k1], .agg #[.slice B2 n2 k2], .int .i64 1, .int .i64 60] := by rw [hW1, hW2]
                refine st_call (f := 10) (args := #[.agg #[.int .i64 2, .int .i64 32, .int .i64 16, .slice (some ⟨Ps, 0, none⟩) 32 ca, .slice (some ⟨Qs, 0, none⟩) 16 cc], (tm 94), (tm 96), .int .i64 1, .int .i64 60]) (w' := w) (by rfl) (by kernel_rfl) ?_
                rw [hA]
                refine (does_is ⟨(O_s.out.on h.bb).lies, rfl, s64_len.1.symm, s64_len.2.symm, by decide, by decide, HC_s.out.1, HC_s.out.2⟩ eN1 eK1 eI1 eN2 eK2 eI2 ck_g).mono ?_
                rintro e w1 ⟨A', ca', C', cc', rfl, hb, hm⟩
                obtain ⟨q1, q2⟩ := resD_of (a := 2) (b := 32) (c := 16) (R := (.int .i64 0)) h.bb.size hm (ckpos_of ckx_len)
                exact ⟨_, rfl, hK.out _ _ (h.addD hb q1 q2)⟩
              case o6 =>
                intro l tm w h hl hd K hK
                try dsimp only at h
                rw [hl] at h
                exact st_run (v := tm 97) (w' := w) (by rfl) (by kernel_rfl) (hK.out _ _ (h.addMv (hd 5 (by kernel_rfl)) rfl))
              case o7 =>
                intro l tm w h hl hd K hK
                try dsimp only at h
                rw [hl] at h
                obtain ⟨A', ca', C', cc', eT, -⟩ := h.tup (hd 6 (by kernel_rfl))
                refine st_run (v := .agg #[.int .i64 2, .int .i64 32, .int .i64 16, .slice A' 32 ca', .slice C' 16 cc']) (w' := w) (by rfl) ?_ (hK.out _ _ (h.addE1 (hd 6 (by kernel_rfl)) eT))
                simp only [List.getElem_toArray, List.getElem_cons_zero, List.getElem_cons_succ, pmA, List.foldl_cons, List.foldl_nil, Act.put, List.setIfInBounds_toArray, List.set_cons_zero, List.set_cons_succ]
                rw [eT]
                kernel_rfl
              case o8 =>
                intro l tm w h hl hd K hK
                try dsimp only at h
                rw [hl] at h
                obtain ⟨A', ca', C', cc', eT, -⟩ := h.tup (hd 6 (by kernel_rfl))
                refine st_run (v := (.int .i64 0)) (w' := w) (by rfl) ?_ (hK.out _ _ (h.addE2 (hd 6 (by kernel_rfl)) eT))
                simp only [List.getElem_toArray, List.getElem_cons_zero, List.getElem_cons_succ, pmA, List.foldl_cons, List.foldl_nil, Act.put, List.setIfInBounds_toArray, List.set_cons_zero, List.set_cons_succ]
                rw [eT]
                kernel_rfl
              case o9 =>
                intro l tm w h hl hd K hK
                try dsimp only at h
                rw [hl] at h
                have hh := h.addQ (ckpos_of ckx_len) 28
                exact st_run (v := ptr w.heap.size) (by rfl) (by kernel_rfl) (hK.out _ _ hh)
              case o10 =>
                intro l tm w h hl hd K hK
                try dsimp only at h
                rw [hl] at h
                obtain ⟨x, A', ca', C', cc', ex, e1, ed, hw⟩ := h.atS' (hd 5 (by kernel_rfl)) (hd 6 (by kernel_rfl)) (hd 7 (by kernel_rfl)) (hd 9 (by kernel_rfl))
                have HT : Hid (w.there x 0 (#[.int .i64 2, .int .i64 32, .int .i64 16, .slice A' 32 ca', .slice C' 16 cc'] : Array Value).size) := Lib.hid (hw.there (n := 5) rfl)
                have HO := Lib.hid (state_one 2 32 16 A' 32 ca' C' 16 cc')
                refine st_store (by rfl) 28 (.tmp 14) (.tmp 98) (by rfl) x 0 #[.int .i64 2, .int .i64 32, .int .i64 16, .slice A' 32 ca', .slice C' 16 cc'] ((by kernel_rfl : _ = tm 14).trans ex) ((by kernel_rfl : _ = tm 98).trans e1) HT.out info_state HO.out ?_
                refine hK.out undef (w.setCells x 0 [.int .i64 2, .int .i64 32, .int .i64 16, .slice A' 32 ca', .slice C' 16 cc']) ?_
                exact h.addS' (hd 1 (by kernel_rfl)) (hd 2 (by kernel_rfl)) (hd 3 (by kernel_rfl)) (hd 4 (by kernel_rfl)) (fun e => absurd e (by decide)) (hd 5 (by kernel_rfl)) (hd 6 (by kernel_rfl)) (hd 7 (by kernel_rfl)) (hd 9 (by kernel_rfl)) (fun e => absurd e (by decide)) ex ed
              case start => exact ⟨hH, fun _ => ⟨hH, fun e => ff rfl e, fun e => ff rfl e, fun e => ff rfl e, fun e => ff rfl e, fun e => ff rfl e, fun e => ff rfl e, fun e => ff rfl e, fun e => ff rfl e, fun e => ff rfl e, fun e => ff rfl e⟩, fun e => ff rfl e, fun e => ff rfl e, fun e => ff rfl e, fun e => ff rfl e, fun e => ff rfl e, fun e => ff rfl e⟩
              case fin =>
                intro tm v11 h
                try dsimp only at h
                obtain ⟨hbb, hR, hP⟩ := h.fin (by kernel_rfl) (by kernel_rfl)
                obtain ⟨g10, A10, ca10, C10, cc10, ed, ex, hx, hm, -⟩ := hP
                simp only [ptr] at ex
                clear h ed
                obtain ⟨hca, hcc, hF⟩ := hm
                obtain ⟨P10, Q10, rfl, rfl, hO⟩ := hF.ost (by rw [ckx_len.1]; decide) (by rw [ckx_len.2]; decide) hbb
                simp only [pmA, List.foldl_cons, List.foldl_nil, Act.put, List.setIfInBounds_toArray, List.set_cons_zero, List.set_cons_succ]
                rw [ex, hR]
                clear ex hR
                refine wpAnyH_take (i := 11) (v := ?_) rfl (by kernel_rfl) (by kernel_rfl) (by kernel_rfl) (fun _ _ _ h => h) (Or.inl ⟨by rfl, ?_⟩) (by assumption) ?_
                rotate_left
                · intro w hSw; go_simp; try with_reducible rfl
                try simp only [Act.put, List.setIfInBounds_toArray, List.set_cons_zero, List.set_cons_succ, List.getElem_toArray, List.getElem_cons_zero, List.getElem_cons_succ]
                refine wpAnyH_done (by kernel_rfl) ?_ _
                replace K_s := Lib.hid (K_s.out.on hbb)
                replace O_s := Lib.hid (O_s.out.on hbb)
                replace HW := Lib.hid (below_on HW.out hbb)
                have K_x := Lib.hid hx.bx
                have O_x := Lib.hid hO
                have HC_x := Lib.hid (⟨hca, hcc⟩ : 32 ≤ ca10 ∧ 16 ≤ cc10)
                clear hca hcc hF hO
                clear hbb hx hH
                go_upto_region 11 with fail
                refine wp_region_held_drew (S := fun w' => Below v11.heap.size v11 w') (by kernel_rfl) (below_self v11).drew (fun hH => ?_)
                refine wpAnyH_take (i := 0) (v := .agg #[.int .i64 2, .int .i64 32, .int .i64 16, .slice (some ⟨P10, 0, none⟩) 32 ca10, .slice (some ⟨Q10, 0, none⟩) 16 cc10]) rfl (by kernel_rfl) (by kernel_rfl) (by kernel_rfl) (fun _ _ _ h => h) (yieldsIf_load_mid (by rfl) 28 (.tmp 14) (by rfl) g10 0 (by rfl) [.int .i64 2, .int .i64 32, .int .i64 16, .slice (some ⟨P10, 0, none⟩) 32 ca10, .slice (some ⟨Q10, 0, none⟩) 16 cc10] _ (fun w hS => ((K_x.out.on hS).range)) Try.underlying28 rfl info_state) (by assumption) ?_
                try simp only [Act.put, List.setIfInBounds_toArray, List.set_cons_zero, List.set_cons_succ, List.getElem_toArray, List.getElem_cons_zero, List.getElem_cons_succ]
                refine wpAnyH_inv (f0 := 1) [1, 2, 3, 4, 5, 6, 7, 8, 9, 10] [102, 103, 104, 105, 106, 100, 107, 108, 16] (fun l tm w => PHI v11 [0] [4] 2 32 16 (some ⟨P10, 0, none⟩) 32 ca10 (some ⟨Q10, 0, none⟩) 16 cc10 (some cky) (.int .i64 0) [] true true (fun _ _ => undef) (l 1) (l 2) (l 3) (l 4) false (l 5) (l 6) (l 7) (l 8) (l 9) false (l 10) (tm 102) (tm 103) (tm 104) (tm 105) undef (tm 106) (tm 100) (tm 107) (tm 108) (tm 16) undef w) (by kernel_rfl) (by kernel_rfl) rfl (by decide) (fun l tm w h => h.bb) ?start (AllSteps.cons rfl ?o1 (AllSteps.cons rfl ?o2 (AllSteps.cons rfl ?o3 (AllSteps.cons rfl ?o4 (AllSteps.cons rfl ?o5 (AllSteps.cons rfl ?o6 (AllSteps.cons rfl ?o7 (AllSteps.cons rfl ?o8 (AllSteps.cons rfl ?o9 (AllSteps.cons rfl ?o10 AllSteps.nil)))))))))) ?fin
                case o1 =>
                  intro l tm w h hl hd K hK
                  try dsimp only at h
                  rw [hl] at h
                  have hh := h.addB1 (below_alloc w (.cells #[.int .i64 0] 3)) (lis_one w 0)
                  exact st_run (v := .slice (some ⟨w.heap.size, 0, none⟩) 1 1) (by rfl) (by kernel_rfl) (hK.out _ _ hh)
                case o2 =>
                  intro l tm w h hl hd K hK
                  try dsimp only at h
                  rw [hl] at h
                  have hs := h.early1.1
                  have h0 := h
                  rw [hs] at h0
                  obtain ⟨⟨B, nB, cB, eB, -⟩, -⟩ := h0.way1 (hd 1 (by kernel_rfl))
                  have hc := way_is (A := B) (n := nB) (cap := cB) w
                  rw [← eB] at hc
                  refine st_call (f := 11) (args := #[(tm 102)]) (w' := w) (by rfl) (by kernel_rfl) (hc.mono ?_)
                  rintro e w1 ⟨rfl, hb⟩
                  exact ⟨_, rfl, hK.out _ _ (h.addW1 (hd 1 (by kernel_rfl)) hb rfl)⟩
                case o3 =>
                  intro l tm w h hl hd K hK
                  try dsimp only at h
                  rw [hl] at h
                  have hh := h.addB2 (below_alloc w (.cells #[.int .i64 4] 3)) (lis_one w 4)
                  exact st_run (v := .slice (some ⟨w.heap.size, 0, none⟩) 1 1) (by rfl) (by kernel_rfl) (hK.out _ _ hh)
                case o4 =>
                  intro l tm w h hl hd K hK
                  try dsimp only at h
                  rw [hl] at h
                  have hs := h.early2.1
                  have h0 := h
                  rw [hs] at h0
                  obtain ⟨⟨B, nB, cB, eB, -⟩, -⟩ := h0.way2 (hd 3 (by kernel_rfl))
                  have hc := way_is (A := B) (n := nB) (cap := cB) w
                  rw [← eB] at hc
                  refine st_call (f := 11) (args := #[(tm 104)]) (w' := w) (by rfl) (by kernel_rfl) (hc.mono ?_)
                  rintro e w1 ⟨rfl, hb⟩
                  exact ⟨_, rfl, hK.out _ _ (h.addW2 (hd 3 (by kernel_rfl)) hb rfl)⟩
                case o5 =>
                  intro l tm w h hl hd K hK
                  try dsimp only at h
                  rw [hl] at h
                  have d1 := hd 2 (by kernel_rfl)
                  have d2 := hd 4 (by kernel_rfl)
                  have hs : l 10 = false := h.notS.1
                  have h0 := h
                  rw [hs] at h0
                  obtain ⟨⟨B1, n1, k1, eB1, eN1, eK1, eI1⟩, eW1⟩ := h0.way1 ((h0.rg rfl).w1 d1).1
                  obtain ⟨⟨B2, n2, k2, eB2, eN2, eK2, eI2⟩, eW2⟩ := h0.way2 ((h0.rg rfl).w2 d2).1
                  have hW1 := (eW1 d1).trans (by rw [eB1])
                  have hW2 := (eW2 d2).trans (by rw [eB2])
                  have hA : #[.agg #[.int .i64 2, .int .i64 32, .int .i64 16, .slice (some ⟨P10, 0, none⟩) 32 ca10, .slice (some ⟨Q10, 0, none⟩) 16 cc10], (tm 103), (tm 105), .int .i64 2, .int .i64 2] = #[.agg #[.int .i64 2, .int .i64 32, .int .i64 16, .slice (some ⟨P10, 0, none⟩) 32 ca10, .slice (some ⟨Q10, 0, none⟩) 16 cc10], .agg #[.slice B1 n1 k1], .agg #[.slice B2 n2 k2], .int .i64 2, .int .i64 2] := by rw [hW1, hW2]
                  refine st_call (f := 10) (args := #[.agg #[.int .i64 2, .int .i64 32, .int .i64 16, .slice (some ⟨P10, 0, none⟩) 32 ca10, .slice (some ⟨Q10, 0, none⟩) 16 cc10], (tm 103), (tm 105), .int .i64 2, .int .i64 2]) (w' := w) (by rfl) (by kernel_rfl) ?_
                  rw [hA]
                  refine (does_is ⟨(O_x.out.on h.bb).lies, rfl, ckx_len.1.symm, ckx_len.2.symm, by decide, by decide, HC_x.out.1, HC_x.out.2⟩ eN1 eK1 eI1 eN2 eK2 eI2 ck_h).mono ?_
                  rintro e w1 ⟨A', ca', C', cc', rfl, hb, hm⟩
                  obtain ⟨q1, q2⟩ := resD_of (a := 2) (b := 32) (c := 16) (R := (.int .i64 0)) h.bb.size hm (ckpos_of cky_len)
                  exact ⟨_, rfl, hK.out _ _ (h.addD hb q1 q2)⟩
                case o6 =>
                  intro l tm w h hl hd K hK
                  try dsimp only at h
                  rw [hl] at h
                  exact st_run (v := tm 106) (w' := w) (by rfl) (by kernel_rfl) (hK.out _ _ (h.addMv (hd 5 (by kernel_rfl)) rfl))
                case o7 =>
                  intro l tm w h hl hd K hK
                  try dsimp only at h
                  rw [hl] at h
                  obtain ⟨A', ca', C', cc', eT, -⟩ := h.tup (hd 6 (by kernel_rfl))
                  refine st_run (v := .agg #[.int .i64 2, .int .i64 32, .int .i64 16, .slice A' 32 ca', .slice C' 16 cc']) (w' := w) (by rfl) ?_ (hK.out _ _ (h.addE1 (hd 6 (by kernel_rfl)) eT))
                  simp only [List.getElem_toArray, List.getElem_cons_zero, List.getElem_cons_succ, pmA, List.foldl_cons, List.foldl_nil, Act.put, List.setIfInBounds_toArray, List.set_cons_zero, List.set_cons_succ]
                  rw [eT]
                  kernel_rfl
                case o8 =>
                  intro l tm w h hl hd K hK
                  try dsimp only at h
                  rw [hl] at h
                  obtain ⟨A', ca', C', cc', eT, -⟩ := h.tup (hd 6 (by kernel_rfl))
                  refine st_run (v := (.int .i64 0)) (w' := w) (by rfl) ?_ (hK.out _ _ (h.addE2 (hd 6 (by kernel_rfl)) eT))
                  simp only [List.getElem_toArray, List.getElem_cons_zero, List.getElem_cons_succ, pmA, List.foldl_cons, List.foldl_nil, Act.put, List.setIfInBounds_toArray, List.set_cons_zero, List.set_cons_succ]
                  rw [eT]
                  kernel_rfl
                case o9 =>
                  intro l tm w h hl hd K hK
                  try dsimp only at h
                  rw [hl] at h
                  have hh := h.addQ (ckpos_of cky_len) 28
                  exact st_run (v := ptr w.heap.size) (by rfl) (by kernel_rfl) (hK.out _ _ hh)
                case o10 =>
                  intro l tm w h hl hd K hK
                  try dsimp only at h
                  rw [hl] at h
                  obtain ⟨x, A', ca', C', cc', ex, e1, ed, hw⟩ := h.atS' (hd 5 (by kernel_rfl)) (hd 6 (by kernel_rfl)) (hd 7 (by kernel_rfl)) (hd 9 (by kernel_rfl))
                  have HT : Hid (w.there x 0 (#[.int .i64 2, .int .i64 32, .int .i64 16, .slice A' 32 ca', .slice C' 16 cc'] : Array Value).size) := Lib.hid (hw.there (n := 5) rfl)
                  have HO := Lib.hid (state_one 2 32 16 A' 32 ca' C' 16 cc')
                  refine st_store (by rfl) 28 (.tmp 16) (.tmp 107) (by rfl) x 0 #[.int .i64 2, .int .i64 32, .int .i64 16, .slice A' 32 ca', .slice C' 16 cc'] ((by kernel_rfl : _ = tm 16).trans ex) ((by kernel_rfl : _ = tm 107).trans e1) HT.out info_state HO.out ?_
                  refine hK.out undef (w.setCells x 0 [.int .i64 2, .int .i64 32, .int .i64 16, .slice A' 32 ca', .slice C' 16 cc']) ?_
                  exact h.addS' (hd 1 (by kernel_rfl)) (hd 2 (by kernel_rfl)) (hd 3 (by kernel_rfl)) (hd 4 (by kernel_rfl)) (fun e => absurd e (by decide)) (hd 5 (by kernel_rfl)) (hd 6 (by kernel_rfl)) (hd 7 (by kernel_rfl)) (hd 9 (by kernel_rfl)) (fun e => absurd e (by decide)) ex ed
                case start => exact ⟨hH, fun _ => ⟨hH, fun e => ff rfl e, fun e => ff rfl e, fun e => ff rfl e, fun e => ff rfl e, fun e => ff rfl e, fun e => ff rfl e, fun e => ff rfl e, fun e => ff rfl e, fun e => ff rfl e, fun e => ff rfl e⟩, fun e => ff rfl e, fun e => ff rfl e, fun e => ff rfl e, fun e => ff rfl e, fun e => ff rfl e, fun e => ff rfl e⟩
                case fin =>
                  intro tm v12 h
                  try dsimp only at h
                  obtain ⟨hbb, hR, hP⟩ := h.fin (by kernel_rfl) (by kernel_rfl)
                  obtain ⟨g11, A11, ca11, C11, cc11, ed, ex, hx, hm, -⟩ := hP
                  simp only [ptr] at ex
                  clear h ed
                  obtain ⟨hca, hcc, hF⟩ := hm
                  obtain ⟨P11, Q11, rfl, rfl, hO⟩ := hF.ost (by rw [cky_len.1]; decide) (by rw [cky_len.2]; decide) hbb
                  simp only [pmA, List.foldl_cons, List.foldl_nil, Act.put, List.setIfInBounds_toArray, List.set_cons_zero, List.set_cons_succ]
                  rw [ex, hR]
                  clear ex hR
                  refine wpAnyH_take (i := 11) (v := ?_) rfl (by kernel_rfl) (by kernel_rfl) (by kernel_rfl) (fun _ _ _ h => h) (Or.inl ⟨by rfl, ?_⟩) (by assumption) ?_
                  rotate_left
                  · intro w hSw; go_simp; try with_reducible rfl
                  try simp only [Act.put, List.setIfInBounds_toArray, List.set_cons_zero, List.set_cons_succ, List.getElem_toArray, List.getElem_cons_zero, List.getElem_cons_succ]
                  refine wpAnyH_done (by kernel_rfl) ?_ _
                  replace K_s := Lib.hid (K_s.out.on hbb)
                  replace K_x := Lib.hid (K_x.out.on hbb)
                  replace O_s := Lib.hid (O_s.out.on hbb)
                  replace O_x := Lib.hid (O_x.out.on hbb)
                  replace HW := Lib.hid (below_on HW.out hbb)
                  have K_y := Lib.hid hx.bx
                  have O_y := Lib.hid hO
                  have HC_y := Lib.hid (⟨hca, hcc⟩ : 32 ≤ ca11 ∧ 16 ≤ cc11)
                  clear hca hcc hF hO
                  clear hbb hx hH
                  go_upto_region 12 with fail
                  clear K_x
                  clear O_x
                  refine wp_region_held_drew (S := fun w' => Below v12.heap.size v12 w') (by kernel_rfl) (below_self v12).drew (fun hH => ?_)
                  refine wpAnyH_take (i := 0) (v := .agg #[.int .i64 2, .int .i64 32, .int .i64 16, .slice (some ⟨P11, 0, none⟩) 32 ca11, .slice (some ⟨Q11, 0, none⟩) 16 cc11]) rfl (by kernel_rfl) (by kernel_rfl) (by kernel_rfl) (fun _ _ _ h => h) (yieldsIf_load_mid (by rfl) 28 (.tmp 16) (by rfl) g11 0 (by rfl) [.int .i64 2, .int .i64 32, .int .i64 16, .slice (some ⟨P11, 0, none⟩) 32 ca11, .slice (some ⟨Q11, 0, none⟩) 16 cc11] _ (fun w hS => ((K_y.out.on hS).range)) Try.underlying28 rfl info_state) (by assumption) ?_
                  try simp only [Act.put, List.setIfInBounds_toArray, List.set_cons_zero, List.set_cons_succ, List.getElem_toArray, List.getElem_cons_zero, List.getElem_cons_succ]
                  refine wpAnyH_inv (f0 := 1) [1, 2, 3, 4, 5, 6, 7, 8, 9, 10] [111, 112, 113, 114, 115, 109, 116, 117, 18] (fun l tm w => PHI v12 [0] [5] 2 32 16 (some ⟨P11, 0, none⟩) 32 ca11 (some ⟨Q11, 0, none⟩) 16 cc11 none (.int .i64 8) [] true true (fun _ _ => undef) (l 1) (l 2) (l 3) (l 4) false (l 5) (l 6) (l 7) (l 8) (l 9) false (l 10) (tm 111) (tm 112) (tm 113) (tm 114) undef (tm 115) (tm 109) (tm 116) (tm 117) (tm 18) undef w) (by kernel_rfl) (by kernel_rfl) rfl (by decide) (fun l tm w h => h.bb) ?start (AllSteps.cons rfl ?o1 (AllSteps.cons rfl ?o2 (AllSteps.cons rfl ?o3 (AllSteps.cons rfl ?o4 (AllSteps.cons rfl ?o5 (AllSteps.cons rfl ?o6 (AllSteps.cons rfl ?o7 (AllSteps.cons rfl ?o8 (AllSteps.cons rfl ?o9 (AllSteps.cons rfl ?o10 AllSteps.nil)))))))))) ?fin
                  case o1 =>
                    intro l tm w h hl hd K hK
                    try dsimp only at h
                    rw [hl] at h
                    have hh := h.addB1 (below_alloc w (.cells #[.int .i64 0] 3)) (lis_one w 0)
                    exact st_run (v := .slice (some ⟨w.heap.size, 0, none⟩) 1 1) (by rfl) (by kernel_rfl) (hK.out _ _ hh)
                  case o2 =>
                    intro l tm w h hl hd K hK
                    try dsimp only at h
                    rw [hl] at h
                    have hs := h.early1.1
                    have h0 := h
                    rw [hs] at h0
                    obtain ⟨⟨B, nB, cB, eB, -⟩, -⟩ := h0.way1 (hd 1 (by kernel_rfl))
                    have hc := way_is (A := B) (n := nB) (cap := cB) w
                    rw [← eB] at hc
                    refine st_call (f := 11) (args := #[(tm 111)]) (w' := w) (by rfl) (by kernel_rfl) (hc.mono ?_)
                    rintro e w1 ⟨rfl, hb⟩
                    exact ⟨_, rfl, hK.out _ _ (h.addW1 (hd 1 (by kernel_rfl)) hb rfl)⟩
                  case o3 =>
                    intro l tm w h hl hd K hK
                    try dsimp only at h
                    rw [hl] at h
                    have hh := h.addB2 (below_alloc w (.cells #[.int .i64 5] 3)) (lis_one w 5)
                    exact st_run (v := .slice (some ⟨w.heap.size, 0, none⟩) 1 1) (by rfl) (by kernel_rfl) (hK.out _ _ hh)
                  case o4 =>
                    intro l tm w h hl hd K hK
                    try dsimp only at h
                    rw [hl] at h
                    have hs := h.early2.1
                    have h0 := h
                    rw [hs] at h0
                    obtain ⟨⟨B, nB, cB, eB, -⟩, -⟩ := h0.way2 (hd 3 (by kernel_rfl))
                    have hc := way_is (A := B) (n := nB) (cap := cB) w
                    rw [← eB] at hc
                    refine st_call (f := 11) (args := #[(tm 113)]) (w' := w) (by rfl) (by kernel_rfl) (hc.mono ?_)
                    rintro e w1 ⟨rfl, hb⟩
                    exact ⟨_, rfl, hK.out _ _ (h.addW2 (hd 3 (by kernel_rfl)) hb rfl)⟩
                  case o5 =>
                    intro l tm w h hl hd K hK
                    try dsimp only at h
                    rw [hl] at h
                    have d1 := hd 2 (by kernel_rfl)
                    have d2 := hd 4 (by kernel_rfl)
                    have hs : l 10 = false := h.notS.1
                    have h0 := h
                    rw [hs] at h0
                    obtain ⟨⟨B1, n1, k1, eB1, eN1, eK1, eI1⟩, eW1⟩ := h0.way1 ((h0.rg rfl).w1 d1).1
                    obtain ⟨⟨B2, n2, k2, eB2, eN2, eK2, eI2⟩, eW2⟩ := h0.way2 ((h0.rg rfl).w2 d2).1
                    have hW1 := (eW1 d1).trans (by rw [eB1])
                    have hW2 := (eW2 d2).trans (by rw [eB2])
                    have hA : #[.agg #[.int .i64 2, .int .i64 32, .int .i64 16, .slice (some ⟨P11, 0, none⟩) 32 ca11, .slice (some ⟨Q11, 0, none⟩) 16 cc11], (tm 112), (tm 114), .int .i64 4, .int .i64 0] = #[.agg #[.int .i64 2, .int .i64 32, .int .i64 16, .slice (some ⟨P11, 0, none⟩) 32 ca11, .slice (some ⟨Q11, 0, none⟩) 16 cc11], .agg #[.slice B1 n1 k1], .agg #[.slice B2 n2 k2], .int .i64 4, .int .i64 0] := by rw [hW1, hW2]
                    refine st_call (f := 10) (args := #[.agg #[.int .i64 2, .int .i64 32, .int .i64 16, .slice (some ⟨P11, 0, none⟩) 32 ca11, .slice (some ⟨Q11, 0, none⟩) 16 cc11], (tm 112), (tm 114), .int .i64 4, .int .i64 0]) (w' := w) (by rfl) (by kernel_rfl) ?_
                    rw [hA]
                    refine (does_is ⟨(O_y.out.on h.bb).lies, rfl, cky_len.1.symm, cky_len.2.symm, by decide, by decide, HC_y.out.1, HC_y.out.2⟩ eN1 eK1 eI1 eN2 eK2 eI2 ck_i).mono ?_
                    rintro e w1 ⟨A', ca', C', cc', rfl, hb, hm⟩
                    obtain ⟨q1, q2⟩ := resD_of (a := 2) (b := 32) (c := 16) (R := (.int .i64 8)) h.bb.size hm ckpos_none
                    exact ⟨_, rfl, hK.out _ _ (h.addD hb q1 q2)⟩
                  case o6 =>
                    intro l tm w h hl hd K hK
                    try dsimp only at h
                    rw [hl] at h
                    exact st_run (v := tm 115) (w' := w) (by rfl) (by kernel_rfl) (hK.out _ _ (h.addMv (hd 5 (by kernel_rfl)) rfl))
                  case o7 =>
                    intro l tm w h hl hd K hK
                    try dsimp only at h
                    rw [hl] at h
                    obtain ⟨A', ca', C', cc', eT, -⟩ := h.tup (hd 6 (by kernel_rfl))
                    refine st_run (v := .agg #[.int .i64 2, .int .i64 32, .int .i64 16, .slice A' 32 ca', .slice C' 16 cc']) (w' := w) (by rfl) ?_ (hK.out _ _ (h.addE1 (hd 6 (by kernel_rfl)) eT))
                    simp only [List.getElem_toArray, List.getElem_cons_zero, List.getElem_cons_succ, pmA, List.foldl_cons, List.foldl_nil, Act.put, List.setIfInBounds_toArray, List.set_cons_zero, List.set_cons_succ]
                    rw [eT]
                    kernel_rfl
                  case o8 =>
                    intro l tm w h hl hd K hK
                    try dsimp only at h
                    rw [hl] at h
                    obtain ⟨A', ca', C', cc', eT, -⟩ := h.tup (hd 6 (by kernel_rfl))
                    refine st_run (v := (.int .i64 8)) (w' := w) (by rfl) ?_ (hK.out _ _ (h.addE2 (hd 6 (by kernel_rfl)) eT))
                    simp only [List.getElem_toArray, List.getElem_cons_zero, List.getElem_cons_succ, pmA, List.foldl_cons, List.foldl_nil, Act.put, List.setIfInBounds_toArray, List.set_cons_zero, List.set_cons_succ]
                    rw [eT]
                    kernel_rfl
                  case o9 =>
                    intro l tm w h hl hd K hK
                    try dsimp only at h
                    rw [hl] at h
                    have hh := h.addQ ckpos_none 28
                    exact st_run (v := ptr w.heap.size) (by rfl) (by kernel_rfl) (hK.out _ _ hh)
                  case o10 =>
                    intro l tm w h hl hd K hK
                    try dsimp only at h
                    rw [hl] at h
                    obtain ⟨x, A', ca', C', cc', ex, e1, ed, hw⟩ := h.atS' (hd 5 (by kernel_rfl)) (hd 6 (by kernel_rfl)) (hd 7 (by kernel_rfl)) (hd 9 (by kernel_rfl))
                    have HT : Hid (w.there x 0 (#[.int .i64 2, .int .i64 32, .int .i64 16, .slice A' 32 ca', .slice C' 16 cc'] : Array Value).size) := Lib.hid (hw.there (n := 5) rfl)
                    have HO := Lib.hid (state_one 2 32 16 A' 32 ca' C' 16 cc')
                    refine st_store (by rfl) 28 (.tmp 18) (.tmp 116) (by rfl) x 0 #[.int .i64 2, .int .i64 32, .int .i64 16, .slice A' 32 ca', .slice C' 16 cc'] ((by kernel_rfl : _ = tm 18).trans ex) ((by kernel_rfl : _ = tm 116).trans e1) HT.out info_state HO.out ?_
                    refine hK.out undef (w.setCells x 0 [.int .i64 2, .int .i64 32, .int .i64 16, .slice A' 32 ca', .slice C' 16 cc']) ?_
                    exact h.addS' (hd 1 (by kernel_rfl)) (hd 2 (by kernel_rfl)) (hd 3 (by kernel_rfl)) (hd 4 (by kernel_rfl)) (fun e => absurd e (by decide)) (hd 5 (by kernel_rfl)) (hd 6 (by kernel_rfl)) (hd 7 (by kernel_rfl)) (hd 9 (by kernel_rfl)) (fun e => absurd e (by decide)) ex ed
                  case start => exact ⟨hH, fun _ => ⟨hH, fun e => ff rfl e, fun e => ff rfl e, fun e => ff rfl e, fun e => ff rfl e, fun e => ff rfl e, fun e => ff rfl e, fun e => ff rfl e, fun e => ff rfl e, fun e => ff rfl e, fun e => ff rfl e⟩, fun e => ff rfl e, fun e => ff rfl e, fun e => ff rfl e, fun e => ff rfl e, fun e => ff rfl e, fun e => ff rfl e⟩
                  case fin =>
                    intro tm v13 h
                    try dsimp only at h
                    obtain ⟨hbb, hR, hP⟩ := h.fin (by kernel_rfl) (by kernel_rfl)
                    obtain ⟨g12, A12, ca12, C12, cc12, ed, ex, hx, hm, -⟩ := hP
                    simp only [ptr] at ex
                    clear h ed
                    simp only [pmA, List.foldl_cons, List.foldl_nil, Act.put, List.setIfInBounds_toArray, List.set_cons_zero, List.set_cons_succ]
                    rw [ex, hR]
                    clear ex hR
                    refine wpAnyH_take (i := 11) (v := ?_) rfl (by kernel_rfl) (by kernel_rfl) (by kernel_rfl) (fun _ _ _ h => h) (Or.inl ⟨by rfl, ?_⟩) (by assumption) ?_
                    rotate_left
                    · intro w hSw; go_simp; try with_reducible rfl
                    try simp only [Act.put, List.setIfInBounds_toArray, List.set_cons_zero, List.set_cons_succ, List.getElem_toArray, List.getElem_cons_zero, List.getElem_cons_succ]
                    refine wpAnyH_done (by kernel_rfl) ?_ _
                    replace K_s := Lib.hid (K_s.out.on hbb)
                    replace K_y := Lib.hid (K_y.out.on hbb)
                    replace O_s := Lib.hid (O_s.out.on hbb)
                    replace O_y := Lib.hid (O_y.out.on hbb)
                    replace HW := Lib.hid (below_on HW.out hbb)
                    clear hbb hx hH
                    clear hm
                    go_upto_region 13 with fail
                    refine wp_region_held_drew (S := fun w' => Below v13.heap.size v13 w') (by kernel_rfl) (below_self v13).drew (fun hH => ?_)
                    refine wpAnyH_take (i := 0) (v := .agg #[.int .i64 2, .int .i64 32, .int .i64 16, .slice (some ⟨P11, 0, none⟩) 32 ca11, .slice (some ⟨Q11, 0, none⟩) 16 cc11]) rfl (by kernel_rfl) (by kernel_rfl) (by kernel_rfl) (fun _ _ _ h => h) (yieldsIf_load_mid (by rfl) 28 (.tmp 16) (by rfl) g11 0 (by rfl) [.int .i64 2, .int .i64 32, .int .i64 16, .slice (some ⟨P11, 0, none⟩) 32 ca11, .slice (some ⟨Q11, 0, none⟩) 16 cc11] _ (fun w hS => ((K_y.out.on hS).range)) Try.underlying28 rfl info_state) (by assumption) ?_
                    try simp only [Act.put, List.setIfInBounds_toArray, List.set_cons_zero, List.set_cons_succ, List.getElem_toArray, List.getElem_cons_zero, List.getElem_cons_succ]
                    refine wpAnyH_inv (f0 := 1) [1, 2, 3, 4, 5, 6, 7, 8, 9, 10] [120, 121, 122, 123, 124, 118, 125, 126, 20] (fun l tm w => PHI v13 [3] [5] 2 32 16 (some ⟨P11, 0, none⟩) 32 ca11 (some ⟨Q11, 0, none⟩) 16 cc11 none (.int .i64 8) [] true true (fun _ _ => undef) (l 1) (l 2) (l 3) (l 4) false (l 5) (l 6) (l 7) (l 8) (l 9) false (l 10) (tm 120) (tm 121) (tm 122) (tm 123) undef (tm 124) (tm 118) (tm 125) (tm 126) (tm 20) undef w) (by kernel_rfl) (by kernel_rfl) rfl (by decide) (fun l tm w h => h.bb) ?start (AllSteps.cons rfl ?o1 (AllSteps.cons rfl ?o2 (AllSteps.cons rfl ?o3 (AllSteps.cons rfl ?o4 (AllSteps.cons rfl ?o5 (AllSteps.cons rfl ?o6 (AllSteps.cons rfl ?o7 (AllSteps.cons rfl ?o8 (AllSteps.cons rfl ?o9 (AllSteps.cons rfl ?o10 AllSteps.nil)))))))))) ?fin
                    case o1 =>
                      intro l tm w h hl hd K hK
                      try dsimp only at h
                      rw [hl] at h
                      have hh := h.addB1 (below_alloc w (.cells #[.int .i64 3] 3)) (lis_one w 3)
                      exact st_run (v := .slice (some ⟨w.heap.size, 0, none⟩) 1 1) (by rfl) (by kernel_rfl) (hK.out _ _ hh)
                    case o2 =>
                      intro l tm w h hl hd K hK
                      try dsimp only at h
                      rw [hl] at h
                      have hs := h.early1.1
                      have h0 := h
                      rw [hs] at h0
                      obtain ⟨⟨B, nB, cB, eB, -⟩, -⟩ := h0.way1 (hd 1 (by kernel_rfl))
                      have hc := way_is (A := B) (n := nB) (cap := cB) w
                      rw [← eB] at hc
                      refine st_call (f := 11) (args := #[(tm 120)]) (w' := w) (by rfl) (by kernel_rfl) (hc.mono ?_)
                      rintro e w1 ⟨rfl, hb⟩
                      exact ⟨_, rfl, hK.out _ _ (h.addW1 (hd 1 (by kernel_rfl)) hb rfl)⟩
                    case o3 =>
                      intro l tm w h hl hd K hK
                      try dsimp only at h
                      rw [hl] at h
                      have hh := h.addB2 (below_alloc w (.cells #[.int .i64 5] 3)) (lis_one w 5)
                      exact st_run (v := .slice (some ⟨w.heap.size, 0, none⟩) 1 1) (by rfl) (by kernel_rfl) (hK.out _ _ hh)
                    case o4 =>
                      intro l tm w h hl hd K hK
                      try dsimp only at h
                      rw [hl] at h
                      have hs := h.early2.1
                      have h0 := h
                      rw [hs] at h0
                      obtain ⟨⟨B, nB, cB, eB, -⟩, -⟩ := h0.way2 (hd 3 (by kernel_rfl))
                      have hc := way_is (A := B) (n := nB) (cap := cB) w
                      rw [← eB] at hc
                      refine st_call (f := 11) (args := #[(tm 122)]) (w' := w) (by rfl) (by kernel_rfl) (hc.mono ?_)
                      rintro e w1 ⟨rfl, hb⟩
                      exact ⟨_, rfl, hK.out _ _ (h.addW2 (hd 3 (by kernel_rfl)) hb rfl)⟩
                    case o5 =>
                      intro l tm w h hl hd K hK
                      try dsimp only at h
                      rw [hl] at h
                      have d1 := hd 2 (by kernel_rfl)
                      have d2 := hd 4 (by kernel_rfl)
                      have hs : l 10 = false := h.notS.1
                      have h0 := h
                      rw [hs] at h0
                      obtain ⟨⟨B1, n1, k1, eB1, eN1, eK1, eI1⟩, eW1⟩ := h0.way1 ((h0.rg rfl).w1 d1).1
                      obtain ⟨⟨B2, n2, k2, eB2, eN2, eK2, eI2⟩, eW2⟩ := h0.way2 ((h0.rg rfl).w2 d2).1
                      have hW1 := (eW1 d1).trans (by rw [eB1])
                      have hW2 := (eW2 d2).trans (by rw [eB2])
                      have hA : #[.agg #[.int .i64 2, .int .i64 32, .int .i64 16, .slice (some ⟨P11, 0, none⟩) 32 ca11, .slice (some ⟨Q11, 0, none⟩) 16 cc11], (tm 121), (tm 123), .int .i64 2, .int .i64 4] = #[.agg #[.int .i64 2, .int .i64 32, .int .i64 16, .slice (some ⟨P11, 0, none⟩) 32 ca11, .slice (some ⟨Q11, 0, none⟩) 16 cc11], .agg #[.slice B1 n1 k1], .agg #[.slice B2 n2 k2], .int .i64 2, .int .i64 4] := by rw [hW1, hW2]
                      refine st_call (f := 10) (args := #[.agg #[.int .i64 2, .int .i64 32, .int .i64 16, .slice (some ⟨P11, 0, none⟩) 32 ca11, .slice (some ⟨Q11, 0, none⟩) 16 cc11], (tm 121), (tm 123), .int .i64 2, .int .i64 4]) (w' := w) (by rfl) (by kernel_rfl) ?_
                      rw [hA]
                      refine (does_is ⟨(O_y.out.on h.bb).lies, rfl, cky_len.1.symm, cky_len.2.symm, by decide, by decide, HC_y.out.1, HC_y.out.2⟩ eN1 eK1 eI1 eN2 eK2 eI2 ck_j).mono ?_
                      rintro e w1 ⟨A', ca', C', cc', rfl, hb, hm⟩
                      obtain ⟨q1, q2⟩ := resD_of (a := 2) (b := 32) (c := 16) (R := (.int .i64 8)) h.bb.size hm ckpos_none
                      exact ⟨_, rfl, hK.out _ _ (h.addD hb q1 q2)⟩
                    case o6 =>
                      intro l tm w h hl hd K hK
                      try dsimp only at h
                      rw [hl] at h
                      exact st_run (v := tm 124) (w' := w) (by rfl) (by kernel_rfl) (hK.out _ _ (h.addMv (hd 5 (by kernel_rfl)) rfl))
                    case o7 =>
                      intro l tm w h hl hd K hK
                      try dsimp only at h
                      rw [hl] at h
                      obtain ⟨A', ca', C', cc', eT, -⟩ := h.tup (hd 6 (by kernel_rfl))
                      refine st_run (v := .agg #[.int .i64 2, .int .i64 32, .int .i64 16, .slice A' 32 ca', .slice C' 16 cc']) (w' := w) (by rfl) ?_ (hK.out _ _ (h.addE1 (hd 6 (by kernel_rfl)) eT))
                      simp only [List.getElem_toArray, List.getElem_cons_zero, List.getElem_cons_succ, pmA, List.foldl_cons, List.foldl_nil, Act.put, List.setIfInBounds_toArray, List.set_cons_zero, List.set_cons_succ]
                      rw [eT]
                      kernel_rfl
                    case o8 =>
                      intro l tm w h hl hd K hK
                      try dsimp only at h
                      rw [hl] at h
                      obtain ⟨A', ca', C', cc', eT, -⟩ := h.tup (hd 6 (by kernel_rfl))
                      refine st_run (v := (.int .i64 8)) (w' := w) (by rfl) ?_ (hK.out _ _ (h.addE2 (hd 6 (by kernel_rfl)) eT))
                      simp only [List.getElem_toArray, List.getElem_cons_zero, List.getElem_cons_succ, pmA, List.foldl_cons, List.foldl_nil, Act.put, List.setIfInBounds_toArray, List.set_cons_zero, List.set_cons_succ]
                      rw [eT]
                      kernel_rfl
                    case o9 =>
                      intro l tm w h hl hd K hK
                      try dsimp only at h
                      rw [hl] at h
                      have hh := h.addQ ckpos_none 28
                      exact st_run (v := ptr w.heap.size) (by rfl) (by kernel_rfl) (hK.out _ _ hh)
                    case o10 =>
                      intro l tm w h hl hd K hK
                      try dsimp only at h
                      rw [hl] at h
                      obtain ⟨x, A', ca', C', cc', ex, e1, ed, hw⟩ := h.atS' (hd 5 (by kernel_rfl)) (hd 6 (by kernel_rfl)) (hd 7 (by kernel_rfl)) (hd 9 (by kernel_rfl))
                      have HT : Hid (w.there x 0 (#[.int .i64 2, .int .i64 32, .int .i64 16, .slice A' 32 ca', .slice C' 16 cc'] : Array Value).size) := Lib.hid (hw.there (n := 5) rfl)
                      have HO := Lib.hid (state_one 2 32 16 A' 32 ca' C' 16 cc')
                      refine st_store (by rfl) 28 (.tmp 20) (.tmp 125) (by rfl) x 0 #[.int .i64 2, .int .i64 32, .int .i64 16, .slice A' 32 ca', .slice C' 16 cc'] ((by kernel_rfl : _ = tm 20).trans ex) ((by kernel_rfl : _ = tm 125).trans e1) HT.out info_state HO.out ?_
                      refine hK.out undef (w.setCells x 0 [.int .i64 2, .int .i64 32, .int .i64 16, .slice A' 32 ca', .slice C' 16 cc']) ?_
                      exact h.addS' (hd 1 (by kernel_rfl)) (hd 2 (by kernel_rfl)) (hd 3 (by kernel_rfl)) (hd 4 (by kernel_rfl)) (fun e => absurd e (by decide)) (hd 5 (by kernel_rfl)) (hd 6 (by kernel_rfl)) (hd 7 (by kernel_rfl)) (hd 9 (by kernel_rfl)) (fun e => absurd e (by decide)) ex ed
                    case start => exact ⟨hH, fun _ => ⟨hH, fun e => ff rfl e, fun e => ff rfl e, fun e => ff rfl e, fun e => ff rfl e, fun e => ff rfl e, fun e => ff rfl e, fun e => ff rfl e, fun e => ff rfl e, fun e => ff rfl e, fun e => ff rfl e⟩, fun e => ff rfl e, fun e => ff rfl e, fun e => ff rfl e, fun e => ff rfl e, fun e => ff rfl e, fun e => ff rfl e⟩
                    case fin =>
                      intro tm v14 h
                      try dsimp only at h
                      obtain ⟨hbb, hR, hP⟩ := h.fin (by kernel_rfl) (by kernel_rfl)
                      obtain ⟨g13, A13, ca13, C13, cc13, ed, ex, hx, hm, -⟩ := hP
                      simp only [ptr] at ex
                      clear h ed
                      obtain ⟨e1, e2, e3, e4⟩ := hm
                      replace e1 := e1.symm
                      replace e2 := e2.symm
                      replace e3 := e3.symm
                      replace e4 := e4.symm
                      subst e1 e2 e3 e4
                      simp only [pmA, List.foldl_cons, List.foldl_nil, Act.put, List.setIfInBounds_toArray, List.set_cons_zero, List.set_cons_succ]
                      rw [ex, hR]
                      clear ex hR
                      refine wpAnyH_take (i := 11) (v := ?_) rfl (by kernel_rfl) (by kernel_rfl) (by kernel_rfl) (fun _ _ _ h => h) (Or.inl ⟨by rfl, ?_⟩) (by assumption) ?_
                      rotate_left
                      · intro w hSw; go_simp; try with_reducible rfl
                      try simp only [Act.put, List.setIfInBounds_toArray, List.set_cons_zero, List.set_cons_succ, List.getElem_toArray, List.getElem_cons_zero, List.getElem_cons_succ]
                      refine wpAnyH_done (by kernel_rfl) ?_ _
                      replace K_s := Lib.hid (K_s.out.on hbb)
                      replace K_y := Lib.hid (K_y.out.on hbb)
                      replace O_s := Lib.hid (O_s.out.on hbb)
                      replace O_y := Lib.hid (O_y.out.on hbb)
                      replace HW := Lib.hid (below_on HW.out hbb)
                      have K_z := Lib.hid hx.bx
                      clear hbb hx hH
                      go_upto_region 14 with fail
                      refine wp_region_held_drew (S := fun w' => Below v14.heap.size v14 w') (by kernel_rfl) (below_self v14).drew (fun hH => ?_)
                      refine wpAnyH_take (i := 0) (v := .agg #[.int .i64 2, .int .i64 32, .int .i64 16, .slice (some ⟨P11, 0, none⟩) 32 ca11, .slice (some ⟨Q11, 0, none⟩) 16 cc11]) rfl (by kernel_rfl) (by kernel_rfl) (by kernel_rfl) (fun _ _ _ h => h) (yieldsIf_load_mid (by rfl) 28 (.tmp 20) (by rfl) g13 0 (by rfl) [.int .i64 2, .int .i64 32, .int .i64 16, .slice (some ⟨P11, 0, none⟩) 32 ca11, .slice (some ⟨Q11, 0, none⟩) 16 cc11] _ (fun w hS => ((K_z.out.on hS).range)) Try.underlying28 rfl info_state) (by assumption) ?_
                      try simp only [Act.put, List.setIfInBounds_toArray, List.set_cons_zero, List.set_cons_succ, List.getElem_toArray, List.getElem_cons_zero, List.getElem_cons_succ]
                      refine wpAnyH_inv (f0 := 1) [1, 2, 3, 4, 5, 6, 7, 8, 9, 10] [129, 130, 131, 132, 133, 127, 134, 135, 22] (fun l tm w => PHI v14 [3] [6] 2 32 16 (some ⟨P11, 0, none⟩) 32 ca11 (some ⟨Q11, 0, none⟩) 16 cc11 (some ckz) (.int .i64 0) [] true true (fun _ _ => undef) (l 1) (l 2) (l 3) (l 4) false (l 5) (l 6) (l 7) (l 8) (l 9) false (l 10) (tm 129) (tm 130) (tm 131) (tm 132) undef (tm 133) (tm 127) (tm 134) (tm 135) (tm 22) undef w) (by kernel_rfl) (by kernel_rfl) rfl (by decide) (fun l tm w h => h.bb) ?start (AllSteps.cons rfl ?o1 (AllSteps.cons rfl ?o2 (AllSteps.cons rfl ?o3 (AllSteps.cons rfl ?o4 (AllSteps.cons rfl ?o5 (AllSteps.cons rfl ?o6 (AllSteps.cons rfl ?o7 (AllSteps.cons rfl ?o8 (AllSteps.cons rfl ?o9 (AllSteps.cons rfl ?o10 AllSteps.nil)))))))))) ?fin
                      case o1 =>
                        intro l tm w h hl hd K hK
                        try dsimp only at h
                        rw [hl] at h
                        have hh := h.addB1 (below_alloc w (.cells #[.int .i64 3] 3)) (lis_one w 3)
                        exact st_run (v := .slice (some ⟨w.heap.size, 0, none⟩) 1 1) (by rfl) (by kernel_rfl) (hK.out _ _ hh)
                      case o2 =>
                        intro l tm w h hl hd K hK
                        try dsimp only at h
                        rw [hl] at h
                        have hs := h.early1.1
                        have h0 := h
                        rw [hs] at h0
                        obtain ⟨⟨B, nB, cB, eB, -⟩, -⟩ := h0.way1 (hd 1 (by kernel_rfl))
                        have hc := way_is (A := B) (n := nB) (cap := cB) w
                        rw [← eB] at hc
                        refine st_call (f := 11) (args := #[(tm 129)]) (w' := w) (by rfl) (by kernel_rfl) (hc.mono ?_)
                        rintro e w1 ⟨rfl, hb⟩
                        exact ⟨_, rfl, hK.out _ _ (h.addW1 (hd 1 (by kernel_rfl)) hb rfl)⟩
                      case o3 =>
                        intro l tm w h hl hd K hK
                        try dsimp only at h
                        rw [hl] at h
                        have hh := h.addB2 (below_alloc w (.cells #[.int .i64 6] 3)) (lis_one w 6)
                        exact st_run (v := .slice (some ⟨w.heap.size, 0, none⟩) 1 1) (by rfl) (by kernel_rfl) (hK.out _ _ hh)
                      case o4 =>
                        intro l tm w h hl hd K hK
                        try dsimp only at h
                        rw [hl] at h
                        have hs := h.early2.1
                        have h0 := h
                        rw [hs] at h0
                        obtain ⟨⟨B, nB, cB, eB, -⟩, -⟩ := h0.way2 (hd 3 (by kernel_rfl))
                        have hc := way_is (A := B) (n := nB) (cap := cB) w
                        rw [← eB] at hc
                        refine st_call (f := 11) (args := #[(tm 131)]) (w' := w) (by rfl) (by kernel_rfl) (hc.mono ?_)
                        rintro e w1 ⟨rfl, hb⟩
                        exact ⟨_, rfl, hK.out _ _ (h.addW2 (hd 3 (by kernel_rfl)) hb rfl)⟩
                      case o5 =>
                        intro l tm w h hl hd K hK
                        try dsimp only at h
                        rw [hl] at h
                        have d1 := hd 2 (by kernel_rfl)
                        have d2 := hd 4 (by kernel_rfl)
                        have hs : l 10 = false := h.notS.1
                        have h0 := h
                        rw [hs] at h0
                        obtain ⟨⟨B1, n1, k1, eB1, eN1, eK1, eI1⟩, eW1⟩ := h0.way1 ((h0.rg rfl).w1 d1).1
                        obtain ⟨⟨B2, n2, k2, eB2, eN2, eK2, eI2⟩, eW2⟩ := h0.way2 ((h0.rg rfl).w2 d2).1
                        have hW1 := (eW1 d1).trans (by rw [eB1])
                        have hW2 := (eW2 d2).trans (by rw [eB2])
                        have hA : #[.agg #[.int .i64 2, .int .i64 32, .int .i64 16, .slice (some ⟨P11, 0, none⟩) 32 ca11, .slice (some ⟨Q11, 0, none⟩) 16 cc11], (tm 130), (tm 132), .int .i64 2, .int .i64 1] = #[.agg #[.int .i64 2, .int .i64 32, .int .i64 16, .slice (some ⟨P11, 0, none⟩) 32 ca11, .slice (some ⟨Q11, 0, none⟩) 16 cc11], .agg #[.slice B1 n1 k1], .agg #[.slice B2 n2 k2], .int .i64 2, .int .i64 1] := by rw [hW1, hW2]
                        refine st_call (f := 10) (args := #[.agg #[.int .i64 2, .int .i64 32, .int .i64 16, .slice (some ⟨P11, 0, none⟩) 32 ca11, .slice (some ⟨Q11, 0, none⟩) 16 cc11], (tm 130), (tm 132), .int .i64 2, .int .i64 1]) (w' := w) (by rfl) (by kernel_rfl) ?_
                        rw [hA]
                        refine (does_is ⟨(O_y.out.on h.bb).lies, rfl, cky_len.1.symm, cky_len.2.symm, by decide, by decide, HC_y.out.1, HC_y.out.2⟩ eN1 eK1 eI1 eN2 eK2 eI2 ck_k).mono ?_
                        rintro e w1 ⟨A', ca', C', cc', rfl, hb, hm⟩
                        obtain ⟨q1, q2⟩ := resD_of (a := 2) (b := 32) (c := 16) (R := (.int .i64 0)) h.bb.size hm (ckpos_of ckz_len)
                        exact ⟨_, rfl, hK.out _ _ (h.addD hb q1 q2)⟩
                      case o6 =>
                        intro l tm w h hl hd K hK
                        try dsimp only at h
                        rw [hl] at h
                        exact st_run (v := tm 133) (w' := w) (by rfl) (by kernel_rfl) (hK.out _ _ (h.addMv (hd 5 (by kernel_rfl)) rfl))
                      case o7 =>
                        intro l tm w h hl hd K hK
                        try dsimp only at h
                        rw [hl] at h
                        obtain ⟨A', ca', C', cc', eT, -⟩ := h.tup (hd 6 (by kernel_rfl))
                        refine st_run (v := .agg #[.int .i64 2, .int .i64 32, .int .i64 16, .slice A' 32 ca', .slice C' 16 cc']) (w' := w) (by rfl) ?_ (hK.out _ _ (h.addE1 (hd 6 (by kernel_rfl)) eT))
                        simp only [List.getElem_toArray, List.getElem_cons_zero, List.getElem_cons_succ, pmA, List.foldl_cons, List.foldl_nil, Act.put, List.setIfInBounds_toArray, List.set_cons_zero, List.set_cons_succ]
                        rw [eT]
                        kernel_rfl
                      case o8 =>
                        intro l tm w h hl hd K hK
                        try dsimp only at h
                        rw [hl] at h
                        obtain ⟨A', ca', C', cc', eT, -⟩ := h.tup (hd 6 (by kernel_rfl))
                        refine st_run (v := (.int .i64 0)) (w' := w) (by rfl) ?_ (hK.out _ _ (h.addE2 (hd 6 (by kernel_rfl)) eT))
                        simp only [List.getElem_toArray, List.getElem_cons_zero, List.getElem_cons_succ, pmA, List.foldl_cons, List.foldl_nil, Act.put, List.setIfInBounds_toArray, List.set_cons_zero, List.set_cons_succ]
                        rw [eT]
                        kernel_rfl
                      case o9 =>
                        intro l tm w h hl hd K hK
                        try dsimp only at h
                        rw [hl] at h
                        have hh := h.addQ (ckpos_of ckz_len) 28
                        exact st_run (v := ptr w.heap.size) (by rfl) (by kernel_rfl) (hK.out _ _ hh)
                      case o10 =>
                        intro l tm w h hl hd K hK
                        try dsimp only at h
                        rw [hl] at h
                        obtain ⟨x, A', ca', C', cc', ex, e1, ed, hw⟩ := h.atS' (hd 5 (by kernel_rfl)) (hd 6 (by kernel_rfl)) (hd 7 (by kernel_rfl)) (hd 9 (by kernel_rfl))
                        have HT : Hid (w.there x 0 (#[.int .i64 2, .int .i64 32, .int .i64 16, .slice A' 32 ca', .slice C' 16 cc'] : Array Value).size) := Lib.hid (hw.there (n := 5) rfl)
                        have HO := Lib.hid (state_one 2 32 16 A' 32 ca' C' 16 cc')
                        refine st_store (by rfl) 28 (.tmp 22) (.tmp 134) (by rfl) x 0 #[.int .i64 2, .int .i64 32, .int .i64 16, .slice A' 32 ca', .slice C' 16 cc'] ((by kernel_rfl : _ = tm 22).trans ex) ((by kernel_rfl : _ = tm 134).trans e1) HT.out info_state HO.out ?_
                        refine hK.out undef (w.setCells x 0 [.int .i64 2, .int .i64 32, .int .i64 16, .slice A' 32 ca', .slice C' 16 cc']) ?_
                        exact h.addS' (hd 1 (by kernel_rfl)) (hd 2 (by kernel_rfl)) (hd 3 (by kernel_rfl)) (hd 4 (by kernel_rfl)) (fun e => absurd e (by decide)) (hd 5 (by kernel_rfl)) (hd 6 (by kernel_rfl)) (hd 7 (by kernel_rfl)) (hd 9 (by kernel_rfl)) (fun e => absurd e (by decide)) ex ed
                      case start => exact ⟨hH, fun _ => ⟨hH, fun e => ff rfl e, fun e => ff rfl e, fun e => ff rfl e, fun e => ff rfl e, fun e => ff rfl e, fun e => ff rfl e, fun e => ff rfl e, fun e => ff rfl e, fun e => ff rfl e, fun e => ff rfl e⟩, fun e => ff rfl e, fun e => ff rfl e, fun e => ff rfl e, fun e => ff rfl e, fun e => ff rfl e, fun e => ff rfl e⟩
                      case fin =>
                        intro tm v15 h
                        try dsimp only at h
                        obtain ⟨hbb, hR, hP⟩ := h.fin (by kernel_rfl) (by kernel_rfl)
                        obtain ⟨g14, A14, ca14, C14, cc14, ed, ex, hx, hm, -⟩ := hP
                        simp only [ptr] at ex
                        clear h ed
                        obtain ⟨hca, hcc, hF⟩ := hm
                        obtain ⟨P14, Q14, rfl, rfl, hO⟩ := hF.ost (by rw [ckz_len.1]; decide) (by rw [ckz_len.2]; decide) hbb
                        simp only [pmA, List.foldl_cons, List.foldl_nil, Act.put, List.setIfInBounds_toArray, List.set_cons_zero, List.set_cons_succ]
                        rw [ex, hR]
                        clear ex hR
                        refine wpAnyH_take (i := 11) (v := ?_) rfl (by kernel_rfl) (by kernel_rfl) (by kernel_rfl) (fun _ _ _ h => h) (Or.inl ⟨by rfl, ?_⟩) (by assumption) ?_
                        rotate_left
                        · intro w hSw; go_simp; try with_reducible rfl
                        try simp only [Act.put, List.setIfInBounds_toArray, List.set_cons_zero, List.set_cons_succ, List.getElem_toArray, List.getElem_cons_zero, List.getElem_cons_succ]
                        refine wpAnyH_done (by kernel_rfl) ?_ _
                        replace K_s := Lib.hid (K_s.out.on hbb)
                        replace K_y := Lib.hid (K_y.out.on hbb)
                        replace K_z := Lib.hid (K_z.out.on hbb)
                        replace O_s := Lib.hid (O_s.out.on hbb)
                        replace O_y := Lib.hid (O_y.out.on hbb)
                        replace HW := Lib.hid (below_on HW.out hbb)
                        have K_zz := Lib.hid hx.bx
                        have O_zz := Lib.hid hO
                        have HC_zz := Lib.hid (⟨hca, hcc⟩ : 32 ≤ ca14 ∧ 16 ≤ cc14)
                        clear hca hcc hF hO
                        clear hbb hx hH
                        go_upto_region 15 with fail
                        clear K_zz
                        clear O_zz
                        have t0 := K_s.out.c 0 _ rfl
                        have t1 := K_s.out.c 1 _ rfl
                        have t2 := K_s.out.c 2 _ rfl
                        have t3 := K_s.out.c 3 _ rfl
                        have t4 := K_s.out.c 4 _ rfl
                        go_wp2_with fail
                        refine (pclone_is ⟨O_s.out.lies, rfl, s64_len.1.symm, s64_len.2.symm, by decide, by decide, HC_s.out.1, HC_s.out.2⟩).mono ?_
                        rintro e u15 ⟨A15, ca15, C15, cc15, rfl, hca, hcc, hF, hb⟩
                        obtain ⟨P15, Q15, rfl, rfl, hO⟩ := hF.ost (by rw [s64_len.1]; decide) (by rw [s64_len.2]; decide) hb
                        clear t0 t1 t2 t3 t4
                        go_upto_region 16 with fail
                        have NE15 : Hid (w.heap.size ≤ P15 ∧ w.heap.size ≤ Q15 ∧ gs < P15 ∧ gs < Q15 ∧ g11 < P15 ∧ g11 < Q15 ∧ g13 < P15 ∧ g13 < Q15 ∧ Ps < P15 ∧ Ps < Q15 ∧ Qs < P15 ∧ Qs < Q15 ∧ P11 < P15 ∧ P11 < Q15 ∧ Q11 < P15 ∧ Q11 < Q15) := Lib.hid (by
                          have e1 := hO.oP
                          have e2 := hO.oQ
                          have e3 := HW.out.size
                          have k0 := K_s.out.lt
                          have k1 := K_y.out.lt
                          have k2 := K_z.out.lt
                          have o0 := O_s.out.lP
                          have o1 := O_y.out.lP
                          have p0 := O_s.out.lQ
                          have p1 := O_y.out.lQ
                          omega)
                        have N := Bxs.more (below_on HW.out hb) [.int .i64 2, .int .i64 32, .int .i64 16, .slice (some ⟨P15, 0, none⟩) 32 ca15, .slice (some ⟨Q15, 0, none⟩) 16 cc15] 28
                        have hal := below_alloc u15 (.cells #[.int .i64 2, .int .i64 32, .int .i64 16, .slice (some ⟨P15, 0, none⟩) 32 ca15, .slice (some ⟨Q15, 0, none⟩) 16 cc15] 28)
                        have NG15 : Hid (P15 < u15.heap.size ∧ Q15 < u15.heap.size ∧ P15 ≠ Q15) := Lib.hid ⟨hO.lP, hO.lQ, hO.PQ⟩
                        replace hb := below_on hb hal
                        replace K_s := Lib.hid (K_s.out.on hb)
                        replace K_y := Lib.hid (K_y.out.on hb)
                        replace K_z := Lib.hid (K_z.out.on hb)
                        replace O_s := Lib.hid (O_s.out.on hb)
                        replace O_y := Lib.hid (O_y.out.on hb)
                        replace HW := Lib.hid (below_on HW.out hb)
                        have O_low := Lib.hid (hO.on hal)
                        have HC_low := Lib.hid (⟨hca, hcc⟩ : 32 ≤ ca15 ∧ 16 ≤ cc15)
                        clear hb hal hF hO hca hcc
                        obtain ⟨g15, hj⟩ : ∃ j, j = u15.heap.size := ⟨_, rfl⟩
                        rw [← hj] at N NG15 ⊢
                        clear hj
                        generalize u15.alloc _ = v16 at N HW K_s K_y K_z O_s O_y O_low ⊢
                        have K_low := Lib.hid N
                        clear N
                        have n3 := K_low.out.c 3 _ rfl
                        have m3 := K_y.out.c 3 _ rfl
                        have m4 := K_y.out.c 4 _ rfl
                        have z4 := K_z.out.c 4 _ rfl
                        go_upto_region 18 with fail
                        clear m3 m4 z4
                        have c2 := O_low.out.sl 0 (by rw [s64_len.1]; decide) 2 _ rfl
                        have f2 := O_low.out.Pf 2
                        simp only [Nat.reduceMul, Nat.reduceAdd] at c2
                        have oo := O_low.out.putS1 (i := 0) (by rw [s64_len.1]; decide) 2 (by decide) (.int .i64 1) ⟨⟨1, 0, 1, 0⟩, -1⟩ (by kernel_rfl)
                        rw [ck_low] at oo
                        simp only [Nat.reduceMul, Nat.reduceAdd] at oo
                        have k_s := K_s.out.beside (i := 2) (Nat.ne_of_lt (NE15.out.2.2.1)) (Nat.le_trans K_s.out.base (Nat.le_of_lt (NE15.out.2.2.1))) (.int .i64 1)
                        have k_y := K_y.out.beside (i := 2) (Nat.ne_of_lt (NE15.out.2.2.2.2.1)) (Nat.le_trans K_y.out.base (Nat.le_of_lt (NE15.out.2.2.2.2.1))) (.int .i64 1)
                        have k_z := K_z.out.beside (i := 2) (Nat.ne_of_lt (NE15.out.2.2.2.2.2.2.1)) (Nat.le_trans K_z.out.base (Nat.le_of_lt (NE15.out.2.2.2.2.2.2.1))) (.int .i64 1)
                        have k_low := K_low.out.beside (i := 2) (Nat.ne_of_gt (NG15.out.1)) (NE15.out.1) (.int .i64 1)
                        have o_s := O_s.out.mark (i := 2) (v := .int .i64 1) (Nat.ne_of_lt (NE15.out.2.2.2.2.2.2.2.2.1)) (Nat.ne_of_lt (NE15.out.2.2.2.2.2.2.2.2.2.2.1)) (Nat.le_trans O_s.out.oP (Nat.le_of_lt (NE15.out.2.2.2.2.2.2.2.2.1)))
                        have o_y := O_y.out.mark (i := 2) (v := .int .i64 1) (Nat.ne_of_lt (NE15.out.2.2.2.2.2.2.2.2.2.2.2.2.1)) (Nat.ne_of_lt (NE15.out.2.2.2.2.2.2.2.2.2.2.2.2.2.2.1)) (Nat.le_trans O_y.out.oP (Nat.le_of_lt (NE15.out.2.2.2.2.2.2.2.2.2.2.2.2.1)))
                        have hw : Below w.heap.size w (v16.setCell ⟨P15, 2, none⟩ (.int .i64 1)) := HW.out.setCell (NE15.out.1) _
                        go_upto_region 19 with fail
                        clear c2 f2
                        generalize v16.setCell _ _ = v19 at k_s k_y k_z k_low o_s o_y hw oo ⊢
                        replace K_s := Lib.hid k_s
                        replace K_y := Lib.hid k_y
                        replace K_z := Lib.hid k_z
                        replace K_low := Lib.hid k_low
                        replace O_s := Lib.hid o_s
                        replace O_y := Lib.hid o_y
                        replace HW := Lib.hid hw
                        replace O_low := Lib.hid oo
                        clear k_s k_y k_z k_low o_s o_y hw oo
                        clear n3
                        refine wp_region_held_drew (S := fun w' => Below v19.heap.size v19 w') (by kernel_rfl) (below_self v19).drew (fun hH => ?_)
                        refine wpAnyH_take (i := 0) (v := .agg #[.int .i64 2, .int .i64 32, .int .i64 16, .slice (some ⟨P15, 0, none⟩) 32 ca15, .slice (some ⟨Q15, 0, none⟩) 16 cc15]) rfl (by kernel_rfl) (by kernel_rfl) (by kernel_rfl) (fun _ _ _ h => h) (yieldsIf_load_mid (by rfl) 28 (.tmp 24) (by rfl) g15 0 (by rfl) [.int .i64 2, .int .i64 32, .int .i64 16, .slice (some ⟨P15, 0, none⟩) 32 ca15, .slice (some ⟨Q15, 0, none⟩) 16 cc15] _ (fun w hS => ((K_low.out.on hS).range)) Try.underlying28 rfl info_state) (by assumption) ?_
                        try simp only [Act.put, List.setIfInBounds_toArray, List.set_cons_zero, List.set_cons_succ, List.getElem_toArray, List.getElem_cons_zero, List.getElem_cons_succ]
                        refine wpAnyH_inv (f0 := 1) [1, 2, 3, 4, 5, 6, 7, 8, 9, 10] [167, 168, 169, 170, 171, 165, 172, 173, 25] (fun l tm w => PHI v19 [0] [3] 2 32 16 (some ⟨P15, 0, none⟩) 32 ca15 (some ⟨Q15, 0, none⟩) 16 cc15 none (.int .i64 6) [] true true (fun _ _ => undef) (l 1) (l 2) (l 3) (l 4) false (l 5) (l 6) (l 7) (l 8) (l 9) false (l 10) (tm 167) (tm 168) (tm 169) (tm 170) undef (tm 171) (tm 165) (tm 172) (tm 173) (tm 25) undef w) (by kernel_rfl) (by kernel_rfl) rfl (by decide) (fun l tm w h => h.bb) ?start (AllSteps.cons rfl ?o1 (AllSteps.cons rfl ?o2 (AllSteps.cons rfl ?o3 (AllSteps.cons rfl ?o4 (AllSteps.cons rfl ?o5 (AllSteps.cons rfl ?o6 (AllSteps.cons rfl ?o7 (AllSteps.cons rfl ?o8 (AllSteps.cons rfl ?o9 (AllSteps.cons rfl ?o10 AllSteps.nil)))))))))) ?fin
                        case o1 =>
                          intro l tm w h hl hd K hK
                          try dsimp only at h
                          rw [hl] at h
                          have hh := h.addB1 (below_alloc w (.cells #[.int .i64 0] 3)) (lis_one w 0)
                          exact st_run (v := .slice (some ⟨w.heap.size, 0, none⟩) 1 1) (by rfl) (by kernel_rfl) (hK.out _ _ hh)
                        case o2 =>
                          intro l tm w h hl hd K hK
                          try dsimp only at h
                          rw [hl] at h
                          have hs := h.early1.1
                          have h0 := h
                          rw [hs] at h0
                          obtain ⟨⟨B, nB, cB, eB, -⟩, -⟩ := h0.way1 (hd 1 (by kernel_rfl))
                          have hc := way_is (A := B) (n := nB) (cap := cB) w
                          rw [← eB] at hc
                          refine st_call (f := 11) (args := #[(tm 167)]) (w' := w) (by rfl) (by kernel_rfl) (hc.mono ?_)
                          rintro e w1 ⟨rfl, hb⟩
                          exact ⟨_, rfl, hK.out _ _ (h.addW1 (hd 1 (by kernel_rfl)) hb rfl)⟩
                        case o3 =>
                          intro l tm w h hl hd K hK
                          try dsimp only at h
                          rw [hl] at h
                          have hh := h.addB2 (below_alloc w (.cells #[.int .i64 3] 3)) (lis_one w 3)
                          exact st_run (v := .slice (some ⟨w.heap.size, 0, none⟩) 1 1) (by rfl) (by kernel_rfl) (hK.out _ _ hh)
                        case o4 =>
                          intro l tm w h hl hd K hK
                          try dsimp only at h
                          rw [hl] at h
                          have hs := h.early2.1
                          have h0 := h
                          rw [hs] at h0
                          obtain ⟨⟨B, nB, cB, eB, -⟩, -⟩ := h0.way2 (hd 3 (by kernel_rfl))
                          have hc := way_is (A := B) (n := nB) (cap := cB) w
                          rw [← eB] at hc
                          refine st_call (f := 11) (args := #[(tm 169)]) (w' := w) (by rfl) (by kernel_rfl) (hc.mono ?_)
                          rintro e w1 ⟨rfl, hb⟩
                          exact ⟨_, rfl, hK.out _ _ (h.addW2 (hd 3 (by kernel_rfl)) hb rfl)⟩
                        case o5 =>
                          intro l tm w h hl hd K hK
                          try dsimp only at h
                          rw [hl] at h
                          have d1 := hd 2 (by kernel_rfl)
                          have d2 := hd 4 (by kernel_rfl)
                          have hs : l 10 = false := h.notS.1
                          have h0 := h
                          rw [hs] at h0
                          obtain ⟨⟨B1, n1, k1, eB1, eN1, eK1, eI1⟩, eW1⟩ := h0.way1 ((h0.rg rfl).w1 d1).1
                          obtain ⟨⟨B2, n2, k2, eB2, eN2, eK2, eI2⟩, eW2⟩ := h0.way2 ((h0.rg rfl).w2 d2).1
                          have hW1 := (eW1 d1).trans (by rw [eB1])
                          have hW2 := (eW2 d2).trans (by rw [eB2])
                          have hA : #[.agg #[.int .i64 2, .int .i64 32, .int .i64 16, .slice (some ⟨P15, 0, none⟩) 32 ca15, .slice (some ⟨Q15, 0, none⟩) 16 cc15], (tm 168), (tm 170), .int .i64 4, .int .i64 0] = #[.agg #[.int .i64 2, .int .i64 32, .int .i64 16, .slice (some ⟨P15, 0, none⟩) 32 ca15, .slice (some ⟨Q15, 0, none⟩) 16 cc15], .agg #[.slice B1 n1 k1], .agg #[.slice B2 n2 k2], .int .i64 4, .int .i64 0] := by rw [hW1, hW2]
                          refine st_call (f := 10) (args := #[.agg #[.int .i64 2, .int .i64 32, .int .i64 16, .slice (some ⟨P15, 0, none⟩) 32 ca15, .slice (some ⟨Q15, 0, none⟩) 16 cc15], (tm 168), (tm 170), .int .i64 4, .int .i64 0]) (w' := w) (by rfl) (by kernel_rfl) ?_
                          rw [hA]
                          refine (does_is ⟨(O_low.out.on h.bb).lies, rfl, ckl_len.1.symm, ckl_len.2.symm, by decide, by decide, HC_low.out.1, HC_low.out.2⟩ eN1 eK1 eI1 eN2 eK2 eI2 ck_l).mono ?_
                          rintro e w1 ⟨A', ca', C', cc', rfl, hb, hm⟩
                          obtain ⟨q1, q2⟩ := resD_of (a := 2) (b := 32) (c := 16) (R := (.int .i64 6)) h.bb.size hm ckpos_none
                          exact ⟨_, rfl, hK.out _ _ (h.addD hb q1 q2)⟩
                        case o6 =>
                          intro l tm w h hl hd K hK
                          try dsimp only at h
                          rw [hl] at h
                          exact st_run (v := tm 171) (w' := w) (by rfl) (by kernel_rfl) (hK.out _ _ (h.addMv (hd 5 (by kernel_rfl)) rfl))
                        case o7 =>
                          intro l tm w h hl hd K hK
                          try dsimp only at h
                          rw [hl] at h
                          obtain ⟨A', ca', C', cc', eT, -⟩ := h.tup (hd 6 (by kernel_rfl))
                          refine st_run (v := .agg #[.int .i64 2, .int .i64 32, .int .i64 16, .slice A' 32 ca', .slice C' 16 cc']) (w' := w) (by rfl) ?_ (hK.out _ _ (h.addE1 (hd 6 (by kernel_rfl)) eT))
                          simp only [List.getElem_toArray, List.getElem_cons_zero, List.getElem_cons_succ, pmA, List.foldl_cons, List.foldl_nil, Act.put, List.setIfInBounds_toArray, List.set_cons_zero, List.set_cons_succ]
                          rw [eT]
                          kernel_rfl
                        case o8 =>
                          intro l tm w h hl hd K hK
                          try dsimp only at h
                          rw [hl] at h
                          obtain ⟨A', ca', C', cc', eT, -⟩ := h.tup (hd 6 (by kernel_rfl))
                          refine st_run (v := (.int .i64 6)) (w' := w) (by rfl) ?_ (hK.out _ _ (h.addE2 (hd 6 (by kernel_rfl)) eT))
                          simp only [List.getElem_toArray, List.getElem_cons_zero, List.getElem_cons_succ, pmA, List.foldl_cons, List.foldl_nil, Act.put, List.setIfInBounds_toArray, List.set_cons_zero, List.set_cons_succ]
                          rw [eT]
                          kernel_rfl
                        case o9 =>
                          intro l tm w h hl hd K hK
                          try dsimp only at h
                          rw [hl] at h
                          have hh := h.addQ ckpos_none 28
                          exact st_run (v := ptr w.heap.size) (by rfl) (by kernel_rfl) (hK.out _ _ hh)
                        case o10 =>
                          intro l tm w h hl hd K hK
                          try dsimp only at h
                          rw [hl] at h
                          obtain ⟨x, A', ca', C', cc', ex, e1, ed, hw⟩ := h.atS' (hd 5 (by kernel_rfl)) (hd 6 (by kernel_rfl)) (hd 7 (by kernel_rfl)) (hd 9 (by kernel_rfl))
                          have HT : Hid (w.there x 0 (#[.int .i64 2, .int .i64 32, .int .i64 16, .slice A' 32 ca', .slice C' 16 cc'] : Array Value).size) := Lib.hid (hw.there (n := 5) rfl)
                          have HO := Lib.hid (state_one 2 32 16 A' 32 ca' C' 16 cc')
                          refine st_store (by rfl) 28 (.tmp 25) (.tmp 172) (by rfl) x 0 #[.int .i64 2, .int .i64 32, .int .i64 16, .slice A' 32 ca', .slice C' 16 cc'] ((by kernel_rfl : _ = tm 25).trans ex) ((by kernel_rfl : _ = tm 172).trans e1) HT.out info_state HO.out ?_
                          refine hK.out undef (w.setCells x 0 [.int .i64 2, .int .i64 32, .int .i64 16, .slice A' 32 ca', .slice C' 16 cc']) ?_
                          exact h.addS' (hd 1 (by kernel_rfl)) (hd 2 (by kernel_rfl)) (hd 3 (by kernel_rfl)) (hd 4 (by kernel_rfl)) (fun e => absurd e (by decide)) (hd 5 (by kernel_rfl)) (hd 6 (by kernel_rfl)) (hd 7 (by kernel_rfl)) (hd 9 (by kernel_rfl)) (fun e => absurd e (by decide)) ex ed
                        case start => exact ⟨hH, fun _ => ⟨hH, fun e => ff rfl e, fun e => ff rfl e, fun e => ff rfl e, fun e => ff rfl e, fun e => ff rfl e, fun e => ff rfl e, fun e => ff rfl e, fun e => ff rfl e, fun e => ff rfl e, fun e => ff rfl e⟩, fun e => ff rfl e, fun e => ff rfl e, fun e => ff rfl e, fun e => ff rfl e, fun e => ff rfl e, fun e => ff rfl e⟩
                        case fin =>
                          intro tm v20 h
                          try dsimp only at h
                          obtain ⟨hbb, hR, hP⟩ := h.fin (by kernel_rfl) (by kernel_rfl)
                          obtain ⟨g19, A19, ca19, C19, cc19, ed, ex, hx, hm, -⟩ := hP
                          simp only [ptr] at ex
                          clear h ed
                          simp only [pmA, List.foldl_cons, List.foldl_nil, Act.put, List.setIfInBounds_toArray, List.set_cons_zero, List.set_cons_succ]
                          rw [ex, hR]
                          clear ex hR
                          refine wpAnyH_take (i := 11) (v := ?_) rfl (by kernel_rfl) (by kernel_rfl) (by kernel_rfl) (fun _ _ _ h => h) (Or.inl ⟨by rfl, ?_⟩) (by assumption) ?_
                          rotate_left
                          · intro w hSw; go_simp; try with_reducible rfl
                          try simp only [Act.put, List.setIfInBounds_toArray, List.set_cons_zero, List.set_cons_succ, List.getElem_toArray, List.getElem_cons_zero, List.getElem_cons_succ]
                          refine wpAnyH_done (by kernel_rfl) ?_ _
                          replace K_s := Lib.hid (K_s.out.on hbb)
                          replace K_y := Lib.hid (K_y.out.on hbb)
                          replace K_z := Lib.hid (K_z.out.on hbb)
                          replace K_low := Lib.hid (K_low.out.on hbb)
                          replace O_s := Lib.hid (O_s.out.on hbb)
                          replace O_y := Lib.hid (O_y.out.on hbb)
                          replace O_low := Lib.hid (O_low.out.on hbb)
                          replace HW := Lib.hid (below_on HW.out hbb)
                          clear hbb hx hH
                          clear hm
                          go_upto_region 20 with fail
                          clear K_low
                          clear O_low
                          have t0 := K_s.out.c 0 _ rfl
                          have t1 := K_s.out.c 1 _ rfl
                          have t2 := K_s.out.c 2 _ rfl
                          have t3 := K_s.out.c 3 _ rfl
                          have t4 := K_s.out.c 4 _ rfl
                          go_wp2_with fail
                          refine (pclone_is ⟨O_s.out.lies, rfl, s64_len.1.symm, s64_len.2.symm, by decide, by decide, HC_s.out.1, HC_s.out.2⟩).mono ?_
                          rintro e u20 ⟨A20, ca20, C20, cc20, rfl, hca, hcc, hF, hb⟩
                          obtain ⟨P20, Q20, rfl, rfl, hO⟩ := hF.ost (by rw [s64_len.1]; decide) (by rw [s64_len.2]; decide) hb
                          clear t0 t1 t2 t3 t4
                          go_upto_region 21 with fail
                          have NE20 : Hid (w.heap.size ≤ P20 ∧ w.heap.size ≤ Q20 ∧ gs < P20 ∧ gs < Q20 ∧ g11 < P20 ∧ g11 < Q20 ∧ g13 < P20 ∧ g13 < Q20 ∧ Ps < P20 ∧ Ps < Q20 ∧ Qs < P20 ∧ Qs < Q20 ∧ P11 < P20 ∧ P11 < Q20 ∧ Q11 < P20 ∧ Q11 < Q20) := Lib.hid (by
                            have e1 := hO.oP
                            have e2 := hO.oQ
                            have e3 := HW.out.size
                            have k0 := K_s.out.lt
                            have k1 := K_y.out.lt
                            have k2 := K_z.out.lt
                            have o0 := O_s.out.lP
                            have o1 := O_y.out.lP
                            have p0 := O_s.out.lQ
                            have p1 := O_y.out.lQ
                            omega)
                          have N := Bxs.more (below_on HW.out hb) [.int .i64 2, .int .i64 32, .int .i64 16, .slice (some ⟨P20, 0, none⟩) 32 ca20, .slice (some ⟨Q20, 0, none⟩) 16 cc20] 28
                          have hal := below_alloc u20 (.cells #[.int .i64 2, .int .i64 32, .int .i64 16, .slice (some ⟨P20, 0, none⟩) 32 ca20, .slice (some ⟨Q20, 0, none⟩) 16 cc20] 28)
                          have NG20 : Hid (P20 < u20.heap.size ∧ Q20 < u20.heap.size ∧ P20 ≠ Q20) := Lib.hid ⟨hO.lP, hO.lQ, hO.PQ⟩
                          replace hb := below_on hb hal
                          replace K_s := Lib.hid (K_s.out.on hb)
                          replace K_y := Lib.hid (K_y.out.on hb)
                          replace K_z := Lib.hid (K_z.out.on hb)
                          replace O_s := Lib.hid (O_s.out.on hb)
                          replace O_y := Lib.hid (O_y.out.on hb)
                          replace HW := Lib.hid (below_on HW.out hb)
                          have O_anew := Lib.hid (hO.on hal)
                          have HC_anew := Lib.hid (⟨hca, hcc⟩ : 32 ≤ ca20 ∧ 16 ≤ cc20)
                          clear hb hal hF hO hca hcc
                          obtain ⟨g20, hj⟩ : ∃ j, j = u20.heap.size := ⟨_, rfl⟩
                          rw [← hj] at N NG20 ⊢
                          clear hj
                          generalize u20.alloc _ = v21 at N HW K_s K_y K_z O_s O_y O_anew ⊢
                          have K_anew := Lib.hid N
                          clear N
                          have n4 := K_anew.out.c 4 _ rfl
                          go_upto_region 23 with fail
                          have c2 := O_anew.out.th 0 (by rw [s64_len.2]; decide) 4 _ rfl
                          have f2 := O_anew.out.Qf 4
                          simp only [Nat.reduceMul, Nat.reduceAdd] at c2
                          have oo := O_anew.out.putT1 (i := 0) (by rw [s64_len.2]; decide) 4 (by decide) (.int .i64 64) ⟨1, 0, 0, 64, 64, 0, 0, false, 0, 0, 0, 0, 0⟩ (by kernel_rfl)
                          rw [ck_new] at oo
                          simp only [Nat.reduceMul, Nat.reduceAdd] at oo
                          have k_s := K_s.out.beside (i := 4) (Nat.ne_of_lt (NE20.out.2.2.2.1)) (Nat.le_trans K_s.out.base (Nat.le_of_lt (NE20.out.2.2.2.1))) (.int .i64 64)
                          have k_y := K_y.out.beside (i := 4) (Nat.ne_of_lt (NE20.out.2.2.2.2.2.1)) (Nat.le_trans K_y.out.base (Nat.le_of_lt (NE20.out.2.2.2.2.2.1))) (.int .i64 64)
                          have k_z := K_z.out.beside (i := 4) (Nat.ne_of_lt (NE20.out.2.2.2.2.2.2.2.1)) (Nat.le_trans K_z.out.base (Nat.le_of_lt (NE20.out.2.2.2.2.2.2.2.1))) (.int .i64 64)
                          have k_anew := K_anew.out.beside (i := 4) (Nat.ne_of_gt (NG20.out.2.1)) (NE20.out.2.1) (.int .i64 64)
                          have o_s := O_s.out.mark (i := 4) (v := .int .i64 64) (Nat.ne_of_lt (NE20.out.2.2.2.2.2.2.2.2.2.1)) (Nat.ne_of_lt (NE20.out.2.2.2.2.2.2.2.2.2.2.2.1)) (Nat.le_trans O_s.out.oP (Nat.le_of_lt (NE20.out.2.2.2.2.2.2.2.2.2.1)))
                          have o_y := O_y.out.mark (i := 4) (v := .int .i64 64) (Nat.ne_of_lt (NE20.out.2.2.2.2.2.2.2.2.2.2.2.2.2.1)) (Nat.ne_of_lt (NE20.out.2.2.2.2.2.2.2.2.2.2.2.2.2.2.2)) (Nat.le_trans O_y.out.oP (Nat.le_of_lt (NE20.out.2.2.2.2.2.2.2.2.2.2.2.2.2.1)))
                          have hw : Below w.heap.size w (v21.setCell ⟨Q20, 4, none⟩ (.int .i64 64)) := HW.out.setCell (NE20.out.2.1) _
                          go_upto_region 24 with fail
                          clear c2 f2
                          generalize v21.setCell _ _ = v24 at k_s k_y k_z k_anew o_s o_y hw oo ⊢
                          replace K_s := Lib.hid k_s
                          replace K_y := Lib.hid k_y
                          replace K_z := Lib.hid k_z
                          replace K_anew := Lib.hid k_anew
                          replace O_s := Lib.hid o_s
                          replace O_y := Lib.hid o_y
                          replace HW := Lib.hid hw
                          replace O_anew := Lib.hid oo
                          clear k_s k_y k_z k_anew o_s o_y hw oo
                          clear n4
                          refine wp_region_held_drew (S := fun w' => Below v24.heap.size v24 w') (by kernel_rfl) (below_self v24).drew (fun hH => ?_)
                          refine wpAnyH_take (i := 0) (v := .agg #[.int .i64 2, .int .i64 32, .int .i64 16, .slice (some ⟨P20, 0, none⟩) 32 ca20, .slice (some ⟨Q20, 0, none⟩) 16 cc20]) rfl (by kernel_rfl) (by kernel_rfl) (by kernel_rfl) (fun _ _ _ h => h) (yieldsIf_load_mid (by rfl) 28 (.tmp 27) (by rfl) g20 0 (by rfl) [.int .i64 2, .int .i64 32, .int .i64 16, .slice (some ⟨P20, 0, none⟩) 32 ca20, .slice (some ⟨Q20, 0, none⟩) 16 cc20] _ (fun w hS => ((K_anew.out.on hS).range)) Try.underlying28 rfl info_state) (by assumption) ?_
                          try simp only [Act.put, List.setIfInBounds_toArray, List.set_cons_zero, List.set_cons_succ, List.getElem_toArray, List.getElem_cons_zero, List.getElem_cons_succ]
                          refine wpAnyH_inv (f0 := 1) [1, 2, 3, 4, 5, 6, 7, 8, 9, 10] [186, 187, 188, 189, 190, 184, 191, 192, 28] (fun l tm w => PHI v24 [0] [3] 2 32 16 (some ⟨P20, 0, none⟩) 32 ca20 (some ⟨Q20, 0, none⟩) 16 cc20 (some (cdone ckn aw15)) (.int .i64 0) [] true true (fun _ _ => undef) (l 1) (l 2) (l 3) (l 4) false (l 5) (l 6) (l 7) (l 8) (l 9) false (l 10) (tm 186) (tm 187) (tm 188) (tm 189) undef (tm 190) (tm 184) (tm 191) (tm 192) (tm 28) undef w) (by kernel_rfl) (by kernel_rfl) rfl (by decide) (fun l tm w h => h.bb) ?start (AllSteps.cons rfl ?o1 (AllSteps.cons rfl ?o2 (AllSteps.cons rfl ?o3 (AllSteps.cons rfl ?o4 (AllSteps.cons rfl ?o5 (AllSteps.cons rfl ?o6 (AllSteps.cons rfl ?o7 (AllSteps.cons rfl ?o8 (AllSteps.cons rfl ?o9 (AllSteps.cons rfl ?o10 AllSteps.nil)))))))))) ?fin
                          case o1 =>
                            intro l tm w h hl hd K hK
                            try dsimp only at h
                            rw [hl] at h
                            have hh := h.addB1 (below_alloc w (.cells #[.int .i64 0] 3)) (lis_one w 0)
                            exact st_run (v := .slice (some ⟨w.heap.size, 0, none⟩) 1 1) (by rfl) (by kernel_rfl) (hK.out _ _ hh)
                          case o2 =>
                            intro l tm w h hl hd K hK
                            try dsimp only at h
                            rw [hl] at h
                            have hs := h.early1.1
                            have h0 := h
                            rw [hs] at h0
                            obtain ⟨⟨B, nB, cB, eB, -⟩, -⟩ := h0.way1 (hd 1 (by kernel_rfl))
                            have hc := way_is (A := B) (n := nB) (cap := cB) w
                            rw [← eB] at hc
                            refine st_call (f := 11) (args := #[(tm 186)]) (w' := w) (by rfl) (by kernel_rfl) (hc.mono ?_)
                            rintro e w1 ⟨rfl, hb⟩
                            exact ⟨_, rfl, hK.out _ _ (h.addW1 (hd 1 (by kernel_rfl)) hb rfl)⟩
                          case o3 =>
                            intro l tm w h hl hd K hK
                            try dsimp only at h
                            rw [hl] at h
                            have hh := h.addB2 (below_alloc w (.cells #[.int .i64 3] 3)) (lis_one w 3)
                            exact st_run (v := .slice (some ⟨w.heap.size, 0, none⟩) 1 1) (by rfl) (by kernel_rfl) (hK.out _ _ hh)
                          case o4 =>
                            intro l tm w h hl hd K hK
                            try dsimp only at h
                            rw [hl] at h
                            have hs := h.early2.1
                            have h0 := h
                            rw [hs] at h0
                            obtain ⟨⟨B, nB, cB, eB, -⟩, -⟩ := h0.way2 (hd 3 (by kernel_rfl))
                            have hc := way_is (A := B) (n := nB) (cap := cB) w
                            rw [← eB] at hc
                            refine st_call (f := 11) (args := #[(tm 188)]) (w' := w) (by rfl) (by kernel_rfl) (hc.mono ?_)
                            rintro e w1 ⟨rfl, hb⟩
                            exact ⟨_, rfl, hK.out _ _ (h.addW2 (hd 3 (by kernel_rfl)) hb rfl)⟩
                          case o5 =>
                            intro l tm w h hl hd K hK
                            try dsimp only at h
                            rw [hl] at h
                            have d1 := hd 2 (by kernel_rfl)
                            have d2 := hd 4 (by kernel_rfl)
                            have hs : l 10 = false := h.notS.1
                            have h0 := h
                            rw [hs] at h0
                            obtain ⟨⟨B1, n1, k1, eB1, eN1, eK1, eI1⟩, eW1⟩ := h0.way1 ((h0.rg rfl).w1 d1).1
                            obtain ⟨⟨B2, n2, k2, eB2, eN2, eK2, eI2⟩, eW2⟩ := h0.way2 ((h0.rg rfl).w2 d2).1
                            have hW1 := (eW1 d1).trans (by rw [eB1])
                            have hW2 := (eW2 d2).trans (by rw [eB2])
                            have hA : #[.agg #[.int .i64 2, .int .i64 32, .int .i64 16, .slice (some ⟨P20, 0, none⟩) 32 ca20, .slice (some ⟨Q20, 0, none⟩) 16 cc20], (tm 187), (tm 189), .int .i64 4, .int .i64 0] = #[.agg #[.int .i64 2, .int .i64 32, .int .i64 16, .slice (some ⟨P20, 0, none⟩) 32 ca20, .slice (some ⟨Q20, 0, none⟩) 16 cc20], .agg #[.slice B1 n1 k1], .agg #[.slice B2 n2 k2], .int .i64 4, .int .i64 0] := by rw [hW1, hW2]
                            refine st_call (f := 10) (args := #[.agg #[.int .i64 2, .int .i64 32, .int .i64 16, .slice (some ⟨P20, 0, none⟩) 32 ca20, .slice (some ⟨Q20, 0, none⟩) 16 cc20], (tm 187), (tm 189), .int .i64 4, .int .i64 0]) (w' := w) (by rfl) (by kernel_rfl) ?_
                            rw [hA]
                            refine (does_is ⟨(O_anew.out.on h.bb).lies, rfl, ckn_len.1.symm, ckn_len.2.symm, by decide, by decide, HC_anew.out.1, HC_anew.out.2⟩ eN1 eK1 eI1 eN2 eK2 eI2 ck_n).mono ?_
                            rintro e w1 ⟨A', ca', C', cc', rfl, hb, hm⟩
                            obtain ⟨q1, q2⟩ := resD_of (a := 2) (b := 32) (c := 16) (R := (.int .i64 0)) h.bb.size hm (ckpos_of ckm_len)
                            exact ⟨_, rfl, hK.out _ _ (h.addD hb q1 q2)⟩
                          case o6 =>
                            intro l tm w h hl hd K hK
                            try dsimp only at h
                            rw [hl] at h
                            exact st_run (v := tm 190) (w' := w) (by rfl) (by kernel_rfl) (hK.out _ _ (h.addMv (hd 5 (by kernel_rfl)) rfl))
                          case o7 =>
                            intro l tm w h hl hd K hK
                            try dsimp only at h
                            rw [hl] at h
                            obtain ⟨A', ca', C', cc', eT, -⟩ := h.tup (hd 6 (by kernel_rfl))
                            refine st_run (v := .agg #[.int .i64 2, .int .i64 32, .int .i64 16, .slice A' 32 ca', .slice C' 16 cc']) (w' := w) (by rfl) ?_ (hK.out _ _ (h.addE1 (hd 6 (by kernel_rfl)) eT))
                            simp only [List.getElem_toArray, List.getElem_cons_zero, List.getElem_cons_succ, pmA, List.foldl_cons, List.foldl_nil, Act.put, List.setIfInBounds_toArray, List.set_cons_zero, List.set_cons_succ]
                            rw [eT]
                            kernel_rfl
                          case o8 =>
                            intro l tm w h hl hd K hK
                            try dsimp only at h
                            rw [hl] at h
                            obtain ⟨A', ca', C', cc', eT, -⟩ := h.tup (hd 6 (by kernel_rfl))
                            refine st_run (v := (.int .i64 0)) (w' := w) (by rfl) ?_ (hK.out _ _ (h.addE2 (hd 6 (by kernel_rfl)) eT))
                            simp only [List.getElem_toArray, List.getElem_cons_zero, List.getElem_cons_succ, pmA, List.foldl_cons, List.foldl_nil, Act.put, List.setIfInBounds_toArray, List.set_cons_zero, List.set_cons_succ]
                            rw [eT]
                            kernel_rfl
                          case o9 =>
                            intro l tm w h hl hd K hK
                            try dsimp only at h
                            rw [hl] at h
                            have hh := h.addQ (ckpos_of ckm_len) 28
                            exact st_run (v := ptr w.heap.size) (by rfl) (by kernel_rfl) (hK.out _ _ hh)
                          case o10 =>
                            intro l tm w h hl hd K hK
                            try dsimp only at h
                            rw [hl] at h
                            obtain ⟨x, A', ca', C', cc', ex, e1, ed, hw⟩ := h.atS' (hd 5 (by kernel_rfl)) (hd 6 (by kernel_rfl)) (hd 7 (by kernel_rfl)) (hd 9 (by kernel_rfl))
                            have HT : Hid (w.there x 0 (#[.int .i64 2, .int .i64 32, .int .i64 16, .slice A' 32 ca', .slice C' 16 cc'] : Array Value).size) := Lib.hid (hw.there (n := 5) rfl)
                            have HO := Lib.hid (state_one 2 32 16 A' 32 ca' C' 16 cc')
                            refine st_store (by rfl) 28 (.tmp 28) (.tmp 191) (by rfl) x 0 #[.int .i64 2, .int .i64 32, .int .i64 16, .slice A' 32 ca', .slice C' 16 cc'] ((by kernel_rfl : _ = tm 28).trans ex) ((by kernel_rfl : _ = tm 191).trans e1) HT.out info_state HO.out ?_
                            refine hK.out undef (w.setCells x 0 [.int .i64 2, .int .i64 32, .int .i64 16, .slice A' 32 ca', .slice C' 16 cc']) ?_
                            exact h.addS' (hd 1 (by kernel_rfl)) (hd 2 (by kernel_rfl)) (hd 3 (by kernel_rfl)) (hd 4 (by kernel_rfl)) (fun e => absurd e (by decide)) (hd 5 (by kernel_rfl)) (hd 6 (by kernel_rfl)) (hd 7 (by kernel_rfl)) (hd 9 (by kernel_rfl)) (fun e => absurd e (by decide)) ex ed
                          case start => exact ⟨hH, fun _ => ⟨hH, fun e => ff rfl e, fun e => ff rfl e, fun e => ff rfl e, fun e => ff rfl e, fun e => ff rfl e, fun e => ff rfl e, fun e => ff rfl e, fun e => ff rfl e, fun e => ff rfl e, fun e => ff rfl e⟩, fun e => ff rfl e, fun e => ff rfl e, fun e => ff rfl e, fun e => ff rfl e, fun e => ff rfl e, fun e => ff rfl e⟩
                          case fin =>
                            intro tm v25 h
                            try dsimp only at h
                            obtain ⟨hbb, hR, hP⟩ := h.fin (by kernel_rfl) (by kernel_rfl)
                            obtain ⟨g24, A24, ca24, C24, cc24, ed, ex, hx, hm, -⟩ := hP
                            simp only [ptr] at ex
                            clear h ed
                            obtain ⟨hca, hcc, hF⟩ := hm
                            obtain ⟨P24, Q24, rfl, rfl, hO⟩ := hF.ost (by rw [ckm_len.1]; decide) (by rw [ckm_len.2]; decide) hbb
                            simp only [pmA, List.foldl_cons, List.foldl_nil, Act.put, List.setIfInBounds_toArray, List.set_cons_zero, List.set_cons_succ]
                            rw [ex, hR]
                            clear ex hR
                            refine wpAnyH_take (i := 11) (v := ?_) rfl (by kernel_rfl) (by kernel_rfl) (by kernel_rfl) (fun _ _ _ h => h) (Or.inl ⟨by rfl, ?_⟩) (by assumption) ?_
                            rotate_left
                            · intro w hSw; go_simp; try with_reducible rfl
                            try simp only [Act.put, List.setIfInBounds_toArray, List.set_cons_zero, List.set_cons_succ, List.getElem_toArray, List.getElem_cons_zero, List.getElem_cons_succ]
                            refine wpAnyH_done (by kernel_rfl) ?_ _
                            replace K_s := Lib.hid (K_s.out.on hbb)
                            replace K_y := Lib.hid (K_y.out.on hbb)
                            replace K_z := Lib.hid (K_z.out.on hbb)
                            replace K_anew := Lib.hid (K_anew.out.on hbb)
                            replace O_s := Lib.hid (O_s.out.on hbb)
                            replace O_y := Lib.hid (O_y.out.on hbb)
                            replace O_anew := Lib.hid (O_anew.out.on hbb)
                            replace HW := Lib.hid (below_on HW.out hbb)
                            have K_m := Lib.hid hx.bx
                            have O_m := Lib.hid hO
                            have HC_m := Lib.hid (⟨hca, hcc⟩ : 32 ≤ ca24 ∧ 16 ≤ cc24)
                            clear hca hcc hF hO
                            clear hbb hx hH
                            go_upto_region 25 with fail
                            refine wp_region_held_drew (S := fun w' => Below v25.heap.size v25 w') (by kernel_rfl) (below_self v25).drew (fun hH => ?_)
                            refine wpAnyH_take (i := 0) (v := .agg #[.int .i64 2, .int .i64 32, .int .i64 16, .slice (some ⟨Ps, 0, none⟩) 32 ca, .slice (some ⟨Qs, 0, none⟩) 16 cc]) rfl (by kernel_rfl) (by kernel_rfl) (by kernel_rfl) (fun _ _ _ h => h) (yieldsIf_load_mid (by rfl) 28 (.tmp 1) (by rfl) gs 0 (by rfl) [.int .i64 2, .int .i64 32, .int .i64 16, .slice (some ⟨Ps, 0, none⟩) 32 ca, .slice (some ⟨Qs, 0, none⟩) 16 cc] _ (fun w hS => ((K_s.out.on hS).range)) Try.underlying28 rfl info_state) (by assumption) ?_
                            try simp only [Act.put, List.setIfInBounds_toArray, List.set_cons_zero, List.set_cons_succ, List.getElem_toArray, List.getElem_cons_zero, List.getElem_cons_succ]
                            refine wpAnyH_inv (f0 := 1) [1, 2, 3, 4, 5, 6, 7, 8, 9, 10, 11, 12] [195, 196, 197, 198, 199, 200, 193, 201, 202, 30, 31] (fun l tm w => PHI v25 [0] [3] 2 32 16 (some ⟨Ps, 0, none⟩) 32 ca (some ⟨Qs, 0, none⟩) 16 cc none (.agg #[.int .i64 1, .int .u64 0, .int .i64 0]) [.int .i64 0, .int .u64 0, .int .i64 0] false false (fun x y => .agg #[.int .i64 1, flat1 x, flat1 y, .int .i64 4, .int .i64 0, .int .u64 0]) (l 1) (l 2) (l 3) (l 4) (l 5) (l 6) (l 7) (l 8) (l 9) (l 10) (l 11) (l 12) (tm 195) (tm 196) (tm 197) (tm 198) (tm 199) (tm 200) (tm 193) (tm 201) (tm 202) (tm 30) (tm 31) w) (by kernel_rfl) (by kernel_rfl) rfl (by decide) (fun l tm w h => h.bb) ?start (AllSteps.cons rfl ?o1 (AllSteps.cons rfl ?o2 (AllSteps.cons rfl ?o3 (AllSteps.cons rfl ?o4 (AllSteps.cons rfl ?o5 (AllSteps.cons rfl ?o6 (AllSteps.cons rfl ?o7 (AllSteps.cons rfl ?o8 (AllSteps.cons rfl ?o9 (AllSteps.cons rfl ?o10 (AllSteps.cons rfl ?o11 (AllSteps.cons rfl ?o12 AllSteps.nil)))))))))))) ?fin
                            case o1 =>
                              intro l tm w h hl hd K hK
                              try dsimp only at h
                              rw [hl] at h
                              have hh := h.addB1 (below_alloc w (.cells #[.int .i64 0] 3)) (lis_one w 0)
                              exact st_run (v := .slice (some ⟨w.heap.size, 0, none⟩) 1 1) (by rfl) (by kernel_rfl) (hK.out _ _ hh)
                            case o2 =>
                              intro l tm w h hl hd K hK
                              try dsimp only at h
                              rw [hl] at h
                              have hs := h.early1.1
                              have h0 := h
                              rw [hs] at h0
                              obtain ⟨⟨B, nB, cB, eB, -⟩, -⟩ := h0.way1 (hd 1 (by kernel_rfl))
                              have hc := way_is (A := B) (n := nB) (cap := cB) w
                              rw [← eB] at hc
                              refine st_call (f := 11) (args := #[(tm 195)]) (w' := w) (by rfl) (by kernel_rfl) (hc.mono ?_)
                              rintro e w1 ⟨rfl, hb⟩
                              exact ⟨_, rfl, hK.out _ _ (h.addW1 (hd 1 (by kernel_rfl)) hb rfl)⟩
                            case o3 =>
                              intro l tm w h hl hd K hK
                              try dsimp only at h
                              rw [hl] at h
                              have hh := h.addB2 (below_alloc w (.cells #[.int .i64 3] 3)) (lis_one w 3)
                              exact st_run (v := .slice (some ⟨w.heap.size, 0, none⟩) 1 1) (by rfl) (by kernel_rfl) (hK.out _ _ hh)
                            case o4 =>
                              intro l tm w h hl hd K hK
                              try dsimp only at h
                              rw [hl] at h
                              have hs := h.early2.1
                              have h0 := h
                              rw [hs] at h0
                              obtain ⟨⟨B, nB, cB, eB, -⟩, -⟩ := h0.way2 (hd 3 (by kernel_rfl))
                              have hc := way_is (A := B) (n := nB) (cap := cB) w
                              rw [← eB] at hc
                              refine st_call (f := 11) (args := #[(tm 197)]) (w' := w) (by rfl) (by kernel_rfl) (hc.mono ?_)
                              rintro e w1 ⟨rfl, hb⟩
                              exact ⟨_, rfl, hK.out _ _ (h.addW2 (hd 3 (by kernel_rfl)) hb rfl)⟩
                            case o5 =>
                              intro l tm w h hl hd K hK
                              try dsimp only at h
                              rw [hl] at h
                              have d1 := hd 2 (by kernel_rfl)
                              have d2 := hd 4 (by kernel_rfl)
                              have hs : l 12 = false := by rw [Bool.eq_false_iff]; exact fun e => absurd ((h.o e).2.2.2.2.1 rfl) (by decide)
                              have h0 := h
                              rw [hs] at h0
                              obtain ⟨⟨B1, n1, k1, eB1, eN1, eK1, eI1⟩, eW1⟩ := h0.way1 ((h0.rg rfl).w1 d1).1
                              obtain ⟨⟨B2, n2, k2, eB2, eN2, eK2, eI2⟩, eW2⟩ := h0.way2 ((h0.rg rfl).w2 d2).1
                              have hW1 := (eW1 d1).trans (by rw [eB1])
                              have hW2 := (eW2 d2).trans (by rw [eB2])
                              refine st_run (v := (fun x y => .agg #[.int .i64 1, flat1 x, flat1 y, .int .i64 4, .int .i64 0, .int .u64 0]) (tm 196) (tm 198)) (w' := w) (by rfl) ?_ (hK.out _ _ (h.addBd d1 d2 rfl))
                              simp only [List.getElem_toArray, List.getElem_cons_zero, List.getElem_cons_succ, pmA, List.foldl_cons, List.foldl_nil, Act.put, List.setIfInBounds_toArray, List.set_cons_zero, List.set_cons_succ]
                              rw [hW1, hW2]
                              kernel_rfl
                            case o6 =>
                              intro l tm w h hl hd K hK
                              try dsimp only at h
                              rw [hl] at h
                              have d0 := hd 5 (by kernel_rfl)
                              obtain ⟨d1, d2, eBD⟩ := h.e6 d0
                              have hs : l 12 = false := h.notS.1
                              have h0 := h
                              rw [hs] at h0
                              obtain ⟨⟨B1, n1, k1, eB1, eN1, eK1, eI1⟩, eW1⟩ := h0.way1 ((h0.rg rfl).w1 d1).1
                              obtain ⟨⟨B2, n2, k2, eB2, eN2, eK2, eI2⟩, eW2⟩ := h0.way2 ((h0.rg rfl).w2 d2).1
                              have hW1 := (eW1 d1).trans (by rw [eB1])
                              have hW2 := (eW2 d2).trans (by rw [eB2])
                              rw [hW1, hW2] at eBD
                              have hA : #[.agg #[.int .i64 2, .int .i64 32, .int .i64 16, .slice (some ⟨Ps, 0, none⟩) 32 ca, .slice (some ⟨Qs, 0, none⟩) 16 cc], .int .i64 2, (tm 199)] = #[.agg #[.int .i64 2, .int .i64 32, .int .i64 16, .slice (some ⟨Ps, 0, none⟩) 32 ca, .slice (some ⟨Qs, 0, none⟩) 16 cc], .int .i64 2, .agg #[.int .i64 1, .slice B1 n1 k1, .slice B2 n2 k2, .int .i64 4, .int .i64 0, .int .u64 0]] := by rw [eBD]; rfl
                              refine st_call (f := 13) (args := #[.agg #[.int .i64 2, .int .i64 32, .int .i64 16, .slice (some ⟨Ps, 0, none⟩) 32 ca, .slice (some ⟨Qs, 0, none⟩) 16 cc], .int .i64 2, (tm 199)]) (w' := w) (by rfl) (by kernel_rfl) ?_
                              rw [hA]
                              refine (do_is (z := 0) ⟨(O_s.out.on h.bb).lies, rfl, s64_len.1.symm, s64_len.2.symm, by decide, by decide, HC_s.out.1, HC_s.out.2⟩ eN1 eK1 eI1 eN2 eK2 eI2 ck_o).mono ?_
                              rintro e w1 ⟨A', ca', C', cc', rfl, hb, hm⟩
                              obtain ⟨q1, q2⟩ := resD_of (a := 2) (b := 32) (c := 16) (R := (.agg #[.int .i64 1, .int .u64 0, .int .i64 0])) h.bb.size hm ckpos_none
                              exact ⟨_, rfl, hK.out _ _ (h.addD hb q1 q2)⟩
                            case o7 =>
                              intro l tm w h hl hd K hK
                              try dsimp only at h
                              rw [hl] at h
                              exact st_run (v := tm 200) (w' := w) (by rfl) (by kernel_rfl) (hK.out _ _ (h.addMv (hd 6 (by kernel_rfl)) rfl))
                            case o8 =>
                              intro l tm w h hl hd K hK
                              try dsimp only at h
                              rw [hl] at h
                              obtain ⟨A', ca', C', cc', eT, -⟩ := h.tup (hd 7 (by kernel_rfl))
                              refine st_run (v := .agg #[.int .i64 2, .int .i64 32, .int .i64 16, .slice A' 32 ca', .slice C' 16 cc']) (w' := w) (by rfl) ?_ (hK.out _ _ (h.addE1 (hd 7 (by kernel_rfl)) eT))
                              simp only [List.getElem_toArray, List.getElem_cons_zero, List.getElem_cons_succ, pmA, List.foldl_cons, List.foldl_nil, Act.put, List.setIfInBounds_toArray, List.set_cons_zero, List.set_cons_succ]
                              rw [eT]
                              kernel_rfl
                            case o9 =>
                              intro l tm w h hl hd K hK
                              try dsimp only at h
                              rw [hl] at h
                              obtain ⟨A', ca', C', cc', eT, -⟩ := h.tup (hd 7 (by kernel_rfl))
                              refine st_run (v := (.agg #[.int .i64 1, .int .u64 0, .int .i64 0])) (w' := w) (by rfl) ?_ (hK.out _ _ (h.addE2 (hd 7 (by kernel_rfl)) eT))
                              simp only [List.getElem_toArray, List.getElem_cons_zero, List.getElem_cons_succ, pmA, List.foldl_cons, List.foldl_nil, Act.put, List.setIfInBounds_toArray, List.set_cons_zero, List.set_cons_succ]
                              rw [eT]
                              kernel_rfl
                            case o10 =>
                              intro l tm w h hl hd K hK
                              try dsimp only at h
                              rw [hl] at h
                              have hh := h.addQ ckpos_none 28
                              exact st_run (v := ptr w.heap.size) (by rfl) (by kernel_rfl) (hK.out _ _ hh)
                            case o11 =>
                              intro l tm w h hl hd K hK
                              try dsimp only at h
                              rw [hl] at h
                              have hh := h.addY ckpos_none 47
                              exact st_run (v := ptr w.heap.size) (by rfl) (by kernel_rfl) (hK.out _ _ hh)
                            case o12 =>
                              intro l tm w h hl hd K hK
                              try dsimp only at h
                              rw [hl] at h
                              obtain ⟨x, A', ca', C', cc', ex, e1, ed, hw⟩ := h.atS' (hd 6 (by kernel_rfl)) (hd 7 (by kernel_rfl)) (hd 8 (by kernel_rfl)) (hd 10 (by kernel_rfl))
                              have HT : Hid (w.there x 0 (#[.int .i64 2, .int .i64 32, .int .i64 16, .slice A' 32 ca', .slice C' 16 cc'] : Array Value).size) := Lib.hid (hw.there (n := 5) rfl)
                              have HO := Lib.hid (state_one 2 32 16 A' 32 ca' C' 16 cc')
                              refine st_store (by rfl) 28 (.tmp 30) (.tmp 201) (by rfl) x 0 #[.int .i64 2, .int .i64 32, .int .i64 16, .slice A' 32 ca', .slice C' 16 cc'] ((by kernel_rfl : _ = tm 30).trans ex) ((by kernel_rfl : _ = tm 201).trans e1) HT.out info_state HO.out ?_
                              refine hK.out undef (w.setCells x 0 [.int .i64 2, .int .i64 32, .int .i64 16, .slice A' 32 ca', .slice C' 16 cc']) ?_
                              exact h.addS' (hd 1 (by kernel_rfl)) (hd 2 (by kernel_rfl)) (hd 3 (by kernel_rfl)) (hd 4 (by kernel_rfl)) (fun _ => (hd 5 (by kernel_rfl))) (hd 6 (by kernel_rfl)) (hd 7 (by kernel_rfl)) (hd 8 (by kernel_rfl)) (hd 10 (by kernel_rfl)) (fun _ => (hd 11 (by kernel_rfl))) ex ed
                            case start => exact ⟨hH, fun _ => ⟨hH, fun e => ff rfl e, fun e => ff rfl e, fun e => ff rfl e, fun e => ff rfl e, fun e => ff rfl e, fun e => ff rfl e, fun e => ff rfl e, fun e => ff rfl e, fun e => ff rfl e, fun e => ff rfl e⟩, fun e => ff rfl e, fun e => ff rfl e, fun e => ff rfl e, fun e => ff rfl e, fun e => ff rfl e, fun e => ff rfl e⟩
                            case fin =>
                              intro tm u25 h
                              try dsimp only at h
                              obtain ⟨hbb, hR, hP⟩ := h.fin (by kernel_rfl) (by kernel_rfl)
                              obtain ⟨g25, A25, ca25, C25, cc25, ed, ex, hx, hm, hy⟩ := hP
                              obtain ⟨y25, ey, hne, hY, -⟩ := hy rfl
                              simp only [ptr] at ex ey
                              have HY := Lib.hid hY
                              clear h ed hx hm hy hY hne
                              simp only [pmA, List.foldl_cons, List.foldl_nil, Act.put, List.setIfInBounds_toArray, List.set_cons_zero, List.set_cons_succ]
                              rw [ex, ey, hR]
                              clear ex ey hR
                              refine wpAnyH_ready (rs := [13]) (by kernel_rfl) (by simp) ?_
                              refine AllReadyH.cons rfl (fun K hK => ?_) AllReadyH.nil
                              have HT : Hid (u25.there y25 0 (#[.int .i64 1, .int .u64 0, .int .i64 0] : Array Value).size) := Lib.hid (HY.out.there (n := 3) rfl)
                              have HO := Lib.hid (reply_one 1 0 0)
                              have kY := HY.out.setCells (vs := [.int .i64 1, .int .u64 0, .int .i64 0]) rfl
                              refine step_store_mid (by rfl) 47 (.tmp 31) (.tmp 202) (by rfl) y25 0 #[.int .i64 1, .int .u64 0, .int .i64 0] (by rfl) (by rfl) HT.out info_reply HO.out ?_
                              change K _ (u25.setCells y25 0 [.int .i64 1, .int .u64 0, .int .i64 0])
                              clear HT
                              generalize u25.setCells y25 0 [.int .i64 1, .int .u64 0, .int .i64 0] = v26 at kY ⊢
                              have hb := kY.bx.old
                              have Y_25 := Lib.hid kY.bx
                              clear kY HY
                              refine hK.out _ _ hb (fun hH => ?_)
                              clear hK K
                              try simp only [Act.put, List.setIfInBounds_toArray, List.set_cons_zero, List.set_cons_succ, List.getElem_toArray, List.getElem_cons_zero, List.getElem_cons_succ]
                              refine wpAnyH_done (by kernel_rfl) ?_ _
                              replace K_s := Lib.hid (K_s.out.on hb)
                              replace K_y := Lib.hid (K_y.out.on hb)
                              replace K_z := Lib.hid (K_z.out.on hb)
                              replace K_anew := Lib.hid (K_anew.out.on hb)
                              replace K_m := Lib.hid (K_m.out.on hb)
                              replace O_s := Lib.hid (O_s.out.on hb)
                              replace O_y := Lib.hid (O_y.out.on hb)
                              replace O_anew := Lib.hid (O_anew.out.on hb)
                              replace O_m := Lib.hid (O_m.out.on hb)
                              replace HW := Lib.hid (below_on HW.out hb)
                              clear hb hH hbb
                              go_upto_region 26 with fail
                              refine wp_region_held_drew (S := fun w' => Below v26.heap.size v26 w') (by kernel_rfl) (below_self v26).drew (fun hH => ?_)
                              refine wpAnyH_take (i := 0) (v := .agg #[.int .i64 2, .int .i64 32, .int .i64 16, .slice (some ⟨Ps, 0, none⟩) 32 ca, .slice (some ⟨Qs, 0, none⟩) 16 cc]) rfl (by kernel_rfl) (by kernel_rfl) (by kernel_rfl) (fun _ _ _ h => h) (yieldsIf_load_mid (by rfl) 28 (.tmp 1) (by rfl) gs 0 (by rfl) [.int .i64 2, .int .i64 32, .int .i64 16, .slice (some ⟨Ps, 0, none⟩) 32 ca, .slice (some ⟨Qs, 0, none⟩) 16 cc] _ (fun w hS => ((K_s.out.on hS).range)) Try.underlying28 rfl info_state) (by assumption) ?_
                              try simp only [Act.put, List.setIfInBounds_toArray, List.set_cons_zero, List.set_cons_succ, List.getElem_toArray, List.getElem_cons_zero, List.getElem_cons_succ]
                              refine wpAnyH_inv (f0 := 1) [1, 2, 3, 4, 5, 6, 7, 8, 9, 10] [205, 206, 207, 208, 203, 209, 210, 32, 33] (fun l tm w => PHI v26 [0] [] 2 32 16 (some ⟨Ps, 0, none⟩) 32 ca (some ⟨Qs, 0, none⟩) 16 cc none (.agg #[.int .i64 1, .int .u64 0, .int .i64 0]) [.int .i64 0, .int .u64 0, .int .i64 0] false false (fun x y => .agg #[.int .i64 13, flat1 x, flat1 y, .int .i64 0, .int .i64 0, .int .u64 0]) (l 1) (l 2) true true (l 3) (l 4) (l 5) (l 6) (l 7) (l 8) (l 9) (l 10) (tm 205) (tm 206) (.slice none 0 0) (.agg #[(.slice none 0 0)]) (tm 207) (tm 208) (tm 203) (tm 209) (tm 210) (tm 32) (tm 33) w) (by kernel_rfl) (by kernel_rfl) rfl (by decide) (fun l tm w h => h.bb) ?start (AllSteps.cons rfl ?o1 (AllSteps.cons rfl ?o2 (AllSteps.cons rfl ?o3 (AllSteps.cons rfl ?o4 (AllSteps.cons rfl ?o5 (AllSteps.cons rfl ?o6 (AllSteps.cons rfl ?o7 (AllSteps.cons rfl ?o8 (AllSteps.cons rfl ?o9 (AllSteps.cons rfl ?o10 AllSteps.nil)))))))))) ?fin
                              case o1 =>
                                intro l tm w h hl hd K hK
                                try dsimp only at h
                                rw [hl] at h
                                have hh := h.addB1 (below_alloc w (.cells #[.int .i64 0] 3)) (lis_one w 0)
                                exact st_run (v := .slice (some ⟨w.heap.size, 0, none⟩) 1 1) (by rfl) (by kernel_rfl) (hK.out _ _ hh)
                              case o2 =>
                                intro l tm w h hl hd K hK
                                try dsimp only at h
                                rw [hl] at h
                                have hs := h.early1.1
                                have h0 := h
                                rw [hs] at h0
                                obtain ⟨⟨B, nB, cB, eB, -⟩, -⟩ := h0.way1 (hd 1 (by kernel_rfl))
                                have hc := way_is (A := B) (n := nB) (cap := cB) w
                                rw [← eB] at hc
                                refine st_call (f := 11) (args := #[(tm 205)]) (w' := w) (by rfl) (by kernel_rfl) (hc.mono ?_)
                                rintro e w1 ⟨rfl, hb⟩
                                exact ⟨_, rfl, hK.out _ _ (h.addW1 (hd 1 (by kernel_rfl)) hb rfl)⟩
                              case o3 =>
                                intro l tm w h hl hd K hK
                                try dsimp only at h
                                rw [hl] at h
                                have d1 := hd 2 (by kernel_rfl)
                                have d2 : true = true := rfl
                                have hs : l 10 = false := by rw [Bool.eq_false_iff]; exact fun e => absurd ((h.o e).2.2.2.2.1 rfl) (by decide)
                                have h0 := h
                                rw [hs] at h0
                                obtain ⟨⟨B1, n1, k1, eB1, eN1, eK1, eI1⟩, eW1⟩ := h0.way1 ((h0.rg rfl).w1 d1).1
                                obtain ⟨⟨B2, n2, k2, eB2, eN2, eK2, eI2⟩, eW2⟩ := h0.way2 rfl
                                have hW1 := (eW1 d1).trans (by rw [eB1])
                                have hW2 := (eW2 d2).trans (by rw [eB2])
                                refine st_run (v := (fun x y => .agg #[.int .i64 13, flat1 x, flat1 y, .int .i64 0, .int .i64 0, .int .u64 0]) (tm 206) (.agg #[(.slice none 0 0)])) (w' := w) (by rfl) ?_ (hK.out _ _ (h.addBd d1 d2 rfl))
                                simp only [List.getElem_toArray, List.getElem_cons_zero, List.getElem_cons_succ, pmA, List.foldl_cons, List.foldl_nil, Act.put, List.setIfInBounds_toArray, List.set_cons_zero, List.set_cons_succ]
                                rw [hW1]
                                kernel_rfl
                              case o4 =>
                                intro l tm w h hl hd K hK
                                try dsimp only at h
                                rw [hl] at h
                                have d0 := hd 3 (by kernel_rfl)
                                obtain ⟨d1, d2, eBD⟩ := h.e6 d0
                                have hs : l 10 = false := h.notS.1
                                have h0 := h
                                rw [hs] at h0
                                obtain ⟨⟨B1, n1, k1, eB1, eN1, eK1, eI1⟩, eW1⟩ := h0.way1 ((h0.rg rfl).w1 d1).1
                                obtain ⟨⟨B2, n2, k2, eB2, eN2, eK2, eI2⟩, eW2⟩ := h0.way2 rfl
                                have hW1 := (eW1 d1).trans (by rw [eB1])
                                have hW2 := (eW2 d2).trans (by rw [eB2])
                                rw [hW1, hW2] at eBD
                                have hA : #[.agg #[.int .i64 2, .int .i64 32, .int .i64 16, .slice (some ⟨Ps, 0, none⟩) 32 ca, .slice (some ⟨Qs, 0, none⟩) 16 cc], .int .i64 0, (tm 207)] = #[.agg #[.int .i64 2, .int .i64 32, .int .i64 16, .slice (some ⟨Ps, 0, none⟩) 32 ca, .slice (some ⟨Qs, 0, none⟩) 16 cc], .int .i64 0, .agg #[.int .i64 13, .slice B1 n1 k1, .slice B2 n2 k2, .int .i64 0, .int .i64 0, .int .u64 0]] := by rw [eBD]; rfl
                                refine st_call (f := 13) (args := #[.agg #[.int .i64 2, .int .i64 32, .int .i64 16, .slice (some ⟨Ps, 0, none⟩) 32 ca, .slice (some ⟨Qs, 0, none⟩) 16 cc], .int .i64 0, (tm 207)]) (w' := w) (by rfl) (by kernel_rfl) ?_
                                rw [hA]
                                refine (do_is (z := 0) ⟨(O_s.out.on h.bb).lies, rfl, s64_len.1.symm, s64_len.2.symm, by decide, by decide, HC_s.out.1, HC_s.out.2⟩ eN1 eK1 eI1 eN2 eK2 eI2 ck_p).mono ?_
                                rintro e w1 ⟨A', ca', C', cc', rfl, hb, hm⟩
                                obtain ⟨q1, q2⟩ := resD_of (a := 2) (b := 32) (c := 16) (R := (.agg #[.int .i64 1, .int .u64 0, .int .i64 0])) h.bb.size hm ckpos_none
                                exact ⟨_, rfl, hK.out _ _ (h.addD hb q1 q2)⟩
                              case o5 =>
                                intro l tm w h hl hd K hK
                                try dsimp only at h
                                rw [hl] at h
                                exact st_run (v := tm 208) (w' := w) (by rfl) (by kernel_rfl) (hK.out _ _ (h.addMv (hd 4 (by kernel_rfl)) rfl))
                              case o6 =>
                                intro l tm w h hl hd K hK
                                try dsimp only at h
                                rw [hl] at h
                                obtain ⟨A', ca', C', cc', eT, -⟩ := h.tup (hd 5 (by kernel_rfl))
                                refine st_run (v := .agg #[.int .i64 2, .int .i64 32, .int .i64 16, .slice A' 32 ca', .slice C' 16 cc']) (w' := w) (by rfl) ?_ (hK.out _ _ (h.addE1 (hd 5 (by kernel_rfl)) eT))
                                simp only [List.getElem_toArray, List.getElem_cons_zero, List.getElem_cons_succ, pmA, List.foldl_cons, List.foldl_nil, Act.put, List.setIfInBounds_toArray, List.set_cons_zero, List.set_cons_succ]
                                rw [eT]
                                kernel_rfl
                              case o7 =>
                                intro l tm w h hl hd K hK
                                try dsimp only at h
                                rw [hl] at h
                                obtain ⟨A', ca', C', cc', eT, -⟩ := h.tup (hd 5 (by kernel_rfl))
                                refine st_run (v := (.agg #[.int .i64 1, .int .u64 0, .int .i64 0])) (w' := w) (by rfl) ?_ (hK.out _ _ (h.addE2 (hd 5 (by kernel_rfl)) eT))
                                simp only [List.getElem_toArray, List.getElem_cons_zero, List.getElem_cons_succ, pmA, List.foldl_cons, List.foldl_nil, Act.put, List.setIfInBounds_toArray, List.set_cons_zero, List.set_cons_succ]
                                rw [eT]
                                kernel_rfl
                              case o8 =>
                                intro l tm w h hl hd K hK
                                try dsimp only at h
                                rw [hl] at h
                                have hh := h.addQ ckpos_none 28
                                exact st_run (v := ptr w.heap.size) (by rfl) (by kernel_rfl) (hK.out _ _ hh)
                              case o9 =>
                                intro l tm w h hl hd K hK
                                try dsimp only at h
                                rw [hl] at h
                                have hh := h.addY ckpos_none 47
                                exact st_run (v := ptr w.heap.size) (by rfl) (by kernel_rfl) (hK.out _ _ hh)
                              case o10 =>
                                intro l tm w h hl hd K hK
                                try dsimp only at h
                                rw [hl] at h
                                obtain ⟨x, A', ca', C', cc', ex, e1, ed, hw⟩ := h.atS' (hd 4 (by kernel_rfl)) (hd 5 (by kernel_rfl)) (hd 6 (by kernel_rfl)) (hd 8 (by kernel_rfl))
                                have HT : Hid (w.there x 0 (#[.int .i64 2, .int .i64 32, .int .i64 16, .slice A' 32 ca', .slice C' 16 cc'] : Array Value).size) := Lib.hid (hw.there (n := 5) rfl)
                                have HO := Lib.hid (state_one 2 32 16 A' 32 ca' C' 16 cc')
                                refine st_store (by rfl) 28 (.tmp 32) (.tmp 209) (by rfl) x 0 #[.int .i64 2, .int .i64 32, .int .i64 16, .slice A' 32 ca', .slice C' 16 cc'] ((by kernel_rfl : _ = tm 32).trans ex) ((by kernel_rfl : _ = tm 209).trans e1) HT.out info_state HO.out ?_
                                refine hK.out undef (w.setCells x 0 [.int .i64 2, .int .i64 32, .int .i64 16, .slice A' 32 ca', .slice C' 16 cc']) ?_
                                exact h.addS' (hd 1 (by kernel_rfl)) (hd 2 (by kernel_rfl)) rfl rfl (fun _ => (hd 3 (by kernel_rfl))) (hd 4 (by kernel_rfl)) (hd 5 (by kernel_rfl)) (hd 6 (by kernel_rfl)) (hd 8 (by kernel_rfl)) (fun _ => (hd 9 (by kernel_rfl))) ex ed
                              case start => exact ⟨hH, fun _ => ⟨hH, fun e => ff rfl e, fun e => ff rfl e, fun _ => ⟨none, 0, 0, rfl, rfl, Nat.le_refl _, none_at _⟩, fun _ => ⟨rfl, rfl⟩, fun e => ff rfl e, fun e => ff rfl e, fun e => ff rfl e, fun e => ff rfl e, fun e => ff rfl e, fun e => ff rfl e⟩, fun e => ff rfl e, fun e => ff rfl e, fun e => ff rfl e, fun e => ff rfl e, fun e => ff rfl e, fun e => ff rfl e⟩
                              case fin =>
                                intro tm u26 h
                                try dsimp only at h
                                obtain ⟨hbb, hR, hP⟩ := h.fin (by kernel_rfl) (by kernel_rfl)
                                obtain ⟨g26, A26, ca26, C26, cc26, ed, ex, hx, hm, hy⟩ := hP
                                obtain ⟨y26, ey, hne, hY, -⟩ := hy rfl
                                simp only [ptr] at ex ey
                                have HY := Lib.hid hY
                                clear h ed hx hm hy hY hne
                                simp only [pmA, List.foldl_cons, List.foldl_nil, Act.put, List.setIfInBounds_toArray, List.set_cons_zero, List.set_cons_succ]
                                rw [ex, ey, hR]
                                clear ex ey hR
                                refine wpAnyH_ready (rs := [11]) (by kernel_rfl) (by simp) ?_
                                refine AllReadyH.cons rfl (fun K hK => ?_) AllReadyH.nil
                                have HT : Hid (u26.there y26 0 (#[.int .i64 1, .int .u64 0, .int .i64 0] : Array Value).size) := Lib.hid (HY.out.there (n := 3) rfl)
                                have HO := Lib.hid (reply_one 1 0 0)
                                have kY := HY.out.setCells (vs := [.int .i64 1, .int .u64 0, .int .i64 0]) rfl
                                refine step_store_mid (by rfl) 47 (.tmp 33) (.tmp 210) (by rfl) y26 0 #[.int .i64 1, .int .u64 0, .int .i64 0] (by rfl) (by rfl) HT.out info_reply HO.out ?_
                                change K _ (u26.setCells y26 0 [.int .i64 1, .int .u64 0, .int .i64 0])
                                clear HT
                                generalize u26.setCells y26 0 [.int .i64 1, .int .u64 0, .int .i64 0] = v27 at kY ⊢
                                have hb := kY.bx.old
                                have Y_26 := Lib.hid kY.bx
                                clear kY HY
                                refine hK.out _ _ hb (fun hH => ?_)
                                clear hK K
                                try simp only [Act.put, List.setIfInBounds_toArray, List.set_cons_zero, List.set_cons_succ, List.getElem_toArray, List.getElem_cons_zero, List.getElem_cons_succ]
                                refine wpAnyH_done (by kernel_rfl) ?_ _
                                replace K_s := Lib.hid (K_s.out.on hb)
                                replace K_y := Lib.hid (K_y.out.on hb)
                                replace K_z := Lib.hid (K_z.out.on hb)
                                replace K_anew := Lib.hid (K_anew.out.on hb)
                                replace K_m := Lib.hid (K_m.out.on hb)
                                replace O_s := Lib.hid (O_s.out.on hb)
                                replace O_y := Lib.hid (O_y.out.on hb)
                                replace O_anew := Lib.hid (O_anew.out.on hb)
                                replace O_m := Lib.hid (O_m.out.on hb)
                                replace HW := Lib.hid (below_on HW.out hb)
                                replace Y_25 := Lib.hid (Y_25.out.on hb)
                                clear hb hH hbb
                                skip
                                clear K_z
                                have a0 := K_y.out.c 0 _ rfl
                                have a1 := K_y.out.c 1 _ rfl
                                have a2 := K_y.out.c 2 _ rfl
                                have a3 := K_y.out.c 3 _ rfl
                                have a4 := K_y.out.c 4 _ rfl
                                go_wp2_with fail
                                refine (used_is ⟨O_y.out.lies, rfl, cky_len.1.symm, cky_len.2.symm, by decide, by decide, HC_y.out.1, HC_y.out.2⟩ ck_u1).mono ?_
                                rintro e r1 ⟨rfl, hb⟩
                                replace K_s := Lib.hid (K_s.out.on hb)
                                replace K_y := Lib.hid (K_y.out.on hb)
                                replace K_anew := Lib.hid (K_anew.out.on hb)
                                replace K_m := Lib.hid (K_m.out.on hb)
                                replace O_s := Lib.hid (O_s.out.on hb)
                                replace O_y := Lib.hid (O_y.out.on hb)
                                replace O_anew := Lib.hid (O_anew.out.on hb)
                                replace O_m := Lib.hid (O_m.out.on hb)
                                replace HW := Lib.hid (below_on HW.out hb)
                                replace Y_25 := Lib.hid (Y_25.out.on hb)
                                replace Y_26 := Lib.hid (Y_26.out.on hb)
                                clear hb a0 a1 a2 a3 a4
                                have b0 := K_s.out.c 0 _ rfl
                                have b1 := K_s.out.c 1 _ rfl
                                have b2 := K_s.out.c 2 _ rfl
                                have b3 := K_s.out.c 3 _ rfl
                                have b4 := K_s.out.c 4 _ rfl
                                go_wp2_with fail
                                refine (used_is ⟨O_s.out.lies, rfl, s64_len.1.symm, s64_len.2.symm, by decide, by decide, HC_s.out.1, HC_s.out.2⟩ ck_u2).mono ?_
                                rintro e r2 ⟨rfl, hb⟩
                                replace K_s := Lib.hid (K_s.out.on hb)
                                replace K_y := Lib.hid (K_y.out.on hb)
                                replace K_anew := Lib.hid (K_anew.out.on hb)
                                replace K_m := Lib.hid (K_m.out.on hb)
                                replace O_s := Lib.hid (O_s.out.on hb)
                                replace O_y := Lib.hid (O_y.out.on hb)
                                replace O_anew := Lib.hid (O_anew.out.on hb)
                                replace O_m := Lib.hid (O_m.out.on hb)
                                replace HW := Lib.hid (below_on HW.out hb)
                                replace Y_25 := Lib.hid (Y_25.out.on hb)
                                replace Y_26 := Lib.hid (Y_26.out.on hb)
                                clear hb b0 b1 b2 b3 b4
                                have c0 := K_y.out.c 0 _ rfl
                                have c1 := K_y.out.c 1 _ rfl
                                have c2 := K_y.out.c 2 _ rfl
                                have c3 := K_y.out.c 3 _ rfl
                                have c4 := K_y.out.c 4 _ rfl
                                go_wp2_with fail
                                refine (used_is ⟨O_y.out.lies, rfl, cky_len.1.symm, cky_len.2.symm, by decide, by decide, HC_y.out.1, HC_y.out.2⟩ ck_u3).mono ?_
                                rintro e r3 ⟨rfl, hb⟩
                                replace K_s := Lib.hid (K_s.out.on hb)
                                replace K_y := Lib.hid (K_y.out.on hb)
                                replace K_anew := Lib.hid (K_anew.out.on hb)
                                replace K_m := Lib.hid (K_m.out.on hb)
                                replace O_s := Lib.hid (O_s.out.on hb)
                                replace O_y := Lib.hid (O_y.out.on hb)
                                replace O_anew := Lib.hid (O_anew.out.on hb)
                                replace O_m := Lib.hid (O_m.out.on hb)
                                replace HW := Lib.hid (below_on HW.out hb)
                                replace Y_25 := Lib.hid (Y_25.out.on hb)
                                replace Y_26 := Lib.hid (Y_26.out.on hb)
                                clear hb c0 c1 c2 c3 c4
                                have d0 := K_anew.out.c 0 _ rfl
                                have d1 := K_anew.out.c 1 _ rfl
                                have d2 := K_anew.out.c 2 _ rfl
                                have d3 := K_anew.out.c 3 _ rfl
                                have d4 := K_anew.out.c 4 _ rfl
                                go_wp2_with fail
                                refine (used_is ⟨O_anew.out.lies, rfl, ckn_len.1.symm, ckn_len.2.symm, by decide, by decide, HC_anew.out.1, HC_anew.out.2⟩ ck_u4).mono ?_
                                rintro e r4 ⟨rfl, hb⟩
                                replace K_s := Lib.hid (K_s.out.on hb)
                                replace K_y := Lib.hid (K_y.out.on hb)
                                replace K_anew := Lib.hid (K_anew.out.on hb)
                                replace K_m := Lib.hid (K_m.out.on hb)
                                replace O_s := Lib.hid (O_s.out.on hb)
                                replace O_y := Lib.hid (O_y.out.on hb)
                                replace O_anew := Lib.hid (O_anew.out.on hb)
                                replace O_m := Lib.hid (O_m.out.on hb)
                                replace HW := Lib.hid (below_on HW.out hb)
                                replace Y_25 := Lib.hid (Y_25.out.on hb)
                                replace Y_26 := Lib.hid (Y_26.out.on hb)
                                clear hb d0 d1 d2 d3 d4
                                have m4 := K_m.out.c 4 _ rfl
                                have y4 := K_y.out.c 4 _ rfl
                                have q25 := Y_25.out.c 0 _ rfl
                                have q26 := Y_26.out.c 0 _ rfl
                                have hT := O_y.out.th 5 (by rw [cky_len.2]; decide)
                                rw [ck_t5] at hT
                                have x0 : r4.cell? ⟨Q11, 65, none⟩ = some (.int .i64 2) := hT 0 _ rfl
                                have x1 : r4.cell? ⟨Q11, 66, none⟩ = some (.int .i64 2) := hT 1 _ rfl
                                have x2 : r4.cell? ⟨Q11, 67, none⟩ = some (.int .i64 16) := hT 2 _ rfl
                                have x3 : r4.cell? ⟨Q11, 68, none⟩ = some (.int .i64 0) := hT 3 _ rfl
                                have x4 : r4.cell? ⟨Q11, 69, none⟩ = some (.int .i64 0) := hT 4 _ rfl
                                have x5 : r4.cell? ⟨Q11, 70, none⟩ = some (.int .i64 0) := hT 5 _ rfl
                                have x6 : r4.cell? ⟨Q11, 71, none⟩ = some (.int .i64 0) := hT 6 _ rfl
                                have x7 : r4.cell? ⟨Q11, 72, none⟩ = some (.bool false) := hT 7 _ rfl
                                have x8 : r4.cell? ⟨Q11, 73, none⟩ = some (.int .u64 0) := hT 8 _ rfl
                                have x9 : r4.cell? ⟨Q11, 74, none⟩ = some (.int .u64 0) := hT 9 _ rfl
                                have x10 : r4.cell? ⟨Q11, 75, none⟩ = some (.int .u64 0) := hT 10 _ rfl
                                have x11 : r4.cell? ⟨Q11, 76, none⟩ = some (.int .u64 0) := hT 11 _ rfl
                                have x12 : r4.cell? ⟨Q11, 77, none⟩ = some (.int .u64 0) := hT 12 _ rfl
                                have hM : r4.cell? ⟨Q24, 4, none⟩ = some (.int .i64 (thAt (cdone ckn aw15).th 0).used) := O_m.out.th 0 (by rw [ckm_len.2]; decide) 4 _ rfl
                                rw [ck_t0] at hM
                                have heq : ∀ w, (Op.equalIn 10000 45 (.agg #[.int .i64 2, .int .i64 2, .int .i64 16, .int .i64 0, .int .i64 0, .int .i64 0, .int .i64 0, .bool false, .int .u64 0, .int .u64 0, .int .u64 0, .int .u64 0, .int .u64 0]) (.agg #[.int .i64 2, .int .i64 2, .int .i64 16, .int .i64 0, .int .i64 0, .int .i64 0, .int .i64 0, .bool false, .int .u64 0, .int .u64 0, .int .u64 0, .int .u64 0, .int .u64 0])).run Try.prog w = .ok true w := fun w => by
                                  have := teq26 (Tng.mk 2 2 16 0 0 0 0 false 0 0 0 0 0) (Tng.mk 2 2 16 0 0 0 0 false 0 0 0 0 0) w
                                  rw [Tng.eq_self] at this
                                  exact this
                                clear hT
                                go_wp2
                                go_ret
                                exact ⟨rfl, HW.out⟩
end Go.Proofs.Ytfoklgenpafciaa
