/-
  What give answers of the first state, as plain data; the walk of the law GiveKnown. Condition: none.
-/
import Derived.Test.YtfoklgenpafciaaDf
import Derived.Test.YtfoklgenpafciaaDt
namespace Go.Proofs.Ytfoklgenpafciaa
open Go.RowKit
set_option linter.unusedSimpArgs false
set_option linter.unusedVariables false

def gkx : St := gputS s64 1 2 ⟨3, 1, 3, 9⟩
def gky : St := gmvS gkx 1 4
def gkz : St := gmvS gky 0 1
theorem gk_a : gdo s64 0 ⟨2, [0], [2], 7, 0, 0⟩ = (none, ⟨7, 0, 0⟩) := by kernel_rfl
theorem gk_b : gdo s64 0 ⟨2, [1], [0], 7, 0, 0⟩ = (none, ⟨5, 0, 0⟩) := by kernel_rfl
theorem gk_c : gdo s64 0 ⟨2, [3], [2], 7, 0, 0⟩ = (none, ⟨4, 0, 0⟩) := by kernel_rfl
theorem gk_d : gdo s64 0 ⟨3, [0], [2], 7, 9, 0⟩ = (none, ⟨7, 0, 0⟩) := by kernel_rfl
theorem gk_e : gdo s64 0 ⟨3, [1], [2], 3, 9, 0⟩ = (some gkx, ⟨0, 0, 0⟩) := by kernel_rfl
theorem gk_f : gdo gkx 0 ⟨3, [2], [3], 7, 8, 0⟩ = (none, ⟨5, 0, 0⟩) := by kernel_rfl
theorem gk_g : gdo gkx 0 ⟨4, [1], [4], 0, 0, 0⟩ = (some gky, ⟨0, 0, 0⟩) := by kernel_rfl
theorem gk_h : gdo gky 0 ⟨4, [0], [1], 0, 0, 0⟩ = (some gkz, ⟨0, 0, 0⟩) := by kernel_rfl
theorem gk_i : gput s64 0 2 ⟨1, 0, 7, 0⟩ = (none, 7) := by kernel_rfl
theorem gk_j : gput s64 1 2 ⟨0, 0, 0, 0⟩ = (none, 1) := by kernel_rfl
theorem gk_k : gput gkx 2 3 ⟨3, 1, 7, 9⟩ = (none, 1) := by kernel_rfl
theorem gk_l : gput s64 3 2 ⟨3, 1, 0, 0⟩ = (none, 4) := by kernel_rfl
theorem gk_m : gput s64 1 0 ⟨3, 1, 0, 0⟩ = (none, 5) := by kernel_rfl
theorem gk_n : gput s64 1 20 ⟨3, 1, 0, 0⟩ = (none, 1) := by kernel_rfl
theorem gk_o : gput s64 1 2 ⟨3, 1, 4, 3⟩ = (some (gputS s64 1 2 ⟨3, 1, 4, 3⟩), 0) := by kernel_rfl
theorem gk_x2 : slAt gkx.sl 2 = ⟨⟨3, 1, 3, 9⟩, 1⟩ := by kernel_rfl
theorem gk_y4 : slAt gky.sl 4 = ⟨⟨3, 1, 7, 0⟩, -1⟩ := by kernel_rfl
theorem gk_y1 : slAt gky.sl 1 = ⟨⟨0, 0, 0, 0⟩, -1⟩ := by kernel_rfl
theorem gk_y2 : slAt gky.sl 2 = ⟨⟨3, 1, 3, 9⟩, 4⟩ := by kernel_rfl
theorem gk_y9 : slAt gky.sl 9 = ⟨⟨3, 1, 7, 0⟩, 4⟩ := by kernel_rfl
theorem gk_z1 : slAt gkz.sl 1 = ⟨⟨1, 0, 7, 0⟩, -1⟩ := by kernel_rfl
theorem gkx_len : gkx.sl.length = 32 ∧ gkx.th.length = 16 := ⟨by kernel_rfl, by kernel_rfl⟩
theorem gky_len : gky.sl.length = 32 ∧ gky.th.length = 16 := ⟨by kernel_rfl, by kernel_rfl⟩
theorem gkz_len : gkz.sl.length = 32 ∧ gkz.th.length = 16 := ⟨by kernel_rfl, by kernel_rfl⟩
theorem pos_of {s : St} (h : s.sl.length = 32 ∧ s.th.length = 16) : ∀ s', some s = some s' → 0 < s'.sl.length ∧ 0 < s'.th.length := fun s' e => by
  injection e with e
  rw [← e, h.1, h.2]
  decide
theorem pos_none : ∀ s', (none : Option St) = some s' → 0 < s'.sl.length ∧ 0 < s'.th.length := fun s' e => by cases e

set_option maxRecDepth 100000 in
set_option maxHeartbeats 32000000 in
theorem give_known (w : World) : Calls Try.prog 4 #[] w fun e w' => e = .returned (.bool true) ∧ Below w.heap.size w w' := by
  go_enter Try.func4, Try.ntmps4
  go_wp2_with fail
  refine (awake16_is w).mono ?_
  rintro e w1 ⟨rfl, hb⟩
  have HB1 := Lib.hid hb
  clear hb
  go_wp2_with fail
  refine (first16_is w1).mono ?_
  rintro e w2 ⟨A, ca, C, cc, rfl, hS, -, hb⟩
  have HB2 := Lib.hid (below_on HB1.out hb)
  go_upto_region 4 with fail
  have K := Bxs.new w2 [.int .i64 2, .int .i64 32, .int .i64 16, .slice A 32 ca, .slice C 16 cc] 28
  have hal := below_alloc w2 (.cells #[.int .i64 2, .int .i64 32, .int .i64 16, .slice A 32 ca, .slice C 16 cc] 28)
  have HW := Lib.hid (below_on HB2.out hal)
  have HS_s := Lib.hid (hS.on hal)
  clear hS hb hal HB1 HB2
  obtain ⟨gs, hgs⟩ : ∃ gs, gs = w2.heap.size := ⟨_, rfl⟩
  rw [← hgs] at K ⊢
  clear hgs
  generalize w2.alloc _ = v4 at K HW HS_s ⊢
  have K_s := Lib.hid K
  clear K
  refine wp_region_held_drew (S := fun w' => Below v4.heap.size v4 w') (by kernel_rfl) (below_self v4).drew (fun hH => ?_)
  refine wpAnyH_take (i := 0) (v := .agg #[.int .i64 2, .int .i64 32, .int .i64 16, .slice A 32 ca, .slice C 16 cc]) rfl (by kernel_rfl) (by kernel_rfl) (by kernel_rfl) (fun _ _ _ h => h) (yieldsIf_load_mid (by rfl) 28 (.tmp 1) (by rfl) gs 0 (by rfl) [.int .i64 2, .int .i64 32, .int .i64 16, .slice A 32 ca, .slice C 16 cc] _ (fun w hS => ((K_s.out.on hS).range)) Try.underlying28 rfl info_state) (by assumption) ?_
  try simp only [Act.put, List.setIfInBounds_toArray, List.set_cons_zero, List.set_cons_succ, List.getElem_toArray, List.getElem_cons_zero, List.getElem_cons_succ]
  refine wpAnyH_inv (f0 := 1) [1, 2, 3, 4, 5, 6, 7, 8, 9, 10] [37, 38, 39, 40, 41, 35, 42, 43, 2] (fun l tm w => PHI v4 [0] [2] 2 32 16 A 32 ca C 16 cc none (.int .i64 7) [] true true (fun _ _ => undef) (l 1) (l 2) (l 3) (l 4) false (l 5) (l 6) (l 7) (l 8) (l 9) false (l 10) (tm 37) (tm 38) (tm 39) (tm 40) undef (tm 41) (tm 35) (tm 42) (tm 43) (tm 2) undef w) (by kernel_rfl) (by kernel_rfl) rfl (by decide) (fun l tm w h => h.bb) ?start (AllSteps.cons rfl ?o1 (AllSteps.cons rfl ?o2 (AllSteps.cons rfl ?o3 (AllSteps.cons rfl ?o4 (AllSteps.cons rfl ?o5 (AllSteps.cons rfl ?o6 (AllSteps.cons rfl ?o7 (AllSteps.cons rfl ?o8 (AllSteps.cons rfl ?o9 (AllSteps.cons rfl ?o10 AllSteps.nil)))))))))) ?fin
  case o1 =>
    intro l tm w h hl hd K hK
    try dsimp only at h
    rw [hl] at h
    have hh := h.addB1 (below_alloc w (.cells #[.int .i64 0] 3)) (lis_one w 0)
    exact st_run (v := .slice (some ⟨w.heap.size, 0, none⟩) 1 1) (by rfl) (by kernel_rfl) (hK.out _ _ hh)
  case o2 =>
    intro l tm w h hl hd K hK
    try dsimp only at h
    rw [hl] at h
    have hs := h.early1.1
    have h0 := h
    rw [hs] at h0
    obtain ⟨⟨B, nB, cB, eB, -⟩, -⟩ := h0.way1 (hd 1 (by kernel_rfl))
    have hc := way16_is (A := B) (n := nB) (cap := cB) w
    rw [← eB] at hc
    refine st_call (f := 18) (args := #[(tm 37)]) (w' := w) (by rfl) (by kernel_rfl) (hc.mono ?_)
    rintro e w1 ⟨rfl, hb⟩
    exact ⟨_, rfl, hK.out _ _ (h.addW1 (hd 1 (by kernel_rfl)) hb rfl)⟩
  case o3 =>
    intro l tm w h hl hd K hK
    try dsimp only at h
    rw [hl] at h
    have hh := h.addB2 (below_alloc w (.cells #[.int .i64 2] 3)) (lis_one w 2)
    exact st_run (v := .slice (some ⟨w.heap.size, 0, none⟩) 1 1) (by rfl) (by kernel_rfl) (hK.out _ _ hh)
  case o4 =>
    intro l tm w h hl hd K hK
    try dsimp only at h
    rw [hl] at h
    have hs := h.early2.1
    have h0 := h
    rw [hs] at h0
    obtain ⟨⟨B, nB, cB, eB, -⟩, -⟩ := h0.way2 (hd 3 (by kernel_rfl))
    have hc := way16_is (A := B) (n := nB) (cap := cB) w
    rw [← eB] at hc
    refine st_call (f := 18) (args := #[(tm 39)]) (w' := w) (by rfl) (by kernel_rfl) (hc.mono ?_)
    rintro e w1 ⟨rfl, hb⟩
    exact ⟨_, rfl, hK.out _ _ (h.addW2 (hd 3 (by kernel_rfl)) hb rfl)⟩
  case o5 =>
    intro l tm w h hl hd K hK
    try dsimp only at h
    rw [hl] at h
    have d1 := hd 2 (by kernel_rfl)
    have d2 := hd 4 (by kernel_rfl)
    have hs : l 10 = false := h.notS.1
    have h0 := h
    rw [hs] at h0
    obtain ⟨⟨B1, n1, k1, eB1, eN1, eK1, eI1⟩, eW1⟩ := h0.way1 ((h0.rg rfl).w1 d1).1
    obtain ⟨⟨B2, n2, k2, eB2, eN2, eK2, eI2⟩, eW2⟩ := h0.way2 ((h0.rg rfl).w2 d2).1
    have hW1 := (eW1 d1).trans (by rw [eB1])
    have hW2 := (eW2 d2).trans (by rw [eB2])
    have hA : #[.agg #[.int .i64 2, .int .i64 32, .int .i64 16, .slice A 32 ca, .slice C 16 cc], .int .i64 2, (tm 38), (tm 40), .int .i64 7, .int .i64 0] = #[.agg #[.int .i64 2, .int .i64 32, .int .i64 16, .slice A 32 ca, .slice C 16 cc], .int .i64 2, .agg #[.slice B1 n1 k1], .agg #[.slice B2 n2 k2], .int .i64 7, .int .i64 0] := by rw [hW1, hW2]
    refine st_call (f := 17) (args := #[.agg #[.int .i64 2, .int .i64 32, .int .i64 16, .slice A 32 ca, .slice C 16 cc], .int .i64 2, (tm 38), (tm 40), .int .i64 7, .int .i64 0]) (w' := w) (by rfl) (by kernel_rfl) ?_
    rw [hA]
    refine (does16_is (HS_s.out.on h.bb) eN1 eK1 eI1 eN2 eK2 eI2 gk_a).mono ?_
    rintro e w1 ⟨A', ca', C', cc', rfl, hb, hm⟩
    obtain ⟨q1, q2⟩ := resD_of (a := 2) (b := 32) (c := 16) (R := (.int .i64 7)) h.bb.size hm pos_none
    exact ⟨_, rfl, hK.out _ _ (h.addD hb q1 q2)⟩
  case o6 =>
    intro l tm w h hl hd K hK
    try dsimp only at h
    rw [hl] at h
    exact st_run (v := tm 41) (w' := w) (by rfl) (by kernel_rfl) (hK.out _ _ (h.addMv (hd 5 (by kernel_rfl)) rfl))
  case o7 =>
    intro l tm w h hl hd K hK
    try dsimp only at h
    rw [hl] at h
    obtain ⟨A', ca', C', cc', eT, -⟩ := h.tup (hd 6 (by kernel_rfl))
    refine st_run (v := .agg #[.int .i64 2, .int .i64 32, .int .i64 16, .slice A' 32 ca', .slice C' 16 cc']) (w' := w) (by rfl) ?_ (hK.out _ _ (h.addE1 (hd 6 (by kernel_rfl)) eT))
    simp only [List.getElem_toArray, List.getElem_cons_zero, List.getElem_cons_succ, pmA, List.foldl_cons, List.foldl_nil, Act.put, List.setIfInBounds_toArray, List.set_cons_zero, List.set_cons_succ]
    rw [eT]
    kernel_rfl
  case o8 =>
    intro l tm w h hl hd K hK
    try dsimp only at h
    rw [hl] at h
    obtain ⟨A', ca', C', cc', eT, -⟩ := h.tup (hd 6 (by kernel_rfl))
    refine st_run (v := (.int .i64 7)) (w' := w) (by rfl) ?_ (hK.out _ _ (h.addE2 (hd 6 (by kernel_rfl)) eT))
    simp only [List.getElem_toArray, List.getElem_cons_zero, List.getElem_cons_succ, pmA, List.foldl_cons, List.foldl_nil, Act.put, List.setIfInBounds_toArray, List.set_cons_zero, List.set_cons_succ]
    rw [eT]
    kernel_rfl
  case o9 =>
    intro l tm w h hl hd K hK
    try dsimp only at h
    rw [hl] at h
    have hh := h.addQ pos_none 28
    exact st_run (v := ptr w.heap.size) (by rfl) (by kernel_rfl) (hK.out _ _ hh)
  case o10 =>
    intro l tm w h hl hd K hK
    try dsimp only at h
    rw [hl] at h
    obtain ⟨x, A', ca', C', cc', ex, e1, ed, hw⟩ := h.atS' (hd 5 (by kernel_rfl)) (hd 6 (by kernel_rfl)) (hd 7 (by kernel_rfl)) (hd 9 (by kernel_rfl))
    have HT : Hid (w.there x 0 (#[.int .i64 2, .int .i64 32, .int .i64 16, .slice A' 32 ca', .slice C' 16 cc'] : Array Value).size) := Lib.hid (hw.there (n := 5) rfl)
    have HO := Lib.hid (state_one 2 32 16 A' 32 ca' C' 16 cc')
    refine st_store (by rfl) 28 (.tmp 2) (.tmp 42) (by rfl) x 0 #[.int .i64 2, .int .i64 32, .int .i64 16, .slice A' 32 ca', .slice C' 16 cc'] ((by kernel_rfl : _ = tm 2).trans ex) ((by kernel_rfl : _ = tm 42).trans e1) HT.out info_state HO.out ?_
    refine hK.out undef (w.setCells x 0 [.int .i64 2, .int .i64 32, .int .i64 16, .slice A' 32 ca', .slice C' 16 cc']) ?_
    exact h.addS' (hd 1 (by kernel_rfl)) (hd 2 (by kernel_rfl)) (hd 3 (by kernel_rfl)) (hd 4 (by kernel_rfl)) (fun e => absurd e (by decide)) (hd 5 (by kernel_rfl)) (hd 6 (by kernel_rfl)) (hd 7 (by kernel_rfl)) (hd 9 (by kernel_rfl)) (fun e => absurd e (by decide)) ex ed
  case start => exact ⟨hH, fun _ => ⟨hH, fun e => ff rfl e, fun e => ff rfl e, fun e => ff rfl e, fun e => ff rfl e, fun e => ff rfl e, fun e => ff rfl e, fun e => ff rfl e, fun e => ff rfl e, fun e => ff rfl e, fun e => ff rfl e⟩, fun e => ff rfl e, fun e => ff rfl e, fun e => ff rfl e, fun e => ff rfl e, fun e => ff rfl e, fun e => ff rfl e⟩
  case fin =>
    intro tm v5 h
    try dsimp only at h
    obtain ⟨hbb, hR, hP⟩ := h.fin (by kernel_rfl) (by kernel_rfl)
    obtain ⟨g4, A4, ca4, C4, cc4, ed, ex, hx, hm, -⟩ := hP
    simp only [ptr] at ex
    clear h ed
    simp only [pmA, List.foldl_cons, List.foldl_nil, Act.put, List.setIfInBounds_toArray, List.set_cons_zero, List.set_cons_succ]
    rw [ex, hR]
    clear ex hR
    refine wpAnyH_take (i := 11) (v := ?_) rfl (by kernel_rfl) (by kernel_rfl) (by kernel_rfl) (fun _ _ _ h => h) (Or.inl ⟨by rfl, ?_⟩) (by assumption) ?_
    rotate_left
    · intro w hSw; go_simp; try with_reducible rfl
    try simp only [Act.put, List.setIfInBounds_toArray, List.set_cons_zero, List.set_cons_succ, List.getElem_toArray, List.getElem_cons_zero, List.getElem_cons_succ]
    refine wpAnyH_done (by kernel_rfl) ?_ _
    replace K_s := Lib.hid (K_s.out.on hbb)
    replace HS_s := Lib.hid (HS_s.out.on hbb)
    replace HW := Lib.hid (below_on HW.out hbb)
    clear hbb hx hH
    clear hm
    go_upto_region 5 with fail
    refine wp_region_held_drew (S := fun w' => Below v5.heap.size v5 w') (by kernel_rfl) (below_self v5).drew (fun hH => ?_)
    refine wpAnyH_take (i := 0) (v := .agg #[.int .i64 2, .int .i64 32, .int .i64 16, .slice A 32 ca, .slice C 16 cc]) rfl (by kernel_rfl) (by kernel_rfl) (by kernel_rfl) (fun _ _ _ h => h) (yieldsIf_load_mid (by rfl) 28 (.tmp 1) (by rfl) gs 0 (by rfl) [.int .i64 2, .int .i64 32, .int .i64 16, .slice A 32 ca, .slice C 16 cc] _ (fun w hS => ((K_s.out.on hS).range)) Try.underlying28 rfl info_state) (by assumption) ?_
    try simp only [Act.put, List.setIfInBounds_toArray, List.set_cons_zero, List.set_cons_succ, List.getElem_toArray, List.getElem_cons_zero, List.getElem_cons_succ]
    refine wpAnyH_inv (f0 := 1) [1, 2, 3, 4, 5, 6, 7, 8, 9, 10] [46, 47, 48, 49, 50, 44, 51, 52, 4] (fun l tm w => PHI v5 [1] [0] 2 32 16 A 32 ca C 16 cc none (.int .i64 5) [] true true (fun _ _ => undef) (l 1) (l 2) (l 3) (l 4) false (l 5) (l 6) (l 7) (l 8) (l 9) false (l 10) (tm 46) (tm 47) (tm 48) (tm 49) undef (tm 50) (tm 44) (tm 51) (tm 52) (tm 4) undef w) (by kernel_rfl) (by kernel_rfl) rfl (by decide) (fun l tm w h => h.bb) ?start (AllSteps.cons rfl ?o1 (AllSteps.cons rfl ?o2 (AllSteps.cons rfl ?o3 (AllSteps.cons rfl ?o4 (AllSteps.cons rfl ?o5 (AllSteps.cons rfl ?o6 (AllSteps.cons rfl ?o7 (AllSteps.cons rfl ?o8 (AllSteps.cons rfl ?o9 (AllSteps.cons rfl ?o10 AllSteps.nil)))))))))) ?fin
    case o1 =>
      intro l tm w h hl hd K hK
      try dsimp only at h
      rw [hl] at h
      have hh := h.addB1 (below_alloc w (.cells #[.int .i64 1] 3)) (lis_one w 1)
      exact st_run (v := .slice (some ⟨w.heap.size, 0, none⟩) 1 1) (by rfl) (by kernel_rfl) (hK.out _ _ hh)
    case o2 =>
      intro l tm w h hl hd K hK
      try dsimp only at h
      rw [hl] at h
      have hs := h.early1.1
      have h0 := h
      rw [hs] at h0
      obtain ⟨⟨B, nB, cB, eB, -⟩, -⟩ := h0.way1 (hd 1 (by kernel_rfl))
      have hc := way16_is (A := B) (n := nB) (cap := cB) w
      rw [← eB] at hc
      refine st_call (f := 18) (args := #[(tm 46)]) (w' := w) (by rfl) (by kernel_rfl) (hc.mono ?_)
      rintro e w1 ⟨rfl, hb⟩
      exact ⟨_, rfl, hK.out _ _ (h.addW1 (hd 1 (by kernel_rfl)) hb rfl)⟩
    case o3 =>
      intro l tm w h hl hd K hK
      try dsimp only at h
      rw [hl] at h
      have hh := h.addB2 (below_alloc w (.cells #[.int .i64 0] 3)) (lis_one w 0)
      exact st_run (v := .slice (some ⟨w.heap.size, 0, none⟩) 1 1) (by rfl) (by kernel_rfl) (hK.out _ _ hh)
    case o4 =>
      intro l tm w h hl hd K hK
      try dsimp only at h
      rw [hl] at h
      have hs := h.early2.1
      have h0 := h
      rw [hs] at h0
      obtain ⟨⟨B, nB, cB, eB, -⟩, -⟩ := h0.way2 (hd 3 (by kernel_rfl))
      have hc := way16_is (A := B) (n := nB) (cap := cB) w
      rw [← eB] at hc
      refine st_call (f := 18) (args := #[(tm 48)]) (w' := w) (by rfl) (by kernel_rfl) (hc.mono ?_)
      rintro e w1 ⟨rfl, hb⟩
      exact ⟨_, rfl, hK.out _ _ (h.addW2 (hd 3 (by kernel_rfl)) hb rfl)⟩
    case o5 =>
      intro l tm w h hl hd K hK
      try dsimp only at h
      rw [hl] at h
      have d1 := hd 2 (by kernel_rfl)
      have d2 := hd 4 (by kernel_rfl)
      have hs : l 10 = false := h.notS.1
      have h0 := h
      rw [hs] at h0
      obtain ⟨⟨B1, n1, k1, eB1, eN1, eK1, eI1⟩, eW1⟩ := h0.way1 ((h0.rg rfl).w1 d1).1
      obtain ⟨⟨B2, n2, k2, eB2, eN2, eK2, eI2⟩, eW2⟩ := h0.way2 ((h0.rg rfl).w2 d2).1
      have hW1 := (eW1 d1).trans (by rw [eB1])
      have hW2 := (eW2 d2).trans (by rw [eB2])
      have hA : #[.agg #[.int .i64 2, .int .i64 32, .int .i64 16, .slice A 32 ca, .slice C 16 cc], .int .i64 2, (tm 47), (tm 49), .int .i64 7, .int .i64 0] = #[.agg #[.int .i64 2, .int .i64 32, .int .i64 16, .slice A 32 ca, .slice C 16 cc], .int .i64 2, .agg #[.slice B1 n1 k1], .agg #[.slice B2 n2 k2], .int .i64 7, .int .i64 0] := by rw [hW1, hW2]
      refine st_call (f := 17) (args := #[.agg #[.int .i64 2, .int .i64 32, .int .i64 16, .slice A 32 ca, .slice C 16 cc], .int .i64 2, (tm 47), (tm 49), .int .i64 7, .int .i64 0]) (w' := w) (by rfl) (by kernel_rfl) ?_
      rw [hA]
      refine (does16_is (HS_s.out.on h.bb) eN1 eK1 eI1 eN2 eK2 eI2 gk_b).mono ?_
      rintro e w1 ⟨A', ca', C', cc', rfl, hb, hm⟩
      obtain ⟨q1, q2⟩ := resD_of (a := 2) (b := 32) (c := 16) (R := (.int .i64 5)) h.bb.size hm pos_none
      exact ⟨_, rfl, hK.out _ _ (h.addD hb q1 q2)⟩
    case o6 =>
      intro l tm w h hl hd K hK
      try dsimp only at h
      rw [hl] at h
      exact st_run (v := tm 50) (w' := w) (by rfl) (by kernel_rfl) (hK.out _ _ (h.addMv (hd 5 (by kernel_rfl)) rfl))
    case o7 =>
      intro l tm w h hl hd K hK
      try dsimp only at h
      rw [hl] at h
      obtain ⟨A', ca', C', cc', eT, -⟩ := h.tup (hd 6 (by kernel_rfl))
      refine st_run (v := .agg #[.int .i64 2, .int .i64 32, .int .i64 16, .slice A' 32 ca', .slice C' 16 cc']) (w' := w) (by rfl) ?_ (hK.out _ _ (h.addE1 (hd 6 (by kernel_rfl)) eT))
      simp only [List.getElem_toArray, List.getElem_cons_zero, List.getElem_cons_succ, pmA, List.foldl_cons, List.foldl_nil, Act.put, List.setIfInBounds_toArray, List.set_cons_zero, List.set_cons_succ]
      rw [eT]
      kernel_rfl
    case o8 =>
      intro l tm w h hl hd K hK
      try dsimp only at h
      rw [hl] at h
      obtain ⟨A', ca', C', cc', eT, -⟩ := h.tup (hd 6 (by kernel_rfl))
      refine st_run (v := (.int .i64 5)) (w' := w) (by rfl) ?_ (hK.out _ _ (h.addE2 (hd 6 (by kernel_rfl)) eT))
      simp only [List.getElem_toArray, List.getElem_cons_zero, List.getElem_cons_succ, pmA, List.foldl_cons, List.foldl_nil, Act.put, List.setIfInBounds_toArray, List.set_cons_zero, List.set_cons_succ]
      rw [eT]
      kernel_rfl
    case o9 =>
      intro l tm w h hl hd K hK
      try dsimp only at h
      rw [hl] at h
      have hh := h.addQ pos_none 28
      exact st_run (v := ptr w.heap.size) (by rfl) (by kernel_rfl) (hK.out _ _ hh)
    case o10 =>
      intro l tm w h hl hd K hK
      try dsimp only at h
      rw [hl] at h
      obtain ⟨x, A', ca', C', cc', ex, e1, ed, hw⟩ := h.atS' (hd 5 (by kernel_rfl)) (hd 6 (by kernel_rfl)) (hd 7 (by kernel_rfl)) (hd 9 (by kernel_rfl))
      have HT : Hid (w.there x 0 (#[.int .i64 2, .int .i64 32, .int .i64 16, .slice A' 32 ca', .slice C' 16 cc'] : Array Value).size) := Lib.hid (hw.there (n := 5) rfl)
      have HO := Lib.hid (state_one 2 32 16 A' 32 ca' C' 16 cc')
      refine st_store (by rfl) 28 (.tmp 4) (.tmp 51) (by rfl) x 0 #[.int .i64 2, .int .i64 32, .int .i64 16, .slice A' 32 ca', .slice C' 16 cc'] ((by kernel_rfl : _ = tm 4).trans ex) ((by kernel_rfl : _ = tm 51).trans e1) HT.out info_state HO.out ?_
      refine hK.out undef (w.setCells x 0 [.int .i64 2, .int .i64 32, .int .i64 16, .slice A' 32 ca', .slice C' 16 cc']) ?_
      exact h.addS' (hd 1 (by kernel_rfl)) (hd 2 (by kernel_rfl)) (hd 3 (by kernel_rfl)) (hd 4 (by kernel_rfl)) (fun e => absurd e (by decide)) (hd 5 (by kernel_rfl)) (hd 6 (by kernel_rfl)) (hd 7 (by kernel_rfl)) (hd 9 (by kernel_rfl)) (fun e => absurd e (by decide)) ex ed
    case start => exact ⟨hH, fun _ => ⟨hH, fun e => ff rfl e, fun e => ff rfl e, fun e => ff rfl e, fun e => ff rfl e, fun e => ff rfl e, fun e => ff rfl e, fun e => ff rfl e, fun e => ff rfl e, fun e => ff rfl e, fun e => ff rfl e⟩, fun e => ff rfl e, fun e => ff rfl e, fun e => ff rfl e, fun e => ff rfl e, fun e => ff rfl e, fun e => ff rfl e⟩
    case fin =>
      intro tm v6 h
      try dsimp only at h
      obtain ⟨hbb, hR, hP⟩ := h.fin (by kernel_rfl) (by kernel_rfl)
      obtain ⟨g5, A5, ca5, C5, cc5, ed, ex, hx, hm, -⟩ := hP
      simp only [ptr] at ex
      clear h ed
      simp only [pmA, List.foldl_cons, List.foldl_nil, Act.put, List.setIfInBounds_toArray, List.set_cons_zero, List.set_cons_succ]
      rw [ex, hR]
      clear ex hR
      refine wpAnyH_take (i := 11) (v := ?_) rfl (by kernel_rfl) (by kernel_rfl) (by kernel_rfl) (fun _ _ _ h => h) (Or.inl ⟨by rfl, ?_⟩) (by assumption) ?_
      rotate_left
      · intro w hSw; go_simp; try with_reducible rfl
      try simp only [Act.put, List.setIfInBounds_toArray, List.set_cons_zero, List.set_cons_succ, List.getElem_toArray, List.getElem_cons_zero, List.getElem_cons_succ]
      refine wpAnyH_done (by kernel_rfl) ?_ _
      replace K_s := Lib.hid (K_s.out.on hbb)
      replace HS_s := Lib.hid (HS_s.out.on hbb)
      replace HW := Lib.hid (below_on HW.out hbb)
      clear hbb hx hH
      clear hm
      go_upto_region 6 with fail
      refine wp_region_held_drew (S := fun w' => Below v6.heap.size v6 w') (by kernel_rfl) (below_self v6).drew (fun hH => ?_)
      refine wpAnyH_take (i := 0) (v := .agg #[.int .i64 2, .int .i64 32, .int .i64 16, .slice A 32 ca, .slice C 16 cc]) rfl (by kernel_rfl) (by kernel_rfl) (by kernel_rfl) (fun _ _ _ h => h) (yieldsIf_load_mid (by rfl) 28 (.tmp 1) (by rfl) gs 0 (by rfl) [.int .i64 2, .int .i64 32, .int .i64 16, .slice A 32 ca, .slice C 16 cc] _ (fun w hS => ((K_s.out.on hS).range)) Try.underlying28 rfl info_state) (by assumption) ?_
      try simp only [Act.put, List.setIfInBounds_toArray, List.set_cons_zero, List.set_cons_succ, List.getElem_toArray, List.getElem_cons_zero, List.getElem_cons_succ]
      refine wpAnyH_inv (f0 := 1) [1, 2, 3, 4, 5, 6, 7, 8, 9, 10] [55, 56, 57, 58, 59, 53, 60, 61, 6] (fun l tm w => PHI v6 [3] [2] 2 32 16 A 32 ca C 16 cc none (.int .i64 4) [] true true (fun _ _ => undef) (l 1) (l 2) (l 3) (l 4) false (l 5) (l 6) (l 7) (l 8) (l 9) false (l 10) (tm 55) (tm 56) (tm 57) (tm 58) undef (tm 59) (tm 53) (tm 60) (tm 61) (tm 6) undef w) (by kernel_rfl) (by kernel_rfl) rfl (by decide) (fun l tm w h => h.bb) ?start (AllSteps.cons rfl ?o1 (AllSteps.cons rfl ?o2 (AllSteps.cons rfl ?o3 (AllSteps.cons rfl ?o4 (AllSteps.cons rfl ?o5 (AllSteps.cons rfl ?o6 (AllSteps.cons rfl ?o7 (AllSteps.cons rfl ?o8 (AllSteps.cons rfl ?o9 (AllSteps.cons rfl ?o10 AllSteps.nil)))))))))) ?fin
      case o1 =>
        intro l tm w h hl hd K hK
        try dsimp only at h
        rw [hl] at h
        have hh := h.addB1 (below_alloc w (.cells #[.int .i64 3] 3)) (lis_one w 3)
        exact st_run (v := .slice (some ⟨w.heap.size, 0, none⟩) 1 1) (by rfl) (by kernel_rfl) (hK.out _ _ hh)
      case o2 =>
        intro l tm w h hl hd K hK
        try dsimp only at h
        rw [hl] at h
        have hs := h.early1.1
        have h0 := h
        rw [hs] at h0
        obtain ⟨⟨B, nB, cB, eB, -⟩, -⟩ := h0.way1 (hd 1 (by kernel_rfl))
        have hc := way16_is (A := B) (n := nB) (cap := cB) w
        rw [← eB] at hc
        refine st_call (f := 18) (args := #[(tm 55)]) (w' := w) (by rfl) (by kernel_rfl) (hc.mono ?_)
        rintro e w1 ⟨rfl, hb⟩
        exact ⟨_, rfl, hK.out _ _ (h.addW1 (hd 1 (by kernel_rfl)) hb rfl)⟩
      case o3 =>
        intro l tm w h hl hd K hK
        try dsimp only at h
        rw [hl] at h
        have hh := h.addB2 (below_alloc w (.cells #[.int .i64 2] 3)) (lis_one w 2)
        exact st_run (v := .slice (some ⟨w.heap.size, 0, none⟩) 1 1) (by rfl) (by kernel_rfl) (hK.out _ _ hh)
      case o4 =>
        intro l tm w h hl hd K hK
        try dsimp only at h
        rw [hl] at h
        have hs := h.early2.1
        have h0 := h
        rw [hs] at h0
        obtain ⟨⟨B, nB, cB, eB, -⟩, -⟩ := h0.way2 (hd 3 (by kernel_rfl))
        have hc := way16_is (A := B) (n := nB) (cap := cB) w
        rw [← eB] at hc
        refine st_call (f := 18) (args := #[(tm 57)]) (w' := w) (by rfl) (by kernel_rfl) (hc.mono ?_)
        rintro e w1 ⟨rfl, hb⟩
        exact ⟨_, rfl, hK.out _ _ (h.addW2 (hd 3 (by kernel_rfl)) hb rfl)⟩
      case o5 =>
        intro l tm w h hl hd K hK
        try dsimp only at h
        rw [hl] at h
        have d1 := hd 2 (by kernel_rfl)
        have d2 := hd 4 (by kernel_rfl)
        have hs : l 10 = false := h.notS.1
        have h0 := h
        rw [hs] at h0
        obtain ⟨⟨B1, n1, k1, eB1, eN1, eK1, eI1⟩, eW1⟩ := h0.way1 ((h0.rg rfl).w1 d1).1
        obtain ⟨⟨B2, n2, k2, eB2, eN2, eK2, eI2⟩, eW2⟩ := h0.way2 ((h0.rg rfl).w2 d2).1
        have hW1 := (eW1 d1).trans (by rw [eB1])
        have hW2 := (eW2 d2).trans (by rw [eB2])
        have hA : #[.agg #[.int .i64 2, .int .i64 32, .int .i64 16, .slice A 32 ca, .slice C 16 cc], .int .i64 2, (tm 56), (tm 58), .int .i64 7, .int .i64 0] = #[.agg #[.int .i64 2, .int .i64 32, .int .i64 16, .slice A 32 ca, .slice C 16 cc], .int .i64 2, .agg #[.slice B1 n1 k1], .agg #[.slice B2 n2 k2], .int .i64 7, .int .i64 0] := by rw [hW1, hW2]
        refine st_call (f := 17) (args := #[.agg #[.int .i64 2, .int .i64 32, .int .i64 16, .slice A 32 ca, .slice C 16 cc], .int .i64 2, (tm 56), (tm 58), .int .i64 7, .int .i64 0]) (w' := w) (by rfl) (by kernel_rfl) ?_
        rw [hA]
        refine (does16_is (HS_s.out.on h.bb) eN1 eK1 eI1 eN2 eK2 eI2 gk_c).mono ?_
        rintro e w1 ⟨A', ca', C', cc', rfl, hb, hm⟩
        obtain ⟨q1, q2⟩ := resD_of (a := 2) (b := 32) (c := 16) (R := (.int .i64 4)) h.bb.size hm pos_none
        exact ⟨_, rfl, hK.out _ _ (h.addD hb q1 q2)⟩
      case o6 =>
        intro l tm w h hl hd K hK
        try dsimp only at h
        rw [hl] at h
        exact st_run (v := tm 59) (w' := w) (by rfl) (by kernel_rfl) (hK.out _ _ (h.addMv (hd 5 (by kernel_rfl)) rfl))
      case o7 =>
        intro l tm w h hl hd K hK
        try dsimp only at h
        rw [hl] at h
        obtain ⟨A', ca', C', cc', eT, -⟩ := h.tup (hd 6 (by kernel_rfl))
        refine st_run (v := .agg #[.int .i64 2, .int .i64 32, .int .i64 16, .slice A' 32 ca', .slice C' 16 cc']) (w' := w) (by rfl) ?_ (hK.out _ _ (h.addE1 (hd 6 (by kernel_rfl)) eT))
        simp only [List.getElem_toArray, List.getElem_cons_zero, List.getElem_cons_succ, pmA, List.foldl_cons, List.foldl_nil, Act.put, List.setIfInBounds_toArray, List.set_cons_zero, List.set_cons_succ]
        rw [eT]
        kernel_rfl
      case o8 =>
        intro l tm w h hl hd K hK
        try dsimp only at h
        rw [hl] at h
        obtain ⟨A', ca', C', cc', eT, -⟩ := h.tup (hd 6 (by kernel_rfl))
        refine st_run (v := (.int .i64 4)) (w' := w) (by rfl) ?_ (hK.out _ _ (h.addE2 (hd 6 (by kernel_rfl)) eT))
        simp only [List.getElem_toArray, List.getElem_cons_zero, List.getElem_cons_succ, pmA, List.foldl_cons, List.foldl_nil, Act.put, List.setIfInBounds_toArray, List.set_cons_zero, List.set_cons_succ]
        rw [eT]
        kernel_rfl
      case o9 =>
        intro l tm w h hl hd K hK
        try dsimp only at h
        rw [hl] at h
        have hh := h.addQ pos_none 28
        exact st_run (v := ptr w.heap.size) (by rfl) (by kernel_rfl) (hK.out _ _ hh)
      case o10 =>
        intro l tm w h hl hd K hK
        try dsimp only at h
        rw [hl] at h
        obtain ⟨x, A', ca', C', cc', ex, e1, ed, hw⟩ := h.atS' (hd 5 (by kernel_rfl)) (hd 6 (by kernel_rfl)) (hd 7 (by kernel_rfl)) (hd 9 (by kernel_rfl))
        have HT : Hid (w.there x 0 (#[.int .i64 2, .int .i64 32, .int .i64 16, .slice A' 32 ca', .slice C' 16 cc'] : Array Value).size) := Lib.hid (hw.there (n := 5) rfl)
        have HO := Lib.hid (state_one 2 32 16 A' 32 ca' C' 16 cc')
        refine st_store (by rfl) 28 (.tmp 6) (.tmp 60) (by rfl) x 0 #[.int .i64 2, .int .i64 32, .int .i64 16, .slice A' 32 ca', .slice C' 16 cc'] ((by kernel_rfl : _ = tm 6).trans ex) ((by kernel_rfl : _ = tm 60).trans e1) HT.out info_state HO.out ?_
        refine hK.out undef (w.setCells x 0 [.int .i64 2, .int .i64 32, .int .i64 16, .slice A' 32 ca', .slice C' 16 cc']) ?_
        exact h.addS' (hd 1 (by kernel_rfl)) (hd 2 (by kernel_rfl)) (hd 3 (by kernel_rfl)) (hd 4 (by kernel_rfl)) (fun e => absurd e (by decide)) (hd 5 (by kernel_rfl)) (hd 6 (by kernel_rfl)) (hd 7 (by kernel_rfl)) (hd 9 (by kernel_rfl)) (fun e => absurd e (by decide)) ex ed
      case start => exact ⟨hH, fun _ => ⟨hH, fun e => ff rfl e, fun e => ff rfl e, fun e => ff rfl e, fun e => ff rfl e, fun e => ff rfl e, fun e => ff rfl e, fun e => ff rfl e, fun e => ff rfl e, fun e => ff rfl e, fun e => ff rfl e⟩, fun e => ff rfl e, fun e => ff rfl e, fun e => ff rfl e, fun e => ff rfl e, fun e => ff rfl e, fun e => ff rfl e⟩
      case fin =>
        intro tm v7 h
        try dsimp only at h
        obtain ⟨hbb, hR, hP⟩ := h.fin (by kernel_rfl) (by kernel_rfl)
        obtain ⟨g6, A6, ca6, C6, cc6, ed, ex, hx, hm, -⟩ := hP
        simp only [ptr] at ex
        clear h ed
        simp only [pmA, List.foldl_cons, List.foldl_nil, Act.put, List.setIfInBounds_toArray, List.set_cons_zero, List.set_cons_succ]
        rw [ex, hR]
        clear ex hR
        refine wpAnyH_take (i := 11) (v := ?_) rfl (by kernel_rfl) (by kernel_rfl) (by kernel_rfl) (fun _ _ _ h => h) (Or.inl ⟨by rfl, ?_⟩) (by assumption) ?_
        rotate_left
        · intro w hSw; go_simp; try with_reducible rfl
        try simp only [Act.put, List.setIfInBounds_toArray, List.set_cons_zero, List.set_cons_succ, List.getElem_toArray, List.getElem_cons_zero, List.getElem_cons_succ]
        refine wpAnyH_done (by kernel_rfl) ?_ _
        replace K_s := Lib.hid (K_s.out.on hbb)
        replace HS_s := Lib.hid (HS_s.out.on hbb)
        replace HW := Lib.hid (below_on HW.out hbb)
        clear hbb hx hH
        clear hm
        go_upto_region 7 with fail
        refine wp_region_held_drew (S := fun w' => Below v7.heap.size v7 w') (by kernel_rfl) (below_self v7).drew (fun hH => ?_)
        refine wpAnyH_take (i := 0) (v := .agg #[.int .i64 2, .int .i64 32, .int .i64 16, .slice A 32 ca, .slice C 16 cc]) rfl (by kernel_rfl) (by kernel_rfl) (by kernel_rfl) (fun _ _ _ h => h) (yieldsIf_load_mid (by rfl) 28 (.tmp 1) (by rfl) gs 0 (by rfl) [.int .i64 2, .int .i64 32, .int .i64 16, .slice A 32 ca, .slice C 16 cc] _ (fun w hS => ((K_s.out.on hS).range)) Try.underlying28 rfl info_state) (by assumption) ?_
        try simp only [Act.put, List.setIfInBounds_toArray, List.set_cons_zero, List.set_cons_succ, List.getElem_toArray, List.getElem_cons_zero, List.getElem_cons_succ]
        refine wpAnyH_inv (f0 := 1) [1, 2, 3, 4, 5, 6, 7, 8, 9, 10] [64, 65, 66, 67, 68, 62, 69, 70, 8] (fun l tm w => PHI v7 [0] [2] 2 32 16 A 32 ca C 16 cc none (.int .i64 7) [] true true (fun _ _ => undef) (l 1) (l 2) (l 3) (l 4) false (l 5) (l 6) (l 7) (l 8) (l 9) false (l 10) (tm 64) (tm 65) (tm 66) (tm 67) undef (tm 68) (tm 62) (tm 69) (tm 70) (tm 8) undef w) (by kernel_rfl) (by kernel_rfl) rfl (by decide) (fun l tm w h => h.bb) ?start (AllSteps.cons rfl ?o1 (AllSteps.cons rfl ?o2 (AllSteps.cons rfl ?o3 (AllSteps.cons rfl ?o4 (AllSteps.cons rfl ?o5 (AllSteps.cons rfl ?o6 (AllSteps.cons rfl ?o7 (AllSteps.cons rfl ?o8 (AllSteps.cons rfl ?o9 (AllSteps.cons rfl ?o10 AllSteps.nil)))))))))) ?fin
        case o1 =>
          intro l tm w h hl hd K hK
          try dsimp only at h
          rw [hl] at h
          have hh := h.addB1 (below_alloc w (.cells #[.int .i64 0] 3)) (lis_one w 0)
          exact st_run (v := .slice (some ⟨w.heap.size, 0, none⟩) 1 1) (by rfl) (by kernel_rfl) (hK.out _ _ hh)
        case o2 =>
          intro l tm w h hl hd K hK
          try dsimp only at h
          rw [hl] at h
          have hs := h.early1.1
          have h0 := h
          rw [hs] at h0
          obtain ⟨⟨B, nB, cB, eB, -⟩, -⟩ := h0.way1 (hd 1 (by kernel_rfl))
          have hc := way16_is (A := B) (n := nB) (cap := cB) w
          rw [← eB] at hc
          refine st_call (f := 18) (args := #[(tm 64)]) (w' := w) (by rfl) (by kernel_rfl) (hc.mono ?_)
          rintro e w1 ⟨rfl, hb⟩
          exact ⟨_, rfl, hK.out _ _ (h.addW1 (hd 1 (by kernel_rfl)) hb rfl)⟩
        case o3 =>
          intro l tm w h hl hd K hK
          try dsimp only at h
          rw [hl] at h
          have hh := h.addB2 (below_alloc w (.cells #[.int .i64 2] 3)) (lis_one w 2)
          exact st_run (v := .slice (some ⟨w.heap.size, 0, none⟩) 1 1) (by rfl) (by kernel_rfl) (hK.out _ _ hh)
        case o4 =>
          intro l tm w h hl hd K hK
          try dsimp only at h
          rw [hl] at h
          have hs := h.early2.1
          have h0 := h
          rw [hs] at h0
          obtain ⟨⟨B, nB, cB, eB, -⟩, -⟩ := h0.way2 (hd 3 (by kernel_rfl))
          have hc := way16_is (A := B) (n := nB) (cap := cB) w
          rw [← eB] at hc
          refine st_call (f := 18) (args := #[(tm 66)]) (w' := w) (by rfl) (by kernel_rfl) (hc.mono ?_)
          rintro e w1 ⟨rfl, hb⟩
          exact ⟨_, rfl, hK.out _ _ (h.addW2 (hd 3 (by kernel_rfl)) hb rfl)⟩
        case o5 =>
          intro l tm w h hl hd K hK
          try dsimp only at h
          rw [hl] at h
          have d1 := hd 2 (by kernel_rfl)
          have d2 := hd 4 (by kernel_rfl)
          have hs : l 10 = false := h.notS.1
          have h0 := h
          rw [hs] at h0
          obtain ⟨⟨B1, n1, k1, eB1, eN1, eK1, eI1⟩, eW1⟩ := h0.way1 ((h0.rg rfl).w1 d1).1
          obtain ⟨⟨B2, n2, k2, eB2, eN2, eK2, eI2⟩, eW2⟩ := h0.way2 ((h0.rg rfl).w2 d2).1
          have hW1 := (eW1 d1).trans (by rw [eB1])
          have hW2 := (eW2 d2).trans (by rw [eB2])
          have hA : #[.agg #[.int .i64 2, .int .i64 32, .int .i64 16, .slice A 32 ca, .slice C 16 cc], .int .i64 3, (tm 65), (tm 67), .int .i64 7, .int .i64 9] = #[.agg #[.int .i64 2, .int .i64 32, .int .i64 16, .slice A 32 ca, .slice C 16 cc], .int .i64 3, .agg #[.slice B1 n1 k1], .agg #[.slice B2 n2 k2], .int .i64 7, .int .i64 9] := by rw [hW1, hW2]
          refine st_call (f := 17) (args := #[.agg #[.int .i64 2, .int .i64 32, .int .i64 16, .slice A 32 ca, .slice C 16 cc], .int .i64 3, (tm 65), (tm 67), .int .i64 7, .int .i64 9]) (w' := w) (by rfl) (by kernel_rfl) ?_
          rw [hA]
          refine (does16_is (HS_s.out.on h.bb) eN1 eK1 eI1 eN2 eK2 eI2 gk_d).mono ?_
          rintro e w1 ⟨A', ca', C', cc', rfl, hb, hm⟩
          obtain ⟨q1, q2⟩ := resD_of (a := 2) (b := 32) (c := 16) (R := (.int .i64 7)) h.bb.size hm pos_none
          exact ⟨_, rfl, hK.out _ _ (h.addD hb q1 q2)⟩
        case o6 =>
          intro l tm w h hl hd K hK
          try dsimp only at h
          rw [hl] at h
          exact st_run (v := tm 68) (w' := w) (by rfl) (by kernel_rfl) (hK.out _ _ (h.addMv (hd 5 (by kernel_rfl)) rfl))
        case o7 =>
          intro l tm w h hl hd K hK
          try dsimp only at h
          rw [hl] at h
          obtain ⟨A', ca', C', cc', eT, -⟩ := h.tup (hd 6 (by kernel_rfl))
          refine st_run (v := .agg #[.int .i64 2, .int .i64 32, .int .i64 16, .slice A' 32 ca', .slice C' 16 cc']) (w' := w) (by rfl) ?_ (hK.out _ _ (h.addE1 (hd 6 (by kernel_rfl)) eT))
          simp only [List.getElem_toArray, List.getElem_cons_zero, List.getElem_cons_succ, pmA, List.foldl_cons, List.foldl_nil, Act.put, List.setIfInBounds_toArray, List.set_cons_zero, List.set_cons_succ]
          rw [eT]
          kernel_rfl
        case o8 =>
          intro l tm w h hl hd K hK
          try dsimp only at h
          rw [hl] at h
          obtain ⟨A', ca', C', cc', eT, -⟩ := h.tup (hd 6 (by kernel_rfl))
          refine st_run (v := (.int .i64 7)) (w' := w) (by rfl) ?_ (hK.out _ _ (h.addE2 (hd 6 (by kernel_rfl)) eT))
          simp only [List.getElem_toArray, List.getElem_cons_zero, List.getElem_cons_succ, pmA, List.foldl_cons, List.foldl_nil, Act.put, List.setIfInBounds_toArray, List.set_cons_zero, List.set_cons_succ]
          rw [eT]
          kernel_rfl
        case o9 =>
          intro l tm w h hl hd K hK
          try dsimp only at h
          rw [hl] at h
          have hh := h.addQ pos_none 28
          exact st_run (v := ptr w.heap.size) (by rfl) (by kernel_rfl) (hK.out _ _ hh)
        case o10 =>
          intro l tm w h hl hd K hK
          try dsimp only at h
          rw [hl] at h
          obtain ⟨x, A', ca', C', cc', ex, e1, ed, hw⟩ := h.atS' (hd 5 (by kernel_rfl)) (hd 6 (by kernel_rfl)) (hd 7 (by kernel_rfl)) (hd 9 (by kernel_rfl))
          have HT : Hid (w.there x 0 (#[.int .i64 2, .int .i64 32, .int .i64 16, .slice A' 32 ca', .slice C' 16 cc'] : Array Value).size) := Lib.hid (hw.there (n := 5) rfl)
          have HO := Lib.hid (state_one 2 32 16 A' 32 ca' C' 16 cc')
          refine st_store (by rfl) 28 (.tmp 8) (.tmp 69) (by rfl) x 0 #[.int .i64 2, .int .i64 32, .int .i64 16, .slice A' 32 ca', .slice C' 16 cc'] ((by kernel_rfl : _ = tm 8).trans ex) ((by kernel_rfl : _ = tm 69).trans e1) HT.out info_state HO.out ?_
          refine hK.out undef (w.setCells x 0 [.int .i64 2, .int .i64 32, .int .i64 16, .slice A' 32 ca', .slice C' 16 cc']) ?_
          exact h.addS' (hd 1 (by kernel_rfl)) (hd 2 (by kernel_rfl)) (hd 3 (by kernel_rfl)) (hd 4 (by kernel_rfl)) (fun e => absurd e (by decide)) (hd 5 (by kernel_rfl)) (hd 6 (by kernel_rfl)) (hd 7 (by kernel_rfl)) (hd 9 (by kernel_rfl)) (fun e => absurd e (by decide)) ex ed
        case start => exact ⟨hH, fun _ => ⟨hH, fun e => ff rfl e, fun e => ff rfl e, fun e => ff rfl e, fun e => ff rfl e, fun e => ff rfl e, fun e => ff rfl e, fun e => ff rfl e, fun e => ff rfl e, fun e => ff rfl e, fun e => ff rfl e⟩, fun e => ff rfl e, fun e => ff rfl e, fun e => ff rfl e, fun e => ff rfl e, fun e => ff rfl e, fun e => ff rfl e⟩
        case fin =>
          intro tm v8 h
          try dsimp only at h
          obtain ⟨hbb, hR, hP⟩ := h.fin (by kernel_rfl) (by kernel_rfl)
          obtain ⟨g7, A7, ca7, C7, cc7, ed, ex, hx, hm, -⟩ := hP
          simp only [ptr] at ex
          clear h ed
          simp only [pmA, List.foldl_cons, List.foldl_nil, Act.put, List.setIfInBounds_toArray, List.set_cons_zero, List.set_cons_succ]
          rw [ex, hR]
          clear ex hR
          refine wpAnyH_take (i := 11) (v := ?_) rfl (by kernel_rfl) (by kernel_rfl) (by kernel_rfl) (fun _ _ _ h => h) (Or.inl ⟨by rfl, ?_⟩) (by assumption) ?_
          rotate_left
          · intro w hSw; go_simp; try with_reducible rfl
          try simp only [Act.put, List.setIfInBounds_toArray, List.set_cons_zero, List.set_cons_succ, List.getElem_toArray, List.getElem_cons_zero, List.getElem_cons_succ]
          refine wpAnyH_done (by kernel_rfl) ?_ _
          replace K_s := Lib.hid (K_s.out.on hbb)
          replace HS_s := Lib.hid (HS_s.out.on hbb)
          replace HW := Lib.hid (below_on HW.out hbb)
          clear hbb hx hH
          clear hm
          go_upto_region 8 with fail
          refine wp_region_held_drew (S := fun w' => Below v8.heap.size v8 w') (by kernel_rfl) (below_self v8).drew (fun hH => ?_)
          refine wpAnyH_take (i := 0) (v := .agg #[.int .i64 2, .int .i64 32, .int .i64 16, .slice A 32 ca, .slice C 16 cc]) rfl (by kernel_rfl) (by kernel_rfl) (by kernel_rfl) (fun _ _ _ h => h) (yieldsIf_load_mid (by rfl) 28 (.tmp 1) (by rfl) gs 0 (by rfl) [.int .i64 2, .int .i64 32, .int .i64 16, .slice A 32 ca, .slice C 16 cc] _ (fun w hS => ((K_s.out.on hS).range)) Try.underlying28 rfl info_state) (by assumption) ?_
          try simp only [Act.put, List.setIfInBounds_toArray, List.set_cons_zero, List.set_cons_succ, List.getElem_toArray, List.getElem_cons_zero, List.getElem_cons_succ]
          refine wpAnyH_inv (f0 := 1) [1, 2, 3, 4, 5, 6, 7, 8, 9, 10] [73, 74, 75, 76, 77, 71, 78, 79, 10] (fun l tm w => PHI v8 [1] [2] 2 32 16 A 32 ca C 16 cc (some gkx) (.int .i64 0) [] true true (fun _ _ => undef) (l 1) (l 2) (l 3) (l 4) false (l 5) (l 6) (l 7) (l 8) (l 9) false (l 10) (tm 73) (tm 74) (tm 75) (tm 76) undef (tm 77) (tm 71) (tm 78) (tm 79) (tm 10) undef w) (by kernel_rfl) (by kernel_rfl) rfl (by decide) (fun l tm w h => h.bb) ?start (AllSteps.cons rfl ?o1 (AllSteps.cons rfl ?o2 (AllSteps.cons rfl ?o3 (AllSteps.cons rfl ?o4 (AllSteps.cons rfl ?o5 (AllSteps.cons rfl ?o6 (AllSteps.cons rfl ?o7 (AllSteps.cons rfl ?o8 (AllSteps.cons rfl ?o9 (AllSteps.cons rfl ?o10 AllSteps.nil)))))))))) ?fin
          case o1 =>
            intro l tm w h hl hd K hK
            try dsimp only at h
            rw [hl] at h
            have hh := h.addB1 (below_alloc w (.cells #[.int .i64 1] 3)) (lis_one w 1)
            exact st_run (v := .slice (some ⟨w.heap.size, 0, none⟩) 1 1) (by rfl) (by kernel_rfl) (hK.out _ _ hh)
          case o2 =>
            intro l tm w h hl hd K hK
            try dsimp only at h
            rw [hl] at h
            have hs := h.early1.1
            have h0 := h
            rw [hs] at h0
            obtain ⟨⟨B, nB, cB, eB, -⟩, -⟩ := h0.way1 (hd 1 (by kernel_rfl))
            have hc := way16_is (A := B) (n := nB) (cap := cB) w
            rw [← eB] at hc
            refine st_call (f := 18) (args := #[(tm 73)]) (w' := w) (by rfl) (by kernel_rfl) (hc.mono ?_)
            rintro e w1 ⟨rfl, hb⟩
            exact ⟨_, rfl, hK.out _ _ (h.addW1 (hd 1 (by kernel_rfl)) hb rfl)⟩
          case o3 =>
            intro l tm w h hl hd K hK
            try dsimp only at h
            rw [hl] at h
            have hh := h.addB2 (below_alloc w (.cells #[.int .i64 2] 3)) (lis_one w 2)
            exact st_run (v := .slice (some ⟨w.heap.size, 0, none⟩) 1 1) (by rfl) (by kernel_rfl) (hK.out _ _ hh)
          case o4 =>
            intro l tm w h hl hd K hK
            try dsimp only at h
            rw [hl] at h
            have hs := h.early2.1
            have h0 := h
            rw [hs] at h0
            obtain ⟨⟨B, nB, cB, eB, -⟩, -⟩ := h0.way2 (hd 3 (by kernel_rfl))
            have hc := way16_is (A := B) (n := nB) (cap := cB) w
            rw [← eB] at hc
            refine st_call (f := 18) (args := #[(tm 75)]) (w' := w) (by rfl) (by kernel_rfl) (hc.mono ?_)
            rintro e w1 ⟨rfl, hb⟩
            exact ⟨_, rfl, hK.out _ _ (h.addW2 (hd 3 (by kernel_rfl)) hb rfl)⟩
          case o5 =>
            intro l tm w h hl hd K hK
            try dsimp only at h
            rw [hl] at h
            have d1 := hd 2 (by kernel_rfl)
            have d2 := hd 4 (by kernel_rfl)
            have hs : l 10 = false := h.notS.1
            have h0 := h
            rw [hs] at h0
            obtain ⟨⟨B1, n1, k1, eB1, eN1, eK1, eI1⟩, eW1⟩ := h0.way1 ((h0.rg rfl).w1 d1).1
            obtain ⟨⟨B2, n2, k2, eB2, eN2, eK2, eI2⟩, eW2⟩ := h0.way2 ((h0.rg rfl).w2 d2).1
            have hW1 := (eW1 d1).trans (by rw [eB1])
            have hW2 := (eW2 d2).trans (by rw [eB2])
            have hA : #[.agg #[.int .i64 2, .int .i64 32, .int .i64 16, .slice A 32 ca, .slice C 16 cc], .int .i64 3, (tm 74), (tm 76), .int .i64 3, .int .i64 9] = #[.agg #[.int .i64 2, .int .i64 32, .int .i64 16, .slice A 32 ca, .slice C 16 cc], .int .i64 3, .agg #[.slice B1 n1 k1], .agg #[.slice B2 n2 k2], .int .i64 3, .int .i64 9] := by rw [hW1, hW2]
            refine st_call (f := 17) (args := #[.agg #[.int .i64 2, .int .i64 32, .int .i64 16, .slice A 32 ca, .slice C 16 cc], .int .i64 3, (tm 74), (tm 76), .int .i64 3, .int .i64 9]) (w' := w) (by rfl) (by kernel_rfl) ?_
            rw [hA]
            refine (does16_is (HS_s.out.on h.bb) eN1 eK1 eI1 eN2 eK2 eI2 gk_e).mono ?_
            rintro e w1 ⟨A', ca', C', cc', rfl, hb, hm⟩
            obtain ⟨q1, q2⟩ := resD_of (a := 2) (b := 32) (c := 16) (R := (.int .i64 0)) h.bb.size hm (pos_of gkx_len)
            exact ⟨_, rfl, hK.out _ _ (h.addD hb q1 q2)⟩
          case o6 =>
            intro l tm w h hl hd K hK
            try dsimp only at h
            rw [hl] at h
            exact st_run (v := tm 77) (w' := w) (by rfl) (by kernel_rfl) (hK.out _ _ (h.addMv (hd 5 (by kernel_rfl)) rfl))
          case o7 =>
            intro l tm w h hl hd K hK
            try dsimp only at h
            rw [hl] at h
            obtain ⟨A', ca', C', cc', eT, -⟩ := h.tup (hd 6 (by kernel_rfl))
            refine st_run (v := .agg #[.int .i64 2, .int .i64 32, .int .i64 16, .slice A' 32 ca', .slice C' 16 cc']) (w' := w) (by rfl) ?_ (hK.out _ _ (h.addE1 (hd 6 (by kernel_rfl)) eT))
            simp only [List.getElem_toArray, List.getElem_cons_zero, List.getElem_cons_succ, pmA, List.foldl_cons, List.foldl_nil, Act.put, List.setIfInBounds_toArray, List.set_cons_zero, List.set_cons_succ]
            rw [eT]
            kernel_rfl
          case o8 =>
            intro l tm w h hl hd K hK
            try dsimp only at h
            rw [hl] at h
            obtain ⟨A', ca', C', cc', eT, -⟩ := h.tup (hd 6 (by kernel_rfl))
            refine st_run (v := (.int .i64 0)) (w' := w) (by rfl) ?_ (hK.out _ _ (h.addE2 (hd 6 (by kernel_rfl)) eT))
            simp only [List.getElem_toArray, List.getElem_cons_zero, List.getElem_cons_succ, pmA, List.foldl_cons, List.foldl_nil, Act.put, List.setIfInBounds_toArray, List.set_cons_zero, List.set_cons_succ]
            rw [eT]
            kernel_rfl
          case o9 =>
            intro l tm w h hl hd K hK
            try dsimp only at h
            rw [hl] at h
            have hh := h.addQ (pos_of gkx_len) 28
            exact st_run (v := ptr w.heap.size) (by rfl) (by kernel_rfl) (hK.out _ _ hh)
          case o10 =>
            intro l tm w h hl hd K hK
            try dsimp only at h
            rw [hl] at h
            obtain ⟨x, A', ca', C', cc', ex, e1, ed, hw⟩ := h.atS' (hd 5 (by kernel_rfl)) (hd 6 (by kernel_rfl)) (hd 7 (by kernel_rfl)) (hd 9 (by kernel_rfl))
            have HT : Hid (w.there x 0 (#[.int .i64 2, .int .i64 32, .int .i64 16, .slice A' 32 ca', .slice C' 16 cc'] : Array Value).size) := Lib.hid (hw.there (n := 5) rfl)
            have HO := Lib.hid (state_one 2 32 16 A' 32 ca' C' 16 cc')
            refine st_store (by rfl) 28 (.tmp 10) (.tmp 78) (by rfl) x 0 #[.int .i64 2, .int .i64 32, .int .i64 16, .slice A' 32 ca', .slice C' 16 cc'] ((by kernel_rfl : _ = tm 10).trans ex) ((by kernel_rfl : _ = tm 78).trans e1) HT.out info_state HO.out ?_
            refine hK.out undef (w.setCells x 0 [.int .i64 2, .int .i64 32, .int .i64 16, .slice A' 32 ca', .slice C' 16 cc']) ?_
            exact h.addS' (hd 1 (by kernel_rfl)) (hd 2 (by kernel_rfl)) (hd 3 (by kernel_rfl)) (hd 4 (by kernel_rfl)) (fun e => absurd e (by decide)) (hd 5 (by kernel_rfl)) (hd 6 (by kernel_rfl)) (hd 7 (by kernel_rfl)) (hd 9 (by kernel_rfl)) (fun e => absurd e (by decide)) ex ed
          case start => exact ⟨hH, fun _ => ⟨hH, fun e => ff rfl e, fun e => ff rfl e, fun e => ff rfl e, fun e => ff rfl e, fun e => ff rfl e, fun e => ff rfl e, fun e => ff rfl e, fun e => ff rfl e, fun e => ff rfl e, fun e => ff rfl e⟩, fun e => ff rfl e, fun e => ff rfl e, fun e => ff rfl e, fun e => ff rfl e, fun e => ff rfl e, fun e => ff rfl e⟩
          case fin =>
            intro tm v9 h
            try dsimp only at h
            obtain ⟨hbb, hR, hP⟩ := h.fin (by kernel_rfl) (by kernel_rfl)
            obtain ⟨g8, A8, ca8, C8, cc8, ed, ex, hx, hm, -⟩ := hP
            simp only [ptr] at ex
            clear h ed
            obtain ⟨hca, hcc, hF⟩ := hm
            obtain ⟨P8, Q8, rfl, rfl, hO⟩ := hF.ost (by rw [gkx_len.1]; decide) (by rw [gkx_len.2]; decide) hbb
            simp only [pmA, List.foldl_cons, List.foldl_nil, Act.put, List.setIfInBounds_toArray, List.set_cons_zero, List.set_cons_succ]
            rw [ex, hR]
            clear ex hR
            refine wpAnyH_take (i := 11) (v := ?_) rfl (by kernel_rfl) (by kernel_rfl) (by kernel_rfl) (fun _ _ _ h => h) (Or.inl ⟨by rfl, ?_⟩) (by assumption) ?_
            rotate_left
            · intro w hSw; go_simp; try with_reducible rfl
            try simp only [Act.put, List.setIfInBounds_toArray, List.set_cons_zero, List.set_cons_succ, List.getElem_toArray, List.getElem_cons_zero, List.getElem_cons_succ]
            refine wpAnyH_done (by kernel_rfl) ?_ _
            replace K_s := Lib.hid (K_s.out.on hbb)
            replace HS_s := Lib.hid (HS_s.out.on hbb)
            replace HW := Lib.hid (below_on HW.out hbb)
            have K_x := Lib.hid hx.bx
            have O_x := Lib.hid hO
            have HS_x : Hid (StH v9 gkx 2 32 16 (some ⟨P8, 0, none⟩) 32 ca8 (some ⟨Q8, 0, none⟩) 16 cc8) := Lib.hid ⟨hO.lies, rfl, gkx_len.1.symm, gkx_len.2.symm, by decide, by decide, hca, hcc⟩
            clear hca hcc hF hO
            clear hbb hx hH
            go_upto_region 9 with fail
            refine wp_region_held_drew (S := fun w' => Below v9.heap.size v9 w') (by kernel_rfl) (below_self v9).drew (fun hH => ?_)
            refine wpAnyH_take (i := 0) (v := .agg #[.int .i64 2, .int .i64 32, .int .i64 16, .slice (some ⟨P8, 0, none⟩) 32 ca8, .slice (some ⟨Q8, 0, none⟩) 16 cc8]) rfl (by kernel_rfl) (by kernel_rfl) (by kernel_rfl) (fun _ _ _ h => h) (yieldsIf_load_mid (by rfl) 28 (.tmp 10) (by rfl) g8 0 (by rfl) [.int .i64 2, .int .i64 32, .int .i64 16, .slice (some ⟨P8, 0, none⟩) 32 ca8, .slice (some ⟨Q8, 0, none⟩) 16 cc8] _ (fun w hS => ((K_x.out.on hS).range)) Try.underlying28 rfl info_state) (by assumption) ?_
            try simp only [Act.put, List.setIfInBounds_toArray, List.set_cons_zero, List.set_cons_succ, List.getElem_toArray, List.getElem_cons_zero, List.getElem_cons_succ]
            refine wpAnyH_inv (f0 := 1) [1, 2, 3, 4, 5, 6, 7, 8, 9, 10] [82, 83, 84, 85, 86, 80, 87, 88, 12] (fun l tm w => PHI v9 [2] [3] 2 32 16 (some ⟨P8, 0, none⟩) 32 ca8 (some ⟨Q8, 0, none⟩) 16 cc8 none (.int .i64 5) [] true true (fun _ _ => undef) (l 1) (l 2) (l 3) (l 4) false (l 5) (l 6) (l 7) (l 8) (l 9) false (l 10) (tm 82) (tm 83) (tm 84) (tm 85) undef (tm 86) (tm 80) (tm 87) (tm 88) (tm 12) undef w) (by kernel_rfl) (by kernel_rfl) rfl (by decide) (fun l tm w h => h.bb) ?start (AllSteps.cons rfl ?o1 (AllSteps.cons rfl ?o2 (AllSteps.cons rfl ?o3 (AllSteps.cons rfl ?o4 (AllSteps.cons rfl ?o5 (AllSteps.cons rfl ?o6 (AllSteps.cons rfl ?o7 (AllSteps.cons rfl ?o8 (AllSteps.cons rfl ?o9 (AllSteps.cons rfl ?o10 AllSteps.nil)))))))))) ?fin
            case o1 =>
              intro l tm w h hl hd K hK
              try dsimp only at h
              rw [hl] at h
              have hh := h.addB1 (below_alloc w (.cells #[.int .i64 2] 3)) (lis_one w 2)
              exact st_run (v := .slice (some ⟨w.heap.size, 0, none⟩) 1 1) (by rfl) (by kernel_rfl) (hK.out _ _ hh)
            case o2 =>
              intro l tm w h hl hd K hK
              try dsimp only at h
              rw [hl] at h
              have hs := h.early1.1
              have h0 := h
              rw [hs] at h0
              obtain ⟨⟨B, nB, cB, eB, -⟩, -⟩ := h0.way1 (hd 1 (by kernel_rfl))
              have hc := way16_is (A := B) (n := nB) (cap := cB) w
              rw [← eB] at hc
              refine st_call (f := 18) (args := #[(tm 82)]) (w' := w) (by rfl) (by kernel_rfl) (hc.mono ?_)
              rintro e w1 ⟨rfl, hb⟩
              exact ⟨_, rfl, hK.out _ _ (h.addW1 (hd 1 (by kernel_rfl)) hb rfl)⟩
            case o3 =>
              intro l tm w h hl hd K hK
              try dsimp only at h
              rw [hl] at h
              have hh := h.addB2 (below_alloc w (.cells #[.int .i64 3] 3)) (lis_one w 3)
              exact st_run (v := .slice (some ⟨w.heap.size, 0, none⟩) 1 1) (by rfl) (by kernel_rfl) (hK.out _ _ hh)
            case o4 =>
              intro l tm w h hl hd K hK
              try dsimp only at h
              rw [hl] at h
              have hs := h.early2.1
              have h0 := h
              rw [hs] at h0
              obtain ⟨⟨B, nB, cB, eB, -⟩, -⟩ := h0.way2 (hd 3 (by kernel_rfl))
              have hc := way16_is (A := B) (n := nB) (cap := cB) w
              rw [← eB] at hc
              refine st_call (f := 18) (args := #[(tm 84)]) (w' := w) (by rfl) (by kernel_rfl) (hc.mono ?_)
              rintro e w1 ⟨rfl, hb⟩
              exact ⟨_, rfl, hK.out _ _ (h.addW2 (hd 3 (by kernel_rfl)) hb rfl)⟩
            case o5 =>
              intro l tm w h hl hd K hK
              try dsimp only at h
              rw [hl] at h
              have d1 := hd 2 (by kernel_rfl)
              have d2 := hd 4 (by kernel_rfl)
              have hs : l 10 = false := h.notS.1
              have h0 := h
              rw [hs] at h0
              obtain ⟨⟨B1, n1, k1, eB1, eN1, eK1, eI1⟩, eW1⟩ := h0.way1 ((h0.rg rfl).w1 d1).1
              obtain ⟨⟨B2, n2, k2, eB2, eN2, eK2, eI2⟩, eW2⟩ := h0.way2 ((h0.rg rfl).w2 d2).1
              have hW1 := (eW1 d1).trans (by rw [eB1])
              have hW2 := (eW2 d2).trans (by rw [eB2])
              have hA : #[.agg #[.int .i64 2, .int .i64 32, .int .i64 16, .slice (some ⟨P8, 0, none⟩) 32 ca8, .slice (some ⟨Q8, 0, none⟩) 16 cc8], .int .i64 3, (tm 83), (tm 85), .int .i64 7, .int .i64 8] = #[.agg #[.int .i64 2, .int .i64 32, .int .i64 16, .slice (some ⟨P8, 0, none⟩) 32 ca8, .slice (some ⟨Q8, 0, none⟩) 16 cc8], .int .i64 3, .agg #[.slice B1 n1 k1], .agg #[.slice B2 n2 k2], .int .i64 7, .int .i64 8] := by rw [hW1, hW2]
              refine st_call (f := 17) (args := #[.agg #[.int .i64 2, .int .i64 32, .int .i64 16, .slice (some ⟨P8, 0, none⟩) 32 ca8, .slice (some ⟨Q8, 0, none⟩) 16 cc8], .int .i64 3, (tm 83), (tm 85), .int .i64 7, .int .i64 8]) (w' := w) (by rfl) (by kernel_rfl) ?_
              rw [hA]
              refine (does16_is (HS_x.out.on h.bb) eN1 eK1 eI1 eN2 eK2 eI2 gk_f).mono ?_
              rintro e w1 ⟨A', ca', C', cc', rfl, hb, hm⟩
              obtain ⟨q1, q2⟩ := resD_of (a := 2) (b := 32) (c := 16) (R := (.int .i64 5)) h.bb.size hm pos_none
              exact ⟨_, rfl, hK.out _ _ (h.addD hb q1 q2)⟩
            case o6 =>
              intro l tm w h hl hd K hK
              try dsimp only at h
              rw [hl] at h
              exact st_run (v := tm 86) (w' := w) (by rfl) (by kernel_rfl) (hK.out _ _ (h.addMv (hd 5 (by kernel_rfl)) rfl))
            case o7 =>
              intro l tm w h hl hd K hK
              try dsimp only at h
              rw [hl] at h
              obtain ⟨A', ca', C', cc', eT, -⟩ := h.tup (hd 6 (by kernel_rfl))
              refine st_run (v := .agg #[.int .i64 2, .int .i64 32, .int .i64 16, .slice A' 32 ca', .slice C' 16 cc']) (w' := w) (by rfl) ?_ (hK.out _ _ (h.addE1 (hd 6 (by kernel_rfl)) eT))
              simp only [List.getElem_toArray, List.getElem_cons_zero, List.getElem_cons_succ, pmA, List.foldl_cons, List.foldl_nil, Act.put, List.setIfInBounds_toArray, List.set_cons_zero, List.set_cons_succ]
              rw [eT]
              kernel_rfl
            case o8 =>
              intro l tm w h hl hd K hK
              try dsimp only at h
              rw [hl] at h
              obtain ⟨A', ca', C', cc', eT, -⟩ := h.tup (hd 6 (by kernel_rfl))
              refine st_run (v := (.int .i64 5)) (w' := w) (by rfl) ?_ (hK.out _ _ (h.addE2 (hd 6 (by kernel_rfl)) eT))
              simp only [List.getElem_toArray, List.getElem_cons_zero, List.getElem_cons_succ, pmA, List.foldl_cons, List.foldl_nil, Act.put, List.setIfInBounds_toArray, List.set_cons_zero, List.set_cons_succ]
              rw [eT]
              kernel_rfl
            case o9 =>
              intro l tm w h hl hd K hK
              try dsimp only at h
              rw [hl] at h
              have hh := h.addQ pos_none 28
              exact st_run (v := ptr w.heap.size) (by rfl) (by kernel_rfl) (hK.out _ _ hh)
            case o10 =>
              intro l tm w h hl hd K hK
              try dsimp only at h
              rw [hl] at h
              obtain ⟨x, A', ca', C', cc', ex, e1, ed, hw⟩ := h.atS' (hd 5 (by kernel_rfl)) (hd 6 (by kernel_rfl)) (hd 7 (by kernel_rfl)) (hd 9 (by kernel_rfl))
              have HT : Hid (w.there x 0 (#[.int .i64 2, .int .i64 32, .int .i64 16, .slice A' 32 ca', .slice C' 16 cc'] : Array Value).size) := Lib.hid (hw.there (n := 5) rfl)
              have HO := Lib.hid (state_one 2 32 16 A' 32 ca' C' 16 cc')
              refine st_store (by rfl) 28 (.tmp 12) (.tmp 87) (by rfl) x 0 #[.int .i64 2, .int .i64 32, .int .i64 16, .slice A' 32 ca', .slice C' 16 cc'] ((by kernel_rfl : _ = tm 12).trans ex) ((by kernel_rfl : _ = tm 87).trans e1) HT.out info_state HO.out ?_
              refine hK.out undef (w.setCells x 0 [.int .i64 2, .int .i64 32, .int .i64 16, .slice A' 32 ca', .slice C' 16 cc']) ?_
              exact h.addS' (hd 1 (by kernel_rfl)) (hd 2 (by kernel_rfl)) (hd 3 (by kernel_rfl)) (hd 4 (by kernel_rfl)) (fun e => absurd e (by decide)) (hd 5 (by kernel_rfl)) (hd 6 (by kernel_rfl)) (hd 7 (by kernel_rfl)) (hd 9 (by kernel_rfl)) (fun e => absurd e (by decide)) ex ed
            case start => exact ⟨hH, fun _ => ⟨hH, fun e => ff rfl e, fun e => ff rfl e, fun e => ff rfl e, fun e => ff rfl e, fun e => ff rfl e, fun e => ff rfl e, fun e => ff rfl e, fun e => ff rfl e, fun e => ff rfl e, fun e => ff rfl e⟩, fun e => ff rfl e, fun e => ff rfl e, fun e => ff rfl e, fun e => ff rfl e, fun e => ff rfl e, fun e => ff rfl e⟩
            case fin =>
              intro tm v10 h
              try dsimp only at h
              obtain ⟨hbb, hR, hP⟩ := h.fin (by kernel_rfl) (by kernel_rfl)
              obtain ⟨g9, A9, ca9, C9, cc9, ed, ex, hx, hm, -⟩ := hP
              simp only [ptr] at ex
              clear h ed
              simp only [pmA, List.foldl_cons, List.foldl_nil, Act.put, List.setIfInBounds_toArray, List.set_cons_zero, List.set_cons_succ]
              rw [ex, hR]
              clear ex hR
              refine wpAnyH_take (i := 11) (v := ?_) rfl (by kernel_rfl) (by kernel_rfl) (by kernel_rfl) (fun _ _ _ h => h) (Or.inl ⟨by rfl, ?_⟩) (by assumption) ?_
              rotate_left
              · intro w hSw; go_simp; try with_reducible rfl
              try simp only [Act.put, List.setIfInBounds_toArray, List.set_cons_zero, List.set_cons_succ, List.getElem_toArray, List.getElem_cons_zero, List.getElem_cons_succ]
              refine wpAnyH_done (by kernel_rfl) ?_ _
              replace K_s := Lib.hid (K_s.out.on hbb)
              replace HS_s := Lib.hid (HS_s.out.on hbb)
              replace K_x := Lib.hid (K_x.out.on hbb)
              replace HS_x := Lib.hid (HS_x.out.on hbb)
              replace O_x := Lib.hid (O_x.out.on hbb)
              replace HW := Lib.hid (below_on HW.out hbb)
              clear hbb hx hH
              clear hm
              go_upto_region 10 with fail
              refine wp_region_held_drew (S := fun w' => Below v10.heap.size v10 w') (by kernel_rfl) (below_self v10).drew (fun hH => ?_)
              refine wpAnyH_take (i := 0) (v := .agg #[.int .i64 2, .int .i64 32, .int .i64 16, .slice (some ⟨P8, 0, none⟩) 32 ca8, .slice (some ⟨Q8, 0, none⟩) 16 cc8]) rfl (by kernel_rfl) (by kernel_rfl) (by kernel_rfl) (fun _ _ _ h => h) (yieldsIf_load_mid (by rfl) 28 (.tmp 10) (by rfl) g8 0 (by rfl) [.int .i64 2, .int .i64 32, .int .i64 16, .slice (some ⟨P8, 0, none⟩) 32 ca8, .slice (some ⟨Q8, 0, none⟩) 16 cc8] _ (fun w hS => ((K_x.out.on hS).range)) Try.underlying28 rfl info_state) (by assumption) ?_
              try simp only [Act.put, List.setIfInBounds_toArray, List.set_cons_zero, List.set_cons_succ, List.getElem_toArray, List.getElem_cons_zero, List.getElem_cons_succ]
              refine wpAnyH_inv (f0 := 1) [1, 2, 3, 4, 5, 6, 7, 8, 9, 10] [91, 92, 93, 94, 95, 89, 96, 97, 14] (fun l tm w => PHI v10 [1] [4] 2 32 16 (some ⟨P8, 0, none⟩) 32 ca8 (some ⟨Q8, 0, none⟩) 16 cc8 (some gky) (.int .i64 0) [] true true (fun _ _ => undef) (l 1) (l 2) (l 3) (l 4) false (l 5) (l 6) (l 7) (l 8) (l 9) false (l 10) (tm 91) (tm 92) (tm 93) (tm 94) undef (tm 95) (tm 89) (tm 96) (tm 97) (tm 14) undef w) (by kernel_rfl) (by kernel_rfl) rfl (by decide) (fun l tm w h => h.bb) ?start (AllSteps.cons rfl ?o1 (AllSteps.cons rfl ?o2 (AllSteps.cons rfl ?o3 (AllSteps.cons rfl ?o4 (AllSteps.cons rfl ?o5 (AllSteps.cons rfl ?o6 (AllSteps.cons rfl ?o7 (AllSteps.cons rfl ?o8 (AllSteps.cons rfl ?o9 (AllSteps.cons rfl ?o10 AllSteps.nil)))))))))) ?fin
              case o1 =>
                intro l tm w h hl hd K hK
                try dsimp only at h
                rw [hl] at h
                have hh := h.addB1 (below_alloc w (.cells #[.int .i64 1] 3)) (lis_one w 1)
                exact st_run (v := .slice (some ⟨w.heap.size, 0, none⟩) 1 1) (by rfl) (by kernel_rfl) (hK.out _ _ hh)
              case o2 =>
                intro l tm w h hl hd K hK
                try dsimp only at h
                rw [hl] at h
                have hs := h.early1.1
                have h0 := h
                rw [hs] at h0
                obtain ⟨⟨B, nB, cB, eB, -⟩, -⟩ := h0.way1 (hd 1 (by kernel_rfl))
                have hc := way16_is (A := B) (n := nB) (cap := cB) w
                rw [← eB] at hc
                refine st_call (f := 18) (args := #[(tm 91)]) (w' := w) (by rfl) (by kernel_rfl) (hc.mono ?_)
                rintro e w1 ⟨rfl, hb⟩
                exact ⟨_, rfl, hK.out _ _ (h.addW1 (hd 1 (by kernel_rfl)) hb rfl)⟩
              case o3 =>
                intro l tm w h hl hd K hK
                try dsimp only at h
                rw [hl] at h
                have hh := h.addB2 (below_alloc w (.cells #[.int .i64 4] 3)) (lis_one w 4)
                exact st_run (v := .slice (some ⟨w.heap.size, 0, none⟩) 1 1) (by rfl) (by kernel_rfl) (hK.out _ _ hh)
              case o4 =>
                intro l tm w h hl hd K hK
                try dsimp only at h
                rw [hl] at h
                have hs := h.early2.1
                have h0 := h
                rw [hs] at h0
                obtain ⟨⟨B, nB, cB, eB, -⟩, -⟩ := h0.way2 (hd 3 (by kernel_rfl))
                have hc := way16_is (A := B) (n := nB) (cap := cB) w
                rw [← eB] at hc
                refine st_call (f := 18) (args := #[(tm 93)]) (w' := w) (by rfl) (by kernel_rfl) (hc.mono ?_)
                rintro e w1 ⟨rfl, hb⟩
                exact ⟨_, rfl, hK.out _ _ (h.addW2 (hd 3 (by kernel_rfl)) hb rfl)⟩
              case o5 =>
                intro l tm w h hl hd K hK
                try dsimp only at h
                rw [hl] at h
                have d1 := hd 2 (by kernel_rfl)
                have d2 := hd 4 (by kernel_rfl)
                have hs : l 10 = false := h.notS.1
                have h0 := h
                rw [hs] at h0
                obtain ⟨⟨B1, n1, k1, eB1, eN1, eK1, eI1⟩, eW1⟩ := h0.way1 ((h0.rg rfl).w1 d1).1
                obtain ⟨⟨B2, n2, k2, eB2, eN2, eK2, eI2⟩, eW2⟩ := h0.way2 ((h0.rg rfl).w2 d2).1
                have hW1 := (eW1 d1).trans (by rw [eB1])
                have hW2 := (eW2 d2).trans (by rw [eB2])
                have hA : #[.agg #[.int .i64 2, .int .i64 32, .int .i64 16, .slice (some ⟨P8, 0, none⟩) 32 ca8, .slice (some ⟨Q8, 0, none⟩) 16 cc8], .int .i64 4, (tm 92), (tm 94), .int .i64 0, .int .i64 0] = #[.agg #[.int .i64 2, .int .i64 32, .int .i64 16, .slice (some ⟨P8, 0, none⟩) 32 ca8, .slice (some ⟨Q8, 0, none⟩) 16 cc8], .int .i64 4, .agg #[.slice B1 n1 k1], .agg #[.slice B2 n2 k2], .int .i64 0, .int .i64 0] := by rw [hW1, hW2]
                refine st_call (f := 17) (args := #[.agg #[.int .i64 2, .int .i64 32, .int .i64 16, .slice (some ⟨P8, 0, none⟩) 32 ca8, .slice (some ⟨Q8, 0, none⟩) 16 cc8], .int .i64 4, (tm 92), (tm 94), .int .i64 0, .int .i64 0]) (w' := w) (by rfl) (by kernel_rfl) ?_
                rw [hA]
                refine (does16_is (HS_x.out.on h.bb) eN1 eK1 eI1 eN2 eK2 eI2 gk_g).mono ?_
                rintro e w1 ⟨A', ca', C', cc', rfl, hb, hm⟩
                obtain ⟨q1, q2⟩ := resD_of (a := 2) (b := 32) (c := 16) (R := (.int .i64 0)) h.bb.size hm (pos_of gky_len)
                exact ⟨_, rfl, hK.out _ _ (h.addD hb q1 q2)⟩
              case o6 =>
                intro l tm w h hl hd K hK
                try dsimp only at h
                rw [hl] at h
                exact st_run (v := tm 95) (w' := w) (by rfl) (by kernel_rfl) (hK.out _ _ (h.addMv (hd 5 (by kernel_rfl)) rfl))
              case o7 =>
                intro l tm w h hl hd K hK
                try dsimp only at h
                rw [hl] at h
                obtain ⟨A', ca', C', cc', eT, -⟩ := h.tup (hd 6 (by kernel_rfl))
                refine st_run (v := .agg #[.int .i64 2, .int .i64 32, .int .i64 16, .slice A' 32 ca', .slice C' 16 cc']) (w' := w) (by rfl) ?_ (hK.out _ _ (h.addE1 (hd 6 (by kernel_rfl)) eT))
                simp only [List.getElem_toArray, List.getElem_cons_zero, List.getElem_cons_succ, pmA, List.foldl_cons, List.foldl_nil, Act.put, List.setIfInBounds_toArray, List.set_cons_zero, List.set_cons_succ]
                rw [eT]
                kernel_rfl
              case o8 =>
                intro l tm w h hl hd K hK
                try dsimp only at h
                rw [hl] at h
                obtain ⟨A', ca', C', cc', eT, -⟩ := h.tup (hd 6 (by kernel_rfl))
                refine st_run (v := (.int .i64 0)) (w' := w) (by rfl) ?_ (hK.out _ _ (h.addE2 (hd 6 (by kernel_rfl)) eT))
                simp only [List.getElem_toArray, List.getElem_cons_zero, List.getElem_cons_succ, pmA, List.foldl_cons, List.foldl_nil, Act.put, List.setIfInBounds_toArray, List.set_cons_zero, List.set_cons_succ]
                rw [eT]
                kernel_rfl
              case o9 =>
                intro l tm w h hl hd K hK
                try dsimp only at h
                rw [hl] at h
                have hh := h.addQ (pos_of gky_len) 28
                exact st_run (v := ptr w.heap.size) (by rfl) (by kernel_rfl) (hK.out _ _ hh)
              case o10 =>
                intro l tm w h hl hd K hK
                try dsimp only at h
                rw [hl] at h
                obtain ⟨x, A', ca', C', cc', ex, e1, ed, hw⟩ := h.atS' (hd 5 (by kernel_rfl)) (hd 6 (by kernel_rfl)) (hd 7 (by kernel_rfl)) (hd 9 (by kernel_rfl))
                have HT : Hid (w.there x 0 (#[.int .i64 2, .int .i64 32, .int .i64 16, .slice A' 32 ca', .slice C' 16 cc'] : Array Value).size) := Lib.hid (hw.there (n := 5) rfl)
                have HO := Lib.hid (state_one 2 32 16 A' 32 ca' C' 16 cc')
                refine st_store (by rfl) 28 (.tmp 14) (.tmp 96) (by rfl) x 0 #[.int .i64 2, .int .i64 32, .int .i64 16, .slice A' 32 ca', .slice C' 16 cc'] ((by kernel_rfl : _ = tm 14).trans ex) ((by kernel_rfl : _ = tm 96).trans e1) HT.out info_state HO.out ?_
                refine hK.out undef (w.setCells x 0 [.int .i64 2, .int .i64 32, .int .i64 16, .slice A' 32 ca', .slice C' 16 cc']) ?_
                exact h.addS' (hd 1 (by kernel_rfl)) (hd 2 (by kernel_rfl)) (hd 3 (by kernel_rfl)) (hd 4 (by kernel_rfl)) (fun e => absurd e (by decide)) (hd 5 (by kernel_rfl)) (hd 6 (by kernel_rfl)) (hd 7 (by kernel_rfl)) (hd 9 (by kernel_rfl)) (fun e => absurd e (by decide)) ex ed
              case start => exact ⟨hH, fun _ => ⟨hH, fun e => ff rfl e, fun e => ff rfl e, fun e => ff rfl e, fun e => ff rfl e, fun e => ff rfl e, fun e => ff rfl e, fun e => ff rfl e, fun e => ff rfl e, fun e => ff rfl e, fun e => ff rfl e⟩, fun e => ff rfl e, fun e => ff rfl e, fun e => ff rfl e, fun e => ff rfl e, fun e => ff rfl e, fun e => ff rfl e⟩
              case fin =>
                intro tm v11 h
                try dsimp only at h
                obtain ⟨hbb, hR, hP⟩ := h.fin (by kernel_rfl) (by kernel_rfl)
                obtain ⟨g10, A10, ca10, C10, cc10, ed, ex, hx, hm, -⟩ := hP
                simp only [ptr] at ex
                clear h ed
                obtain ⟨hca, hcc, hF⟩ := hm
                obtain ⟨P10, Q10, rfl, rfl, hO⟩ := hF.ost (by rw [gky_len.1]; decide) (by rw [gky_len.2]; decide) hbb
                simp only [pmA, List.foldl_cons, List.foldl_nil, Act.put, List.setIfInBounds_toArray, List.set_cons_zero, List.set_cons_succ]
                rw [ex, hR]
                clear ex hR
                refine wpAnyH_take (i := 11) (v := ?_) rfl (by kernel_rfl) (by kernel_rfl) (by kernel_rfl) (fun _ _ _ h => h) (Or.inl ⟨by rfl, ?_⟩) (by assumption) ?_
                rotate_left
                · intro w hSw; go_simp; try with_reducible rfl
                try simp only [Act.put, List.setIfInBounds_toArray, List.set_cons_zero, List.set_cons_succ, List.getElem_toArray, List.getElem_cons_zero, List.getElem_cons_succ]
                refine wpAnyH_done (by kernel_rfl) ?_ _
                replace K_s := Lib.hid (K_s.out.on hbb)
                replace HS_s := Lib.hid (HS_s.out.on hbb)
                replace K_x := Lib.hid (K_x.out.on hbb)
                replace HS_x := Lib.hid (HS_x.out.on hbb)
                replace O_x := Lib.hid (O_x.out.on hbb)
                replace HW := Lib.hid (below_on HW.out hbb)
                have K_y := Lib.hid hx.bx
                have O_y := Lib.hid hO
                have HS_y : Hid (StH v11 gky 2 32 16 (some ⟨P10, 0, none⟩) 32 ca10 (some ⟨Q10, 0, none⟩) 16 cc10) := Lib.hid ⟨hO.lies, rfl, gky_len.1.symm, gky_len.2.symm, by decide, by decide, hca, hcc⟩
                clear hca hcc hF hO
                clear hbb hx hH
                go_upto_region 11 with fail
                refine wp_region_held_drew (S := fun w' => Below v11.heap.size v11 w') (by kernel_rfl) (below_self v11).drew (fun hH => ?_)
                refine wpAnyH_take (i := 0) (v := .agg #[.int .i64 2, .int .i64 32, .int .i64 16, .slice (some ⟨P10, 0, none⟩) 32 ca10, .slice (some ⟨Q10, 0, none⟩) 16 cc10]) rfl (by kernel_rfl) (by kernel_rfl) (by kernel_rfl) (fun _ _ _ h => h) (yieldsIf_load_mid (by rfl) 28 (.tmp 14) (by rfl) g10 0 (by rfl) [.int .i64 2, .int .i64 32, .int .i64 16, .slice (some ⟨P10, 0, none⟩) 32 ca10, .slice (some ⟨Q10, 0, none⟩) 16 cc10] _ (fun w hS => ((K_y.out.on hS).range)) Try.underlying28 rfl info_state) (by assumption) ?_
                try simp only [Act.put, List.setIfInBounds_toArray, List.set_cons_zero, List.set_cons_succ, List.getElem_toArray, List.getElem_cons_zero, List.getElem_cons_succ]
                refine wpAnyH_inv (f0 := 1) [1, 2, 3, 4, 5, 6, 7, 8, 9, 10] [100, 101, 102, 103, 104, 98, 105, 106, 16] (fun l tm w => PHI v11 [0] [1] 2 32 16 (some ⟨P10, 0, none⟩) 32 ca10 (some ⟨Q10, 0, none⟩) 16 cc10 (some gkz) (.int .i64 0) [] true true (fun _ _ => undef) (l 1) (l 2) (l 3) (l 4) false (l 5) (l 6) (l 7) (l 8) (l 9) false (l 10) (tm 100) (tm 101) (tm 102) (tm 103) undef (tm 104) (tm 98) (tm 105) (tm 106) (tm 16) undef w) (by kernel_rfl) (by kernel_rfl) rfl (by decide) (fun l tm w h => h.bb) ?start (AllSteps.cons rfl ?o1 (AllSteps.cons rfl ?o2 (AllSteps.cons rfl ?o3 (AllSteps.cons rfl ?o4 (AllSteps.cons rfl ?o5 (AllSteps.cons rfl ?o6 (AllSteps.cons rfl ?o7 (AllSteps.cons rfl ?o8 (AllSteps.cons rfl ?o9 (AllSteps.cons rfl ?o10 AllSteps.nil)))))))))) ?fin
                case o1 =>
                  intro l tm w h hl hd K hK
                  try dsimp only at h
                  rw [hl] at h
                  have hh := h.addB1 (below_alloc w (.cells #[.int .i64 0] 3)) (lis_one w 0)
                  exact st_run (v := .slice (some ⟨w.heap.size, 0, none⟩) 1 1) (by rfl) (by kernel_rfl) (hK.out _ _ hh)
                case o2 =>
                  intro l tm w h hl hd K hK
                  try dsimp only at h
                  rw [hl] at h
                  have hs := h.early1.1
                  have h0 := h
                  rw [hs] at h0
                  obtain ⟨⟨B, nB, cB, eB, -⟩, -⟩ := h0.way1 (hd 1 (by kernel_rfl))
                  have hc := way16_is (A := B) (n := nB) (cap := cB) w
                  rw [← eB] at hc
                  refine st_call (f := 18) (args := #[(tm 100)]) (w' := w) (by rfl) (by kernel_rfl) (hc.mono ?_)
                  rintro e w1 ⟨rfl, hb⟩
                  exact ⟨_, rfl, hK.out _ _ (h.addW1 (hd 1 (by kernel_rfl)) hb rfl)⟩
                case o3 =>
                  intro l tm w h hl hd K hK
                  try dsimp only at h
                  rw [hl] at h
                  have hh := h.addB2 (below_alloc w (.cells #[.int .i64 1] 3)) (lis_one w 1)
                  exact st_run (v := .slice (some ⟨w.heap.size, 0, none⟩) 1 1) (by rfl) (by kernel_rfl) (hK.out _ _ hh)
                case o4 =>
                  intro l tm w h hl hd K hK
                  try dsimp only at h
                  rw [hl] at h
                  have hs := h.early2.1
                  have h0 := h
                  rw [hs] at h0
                  obtain ⟨⟨B, nB, cB, eB, -⟩, -⟩ := h0.way2 (hd 3 (by kernel_rfl))
                  have hc := way16_is (A := B) (n := nB) (cap := cB) w
                  rw [← eB] at hc
                  refine st_call (f := 18) (args := #[(tm 102)]) (w' := w) (by rfl) (by kernel_rfl) (hc.mono ?_)
                  rintro e w1 ⟨rfl, hb⟩
                  exact ⟨_, rfl, hK.out _ _ (h.addW2 (hd 3 (by kernel_rfl)) hb rfl)⟩
                case o5 =>
                  intro l tm w h hl hd K hK
                  try dsimp only at h
                  rw [hl] at h
                  have d1 := hd 2 (by kernel_rfl)
                  have d2 := hd 4 (by kernel_rfl)
                  have hs : l 10 = false := h.notS.1
                  have h0 := h
                  rw [hs] at h0
                  obtain ⟨⟨B1, n1, k1, eB1, eN1, eK1, eI1⟩, eW1⟩ := h0.way1 ((h0.rg rfl).w1 d1).1
                  obtain ⟨⟨B2, n2, k2, eB2, eN2, eK2, eI2⟩, eW2⟩ := h0.way2 ((h0.rg rfl).w2 d2).1
                  have hW1 := (eW1 d1).trans (by rw [eB1])
                  have hW2 := (eW2 d2).trans (by rw [eB2])
                  have hA : #[.agg #[.int .i64 2, .int .i64 32, .int .i64 16, .slice (some ⟨P10, 0, none⟩) 32 ca10, .slice (some ⟨Q10, 0, none⟩) 16 cc10], .int .i64 4, (tm 101), (tm 103), .int .i64 0, .int .i64 0] = #[.agg #[.int .i64 2, .int .i64 32, .int .i64 16, .slice (some ⟨P10, 0, none⟩) 32 ca10, .slice (some ⟨Q10, 0, none⟩) 16 cc10], .int .i64 4, .agg #[.slice B1 n1 k1], .agg #[.slice B2 n2 k2], .int .i64 0, .int .i64 0] := by rw [hW1, hW2]
                  refine st_call (f := 17) (args := #[.agg #[.int .i64 2, .int .i64 32, .int .i64 16, .slice (some ⟨P10, 0, none⟩) 32 ca10, .slice (some ⟨Q10, 0, none⟩) 16 cc10], .int .i64 4, (tm 101), (tm 103), .int .i64 0, .int .i64 0]) (w' := w) (by rfl) (by kernel_rfl) ?_
                  rw [hA]
                  refine (does16_is (HS_y.out.on h.bb) eN1 eK1 eI1 eN2 eK2 eI2 gk_h).mono ?_
                  rintro e w1 ⟨A', ca', C', cc', rfl, hb, hm⟩
                  obtain ⟨q1, q2⟩ := resD_of (a := 2) (b := 32) (c := 16) (R := (.int .i64 0)) h.bb.size hm (pos_of gkz_len)
                  exact ⟨_, rfl, hK.out _ _ (h.addD hb q1 q2)⟩
                case o6 =>
                  intro l tm w h hl hd K hK
                  try dsimp only at h
                  rw [hl] at h
                  exact st_run (v := tm 104) (w' := w) (by rfl) (by kernel_rfl) (hK.out _ _ (h.addMv (hd 5 (by kernel_rfl)) rfl))
                case o7 =>
                  intro l tm w h hl hd K hK
                  try dsimp only at h
                  rw [hl] at h
                  obtain ⟨A', ca', C', cc', eT, -⟩ := h.tup (hd 6 (by kernel_rfl))
                  refine st_run (v := .agg #[.int .i64 2, .int .i64 32, .int .i64 16, .slice A' 32 ca', .slice C' 16 cc']) (w' := w) (by rfl) ?_ (hK.out _ _ (h.addE1 (hd 6 (by kernel_rfl)) eT))
                  simp only [List.getElem_toArray, List.getElem_cons_zero, List.getElem_cons_succ, pmA, List.foldl_cons, List.foldl_nil, Act.put, List.setIfInBounds_toArray, List.set_cons_zero, List.set_cons_succ]
                  rw [eT]
                  kernel_rfl
                case o8 =>
                  intro l tm w h hl hd K hK
                  try dsimp only at h
                  rw [hl] at h
                  obtain ⟨A', ca', C', cc', eT, -⟩ := h.tup (hd 6 (by kernel_rfl))
                  refine st_run (v := (.int .i64 0)) (w' := w) (by rfl) ?_ (hK.out _ _ (h.addE2 (hd 6 (by kernel_rfl)) eT))
                  simp only [List.getElem_toArray, List.getElem_cons_zero, List.getElem_cons_succ, pmA, List.foldl_cons, List.foldl_nil, Act.put, List.setIfInBounds_toArray, List.set_cons_zero, List.set_cons_succ]
                  rw [eT]
                  kernel_rfl
                case o9 =>
                  intro l tm w h hl hd K hK
                  try dsimp only at h
                  rw [hl] at h
                  have hh := h.addQ (pos_of gkz_len) 28
                  exact st_run (v := ptr w.heap.size) (by rfl) (by kernel_rfl) (hK.out _ _ hh)
                case o10 =>
                  intro l tm w h hl hd K hK
                  try dsimp only at h
                  rw [hl] at h
                  obtain ⟨x, A', ca', C', cc', ex, e1, ed, hw⟩ := h.atS' (hd 5 (by kernel_rfl)) (hd 6 (by kernel_rfl)) (hd 7 (by kernel_rfl)) (hd 9 (by kernel_rfl))
                  have HT : Hid (w.there x 0 (#[.int .i64 2, .int .i64 32, .int .i64 16, .slice A' 32 ca', .slice C' 16 cc'] : Array Value).size) := Lib.hid (hw.there (n := 5) rfl)
                  have HO := Lib.hid (state_one 2 32 16 A' 32 ca' C' 16 cc')
                  refine st_store (by rfl) 28 (.tmp 16) (.tmp 105) (by rfl) x 0 #[.int .i64 2, .int .i64 32, .int .i64 16, .slice A' 32 ca', .slice C' 16 cc'] ((by kernel_rfl : _ = tm 16).trans ex) ((by kernel_rfl : _ = tm 105).trans e1) HT.out info_state HO.out ?_
                  refine hK.out undef (w.setCells x 0 [.int .i64 2, .int .i64 32, .int .i64 16, .slice A' 32 ca', .slice C' 16 cc']) ?_
                  exact h.addS' (hd 1 (by kernel_rfl)) (hd 2 (by kernel_rfl)) (hd 3 (by kernel_rfl)) (hd 4 (by kernel_rfl)) (fun e => absurd e (by decide)) (hd 5 (by kernel_rfl)) (hd 6 (by kernel_rfl)) (hd 7 (by kernel_rfl)) (hd 9 (by kernel_rfl)) (fun e => absurd e (by decide)) ex ed
                case start => exact ⟨hH, fun _ => ⟨hH, fun e => ff rfl e, fun e => ff rfl e, fun e => ff rfl e, fun e => ff rfl e, fun e => ff rfl e, fun e => ff rfl e, fun e => ff rfl e, fun e => ff rfl e, fun e => ff rfl e, fun e => ff rfl e⟩, fun e => ff rfl e, fun e => ff rfl e, fun e => ff rfl e, fun e => ff rfl e, fun e => ff rfl e, fun e => ff rfl e⟩
                case fin =>
                  intro tm v12 h
                  try dsimp only at h
                  obtain ⟨hbb, hR, hP⟩ := h.fin (by kernel_rfl) (by kernel_rfl)
                  obtain ⟨g11, A11, ca11, C11, cc11, ed, ex, hx, hm, -⟩ := hP
                  simp only [ptr] at ex
                  clear h ed
                  obtain ⟨hca, hcc, hF⟩ := hm
                  obtain ⟨P11, Q11, rfl, rfl, hO⟩ := hF.ost (by rw [gkz_len.1]; decide) (by rw [gkz_len.2]; decide) hbb
                  simp only [pmA, List.foldl_cons, List.foldl_nil, Act.put, List.setIfInBounds_toArray, List.set_cons_zero, List.set_cons_succ]
                  rw [ex, hR]
                  clear ex hR
                  refine wpAnyH_take (i := 11) (v := ?_) rfl (by kernel_rfl) (by kernel_rfl) (by kernel_rfl) (fun _ _ _ h => h) (Or.inl ⟨by rfl, ?_⟩) (by assumption) ?_
                  rotate_left
                  · intro w hSw; go_simp; try with_reducible rfl
                  try simp only [Act.put, List.setIfInBounds_toArray, List.set_cons_zero, List.set_cons_succ, List.getElem_toArray, List.getElem_cons_zero, List.getElem_cons_succ]
                  refine wpAnyH_done (by kernel_rfl) ?_ _
                  replace K_s := Lib.hid (K_s.out.on hbb)
                  replace HS_s := Lib.hid (HS_s.out.on hbb)
                  replace K_x := Lib.hid (K_x.out.on hbb)
                  replace HS_x := Lib.hid (HS_x.out.on hbb)
                  replace K_y := Lib.hid (K_y.out.on hbb)
                  replace HS_y := Lib.hid (HS_y.out.on hbb)
                  replace O_x := Lib.hid (O_x.out.on hbb)
                  replace O_y := Lib.hid (O_y.out.on hbb)
                  replace HW := Lib.hid (below_on HW.out hbb)
                  have K_z := Lib.hid hx.bx
                  have O_z := Lib.hid hO
                  have HS_z : Hid (StH v12 gkz 2 32 16 (some ⟨P11, 0, none⟩) 32 ca11 (some ⟨Q11, 0, none⟩) 16 cc11) := Lib.hid ⟨hO.lies, rfl, gkz_len.1.symm, gkz_len.2.symm, by decide, by decide, hca, hcc⟩
                  clear hca hcc hF hO
                  clear hbb hx hH
                  go_upto_region 12 with fail
                  have t0 := K_s.out.c 0 _ rfl
                  have t1 := K_s.out.c 1 _ rfl
                  have t2 := K_s.out.c 2 _ rfl
                  have t3 := K_s.out.c 3 _ rfl
                  have t4 := K_s.out.c 4 _ rfl
                  go_wp2_with fail
                  refine (gput_is (f := 0) (t := 2) HS_s.out gk_i).mono ?_
                  rintro e u12 ⟨A12, ca12, C12, cc12, rfl, hb, -⟩
                  clear t0 t1 t2 t3 t4
                  go_upto_region 13 with fail
                  replace hb := below_on hb (below_alloc u12 (.cells #[.int .i64 2, .int .i64 32, .int .i64 16, .slice A12 32 ca12, .slice C12 16 cc12] 28))
                  replace K_s := Lib.hid (K_s.out.on hb)
                  replace HS_s := Lib.hid (HS_s.out.on hb)
                  replace K_x := Lib.hid (K_x.out.on hb)
                  replace HS_x := Lib.hid (HS_x.out.on hb)
                  replace K_y := Lib.hid (K_y.out.on hb)
                  replace HS_y := Lib.hid (HS_y.out.on hb)
                  replace K_z := Lib.hid (K_z.out.on hb)
                  replace HS_z := Lib.hid (HS_z.out.on hb)
                  replace O_x := Lib.hid (O_x.out.on hb)
                  replace O_y := Lib.hid (O_y.out.on hb)
                  replace O_z := Lib.hid (O_z.out.on hb)
                  replace HW := Lib.hid (below_on HW.out hb)
                  clear hb
                  obtain ⟨j12, hj⟩ : ∃ j, j = u12.heap.size := ⟨_, rfl⟩
                  rw [← hj]
                  clear hj
                  generalize u12.alloc _ = v13 at HW K_s HS_s K_x HS_x O_x K_y HS_y O_y K_z HS_z O_z ⊢
                  have t0 := K_s.out.c 0 _ rfl
                  have t1 := K_s.out.c 1 _ rfl
                  have t2 := K_s.out.c 2 _ rfl
                  have t3 := K_s.out.c 3 _ rfl
                  have t4 := K_s.out.c 4 _ rfl
                  go_wp2_with fail
                  refine (gput_is (f := 1) (t := 2) HS_s.out gk_j).mono ?_
                  rintro e u13 ⟨A13, ca13, C13, cc13, rfl, hb, -⟩
                  clear t0 t1 t2 t3 t4
                  go_upto_region 14 with fail
                  replace hb := below_on hb (below_alloc u13 (.cells #[.int .i64 2, .int .i64 32, .int .i64 16, .slice A13 32 ca13, .slice C13 16 cc13] 28))
                  replace K_s := Lib.hid (K_s.out.on hb)
                  replace HS_s := Lib.hid (HS_s.out.on hb)
                  replace K_x := Lib.hid (K_x.out.on hb)
                  replace HS_x := Lib.hid (HS_x.out.on hb)
                  replace K_y := Lib.hid (K_y.out.on hb)
                  replace HS_y := Lib.hid (HS_y.out.on hb)
                  replace K_z := Lib.hid (K_z.out.on hb)
                  replace HS_z := Lib.hid (HS_z.out.on hb)
                  replace O_x := Lib.hid (O_x.out.on hb)
                  replace O_y := Lib.hid (O_y.out.on hb)
                  replace O_z := Lib.hid (O_z.out.on hb)
                  replace HW := Lib.hid (below_on HW.out hb)
                  clear hb
                  obtain ⟨j13, hj⟩ : ∃ j, j = u13.heap.size := ⟨_, rfl⟩
                  rw [← hj]
                  clear hj
                  generalize u13.alloc _ = v14 at HW K_s HS_s K_x HS_x O_x K_y HS_y O_y K_z HS_z O_z ⊢
                  have t0 := K_x.out.c 0 _ rfl
                  have t1 := K_x.out.c 1 _ rfl
                  have t2 := K_x.out.c 2 _ rfl
                  have t3 := K_x.out.c 3 _ rfl
                  have t4 := K_x.out.c 4 _ rfl
                  go_wp2_with fail
                  refine (gput_is (f := 2) (t := 3) HS_x.out gk_k).mono ?_
                  rintro e u14 ⟨A14, ca14, C14, cc14, rfl, hb, -⟩
                  clear t0 t1 t2 t3 t4
                  go_upto_region 15 with fail
                  replace hb := below_on hb (below_alloc u14 (.cells #[.int .i64 2, .int .i64 32, .int .i64 16, .slice A14 32 ca14, .slice C14 16 cc14] 28))
                  replace K_s := Lib.hid (K_s.out.on hb)
                  replace HS_s := Lib.hid (HS_s.out.on hb)
                  replace K_x := Lib.hid (K_x.out.on hb)
                  replace HS_x := Lib.hid (HS_x.out.on hb)
                  replace K_y := Lib.hid (K_y.out.on hb)
                  replace HS_y := Lib.hid (HS_y.out.on hb)
                  replace K_z := Lib.hid (K_z.out.on hb)
                  replace HS_z := Lib.hid (HS_z.out.on hb)
                  replace O_x := Lib.hid (O_x.out.on hb)
                  replace O_y := Lib.hid (O_y.out.on hb)
                  replace O_z := Lib.hid (O_z.out.on hb)
                  replace HW := Lib.hid (below_on HW.out hb)
                  clear hb
                  obtain ⟨j14, hj⟩ : ∃ j, j = u14.heap.size := ⟨_, rfl⟩
                  rw [← hj]
                  clear hj
                  generalize u14.alloc _ = v15 at HW K_s HS_s K_x HS_x O_x K_y HS_y O_y K_z HS_z O_z ⊢
                  have t0 := K_s.out.c 0 _ rfl
                  have t1 := K_s.out.c 1 _ rfl
                  have t2 := K_s.out.c 2 _ rfl
                  have t3 := K_s.out.c 3 _ rfl
                  have t4 := K_s.out.c 4 _ rfl
                  go_wp2_with fail
                  refine (gput_is (f := 3) (t := 2) HS_s.out gk_l).mono ?_
                  rintro e u15 ⟨A15, ca15, C15, cc15, rfl, hb, -⟩
                  clear t0 t1 t2 t3 t4
                  go_upto_region 16 with fail
                  replace hb := below_on hb (below_alloc u15 (.cells #[.int .i64 2, .int .i64 32, .int .i64 16, .slice A15 32 ca15, .slice C15 16 cc15] 28))
                  replace K_s := Lib.hid (K_s.out.on hb)
                  replace HS_s := Lib.hid (HS_s.out.on hb)
                  replace K_x := Lib.hid (K_x.out.on hb)
                  replace HS_x := Lib.hid (HS_x.out.on hb)
                  replace K_y := Lib.hid (K_y.out.on hb)
                  replace HS_y := Lib.hid (HS_y.out.on hb)
                  replace K_z := Lib.hid (K_z.out.on hb)
                  replace HS_z := Lib.hid (HS_z.out.on hb)
                  replace O_x := Lib.hid (O_x.out.on hb)
                  replace O_y := Lib.hid (O_y.out.on hb)
                  replace O_z := Lib.hid (O_z.out.on hb)
                  replace HW := Lib.hid (below_on HW.out hb)
                  clear hb
                  obtain ⟨j15, hj⟩ : ∃ j, j = u15.heap.size := ⟨_, rfl⟩
                  rw [← hj]
                  clear hj
                  generalize u15.alloc _ = v16 at HW K_s HS_s K_x HS_x O_x K_y HS_y O_y K_z HS_z O_z ⊢
                  have t0 := K_s.out.c 0 _ rfl
                  have t1 := K_s.out.c 1 _ rfl
                  have t2 := K_s.out.c 2 _ rfl
                  have t3 := K_s.out.c 3 _ rfl
                  have t4 := K_s.out.c 4 _ rfl
                  go_wp2_with fail
                  refine (gput_is (f := 1) (t := 0) HS_s.out gk_m).mono ?_
                  rintro e u16 ⟨A16, ca16, C16, cc16, rfl, hb, -⟩
                  clear t0 t1 t2 t3 t4
                  go_upto_region 17 with fail
                  replace hb := below_on hb (below_alloc u16 (.cells #[.int .i64 2, .int .i64 32, .int .i64 16, .slice A16 32 ca16, .slice C16 16 cc16] 28))
                  replace K_s := Lib.hid (K_s.out.on hb)
                  replace HS_s := Lib.hid (HS_s.out.on hb)
                  replace K_x := Lib.hid (K_x.out.on hb)
                  replace HS_x := Lib.hid (HS_x.out.on hb)
                  replace K_y := Lib.hid (K_y.out.on hb)
                  replace HS_y := Lib.hid (HS_y.out.on hb)
                  replace K_z := Lib.hid (K_z.out.on hb)
                  replace HS_z := Lib.hid (HS_z.out.on hb)
                  replace O_x := Lib.hid (O_x.out.on hb)
                  replace O_y := Lib.hid (O_y.out.on hb)
                  replace O_z := Lib.hid (O_z.out.on hb)
                  replace HW := Lib.hid (below_on HW.out hb)
                  clear hb
                  obtain ⟨j16, hj⟩ : ∃ j, j = u16.heap.size := ⟨_, rfl⟩
                  rw [← hj]
                  clear hj
                  generalize u16.alloc _ = v17 at HW K_s HS_s K_x HS_x O_x K_y HS_y O_y K_z HS_z O_z ⊢
                  have t0 := K_s.out.c 0 _ rfl
                  have t1 := K_s.out.c 1 _ rfl
                  have t2 := K_s.out.c 2 _ rfl
                  have t3 := K_s.out.c 3 _ rfl
                  have t4 := K_s.out.c 4 _ rfl
                  go_wp2_with fail
                  refine (gput_is (f := 1) (t := 20) HS_s.out gk_n).mono ?_
                  rintro e u17 ⟨A17, ca17, C17, cc17, rfl, hb, -⟩
                  clear t0 t1 t2 t3 t4
                  go_upto_region 18 with fail
                  replace hb := below_on hb (below_alloc u17 (.cells #[.int .i64 2, .int .i64 32, .int .i64 16, .slice A17 32 ca17, .slice C17 16 cc17] 28))
                  replace K_s := Lib.hid (K_s.out.on hb)
                  replace HS_s := Lib.hid (HS_s.out.on hb)
                  replace K_x := Lib.hid (K_x.out.on hb)
                  replace HS_x := Lib.hid (HS_x.out.on hb)
                  replace K_y := Lib.hid (K_y.out.on hb)
                  replace HS_y := Lib.hid (HS_y.out.on hb)
                  replace K_z := Lib.hid (K_z.out.on hb)
                  replace HS_z := Lib.hid (HS_z.out.on hb)
                  replace O_x := Lib.hid (O_x.out.on hb)
                  replace O_y := Lib.hid (O_y.out.on hb)
                  replace O_z := Lib.hid (O_z.out.on hb)
                  replace HW := Lib.hid (below_on HW.out hb)
                  clear hb
                  obtain ⟨j17, hj⟩ : ∃ j, j = u17.heap.size := ⟨_, rfl⟩
                  rw [← hj]
                  clear hj
                  generalize u17.alloc _ = v18 at HW K_s HS_s K_x HS_x O_x K_y HS_y O_y K_z HS_z O_z ⊢
                  have t0 := K_s.out.c 0 _ rfl
                  have t1 := K_s.out.c 1 _ rfl
                  have t2 := K_s.out.c 2 _ rfl
                  have t3 := K_s.out.c 3 _ rfl
                  have t4 := K_s.out.c 4 _ rfl
                  go_wp2_with fail
                  refine (gput_is (f := 1) (t := 2) HS_s.out gk_o).mono ?_
                  rintro e u18 ⟨A18, ca18, C18, cc18, rfl, hb, -⟩
                  clear t0 t1 t2 t3 t4
                  go_upto_region 19 with fail
                  replace hb := below_on hb (below_alloc u18 (.cells #[.int .i64 2, .int .i64 32, .int .i64 16, .slice A18 32 ca18, .slice C18 16 cc18] 28))
                  replace K_s := Lib.hid (K_s.out.on hb)
                  replace HS_s := Lib.hid (HS_s.out.on hb)
                  replace K_x := Lib.hid (K_x.out.on hb)
                  replace HS_x := Lib.hid (HS_x.out.on hb)
                  replace K_y := Lib.hid (K_y.out.on hb)
                  replace HS_y := Lib.hid (HS_y.out.on hb)
                  replace K_z := Lib.hid (K_z.out.on hb)
                  replace HS_z := Lib.hid (HS_z.out.on hb)
                  replace O_x := Lib.hid (O_x.out.on hb)
                  replace O_y := Lib.hid (O_y.out.on hb)
                  replace O_z := Lib.hid (O_z.out.on hb)
                  replace HW := Lib.hid (below_on HW.out hb)
                  clear hb
                  obtain ⟨j18, hj⟩ : ∃ j, j = u18.heap.size := ⟨_, rfl⟩
                  rw [← hj]
                  clear hj
                  generalize u18.alloc _ = v19 at HW K_s HS_s K_x HS_x O_x K_y HS_y O_y K_z HS_z O_z ⊢
                  have n3x := K_x.out.c 3 _ rfl
                  have n3y := K_y.out.c 3 _ rfl
                  have n3z := K_z.out.c 3 _ rfl
                  have hx2 := O_x.out.sl 2 (by rw [gkx_len.1]; decide)
                  rw [gk_x2] at hx2
                  have x2_0 := hx2 0 _ rfl
                  have x2_1 := hx2 1 _ rfl
                  have x2_2 := hx2 2 _ rfl
                  have x2_3 := hx2 3 _ rfl
                  have x2_4 := hx2 4 _ rfl
                  simp only [Nat.reduceMul, Nat.reduceAdd] at x2_0 x2_1 x2_2 x2_3 x2_4
                  clear hx2
                  have hy4 := O_y.out.sl 4 (by rw [gky_len.1]; decide)
                  rw [gk_y4] at hy4
                  have y4_0 := hy4 0 _ rfl
                  have y4_4 := hy4 4 _ rfl
                  simp only [Nat.reduceMul, Nat.reduceAdd] at y4_0 y4_4
                  clear hy4
                  have hy1 := O_y.out.sl 1 (by rw [gky_len.1]; decide)
                  rw [gk_y1] at hy1
                  have y1_0 := hy1 0 _ rfl
                  have y1_1 := hy1 1 _ rfl
                  have y1_2 := hy1 2 _ rfl
                  have y1_3 := hy1 3 _ rfl
                  have y1_4 := hy1 4 _ rfl
                  simp only [Nat.reduceMul, Nat.reduceAdd] at y1_0 y1_1 y1_2 y1_3 y1_4
                  clear hy1
                  have hy2 := O_y.out.sl 2 (by rw [gky_len.1]; decide)
                  rw [gk_y2] at hy2
                  have y2_4 := hy2 4 _ rfl
                  simp only [Nat.reduceMul, Nat.reduceAdd] at y2_4
                  clear hy2
                  have hy9 := O_y.out.sl 9 (by rw [gky_len.1]; decide)
                  rw [gk_y9] at hy9
                  have y9_4 := hy9 4 _ rfl
                  simp only [Nat.reduceMul, Nat.reduceAdd] at y9_4
                  clear hy9
                  have hz1 := O_z.out.sl 1 (by rw [gkz_len.1]; decide)
                  rw [gk_z1] at hz1
                  have z1_0 := hz1 0 _ rfl
                  simp only [Nat.reduceMul, Nat.reduceAdd] at z1_0
                  clear hz1
                  have heq1 : ∀ w, (Op.equalIn 10000 41 (.agg #[.int .i64 3, .int .i64 1, .int .i64 3, .int .i64 9, .int .i64 1]) (.agg #[.int .i64 3, .int .i64 1, .int .i64 3, .int .i64 9, .int .i64 1])).run Try.prog w = .ok true w := fun w => by
                    have h := peqslot ⟨⟨3, 1, 3, 9⟩, 1⟩ ⟨⟨3, 1, 3, 9⟩, 1⟩ w
                    rw [Sl.eq_iff.2 rfl] at h
                    exact h
                  have heq2 : ∀ w, (Op.equalIn 10000 41 (.agg #[.int .i64 0, .int .i64 0, .int .i64 0, .int .i64 0, .int .i64 (-1)]) (.agg #[.int .i64 0, .int .i64 0, .int .i64 0, .int .i64 0, .int .i64 (-1)])).run Try.prog w = .ok true w := fun w => by
                    have h := peqslot ⟨⟨0, 0, 0, 0⟩, -1⟩ ⟨⟨0, 0, 0, 0⟩, -1⟩ w
                    rw [Sl.eq_iff.2 rfl] at h
                    exact h
                  go_wp2
                  go_ret
                  exact ⟨rfl, HW.out⟩
end Go.Proofs.Ytfoklgenpafciaa
