/-
  The law's own awake (layer 18): what a word that is sent leaves, and what is taken out. Condition: none.
-/
import Derived.Test.YtkpbfbmkolgmgaaGreatTDt
namespace Go.Proofs.YtkpbfbmkolgmgaaGreat
open Go.RowKit
set_option linter.unusedSimpArgs false
set_option linter.unusedVariables false
def aws : St := tputS s64 1 (mbox 42 0 0)
theorem aw18_a : mdo s64 0 ⟨7, [1], [], 0, 0, 42⟩ = (some aws, ⟨0, 0, 0⟩) := by kernel_rfl
theorem aw18_b : mdo aws 1 ⟨8, [1], [], 0, 0, 0⟩ = (some (tputS aws 1 (Tng.of 3)), ⟨0, 42, 0⟩) := by kernel_rfl
theorem aw18_c : tputS aws 1 (Tng.of 3) = s64 := tput_back (x := mbox 42 0 0) (by rw [s64_things]; decide : 1 < s64.th.length)
theorem aw18_d : mdo aws 1 ⟨8, [1], [], 0, 0, 0⟩ = (some s64, ⟨0, 42, 0⟩) := by rw [aw18_b, aw18_c]
theorem aws_len : aws.sl.length = 32 ∧ aws.th.length = 16 ∧ aws.g = ⟨2, 32, 16⟩ := ⟨s64_slots, tput_th.trans s64_things, s64_geo⟩
set_option maxRecDepth 100000 in
set_option maxHeartbeats 16000000 in
theorem awake18_is (w : World) : Calls Tryz.prog 25 #[] w fun e w' => e = .returned (.bool true) ∧ Below w.heap.size w w' := by
  go_enter Tryz.func25, Tryz.ntmps25
  go_wp2_with fail
  refine (first18_is w).mono ?_
  rintro e w2 ⟨A, ca, C, cc, rfl, hS, -, hb⟩
  have HS := Lib.hid hS
  have HB2 := Lib.hid hb
  clear hS hb
  have hL := one_at w2 1
  have hb := below_alloc w2 (.cells #[.int .i64 1] 3)
  go_wp2_with fail
  generalize w2.alloc _ = w3 at hL hb ⊢
  have HL := Lib.hid hL
  have HB3 := Lib.hid hb
  clear hL hb
  refine (way18_is w3).mono ?_
  rintro e w4 ⟨rfl, hb⟩
  replace HL := Lib.hid (HL.out.on hb)
  have HB4 := Lib.hid (below_on HB3.out hb)
  clear hb HB3
  go_wp2_with fail
  refine (mdo_is (z := 42) (HS.out.on HB4.out) rfl (by simp) HL.out rfl (by simp) (none_at _) aw18_a).mono ?_
  rintro e w7 ⟨A2, ca1, C2, cc1, rfl, hb, hca, hcc, hF⟩
  obtain ⟨P1, Q1, rfl, rfl, hO⟩ := hF.ost (by rw [aws_len.1]; decide) (by rw [aws_len.2.1]; decide) hb
  have HB7 := Lib.hid (below_on (below_on HB2.out HB4.out) hb)
  simp only [Rep.val]
  clear hF hb HS HB2 HB4 HL
  have HC1 := Lib.hid (⟨hca, hcc⟩ : 32 ≤ ca1 ∧ 16 ≤ cc1)
  clear hca hcc
  obtain ⟨n2, n3⟩ := boxes2 w7 [.int .i64 2, .int .i64 32, .int .i64 16, .slice (some ⟨P1, 0, none⟩) 32 ca1, .slice (some ⟨Q1, 0, none⟩) 16 cc1] [.int .i64 0, .int .u64 0, .int .i64 0] 27 40
  have o2 := (hO.on (below_alloc w7 (.cells #[.int .i64 2, .int .i64 32, .int .i64 16, .slice (some ⟨P1, 0, none⟩) 32 ca1, .slice (some ⟨Q1, 0, none⟩) 16 cc1] 27))).on (below_alloc _ (.cells #[.int .i64 0, .int .u64 0, .int .i64 0] 40))
  clear hO
  go_upto_region 2 with fail
  obtain ⟨j1, hj1⟩ : ∃ j1, j1 = w7.heap.size + 1 := ⟨_, rfl⟩
  rw [← hj1] at n3 ⊢
  clear hj1
  obtain ⟨j0, hj0⟩ : ∃ j0, j0 = w7.heap.size := ⟨_, rfl⟩
  rw [← hj0] at n2 ⊢
  clear hj0
  generalize (w7.alloc _).alloc _ = v2 at n2 n3 o2 ⊢
  have K := Lib.hid n2
  have J := Lib.hid n3
  have O1 := Lib.hid o2
  clear n2 n3 o2
  have HS1 : Hid (StH v2 aws 2 32 16 (some ⟨P1, 0, none⟩) 32 ca1 (some ⟨Q1, 0, none⟩) 16 cc1) := Lib.hid ⟨O1.out.lies, aws_len.2.2, aws_len.1.symm, aws_len.2.1.symm, by decide, by decide, HC1.out.1, HC1.out.2⟩
  have HP : Hid (∀ s', some s64 = some s' → 0 < s'.sl.length ∧ 0 < s'.th.length) := Lib.hid fun s' e => by
    injection e with e
    rw [← e, s64_slots, s64_things]
    decide
  refine wp_region_held_drew (S := fun w' => Below v2.heap.size v2 w') (by kernel_rfl) (below_self v2).drew (fun hH => ?_)
  refine wpAnyH_take (i := 0) (v := .agg #[.int .i64 2, .int .i64 32, .int .i64 16, .slice (some ⟨P1, 0, none⟩) 32 ca1, .slice (some ⟨Q1, 0, none⟩) 16 cc1]) rfl (by kernel_rfl) (by kernel_rfl) (by kernel_rfl) (fun _ _ _ h => h) (yieldsIf_load_mid (by rfl) 27 (.tmp 1) (by rfl) j0 0 (by rfl) [.int .i64 2, .int .i64 32, .int .i64 16, .slice (some ⟨P1, 0, none⟩) 32 ca1, .slice (some ⟨Q1, 0, none⟩) 16 cc1] _ (fun w hS => ((K.out.bx.on hS).range)) Tryz.underlying27 rfl info_state) (by assumption) ?_
  try simp only [Act.put, List.setIfInBounds_toArray, List.set_cons_zero, List.set_cons_succ, List.getElem_toArray, List.getElem_cons_zero, List.getElem_cons_succ]
  refine wpAnyH_inv (f0 := 1) [1, 2, 3, 4, 5, 6, 7, 8, 9, 10] [15, 16, 17, 18, 13, 19, 20, 3, 4] (fun l tm w => PHI v2 [1] [] 2 32 16 (some ⟨P1, 0, none⟩) 32 ca1 (some ⟨Q1, 0, none⟩) 16 cc1 (some s64) (.agg #[.int .i64 0, .int .u64 42, .int .i64 0]) [.int .i64 0, .int .u64 0, .int .i64 0] false false (fun p q => .agg #[.int .i64 8, flat1 p, flat1 q, .int .i64 0, .int .i64 0, .int .u64 0]) (l 1) (l 2) true true (l 3) (l 4) (l 5) (l 6) (l 7) (l 8) (l 9) (l 10) (tm 15) (tm 16) (.slice none 0 0) (.agg #[(.slice none 0 0)]) (tm 17) (tm 18) (tm 13) (tm 19) (tm 20) (tm 3) (tm 4) w) (by kernel_rfl) (by kernel_rfl) rfl (by decide) (fun l tm w h => h.bb) ?start (AllSteps.cons rfl ?o1 (AllSteps.cons rfl ?o2 (AllSteps.cons rfl ?o3 (AllSteps.cons rfl ?o4 (AllSteps.cons rfl ?o5 (AllSteps.cons rfl ?o6 (AllSteps.cons rfl ?o7 (AllSteps.cons rfl ?o8 (AllSteps.cons rfl ?o9 (AllSteps.cons rfl ?o10 AllSteps.nil)))))))))) ?fin
  case o1 =>
    intro l tm w h hl hd K0 hK
    try dsimp only at h
    rw [hl] at h
    have hh := h.addB1 (below_alloc w (.cells #[.int .i64 1] 3)) (lis_one w 1)
    exact st_run (v := .slice (some ⟨w.heap.size, 0, none⟩) 1 1) (by rfl) (by kernel_rfl) (hK.out _ _ hh)
  case o2 =>
    intro l tm w h hl hd K0 hK
    try dsimp only at h
    rw [hl] at h
    have hs := h.early1.1
    have h0 := h
    rw [hs] at h0
    obtain ⟨⟨B, nB, cB, eB, -⟩, -⟩ := h0.way1 (hd 1 (by kernel_rfl))
    have hc := way18_is (A := B) (n := nB) (cap := cB) w
    rw [← eB] at hc
    refine st_call (f := 27) (args := #[(tm 15)]) (w' := w) (by rfl) (by kernel_rfl) (hc.mono ?_)
    rintro e w1 ⟨rfl, hb⟩
    exact ⟨_, rfl, hK.out _ _ (h.addW1 (hd 1 (by kernel_rfl)) hb rfl)⟩
  case o3 =>
    intro l tm w h hl hd K0 hK
    try dsimp only at h
    rw [hl] at h
    have d1 := hd 2 (by kernel_rfl)
    have d2 : true = true := rfl
    have hs : l 10 = false := by rw [Bool.eq_false_iff]; exact fun e => absurd ((h.o e).2.2.2.2.1 rfl) (by decide)
    have h0 := h
    rw [hs] at h0
    obtain ⟨⟨B1, n1, k1, eB1, eN1, eK1, eI1⟩, eW1⟩ := h0.way1 ((h0.rg rfl).w1 d1).1
    obtain ⟨⟨B2, n2, k2, eB2, eN2, eK2, eI2⟩, eW2⟩ := h0.way2 rfl
    have hW1 := (eW1 d1).trans (by rw [eB1])
    have hW2 := (eW2 d2).trans (by rw [eB2])
    refine st_run (v := (fun p q => .agg #[.int .i64 8, flat1 p, flat1 q, .int .i64 0, .int .i64 0, .int .u64 0]) (tm 16) (.agg #[(.slice none 0 0)])) (w' := w) (by rfl) ?_ (hK.out _ _ (h.addBd d1 d2 rfl))
    simp only [List.getElem_toArray, List.getElem_cons_zero, List.getElem_cons_succ, pmA, List.foldl_cons, List.foldl_nil, Act.put, List.setIfInBounds_toArray, List.set_cons_zero, List.set_cons_succ]
    rw [hW1]
    kernel_rfl
  case o4 =>
    intro l tm w h hl hd K0 hK
    try dsimp only at h
    rw [hl] at h
    have d0 := hd 3 (by kernel_rfl)
    obtain ⟨d1, d2, eBD⟩ := h.e6 d0
    have hs : l 10 = false := h.notS.1
    have h0 := h
    rw [hs] at h0
    obtain ⟨⟨B1, n1, k1, eB1, eN1, eK1, eI1⟩, eW1⟩ := h0.way1 ((h0.rg rfl).w1 d1).1
    obtain ⟨⟨B2, n2, k2, eB2, eN2, eK2, eI2⟩, eW2⟩ := h0.way2 rfl
    have hW1 := (eW1 d1).trans (by rw [eB1])
    have hW2 := (eW2 d2).trans (by rw [eB2])
    rw [hW1, hW2] at eBD
    have hA : #[.agg #[.int .i64 2, .int .i64 32, .int .i64 16, .slice (some ⟨P1, 0, none⟩) 32 ca1, .slice (some ⟨Q1, 0, none⟩) 16 cc1], .int .i64 1, (tm 17)] = #[.agg #[.int .i64 2, .int .i64 32, .int .i64 16, .slice (some ⟨P1, 0, none⟩) 32 ca1, .slice (some ⟨Q1, 0, none⟩) 16 cc1], .int .i64 1, .agg #[.int .i64 8, .slice B1 n1 k1, .slice B2 n2 k2, .int .i64 0, .int .i64 0, .int .u64 0]] := by rw [eBD]; rfl
    refine st_call (f := 28) (args := #[.agg #[.int .i64 2, .int .i64 32, .int .i64 16, .slice (some ⟨P1, 0, none⟩) 32 ca1, .slice (some ⟨Q1, 0, none⟩) 16 cc1], .int .i64 1, (tm 17)]) (w' := w) (by rfl) (by kernel_rfl) ?_
    rw [hA]
    refine (mdo_is (z := 0) (HS1.out.on h.bb) eN1 eK1 eI1 eN2 eK2 eI2 aw18_d).mono ?_
    rintro e w1 ⟨A', ca', C', cc', rfl, hb, hm⟩
    obtain ⟨q1, q2⟩ := resD_of (a := 2) (b := 32) (c := 16) (R := (.agg #[.int .i64 0, .int .u64 42, .int .i64 0])) h.bb.size hm HP.out
    exact ⟨_, rfl, hK.out _ _ (h.addD hb q1 q2)⟩
  case o5 =>
    intro l tm w h hl hd K0 hK
    try dsimp only at h
    rw [hl] at h
    exact st_run (v := tm 18) (w' := w) (by rfl) (by kernel_rfl) (hK.out _ _ (h.addMv (hd 4 (by kernel_rfl)) rfl))
  case o6 =>
    intro l tm w h hl hd K0 hK
    try dsimp only at h
    rw [hl] at h
    obtain ⟨A', ca', C', cc', eT, -⟩ := h.tup (hd 5 (by kernel_rfl))
    refine st_run (v := .agg #[.int .i64 2, .int .i64 32, .int .i64 16, .slice A' 32 ca', .slice C' 16 cc']) (w' := w) (by rfl) ?_ (hK.out _ _ (h.addE1 (hd 5 (by kernel_rfl)) eT))
    simp only [List.getElem_toArray, List.getElem_cons_zero, List.getElem_cons_succ, pmA, List.foldl_cons, List.foldl_nil, Act.put, List.setIfInBounds_toArray, List.set_cons_zero, List.set_cons_succ]
    rw [eT]
    kernel_rfl
  case o7 =>
    intro l tm w h hl hd K0 hK
    try dsimp only at h
    rw [hl] at h
    obtain ⟨A', ca', C', cc', eT, -⟩ := h.tup (hd 5 (by kernel_rfl))
    refine st_run (v := (.agg #[.int .i64 0, .int .u64 42, .int .i64 0])) (w' := w) (by rfl) ?_ (hK.out _ _ (h.addE2 (hd 5 (by kernel_rfl)) eT))
    simp only [List.getElem_toArray, List.getElem_cons_zero, List.getElem_cons_succ, pmA, List.foldl_cons, List.foldl_nil, Act.put, List.setIfInBounds_toArray, List.set_cons_zero, List.set_cons_succ]
    rw [eT]
    kernel_rfl
  case o8 =>
    intro l tm w h hl hd K0 hK
    try dsimp only at h
    rw [hl] at h
    have hh := h.addQ HP.out 27
    exact st_run (v := ptr w.heap.size) (by rfl) (by kernel_rfl) (hK.out _ _ hh)
  case o9 =>
    intro l tm w h hl hd K0 hK
    try dsimp only at h
    rw [hl] at h
    have hh := h.addY HP.out 40
    exact st_run (v := ptr w.heap.size) (by rfl) (by kernel_rfl) (hK.out _ _ hh)
  case o10 =>
    intro l tm w h hl hd K0 hK
    try dsimp only at h
    rw [hl] at h
    obtain ⟨x, A', ca', C', cc', ex, e1, ed, hw⟩ := h.atS' (hd 4 (by kernel_rfl)) (hd 5 (by kernel_rfl)) (hd 6 (by kernel_rfl)) (hd 8 (by kernel_rfl))
    have HT : Hid (w.there x 0 (#[.int .i64 2, .int .i64 32, .int .i64 16, .slice A' 32 ca', .slice C' 16 cc'] : Array Value).size) := Lib.hid (hw.there (n := 5) rfl)
    have HO := Lib.hid (state_one 2 32 16 A' 32 ca' C' 16 cc')
    refine st_store (by rfl) 27 (.tmp 3) (.tmp 19) (by rfl) x 0 #[.int .i64 2, .int .i64 32, .int .i64 16, .slice A' 32 ca', .slice C' 16 cc'] ((by kernel_rfl : _ = tm 3).trans ex) ((by kernel_rfl : _ = tm 19).trans e1) HT.out info_state HO.out ?_
    refine hK.out undef (w.setCells x 0 [.int .i64 2, .int .i64 32, .int .i64 16, .slice A' 32 ca', .slice C' 16 cc']) ?_
    exact h.addS' (hd 1 (by kernel_rfl)) (hd 2 (by kernel_rfl)) rfl rfl (fun _ => (hd 3 (by kernel_rfl))) (hd 4 (by kernel_rfl)) (hd 5 (by kernel_rfl)) (hd 6 (by kernel_rfl)) (hd 8 (by kernel_rfl)) (fun _ => (hd 9 (by kernel_rfl))) ex ed
  case start => exact ⟨hH, fun _ => ⟨hH, fun e => ff rfl e, fun e => ff rfl e, fun _ => ⟨none, 0, 0, rfl, rfl, Nat.le_refl _, none_at _⟩, fun _ => ⟨rfl, rfl⟩, fun e => ff rfl e, fun e => ff rfl e, fun e => ff rfl e, fun e => ff rfl e, fun e => ff rfl e, fun e => ff rfl e⟩, fun e => ff rfl e, fun e => ff rfl e, fun e => ff rfl e, fun e => ff rfl e, fun e => ff rfl e, fun e => ff rfl e⟩
  case fin =>
    intro tm u7 h
    try dsimp only at h
    obtain ⟨hbb, hR, hP⟩ := h.fin (by kernel_rfl) (by kernel_rfl)
    obtain ⟨g3, Az, ca3, Cz, cc3, ed, ex, hx, hm, hy⟩ := hP
    obtain ⟨g4, ey, hne, hY, haw⟩ := hy rfl
    obtain ⟨hca, hcc, hF⟩ := hm
    simp only [ptr] at ex ey
    obtain ⟨P3, Q3, rfl, rfl, hO⟩ := hF.ost (by rw [s64_slots]; decide) (by rw [s64_things]; decide) hbb
    have hfar := haw _ rfl
    have f1 : P3 ≠ g4 := hfar.1 P3 rfl
    have f2 : Q3 ≠ g4 := hfar.2 Q3 rfl
    have HC3 := Lib.hid (⟨hca, hcc⟩ : 32 ≤ ca3 ∧ 16 ≤ cc3)
    clear h ed hy hF haw hfar hca hcc
    simp only [pmA, List.foldl_cons, List.foldl_nil, Act.put, List.setIfInBounds_toArray, List.set_cons_zero, List.set_cons_succ]
    rw [ex, ey, hR]
    clear ex ey hR
    refine wpAnyH_ready (rs := [11]) (by kernel_rfl) (by simp) ?_
    refine AllReadyH.cons rfl (fun K0 hK => ?_) AllReadyH.nil
    have HT : Hid (u7.there g4 0 (#[.int .i64 0, .int .u64 42, .int .i64 0] : Array Value).size) := Lib.hid (hY.there (n := 3) rfl)
    have HO := Lib.hid (reply_one 0 42 0)
    have kY := hY.setCells (vs := [.int .i64 0, .int .u64 42, .int .i64 0]) rfl
    have fY := Fnd.setCells g4 [.int .i64 0, .int .u64 42, .int .i64 0] 0 u7
    have kX := hx.fnd fY hne.symm kY.bx.old
    have oX := hO.step fY f1 f2 kY.bx.old
    refine step_store_mid (by rfl) 40 (.tmp 4) (.tmp 20) (by rfl) g4 0 #[.int .i64 0, .int .u64 42, .int .i64 0] (by rfl) (by rfl) HT.out info_reply HO.out ?_
    change K0 _ (u7.setCells g4 0 [.int .i64 0, .int .u64 42, .int .i64 0])
    clear fY HT f1 f2 hne hY hx hO
    generalize u7.setCells g4 0 [.int .i64 0, .int .u64 42, .int .i64 0] = v4 at kX kY oX ⊢
    have hb := kY.bx.old
    have KX := Lib.hid kX
    have KY := Lib.hid kY
    have OX := Lib.hid oX
    clear kX kY oX
    refine hK.out _ _ hb (fun hH => ?_)
    clear hK K0
    try simp only [Act.put, List.setIfInBounds_toArray, List.set_cons_zero, List.set_cons_succ, List.getElem_toArray, List.getElem_cons_zero, List.getElem_cons_succ]
    refine wpAnyH_done (by kernel_rfl) ?_ _
    have HE := Lib.hid (below_on (below_on HB7.out (by first | exact (below_on (below_self _) K.out.bx.old) | exact K.out.bx.old)) hb)
    replace J := Lib.hid (J.out.on hb)
    clear hb hH hbb
    have heq1 : ∀ w, (Op.equalIn 10000 40 (.agg #[.int .i64 0, .int .u64 0, .int .i64 0]) (.agg #[.int .i64 0, .int .u64 0, .int .i64 0])).run Tryz.prog w = .ok true w := fun w => eq_reply 0 0 0 0 0 0 w
    have heq2 : ∀ w, (Op.equalIn 10000 40 (.agg #[.int .i64 0, .int .u64 42, .int .i64 0]) (.agg #[.int .i64 0, .int .u64 42, .int .i64 0])).run Tryz.prog w = .ok true w := fun w => eq_reply 0 0 0 0 42 42 w
    go_upto_region 3 with fail
    refine wp_region_held_drew (S := fun w' => Below v4.heap.size v4 w') (by kernel_rfl) (below_self v4).drew (fun hH => ?_)
    refine wpAnyH_take (i := 0) (v := .agg #[.int .i64 0, .int .u64 0, .int .i64 0]) rfl (by kernel_rfl) (by kernel_rfl) (by kernel_rfl) (fun _ _ _ h => h) (yieldsIf_load_mid (by rfl) 40 (.tmp 2) (by rfl) j1 0 (by rfl) [.int .i64 0, .int .u64 0, .int .i64 0] _ (fun w hS => ((J.out.bx.on hS).range)) Tryz.underlying40 rfl info_reply) (by assumption) ?_
    try simp only [Act.put, List.setIfInBounds_toArray, List.set_cons_zero, List.set_cons_succ, List.getElem_toArray, List.getElem_cons_zero, List.getElem_cons_succ]
    refine wpAnyH_take (i := 1) (v := ?_) rfl (by kernel_rfl) (by kernel_rfl) (by kernel_rfl) (fun _ _ _ h => h) (Or.inl ⟨by rfl, ?_⟩) (by assumption) ?_
    rotate_left
    · intro w hSw; go_simp; try with_reducible rfl
    try simp only [Act.put, List.setIfInBounds_toArray, List.set_cons_zero, List.set_cons_succ, List.getElem_toArray, List.getElem_cons_zero, List.getElem_cons_succ]
    refine wpAnyH_take (i := 2) (v := ?_) rfl (by kernel_rfl) (by kernel_rfl) (by kernel_rfl) (fun _ _ _ h => h) (Or.inl ⟨by rfl, ?_⟩) (by assumption) ?_
    rotate_left
    · intro w hSw; go_simp; try with_reducible rfl
    try simp only [Act.put, List.setIfInBounds_toArray, List.set_cons_zero, List.set_cons_succ, List.getElem_toArray, List.getElem_cons_zero, List.getElem_cons_succ]
    refine wpAnyH_take (i := 3) (v := ?_) rfl (by kernel_rfl) (by kernel_rfl) (by kernel_rfl) (fun _ _ _ h => h) (Or.inl ⟨by rfl, ?_⟩) (by assumption) ?_
    rotate_left
    · intro w hSw; go_simp; try with_reducible rfl
    try simp only [Act.put, List.setIfInBounds_toArray, List.set_cons_zero, List.set_cons_succ, List.getElem_toArray, List.getElem_cons_zero, List.getElem_cons_succ]
    refine wpAnyH_take (i := 4) (v := .agg #[.int .i64 0, .int .u64 42, .int .i64 0]) rfl (by kernel_rfl) (by kernel_rfl) (by kernel_rfl) (fun _ _ _ h => h) (yieldsIf_load_mid (by rfl) 40 (.tmp 4) (by rfl) g4 0 (by rfl) [.int .i64 0, .int .u64 42, .int .i64 0] _ (fun w hS => ((KY.out.bx.on hS).range)) Tryz.underlying40 rfl info_reply) (by assumption) ?_
    try simp only [Act.put, List.setIfInBounds_toArray, List.set_cons_zero, List.set_cons_succ, List.getElem_toArray, List.getElem_cons_zero, List.getElem_cons_succ]
    refine wpAnyH_take (i := 5) (v := ?_) rfl (by kernel_rfl) (by kernel_rfl) (by kernel_rfl) (fun _ _ _ h => h) (Or.inl ⟨by rfl, ?_⟩) (by assumption) ?_
    rotate_left
    · intro w hSw; go_simp; try with_reducible rfl
    try simp only [Act.put, List.setIfInBounds_toArray, List.set_cons_zero, List.set_cons_succ, List.getElem_toArray, List.getElem_cons_zero, List.getElem_cons_succ]
    refine wpAnyH_take (i := 6) (v := ?_) rfl (by kernel_rfl) (by kernel_rfl) (by kernel_rfl) (fun _ _ _ h => h) (Or.inl ⟨by rfl, ?_⟩) (by assumption) ?_
    rotate_left
    · intro w hSw; go_simp; try with_reducible rfl
    try simp only [Act.put, List.setIfInBounds_toArray, List.set_cons_zero, List.set_cons_succ, List.getElem_toArray, List.getElem_cons_zero, List.getElem_cons_succ]
    refine wpAnyH_take (i := 7) (v := ?_) rfl (by kernel_rfl) (by kernel_rfl) (by kernel_rfl) (fun _ _ _ h => h) (Or.inl ⟨by rfl, ?_⟩) (by assumption) ?_
    rotate_left
    · intro w hSw; go_simp; try with_reducible rfl
    try simp only [Act.put, List.setIfInBounds_toArray, List.set_cons_zero, List.set_cons_succ, List.getElem_toArray, List.getElem_cons_zero, List.getElem_cons_succ]
    refine wpAnyH_take (i := 8) (v := ?_) rfl (by kernel_rfl) (by kernel_rfl) (by kernel_rfl) (fun _ _ _ h => h) (Or.inl ⟨by rfl, ?_⟩) (by assumption) ?_
    rotate_left
    · intro w hSw; go_simp; try with_reducible rfl
    try simp only [Act.put, List.setIfInBounds_toArray, List.set_cons_zero, List.set_cons_succ, List.getElem_toArray, List.getElem_cons_zero, List.getElem_cons_succ]
    refine wpAnyH_take (i := 9) (v := .agg #[.int .i64 2, .int .i64 32, .int .i64 16, .slice (some ⟨P3, 0, none⟩) 32 ca3, .slice (some ⟨Q3, 0, none⟩) 16 cc3]) rfl (by kernel_rfl) (by kernel_rfl) (by kernel_rfl) (fun _ _ _ h => h) (yieldsIf_load_mid (by rfl) 27 (.tmp 3) (by rfl) g3 0 (by rfl) [.int .i64 2, .int .i64 32, .int .i64 16, .slice (some ⟨P3, 0, none⟩) 32 ca3, .slice (some ⟨Q3, 0, none⟩) 16 cc3] _ (fun w hS => ((KX.out.bx.on hS).range)) Tryz.underlying27 rfl info_state) (by assumption) ?_
    try simp only [Act.put, List.setIfInBounds_toArray, List.set_cons_zero, List.set_cons_succ, List.getElem_toArray, List.getElem_cons_zero, List.getElem_cons_succ]
    refine wpAnyH_ready (rs := [10]) (by kernel_rfl) (by simp) ?_
    refine AllReadyH.cons rfl (fun K hK => ?_) AllReadyH.nil
    go_simp
    refine (first18_is _).mono ?_
    rintro e v5 ⟨A5, ca5, C5, cc5, rfl, hS5, -, hb5⟩
    have HS5 := Lib.hid hS5
    have hb6 := below_on hH hb5
    clear hS5 hb5 hH
    refine hK.out _ _ hb6 (fun hH => ?_)
    clear hK K
    try simp only [Act.put, List.setIfInBounds_toArray, List.set_cons_zero, List.set_cons_succ, List.getElem_toArray, List.getElem_cons_zero, List.getElem_cons_succ]
    refine wpAnyH_ready (rs := [11]) (by kernel_rfl) (by simp) ?_
    refine AllReadyH.cons rfl (fun K hK => ?_) AllReadyH.nil
    go_simp
    have hs3 : StH v5 s64 2 32 16 (some ⟨P3, 0, none⟩) 32 ca3 (some ⟨Q3, 0, none⟩) 16 cc3 := ⟨(OX.out.on hH).lies, s64_geo, s64_slots.symm, s64_things.symm, by decide, by decide, HC3.out.1, HC3.out.2⟩
    refine (psame_is hs3 HS5.out (St.same_iff.2 rfl)).mono ?_
    rintro e v6 ⟨rfl, hb⟩
    have hb6 := below_on hH hb
    clear hb hH
    refine hK.out _ _ hb6 (fun hH => ?_)
    clear hK K
    try simp only [Act.put, List.setIfInBounds_toArray, List.set_cons_zero, List.set_cons_succ, List.getElem_toArray, List.getElem_cons_zero, List.getElem_cons_succ]
    refine wpAnyH_take (i := 12) (v := ?_) rfl (by kernel_rfl) (by kernel_rfl) (by kernel_rfl) (fun _ _ _ h => h) (Or.inl ⟨by rfl, ?_⟩) (by assumption) ?_
    rotate_left
    · intro w hSw; go_simp; try with_reducible rfl
    try simp only [Act.put, List.setIfInBounds_toArray, List.set_cons_zero, List.set_cons_succ, List.getElem_toArray, List.getElem_cons_zero, List.getElem_cons_succ]
    refine wpAnyH_take (i := 13) (v := ?_) rfl (by kernel_rfl) (by kernel_rfl) (by kernel_rfl) (fun _ _ _ h => h) (Or.inl ⟨by rfl, ?_⟩) (by assumption) ?_
    rotate_left
    · intro w hSw; go_simp; try with_reducible rfl
    try simp only [Act.put, List.setIfInBounds_toArray, List.set_cons_zero, List.set_cons_succ, List.getElem_toArray, List.getElem_cons_zero, List.getElem_cons_succ]
    refine wpAnyH_done (by kernel_rfl) ?_ _
    go_wp2_with fail
    go_ret
    exact ⟨rfl, below_on HE.out hH⟩
end Go.Proofs.YtkpbfbmkolgmgaaGreat
