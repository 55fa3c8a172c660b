/-
  The walk of the law MailKnown. No condition.
-/
import Derived.Test.YtkpbfbmkolgmgaaGreatTVg
import Derived.Test.YtkpbfbmkolgmgaaGreatTVq
import Derived.Test.YtkpbfbmkolgmgaaGreatTDe
namespace Go.Proofs.YtkpbfbmkolgmgaaGreat
open Go.RowKit
set_option linter.unusedSimpArgs false
set_option linter.unusedVariables false

def ks1 : St := gputS s64 1 2 ⟨3, 1, 7, 9⟩
def ks2 : St := gputS ks1 1 3 ⟨3, 1, 1, 0⟩
def ks3 : St := gputS ks2 1 4 ⟨3, 1, 2, 0⟩
def kmx : St := tputS ks3 1 (mbox 7 9 4)
def kmy : St := tputS (gputS kmx 3 13 ⟨3, 1, 1, 0⟩) 1 (Tng.of 3)
theorem km_1 : gdo s64 0 ⟨3, [1], [2], 7, 9, 0⟩ = (some ks1, ⟨0, 0, 0⟩) := by kernel_rfl
theorem km_2 : gdo ks1 0 ⟨2, [1], [3], 1, 0, 0⟩ = (some ks2, ⟨0, 0, 0⟩) := by kernel_rfl
theorem km_3 : gdo ks2 0 ⟨2, [1], [4], 2, 0, 0⟩ = (some ks3, ⟨0, 0, 0⟩) := by kernel_rfl
theorem km_a : mdo ks3 0 ⟨7, [2], [3], 0, 0, 7⟩ = (some kmx, ⟨0, 0, 0⟩) := by kernel_rfl
theorem km_b : mdo kmx 0 ⟨7, [1], [], 0, 0, 0⟩ = (none, ⟨13, 0, 0⟩) := by kernel_rfl
theorem km_c : mdo ks3 0 ⟨7, [3], [], 0, 0, 0⟩ = (none, ⟨6, 0, 0⟩) := by kernel_rfl
theorem km_d : mdo ks3 0 ⟨7, [4], [3], 0, 0, 0⟩ = (none, ⟨6, 0, 0⟩) := by kernel_rfl
theorem km_e : mdo ks3 0 ⟨7, [1], [0], 0, 0, 0⟩ = (none, ⟨7, 0, 0⟩) := by kernel_rfl
theorem km_f : mdo ks3 0 ⟨7, [0], [], 0, 0, 0⟩ = (none, ⟨7, 0, 0⟩) := by kernel_rfl
theorem km_g : mdo ks3 0 ⟨8, [1], [], 0, 0, 0⟩ = (none, ⟨14, 0, 0⟩) := by kernel_rfl
theorem km_h : mdo kmx 0 ⟨8, [4], [], 0, 0, 0⟩ = (none, ⟨6, 0, 0⟩) := by kernel_rfl
theorem km_i : mdo kmx 1 ⟨8, [1], [5], 0, 0, 0⟩ = (some kmy, ⟨0, 7, 9⟩) := by kernel_rfl
theorem km_j : mdo kmx 1 ⟨8, [1], [1], 0, 0, 0⟩ = (none, ⟨5, 0, 0⟩) := by kernel_rfl
theorem km_k0 : mdo kmx 1 ⟨8, [1], [], 0, 0, 0⟩ = (some (tputS kmx 1 (Tng.of 3)), ⟨0, 7, 9⟩) := by kernel_rfl
theorem km_l : mdo ks3 0 ⟨7, [1], [6], 0, 0, 0⟩ = (none, ⟨4, 0, 0⟩) := by kernel_rfl
theorem ks1_len : ks1.sl.length = 32 ∧ ks1.th.length = 16 := ⟨by kernel_rfl, by kernel_rfl⟩
theorem ks2_len : ks2.sl.length = 32 ∧ ks2.th.length = 16 := ⟨by kernel_rfl, by kernel_rfl⟩
theorem ks3_len : ks3.sl.length = 32 ∧ ks3.th.length = 16 := ⟨by kernel_rfl, by kernel_rfl⟩
theorem kmx_len : kmx.sl.length = 32 ∧ kmx.th.length = 16 := ⟨by kernel_rfl, by kernel_rfl⟩
theorem kmy_len : kmy.sl.length = 32 ∧ kmy.th.length = 16 := ⟨by kernel_rfl, by kernel_rfl⟩
theorem km_back : tputS kmx 1 (Tng.of 3) = ks3 := tput_back (x := mbox 7 9 4) (by rw [ks3_len.2]; decide : 1 < ks3.th.length)
theorem km_k : mdo kmx 1 ⟨8, [1], [], 0, 0, 0⟩ = (some ks3, ⟨0, 7, 9⟩) := by rw [km_k0, km_back]
theorem km_ge : ks1.g = ⟨2, 32, 16⟩ ∧ ks2.g = ⟨2, 32, 16⟩ ∧ ks3.g = ⟨2, 32, 16⟩ ∧ kmx.g = ⟨2, 32, 16⟩ ∧ kmy.g = ⟨2, 32, 16⟩ := ⟨by kernel_rfl, by kernel_rfl, by kernel_rfl, by kernel_rfl, by kernel_rfl⟩
theorem kmy_13 : slAt kmy.sl 13 = ⟨⟨3, 1, 1, 0⟩, 3⟩ := by kernel_rfl
theorem kmy_1 : thAt kmy.th 1 = Tng.of 3 := by kernel_rfl

set_option maxRecDepth 100000 in
set_option maxHeartbeats 64000000 in
theorem mail_known (w : World) : Calls Tryz.prog 5 #[] w fun e w' => e = .returned (.bool true) ∧ Below w.heap.size w w' := by
  go_enter Tryz.func5, Tryz.ntmps5
  go_wp2_with fail
  refine (awake18_is w).mono ?_
  rintro e w1 ⟨rfl, hb⟩
  have HW := Lib.hid hb
  clear hb
  go_wp2_with fail
  refine (first18_is w1).mono ?_
  rintro e w2 ⟨A, ca, C, cc, rfl, hS, -, hb⟩
  have HS := Lib.hid hS
  have HB2 := Lib.hid hb
  clear hS hb
  have hL := one_at w2 1
  have hb := below_alloc w2 (.cells #[.int .i64 1] 3)
  go_wp2_with fail
  generalize w2.alloc _ = w3 at hL hb ⊢
  have HL := Lib.hid hL
  have HB3 := Lib.hid hb
  clear hL hb
  refine (way18_is w3).mono ?_
  rintro e w4 ⟨rfl, hb⟩
  replace HL := Lib.hid (HL.out.on hb)
  have HB4 := Lib.hid (below_on HB3.out hb)
  clear hb HB3
  have hM := one_at w4 2
  have hb := below_alloc w4 (.cells #[.int .i64 2] 3)
  go_wp2_with fail
  generalize w4.alloc _ = w5 at hM hb ⊢
  have HM := Lib.hid hM
  replace HL := Lib.hid (HL.out.on hb)
  have HB5 := Lib.hid (below_on HB4.out hb)
  clear hM hb HB4
  refine (way18_is w5).mono ?_
  rintro e w6 ⟨rfl, hb⟩
  replace HM := Lib.hid (HM.out.on hb)
  replace HL := Lib.hid (HL.out.on hb)
  have HB6 := Lib.hid (below_on HB5.out hb)
  clear hb HB5
  go_wp2_with fail
  refine (gdo_is (z := 0) (HS.out.on HB6.out) rfl (by simp) HL.out rfl (by simp) HM.out km_1).mono ?_
  rintro e w7 ⟨A2, ca1, C2, cc1, rfl, hb, hca, hcc, hF⟩
  obtain ⟨P1, Q1, rfl, rfl, hO⟩ := hF.ost (by rw [ks1_len.1]; decide) (by rw [ks1_len.2]; decide) hb
  have HB7 := Lib.hid (below_on (below_on HB2.out HB6.out) hb)
  simp only [Rep.val]
  clear hF hb HS HB2 HB6 HL HM
  have HC1 := Lib.hid (⟨hca, hcc⟩ : 32 ≤ ca1 ∧ 16 ≤ cc1)
  clear hca hcc
  obtain ⟨n2, n3⟩ := boxes2 w7 [.int .i64 2, .int .i64 32, .int .i64 16, .slice (some ⟨P1, 0, none⟩) 32 ca1, .slice (some ⟨Q1, 0, none⟩) 16 cc1] [.int .i64 0, .int .u64 0, .int .i64 0] 27 40
  have hal := below_on (below_alloc w7 (.cells #[.int .i64 2, .int .i64 32, .int .i64 16, .slice (some ⟨P1, 0, none⟩) 32 ca1, .slice (some ⟨Q1, 0, none⟩) 16 cc1] 27)) (below_alloc _ (.cells #[.int .i64 0, .int .u64 0, .int .i64 0] 40))
  have o2 := hO.on hal
  replace HW := Lib.hid (below_on HW.out HB7.out)
  clear hO n3 hal HB7
  go_upto_region 4 with fail
  obtain ⟨j1, hj1⟩ : ∃ j1, j1 = w7.heap.size + 1 := ⟨_, rfl⟩
  try rw [← hj1]
  clear hj1
  obtain ⟨j0, hj0⟩ : ∃ j0, j0 = w7.heap.size := ⟨_, rfl⟩
  rw [← hj0] at n2 ⊢
  clear hj0
  generalize (w7.alloc _).alloc _ = v4 at n2 o2 ⊢
  have K := Lib.hid n2
  have O_1 := Lib.hid o2
  clear n2 o2
  have HS1 : Hid (StH v4 ks1 2 32 16 (some ⟨P1, 0, none⟩) 32 ca1 (some ⟨Q1, 0, none⟩) 16 cc1) := Lib.hid ⟨O_1.out.lies, km_ge.1, ks1_len.1.symm, ks1_len.2.symm, by decide, by decide, HC1.out.1, HC1.out.2⟩
  have HP : Hid (∀ s', some ks2 = some s' → 0 < s'.sl.length ∧ 0 < s'.th.length) := Lib.hid fun s' e => by
    injection e with e
    rw [← e, ks2_len.1, ks2_len.2]
    decide
  have hb0 := (below_self v4).drew
  refine wp_region_held_drew (S := fun _ => True) (by kernel_rfl) trivial (fun _ => ?_)
  refine wpAnyH_inv (f0 := 0) [0, 1, 2, 3, 4, 5, 6, 7, 8, 9, 10] [40, 41, 42, 43, 44, 45, 46, 39, 47, 48] (fun l tm w => P7 v4 j0 [1] [3] 2 32 16 (some ⟨P1, 0, none⟩) 32 ca1 (some ⟨Q1, 0, none⟩) 16 cc1 (some ks2) (.agg #[.int .i64 0, .int .u64 0, .int .i64 0]) (fun p q => .agg #[.int .i64 2, flat1 p, flat1 q, .int .i64 1, .int .i64 0, .int .u64 0]) (.agg #[.int .i64 2, .int .i64 32, .int .i64 16, .slice (some ⟨P1, 0, none⟩) 32 ca1, .slice (some ⟨Q1, 0, none⟩) 16 cc1]) (l 0) (l 1) (l 2) (l 3) (l 4) (l 5) (l 6) (l 7) (l 8) (l 9) (l 10) (tm 40) (tm 41) (tm 42) (tm 43) (tm 44) (tm 45) (tm 46) (tm 39) (tm 47) (tm 48) w) (by kernel_rfl) (by kernel_rfl) rfl (by decide) (fun _ _ _ _ => trivial) ?start (AllSteps.cons rfl ?o0 (AllSteps.cons rfl ?o1 (AllSteps.cons rfl ?o2 (AllSteps.cons rfl ?o3 (AllSteps.cons rfl ?o4 (AllSteps.cons rfl ?o5 (AllSteps.cons rfl ?o6 (AllSteps.cons rfl ?o7 (AllSteps.cons rfl ?o8 (AllSteps.cons rfl ?o9 (AllSteps.cons rfl ?o10 AllSteps.nil))))))))))) ?fin
  case o0 =>
    intro l tm w h hl hd K0 hK
    try dsimp only at h
    rw [hl] at h
    have hs6 := h.early (by simp)
    have hP := h.h hs6
    refine st_load (by rfl) 27 (.tmp 1) (by rfl) j0 0 (by kernel_rfl) [.int .i64 2, .int .i64 32, .int .i64 16, .slice (some ⟨P1, 0, none⟩) 32 ca1, .slice (some ⟨Q1, 0, none⟩) 16 cc1] _ (K.out.on hP.bb).bx.range Tryz.underlying27 rfl info_state ?_
    exact hK.out _ _ ⟨fun _ => rfl, fun _ => hP, fun e => ff hs6 e⟩
  case o1 =>
    intro l tm w h hl hd K0 hK
    try dsimp only at h
    rw [hl] at h
    have hs6 := h.early (by simp)
    have hv6 := h.ld
    replace h := h.h hs6
    have hh := h.addB1 (below_alloc w (.cells #[.int .i64 1] 3)) (lis_one w 1)
    exact st_run (v := .slice (some ⟨w.heap.size, 0, none⟩) 1 1) (by rfl) (by kernel_rfl) (hK.out _ _ ⟨hv6, fun _ => hh, fun e => ff hs6 e⟩)
  case o2 =>
    intro l tm w h hl hd K0 hK
    try dsimp only at h
    rw [hl] at h
    have hs6 := h.early (by simp)
    have hv6 := h.ld
    replace h := h.h hs6
    have h0 := h
    obtain ⟨⟨B, nB, cB, eB, -⟩, -⟩ := h0.way1 (hd 1 (by kernel_rfl))
    have hc := way18_is (A := B) (n := nB) (cap := cB) w
    rw [← eB] at hc
    refine st_call (f := 27) (args := #[(tm 41)]) (w' := w) (by rfl) (by kernel_rfl) (hc.mono ?_)
    rintro e w1 ⟨rfl, hb⟩
    exact ⟨_, rfl, hK.out _ _ ⟨hv6, fun _ => (h.addW1 (hd 1 (by kernel_rfl)) hb rfl), fun e => ff hs6 e⟩⟩
  case o3 =>
    intro l tm w h hl hd K0 hK
    try dsimp only at h
    rw [hl] at h
    have hs6 := h.early (by simp)
    have hv6 := h.ld
    replace h := h.h hs6
    have hh := h.addB2 (below_alloc w (.cells #[.int .i64 3] 3)) (lis_one w 3)
    exact st_run (v := .slice (some ⟨w.heap.size, 0, none⟩) 1 1) (by rfl) (by kernel_rfl) (hK.out _ _ ⟨hv6, fun _ => hh, fun e => ff hs6 e⟩)
  case o4 =>
    intro l tm w h hl hd K0 hK
    try dsimp only at h
    rw [hl] at h
    have hs6 := h.early (by simp)
    have hv6 := h.ld
    replace h := h.h hs6
    have h0 := h
    obtain ⟨⟨B, nB, cB, eB, -⟩, -⟩ := h0.way2 (hd 3 (by kernel_rfl))
    have hc := way18_is (A := B) (n := nB) (cap := cB) w
    rw [← eB] at hc
    refine st_call (f := 27) (args := #[(tm 43)]) (w' := w) (by rfl) (by kernel_rfl) (hc.mono ?_)
    rintro e w1 ⟨rfl, hb⟩
    exact ⟨_, rfl, hK.out _ _ ⟨hv6, fun _ => (h.addW2 (hd 3 (by kernel_rfl)) hb rfl), fun e => ff hs6 e⟩⟩
  case o5 =>
    intro l tm w h hl hd K0 hK
    try dsimp only at h
    rw [hl] at h
    have hs6 := h.early (by simp)
    have hv6 := h.ld
    replace h := h.h hs6
    have d1 := hd 2 (by kernel_rfl)
    have d2 := hd 4 (by kernel_rfl)
    have h0 := h
    obtain ⟨⟨B1, n1, k1, eB1, eN1, eK1, eI1⟩, eW1⟩ := h0.way1 ((h0.rg rfl).w1 d1).1
    obtain ⟨⟨B2, n2, k2, eB2, eN2, eK2, eI2⟩, eW2⟩ := h0.way2 ((h0.rg rfl).w2 d2).1
    have hW1 := (eW1 d1).trans (by rw [eB1])
    have hW2 := (eW2 d2).trans (by rw [eB2])
    refine st_run (v := (fun p q => .agg #[.int .i64 2, flat1 p, flat1 q, .int .i64 1, .int .i64 0, .int .u64 0]) (tm 42) (tm 44)) (w' := w) (by rfl) ?_ (hK.out _ _ ⟨hv6, fun _ => (h.addBd d1 d2 rfl), fun e => ff hs6 e⟩)
    simp only [List.getElem_toArray, List.getElem_cons_zero, List.getElem_cons_succ, pmA, List.foldl_cons, List.foldl_nil, Act.put, List.setIfInBounds_toArray, List.set_cons_zero, List.set_cons_succ]
    rw [hW1, hW2]
    kernel_rfl
  case o6 =>
    intro l tm w h hl hd K0 hK
    try dsimp only at h
    rw [hl] at h
    have hs6 := h.early (by simp)
    have hv6 := h.ld
    replace h := h.h hs6
    have d0 := hd 5 (by kernel_rfl)
    obtain ⟨d1, d2, eBD⟩ := h.e6 d0
    have h0 := h
    obtain ⟨⟨B1, n1, k1, eB1, eN1, eK1, eI1⟩, eW1⟩ := h0.way1 ((h0.rg rfl).w1 d1).1
    obtain ⟨⟨B2, n2, k2, eB2, eN2, eK2, eI2⟩, eW2⟩ := h0.way2 ((h0.rg rfl).w2 d2).1
    have hW1 := (eW1 d1).trans (by rw [eB1])
    have hW2 := (eW2 d2).trans (by rw [eB2])
    rw [hW1, hW2] at eBD
    have hA : #[(tm 40), .int .i64 0, (tm 45)] = #[.agg #[.int .i64 2, .int .i64 32, .int .i64 16, .slice (some ⟨P1, 0, none⟩) 32 ca1, .slice (some ⟨Q1, 0, none⟩) 16 cc1], .int .i64 0, .agg #[.int .i64 2, .slice B1 n1 k1, .slice B2 n2 k2, .int .i64 1, .int .i64 0, .int .u64 0]] := by rw [hv6 (hd 0 (by kernel_rfl)), eBD]; rfl
    refine st_call (f := 21) (args := #[(tm 40), .int .i64 0, (tm 45)]) (w' := w) (by rfl) (by kernel_rfl) ?_
    rw [hA]
    refine (gdo_is (z := 0) (HS1.out.on h.bb) eN1 eK1 eI1 eN2 eK2 eI2 km_2).mono ?_
    rintro e w1 ⟨A', ca', C', cc', rfl, hb, hm⟩
    obtain ⟨q1, q2⟩ := resD_of (a := 2) (b := 32) (c := 16) (R := (.agg #[.int .i64 0, .int .u64 0, .int .i64 0])) h.bb.size hm HP.out
    exact ⟨_, rfl, hK.out _ _ ⟨hv6, fun _ => (h.addD hb q1 q2), fun e => ff hs6 e⟩⟩
  case o7 =>
    intro l tm w h hl hd K0 hK
    try dsimp only at h
    rw [hl] at h
    have hs6 := h.early (by simp)
    have hv6 := h.ld
    replace h := h.h hs6
    exact st_run (v := tm 46) (w' := w) (by rfl) (by kernel_rfl) (hK.out _ _ ⟨hv6, fun _ => (h.addMv (hd 6 (by kernel_rfl)) rfl), fun e => ff hs6 e⟩)
  case o8 =>
    intro l tm w h hl hd K0 hK
    try dsimp only at h
    rw [hl] at h
    have hs6 := h.early (by simp)
    have hv6 := h.ld
    replace h := h.h hs6
    obtain ⟨A', ca', C', cc', eT, -⟩ := h.tup (hd 7 (by kernel_rfl))
    refine st_run (v := .agg #[.int .i64 2, .int .i64 32, .int .i64 16, .slice A' 32 ca', .slice C' 16 cc']) (w' := w) (by rfl) ?_ (hK.out _ _ ⟨hv6, fun _ => (h.addE1 (hd 7 (by kernel_rfl)) eT), fun e => ff hs6 e⟩)
    simp only [List.getElem_toArray, List.getElem_cons_zero, List.getElem_cons_succ, pmA, List.foldl_cons, List.foldl_nil, Act.put, List.setIfInBounds_toArray, List.set_cons_zero, List.set_cons_succ]
    rw [eT]
    kernel_rfl
  case o9 =>
    intro l tm w h hl hd K0 hK
    try dsimp only at h
    rw [hl] at h
    rcases hs : l 10 with _ | _
    · have hv6 := h.ld
      replace h := h.h hs
      obtain ⟨A', ca', C', cc', eT, -⟩ := h.tup (hd 7 (by kernel_rfl))
      refine st_run (v := (.agg #[.int .i64 0, .int .u64 0, .int .i64 0])) (w' := w) (by rfl) ?_ (hK.out _ _ ⟨hv6, fun _ => h.addE2 (hd 7 (by kernel_rfl)) eT, fun e => ff hs e⟩)
      simp only [List.getElem_toArray, List.getElem_cons_zero, List.getElem_cons_succ, pmA, List.foldl_cons, List.foldl_nil, Act.put, List.setIfInBounds_toArray, List.set_cons_zero, List.set_cons_succ]
      rw [eT]
      kernel_rfl
    · obtain ⟨hfl, w0, A1, ca1, C1, cc1, eD, ew, hP⟩ := h.s hs
      obtain ⟨A', ca', C', cc', eT, -⟩ := hP.tup (hd 7 (by kernel_rfl))
      refine st_run (v := (.agg #[.int .i64 0, .int .u64 0, .int .i64 0])) (w' := w) (by rfl) ?_ (hK.out _ _ ⟨h.ld, fun e => ff e hs, fun _ => ⟨hfl, w0, A1, ca1, C1, cc1, eD, ew, hP.addE2 (hd 7 (by kernel_rfl)) eT⟩⟩)
      simp only [List.getElem_toArray, List.getElem_cons_zero, List.getElem_cons_succ, pmA, List.foldl_cons, List.foldl_nil, Act.put, List.setIfInBounds_toArray, List.set_cons_zero, List.set_cons_succ]
      rw [eT]
      kernel_rfl
  case o10 =>
    intro l tm w h hl hd K0 hK
    try dsimp only at h
    rw [hl] at h
    have hP := h.h rfl
    obtain ⟨A', ca', C', cc', e1, eD⟩ := hP.e1v (hd 7 (by kernel_rfl)) (hd 8 (by kernel_rfl))
    have HT : Hid (w.there j0 0 (#[.int .i64 2, .int .i64 32, .int .i64 16, .slice A' 32 ca', .slice C' 16 cc'] : Array Value).size) := Lib.hid ((K.out.on hP.bb).there (n := 5) rfl)
    have HO := Lib.hid (state_one 2 32 16 A' 32 ca' C' 16 cc')
    refine st_store (by rfl) 27 (.tmp 1) (.tmp 47) (by rfl) j0 0 #[.int .i64 2, .int .i64 32, .int .i64 16, .slice A' 32 ca', .slice C' 16 cc'] (by kernel_rfl) ((by kernel_rfl : _ = tm 47).trans e1) HT.out info_state HO.out ?_
    have hfl : (l 0 && l 1 && l 2 && l 3 && l 4 && l 5 && l 6 && l 7 && l 8) = true := by simp only [hd 0 (by kernel_rfl), hd 1 (by kernel_rfl), hd 2 (by kernel_rfl), hd 3 (by kernel_rfl), hd 4 (by kernel_rfl), hd 5 (by kernel_rfl), hd 6 (by kernel_rfl), hd 7 (by kernel_rfl), hd 8 (by kernel_rfl), Bool.and_self]
    exact hK.out undef (w.setCells j0 0 [.int .i64 2, .int .i64 32, .int .i64 16, .slice A' 32 ca', .slice C' 16 cc']) ⟨h.ld, fun e => ff e rfl, fun _ => ⟨hfl, w, A', ca', C', cc', eD, rfl, hP⟩⟩
  case start => exact ⟨fun e => ff rfl e, fun _ => ⟨hb0, fun _ => ⟨hb0, fun e => ff rfl e, fun e => ff rfl e, fun e => ff rfl e, fun e => ff rfl e, fun e => ff rfl e, fun e => ff rfl e, fun e => ff rfl e, fun e => ff rfl e, fun e => ff rfl e, fun e => ff rfl e⟩, fun e => ff rfl e, fun e => ff rfl e, fun e => ff rfl e, fun e => ff rfl e, fun e => ff rfl e, fun e => ff rfl e⟩, fun e => ff rfl e⟩
  case fin =>
    clear hb0
    intro tm u6 h
    try dsimp only at h
    obtain ⟨w0, Az, ca2, Cz, cc2, eu, hbz, hm⟩ := h.fin (by kernel_rfl)
    subst eu
    obtain ⟨hca, hcc, hF⟩ := hm
    obtain ⟨P2, Q2, rfl, rfl, hO⟩ := hF.ost (by rw [ks2_len.1]; decide) (by rw [ks2_len.2]; decide) hbz
    have HC_ks2 := Lib.hid (⟨hca, hcc⟩ : 32 ≤ ca2 ∧ 16 ≤ cc2)
    clear h hca hcc hF HP
    have hlt := K.out.bx.lt
    have hl1 := hO.oP
    have hl2 := hO.oQ
    have f := Fnd.setCells j0 [.int .i64 2, .int .i64 32, .int .i64 16, .slice (some ⟨P2, 0, none⟩) 32 ca2, .slice (some ⟨Q2, 0, none⟩) 16 cc2] 0 w0
    have k7 := (K.out.on hbz).setCells (vs := [.int .i64 2, .int .i64 32, .int .i64 16, .slice (some ⟨P2, 0, none⟩) 32 ca2, .slice (some ⟨Q2, 0, none⟩) 16 cc2]) rfl
    have o6 := (hO.base K.out.bx.old).step f (by omega) (by omega) k7.bx.old
    clear f hO hlt hl1 hl2 hbz
    simp only [pmA, List.foldl_cons, List.foldl_nil, Act.put, List.setIfInBounds_toArray, List.set_cons_zero, List.set_cons_succ]
    generalize w0.setCells j0 0 _ = v5 at k7 o6  ⊢
    clear K
    have K := Lib.hid k7
    have O_ks2 := Lib.hid o6
    clear k7 o6
    refine wpAnyH_done (by kernel_rfl) ?_ _
    go_upto_region 5 with fail
    clear HS1 O_1 HC1
    have HS2 : Hid (StH v5 ks2 2 32 16 (some ⟨P2, 0, none⟩) 32 ca2 (some ⟨Q2, 0, none⟩) 16 cc2) := Lib.hid ⟨O_ks2.out.lies, km_ge.2.1, ks2_len.1.symm, ks2_len.2.symm, by decide, by decide, HC_ks2.out.1, HC_ks2.out.2⟩
    have HP : Hid (∀ s', some ks3 = some s' → 0 < s'.sl.length ∧ 0 < s'.th.length) := Lib.hid fun s' e => by
      injection e with e
      rw [← e, ks3_len.1, ks3_len.2]
      decide
    have hb0 := (below_self v5).drew
    refine wp_region_held_drew (S := fun _ => True) (by kernel_rfl) trivial (fun _ => ?_)
    refine wpAnyH_inv (f0 := 0) [0, 1, 2, 3, 4, 5, 6, 7, 8, 9, 10] [50, 51, 52, 53, 54, 55, 56, 49, 57, 58] (fun l tm w => P7 v5 j0 [1] [4] 2 32 16 (some ⟨P2, 0, none⟩) 32 ca2 (some ⟨Q2, 0, none⟩) 16 cc2 (some ks3) (.agg #[.int .i64 0, .int .u64 0, .int .i64 0]) (fun p q => .agg #[.int .i64 2, flat1 p, flat1 q, .int .i64 2, .int .i64 0, .int .u64 0]) (.agg #[.int .i64 2, .int .i64 32, .int .i64 16, .slice (some ⟨P2, 0, none⟩) 32 ca2, .slice (some ⟨Q2, 0, none⟩) 16 cc2]) (l 0) (l 1) (l 2) (l 3) (l 4) (l 5) (l 6) (l 7) (l 8) (l 9) (l 10) (tm 50) (tm 51) (tm 52) (tm 53) (tm 54) (tm 55) (tm 56) (tm 49) (tm 57) (tm 58) w) (by kernel_rfl) (by kernel_rfl) rfl (by decide) (fun _ _ _ _ => trivial) ?start (AllSteps.cons rfl ?o0 (AllSteps.cons rfl ?o1 (AllSteps.cons rfl ?o2 (AllSteps.cons rfl ?o3 (AllSteps.cons rfl ?o4 (AllSteps.cons rfl ?o5 (AllSteps.cons rfl ?o6 (AllSteps.cons rfl ?o7 (AllSteps.cons rfl ?o8 (AllSteps.cons rfl ?o9 (AllSteps.cons rfl ?o10 AllSteps.nil))))))))))) ?fin
    case o0 =>
      intro l tm w h hl hd K0 hK
      try dsimp only at h
      rw [hl] at h
      have hs6 := h.early (by simp)
      have hP := h.h hs6
      refine st_load (by rfl) 27 (.tmp 1) (by rfl) j0 0 (by kernel_rfl) [.int .i64 2, .int .i64 32, .int .i64 16, .slice (some ⟨P2, 0, none⟩) 32 ca2, .slice (some ⟨Q2, 0, none⟩) 16 cc2] _ (K.out.on hP.bb).bx.range Tryz.underlying27 rfl info_state ?_
      exact hK.out _ _ ⟨fun _ => rfl, fun _ => hP, fun e => ff hs6 e⟩
    case o1 =>
      intro l tm w h hl hd K0 hK
      try dsimp only at h
      rw [hl] at h
      have hs6 := h.early (by simp)
      have hv6 := h.ld
      replace h := h.h hs6
      have hh := h.addB1 (below_alloc w (.cells #[.int .i64 1] 3)) (lis_one w 1)
      exact st_run (v := .slice (some ⟨w.heap.size, 0, none⟩) 1 1) (by rfl) (by kernel_rfl) (hK.out _ _ ⟨hv6, fun _ => hh, fun e => ff hs6 e⟩)
    case o2 =>
      intro l tm w h hl hd K0 hK
      try dsimp only at h
      rw [hl] at h
      have hs6 := h.early (by simp)
      have hv6 := h.ld
      replace h := h.h hs6
      have h0 := h
      obtain ⟨⟨B, nB, cB, eB, -⟩, -⟩ := h0.way1 (hd 1 (by kernel_rfl))
      have hc := way18_is (A := B) (n := nB) (cap := cB) w
      rw [← eB] at hc
      refine st_call (f := 27) (args := #[(tm 51)]) (w' := w) (by rfl) (by kernel_rfl) (hc.mono ?_)
      rintro e w1 ⟨rfl, hb⟩
      exact ⟨_, rfl, hK.out _ _ ⟨hv6, fun _ => (h.addW1 (hd 1 (by kernel_rfl)) hb rfl), fun e => ff hs6 e⟩⟩
    case o3 =>
      intro l tm w h hl hd K0 hK
      try dsimp only at h
      rw [hl] at h
      have hs6 := h.early (by simp)
      have hv6 := h.ld
      replace h := h.h hs6
      have hh := h.addB2 (below_alloc w (.cells #[.int .i64 4] 3)) (lis_one w 4)
      exact st_run (v := .slice (some ⟨w.heap.size, 0, none⟩) 1 1) (by rfl) (by kernel_rfl) (hK.out _ _ ⟨hv6, fun _ => hh, fun e => ff hs6 e⟩)
    case o4 =>
      intro l tm w h hl hd K0 hK
      try dsimp only at h
      rw [hl] at h
      have hs6 := h.early (by simp)
      have hv6 := h.ld
      replace h := h.h hs6
      have h0 := h
      obtain ⟨⟨B, nB, cB, eB, -⟩, -⟩ := h0.way2 (hd 3 (by kernel_rfl))
      have hc := way18_is (A := B) (n := nB) (cap := cB) w
      rw [← eB] at hc
      refine st_call (f := 27) (args := #[(tm 53)]) (w' := w) (by rfl) (by kernel_rfl) (hc.mono ?_)
      rintro e w1 ⟨rfl, hb⟩
      exact ⟨_, rfl, hK.out _ _ ⟨hv6, fun _ => (h.addW2 (hd 3 (by kernel_rfl)) hb rfl), fun e => ff hs6 e⟩⟩
    case o5 =>
      intro l tm w h hl hd K0 hK
      try dsimp only at h
      rw [hl] at h
      have hs6 := h.early (by simp)
      have hv6 := h.ld
      replace h := h.h hs6
      have d1 := hd 2 (by kernel_rfl)
      have d2 := hd 4 (by kernel_rfl)
      have h0 := h
      obtain ⟨⟨B1, n1, k1, eB1, eN1, eK1, eI1⟩, eW1⟩ := h0.way1 ((h0.rg rfl).w1 d1).1
      obtain ⟨⟨B2, n2, k2, eB2, eN2, eK2, eI2⟩, eW2⟩ := h0.way2 ((h0.rg rfl).w2 d2).1
      have hW1 := (eW1 d1).trans (by rw [eB1])
      have hW2 := (eW2 d2).trans (by rw [eB2])
      refine st_run (v := (fun p q => .agg #[.int .i64 2, flat1 p, flat1 q, .int .i64 2, .int .i64 0, .int .u64 0]) (tm 52) (tm 54)) (w' := w) (by rfl) ?_ (hK.out _ _ ⟨hv6, fun _ => (h.addBd d1 d2 rfl), fun e => ff hs6 e⟩)
      simp only [List.getElem_toArray, List.getElem_cons_zero, List.getElem_cons_succ, pmA, List.foldl_cons, List.foldl_nil, Act.put, List.setIfInBounds_toArray, List.set_cons_zero, List.set_cons_succ]
      rw [hW1, hW2]
      kernel_rfl
    case o6 =>
      intro l tm w h hl hd K0 hK
      try dsimp only at h
      rw [hl] at h
      have hs6 := h.early (by simp)
      have hv6 := h.ld
      replace h := h.h hs6
      have d0 := hd 5 (by kernel_rfl)
      obtain ⟨d1, d2, eBD⟩ := h.e6 d0
      have h0 := h
      obtain ⟨⟨B1, n1, k1, eB1, eN1, eK1, eI1⟩, eW1⟩ := h0.way1 ((h0.rg rfl).w1 d1).1
      obtain ⟨⟨B2, n2, k2, eB2, eN2, eK2, eI2⟩, eW2⟩ := h0.way2 ((h0.rg rfl).w2 d2).1
      have hW1 := (eW1 d1).trans (by rw [eB1])
      have hW2 := (eW2 d2).trans (by rw [eB2])
      rw [hW1, hW2] at eBD
      have hA : #[(tm 50), .int .i64 0, (tm 55)] = #[.agg #[.int .i64 2, .int .i64 32, .int .i64 16, .slice (some ⟨P2, 0, none⟩) 32 ca2, .slice (some ⟨Q2, 0, none⟩) 16 cc2], .int .i64 0, .agg #[.int .i64 2, .slice B1 n1 k1, .slice B2 n2 k2, .int .i64 2, .int .i64 0, .int .u64 0]] := by rw [hv6 (hd 0 (by kernel_rfl)), eBD]; rfl
      refine st_call (f := 21) (args := #[(tm 50), .int .i64 0, (tm 55)]) (w' := w) (by rfl) (by kernel_rfl) ?_
      rw [hA]
      refine (gdo_is (z := 0) (HS2.out.on h.bb) eN1 eK1 eI1 eN2 eK2 eI2 km_3).mono ?_
      rintro e w1 ⟨A', ca', C', cc', rfl, hb, hm⟩
      obtain ⟨q1, q2⟩ := resD_of (a := 2) (b := 32) (c := 16) (R := (.agg #[.int .i64 0, .int .u64 0, .int .i64 0])) h.bb.size hm HP.out
      exact ⟨_, rfl, hK.out _ _ ⟨hv6, fun _ => (h.addD hb q1 q2), fun e => ff hs6 e⟩⟩
    case o7 =>
      intro l tm w h hl hd K0 hK
      try dsimp only at h
      rw [hl] at h
      have hs6 := h.early (by simp)
      have hv6 := h.ld
      replace h := h.h hs6
      exact st_run (v := tm 56) (w' := w) (by rfl) (by kernel_rfl) (hK.out _ _ ⟨hv6, fun _ => (h.addMv (hd 6 (by kernel_rfl)) rfl), fun e => ff hs6 e⟩)
    case o8 =>
      intro l tm w h hl hd K0 hK
      try dsimp only at h
      rw [hl] at h
      have hs6 := h.early (by simp)
      have hv6 := h.ld
      replace h := h.h hs6
      obtain ⟨A', ca', C', cc', eT, -⟩ := h.tup (hd 7 (by kernel_rfl))
      refine st_run (v := .agg #[.int .i64 2, .int .i64 32, .int .i64 16, .slice A' 32 ca', .slice C' 16 cc']) (w' := w) (by rfl) ?_ (hK.out _ _ ⟨hv6, fun _ => (h.addE1 (hd 7 (by kernel_rfl)) eT), fun e => ff hs6 e⟩)
      simp only [List.getElem_toArray, List.getElem_cons_zero, List.getElem_cons_succ, pmA, List.foldl_cons, List.foldl_nil, Act.put, List.setIfInBounds_toArray, List.set_cons_zero, List.set_cons_succ]
      rw [eT]
      kernel_rfl
    case o9 =>
      intro l tm w h hl hd K0 hK
      try dsimp only at h
      rw [hl] at h
      rcases hs : l 10 with _ | _
      · have hv6 := h.ld
        replace h := h.h hs
        obtain ⟨A', ca', C', cc', eT, -⟩ := h.tup (hd 7 (by kernel_rfl))
        refine st_run (v := (.agg #[.int .i64 0, .int .u64 0, .int .i64 0])) (w' := w) (by rfl) ?_ (hK.out _ _ ⟨hv6, fun _ => h.addE2 (hd 7 (by kernel_rfl)) eT, fun e => ff hs e⟩)
        simp only [List.getElem_toArray, List.getElem_cons_zero, List.getElem_cons_succ, pmA, List.foldl_cons, List.foldl_nil, Act.put, List.setIfInBounds_toArray, List.set_cons_zero, List.set_cons_succ]
        rw [eT]
        kernel_rfl
      · obtain ⟨hfl, w0, A1, ca1, C1, cc1, eD, ew, hP⟩ := h.s hs
        obtain ⟨A', ca', C', cc', eT, -⟩ := hP.tup (hd 7 (by kernel_rfl))
        refine st_run (v := (.agg #[.int .i64 0, .int .u64 0, .int .i64 0])) (w' := w) (by rfl) ?_ (hK.out _ _ ⟨h.ld, fun e => ff e hs, fun _ => ⟨hfl, w0, A1, ca1, C1, cc1, eD, ew, hP.addE2 (hd 7 (by kernel_rfl)) eT⟩⟩)
        simp only [List.getElem_toArray, List.getElem_cons_zero, List.getElem_cons_succ, pmA, List.foldl_cons, List.foldl_nil, Act.put, List.setIfInBounds_toArray, List.set_cons_zero, List.set_cons_succ]
        rw [eT]
        kernel_rfl
    case o10 =>
      intro l tm w h hl hd K0 hK
      try dsimp only at h
      rw [hl] at h
      have hP := h.h rfl
      obtain ⟨A', ca', C', cc', e1, eD⟩ := hP.e1v (hd 7 (by kernel_rfl)) (hd 8 (by kernel_rfl))
      have HT : Hid (w.there j0 0 (#[.int .i64 2, .int .i64 32, .int .i64 16, .slice A' 32 ca', .slice C' 16 cc'] : Array Value).size) := Lib.hid ((K.out.on hP.bb).there (n := 5) rfl)
      have HO := Lib.hid (state_one 2 32 16 A' 32 ca' C' 16 cc')
      refine st_store (by rfl) 27 (.tmp 1) (.tmp 57) (by rfl) j0 0 #[.int .i64 2, .int .i64 32, .int .i64 16, .slice A' 32 ca', .slice C' 16 cc'] (by kernel_rfl) ((by kernel_rfl : _ = tm 57).trans e1) HT.out info_state HO.out ?_
      have hfl : (l 0 && l 1 && l 2 && l 3 && l 4 && l 5 && l 6 && l 7 && l 8) = true := by simp only [hd 0 (by kernel_rfl), hd 1 (by kernel_rfl), hd 2 (by kernel_rfl), hd 3 (by kernel_rfl), hd 4 (by kernel_rfl), hd 5 (by kernel_rfl), hd 6 (by kernel_rfl), hd 7 (by kernel_rfl), hd 8 (by kernel_rfl), Bool.and_self]
      exact hK.out undef (w.setCells j0 0 [.int .i64 2, .int .i64 32, .int .i64 16, .slice A' 32 ca', .slice C' 16 cc']) ⟨h.ld, fun e => ff e rfl, fun _ => ⟨hfl, w, A', ca', C', cc', eD, rfl, hP⟩⟩
    case start => exact ⟨fun e => ff rfl e, fun _ => ⟨hb0, fun _ => ⟨hb0, fun e => ff rfl e, fun e => ff rfl e, fun e => ff rfl e, fun e => ff rfl e, fun e => ff rfl e, fun e => ff rfl e, fun e => ff rfl e, fun e => ff rfl e, fun e => ff rfl e, fun e => ff rfl e⟩, fun e => ff rfl e, fun e => ff rfl e, fun e => ff rfl e, fun e => ff rfl e, fun e => ff rfl e, fun e => ff rfl e⟩, fun e => ff rfl e⟩
    case fin =>
      clear hb0
      intro tm u6 h
      try dsimp only at h
      obtain ⟨w0, Az, ca3, Cz, cc3, eu, hbz, hm⟩ := h.fin (by kernel_rfl)
      subst eu
      obtain ⟨hca, hcc, hF⟩ := hm
      obtain ⟨P3, Q3, rfl, rfl, hO⟩ := hF.ost (by rw [ks3_len.1]; decide) (by rw [ks3_len.2]; decide) hbz
      have HC_ks3 := Lib.hid (⟨hca, hcc⟩ : 32 ≤ ca3 ∧ 16 ≤ cc3)
      clear h hca hcc hF HP
      have hlt := K.out.bx.lt
      have hl1 := hO.oP
      have hl2 := hO.oQ
      have f := Fnd.setCells j0 [.int .i64 2, .int .i64 32, .int .i64 16, .slice (some ⟨P3, 0, none⟩) 32 ca3, .slice (some ⟨Q3, 0, none⟩) 16 cc3] 0 w0
      have k7 := (K.out.on hbz).setCells (vs := [.int .i64 2, .int .i64 32, .int .i64 16, .slice (some ⟨P3, 0, none⟩) 32 ca3, .slice (some ⟨Q3, 0, none⟩) 16 cc3]) rfl
      have o6 := (hO.base K.out.bx.old).step f (by omega) (by omega) k7.bx.old
      clear f hO hlt hl1 hl2 hbz
      simp only [pmA, List.foldl_cons, List.foldl_nil, Act.put, List.setIfInBounds_toArray, List.set_cons_zero, List.set_cons_succ]
      generalize w0.setCells j0 0 _ = v6 at k7 o6  ⊢
      clear K
      have K := Lib.hid k7
      have O_ks3 := Lib.hid o6
      clear k7 o6
      refine wpAnyH_done (by kernel_rfl) ?_ _
      go_upto_region 6 with fail
      clear HS2 O_ks2 HC_ks2
      have HWK := Lib.hid (below_on HW.out K.out.bx.old)
      have K_s := Lib.hid (K.out.rebase HW.out)
      have O_s := Lib.hid (O_ks3.out.base HW.out)
      replace HW := HWK
      clear K HWK O_ks3
      have HP : Hid (∀ s', some kmx = some s' → 0 < s'.sl.length ∧ 0 < s'.th.length) := Lib.hid fun s' e => by
        injection e with e
        rw [← e, kmx_len.1, kmx_len.2]
        decide
      have HS1 := Lib.hid (⟨O_s.out.lies, km_ge.2.2.1, ks3_len.1.symm, ks3_len.2.symm, by decide, by decide, HC_ks3.out.1, HC_ks3.out.2⟩ : StH _ ks3 2 32 16 (some ⟨P3, 0, none⟩) 32 ca3 (some ⟨Q3, 0, none⟩) 16 cc3)
      refine wp_region_held_drew (S := fun w' => Below v6.heap.size v6 w') (by kernel_rfl) (below_self v6).drew (fun hH => ?_)
      refine wpAnyH_take (i := 0) (v := .agg #[.int .i64 2, .int .i64 32, .int .i64 16, .slice (some ⟨P3, 0, none⟩) 32 ca3, .slice (some ⟨Q3, 0, none⟩) 16 cc3]) rfl (by kernel_rfl) (by kernel_rfl) (by kernel_rfl) (fun _ _ _ h => h) (yieldsIf_load_mid (by rfl) 27 (.tmp 1) (by rfl) j0 0 (by rfl) [.int .i64 2, .int .i64 32, .int .i64 16, .slice (some ⟨P3, 0, none⟩) 32 ca3, .slice (some ⟨Q3, 0, none⟩) 16 cc3] _ (fun w hS => ((K_s.out.bx.on hS).range)) Tryz.underlying27 rfl info_state) (by assumption) ?_
      try simp only [Act.put, List.setIfInBounds_toArray, List.set_cons_zero, List.set_cons_succ, List.getElem_toArray, List.getElem_cons_zero, List.getElem_cons_succ]
      refine wpAnyH_inv (f0 := 1) [1, 2, 3, 4, 5, 6, 7, 8, 9, 10, 11, 12] [61, 62, 63, 64, 65, 66, 67, 68, 59, 4, 3] (fun l tm w => PHI v6 [2] [3] 2 32 16 (some ⟨P3, 0, none⟩) 32 ca3 (some ⟨Q3, 0, none⟩) 16 cc3 (some kmx) (.agg #[.int .i64 0, .int .u64 0, .int .i64 0]) [.int .i64 0, .int .u64 0, .int .i64 0] false false (fun p q => .agg #[.int .i64 7, flat1 p, flat1 q, .int .i64 0, .int .i64 0, .int .u64 7]) (l 1) (l 2) (l 3) (l 4) (l 5) (l 6) (l 7) (l 8) (l 9) (l 10) (l 11) (l 12) (tm 61) (tm 62) (tm 63) (tm 64) (tm 65) (tm 66) (tm 59) (tm 67) (tm 68) (tm 3) (tm 4) w) (by kernel_rfl) (by kernel_rfl) rfl (by decide) (fun l tm w h => h.bb) ?start (AllSteps.cons rfl ?o1 (AllSteps.cons rfl ?o2 (AllSteps.cons rfl ?o3 (AllSteps.cons rfl ?o4 (AllSteps.cons rfl ?o5 (AllSteps.cons rfl ?o6 (AllSteps.cons rfl ?o7 (AllSteps.cons rfl ?o8 (AllSteps.cons rfl ?o9 (AllSteps.cons rfl ?o10 (AllSteps.cons rfl ?o11 (AllSteps.cons rfl ?o12 AllSteps.nil)))))))))))) ?fin
      case o1 =>
        intro l tm w h hl hd K0 hK
        try dsimp only at h
        rw [hl] at h
        have hh := h.addB1 (below_alloc w (.cells #[.int .i64 2] 3)) (lis_one w 2)
        exact st_run (v := .slice (some ⟨w.heap.size, 0, none⟩) 1 1) (by rfl) (by kernel_rfl) (hK.out _ _ hh)
      case o2 =>
        intro l tm w h hl hd K0 hK
        try dsimp only at h
        rw [hl] at h
        have hs := h.early1.1
        have h0 := h
        rw [hs] at h0
        obtain ⟨⟨B, nB, cB, eB, -⟩, -⟩ := h0.way1 (hd 1 (by kernel_rfl))
        have hc := way18_is (A := B) (n := nB) (cap := cB) w
        rw [← eB] at hc
        refine st_call (f := 27) (args := #[(tm 61)]) (w' := w) (by rfl) (by kernel_rfl) (hc.mono ?_)
        rintro e w1 ⟨rfl, hb⟩
        exact ⟨_, rfl, hK.out _ _ (h.addW1 (hd 1 (by kernel_rfl)) hb rfl)⟩
      case o3 =>
        intro l tm w h hl hd K0 hK
        try dsimp only at h
        rw [hl] at h
        have hh := h.addB2 (below_alloc w (.cells #[.int .i64 3] 3)) (lis_one w 3)
        exact st_run (v := .slice (some ⟨w.heap.size, 0, none⟩) 1 1) (by rfl) (by kernel_rfl) (hK.out _ _ hh)
      case o4 =>
        intro l tm w h hl hd K0 hK
        try dsimp only at h
        rw [hl] at h
        have hs := h.early2.1
        have h0 := h
        rw [hs] at h0
        obtain ⟨⟨B, nB, cB, eB, -⟩, -⟩ := h0.way2 (hd 3 (by kernel_rfl))
        have hc := way18_is (A := B) (n := nB) (cap := cB) w
        rw [← eB] at hc
        refine st_call (f := 27) (args := #[(tm 63)]) (w' := w) (by rfl) (by kernel_rfl) (hc.mono ?_)
        rintro e w1 ⟨rfl, hb⟩
        exact ⟨_, rfl, hK.out _ _ (h.addW2 (hd 3 (by kernel_rfl)) hb rfl)⟩
      case o5 =>
        intro l tm w h hl hd K0 hK
        try dsimp only at h
        rw [hl] at h
        have d1 := hd 2 (by kernel_rfl)
        have d2 := hd 4 (by kernel_rfl)
        have hs : l 12 = false := by rw [Bool.eq_false_iff]; exact fun e => absurd ((h.o e).2.2.2.2.1 rfl) (by decide)
        have h0 := h
        rw [hs] at h0
        obtain ⟨⟨B1, n1, k1, eB1, eN1, eK1, eI1⟩, eW1⟩ := h0.way1 ((h0.rg rfl).w1 d1).1
        obtain ⟨⟨B2, n2, k2, eB2, eN2, eK2, eI2⟩, eW2⟩ := h0.way2 ((h0.rg rfl).w2 d2).1
        have hW1 := (eW1 d1).trans (by rw [eB1])
        have hW2 := (eW2 d2).trans (by rw [eB2])
        refine st_run (v := (fun p q => .agg #[.int .i64 7, flat1 p, flat1 q, .int .i64 0, .int .i64 0, .int .u64 7]) (tm 62) (tm 64)) (w' := w) (by rfl) ?_ (hK.out _ _ (h.addBd d1 d2 rfl))
        simp only [List.getElem_toArray, List.getElem_cons_zero, List.getElem_cons_succ, pmA, List.foldl_cons, List.foldl_nil, Act.put, List.setIfInBounds_toArray, List.set_cons_zero, List.set_cons_succ]
        rw [hW1, hW2]
        kernel_rfl
      case o6 =>
        intro l tm w h hl hd K0 hK
        try dsimp only at h
        rw [hl] at h
        have d0 := hd 5 (by kernel_rfl)
        obtain ⟨d1, d2, eBD⟩ := h.e6 d0
        have hs : l 12 = false := h.notS.1
        have h0 := h
        rw [hs] at h0
        obtain ⟨⟨B1, n1, k1, eB1, eN1, eK1, eI1⟩, eW1⟩ := h0.way1 ((h0.rg rfl).w1 d1).1
        obtain ⟨⟨B2, n2, k2, eB2, eN2, eK2, eI2⟩, eW2⟩ := h0.way2 ((h0.rg rfl).w2 d2).1
        have hW1 := (eW1 d1).trans (by rw [eB1])
        have hW2 := (eW2 d2).trans (by rw [eB2])
        rw [hW1, hW2] at eBD
        have hA : #[.agg #[.int .i64 2, .int .i64 32, .int .i64 16, .slice (some ⟨P3, 0, none⟩) 32 ca3, .slice (some ⟨Q3, 0, none⟩) 16 cc3], .int .i64 0, (tm 65)] = #[.agg #[.int .i64 2, .int .i64 32, .int .i64 16, .slice (some ⟨P3, 0, none⟩) 32 ca3, .slice (some ⟨Q3, 0, none⟩) 16 cc3], .int .i64 0, .agg #[.int .i64 7, .slice B1 n1 k1, .slice B2 n2 k2, .int .i64 0, .int .i64 0, .int .u64 7]] := by rw [eBD]; rfl
        refine st_call (f := 28) (args := #[.agg #[.int .i64 2, .int .i64 32, .int .i64 16, .slice (some ⟨P3, 0, none⟩) 32 ca3, .slice (some ⟨Q3, 0, none⟩) 16 cc3], .int .i64 0, (tm 65)]) (w' := w) (by rfl) (by kernel_rfl) ?_
        rw [hA]
        refine (mdo_is (z := 7) (HS1.out.on h.bb) eN1 eK1 eI1 eN2 eK2 eI2 km_a).mono ?_
        rintro e w1 ⟨A', ca', C', cc', rfl, hb, hm⟩
        obtain ⟨q1, q2⟩ := resD_of (a := 2) (b := 32) (c := 16) (R := (.agg #[.int .i64 0, .int .u64 0, .int .i64 0])) h.bb.size hm HP.out
        exact ⟨_, rfl, hK.out _ _ (h.addD hb q1 q2)⟩
      case o7 =>
        intro l tm w h hl hd K0 hK
        try dsimp only at h
        rw [hl] at h
        exact st_run (v := tm 66) (w' := w) (by rfl) (by kernel_rfl) (hK.out _ _ (h.addMv (hd 6 (by kernel_rfl)) rfl))
      case o8 =>
        intro l tm w h hl hd K0 hK
        try dsimp only at h
        rw [hl] at h
        obtain ⟨A', ca', C', cc', eT, -⟩ := h.tup (hd 7 (by kernel_rfl))
        refine st_run (v := .agg #[.int .i64 2, .int .i64 32, .int .i64 16, .slice A' 32 ca', .slice C' 16 cc']) (w' := w) (by rfl) ?_ (hK.out _ _ (h.addE1 (hd 7 (by kernel_rfl)) eT))
        simp only [List.getElem_toArray, List.getElem_cons_zero, List.getElem_cons_succ, pmA, List.foldl_cons, List.foldl_nil, Act.put, List.setIfInBounds_toArray, List.set_cons_zero, List.set_cons_succ]
        rw [eT]
        kernel_rfl
      case o9 =>
        intro l tm w h hl hd K0 hK
        try dsimp only at h
        rw [hl] at h
        obtain ⟨A', ca', C', cc', eT, -⟩ := h.tup (hd 7 (by kernel_rfl))
        refine st_run (v := (.agg #[.int .i64 0, .int .u64 0, .int .i64 0])) (w' := w) (by rfl) ?_ (hK.out _ _ (h.addE2 (hd 7 (by kernel_rfl)) eT))
        simp only [List.getElem_toArray, List.getElem_cons_zero, List.getElem_cons_succ, pmA, List.foldl_cons, List.foldl_nil, Act.put, List.setIfInBounds_toArray, List.set_cons_zero, List.set_cons_succ]
        rw [eT]
        kernel_rfl
      case o10 =>
        intro l tm w h hl hd K0 hK
        try dsimp only at h
        rw [hl] at h
        have hh := h.addQ HP.out 27
        exact st_run (v := ptr w.heap.size) (by rfl) (by kernel_rfl) (hK.out _ _ hh)
      case o11 =>
        intro l tm w h hl hd K0 hK
        try dsimp only at h
        rw [hl] at h
        have hh := h.addY HP.out 40
        exact st_run (v := ptr w.heap.size) (by rfl) (by kernel_rfl) (hK.out _ _ hh)
      case o12 =>
        intro l tm w h hl hd K0 hK
        try dsimp only at h
        rw [hl] at h
        obtain ⟨x, A', ca', C', cc', ex, e1, ed, hw⟩ := h.atS' (hd 6 (by kernel_rfl)) (hd 7 (by kernel_rfl)) (hd 8 (by kernel_rfl)) (hd 10 (by kernel_rfl))
        have HT : Hid (w.there x 0 (#[.int .i64 2, .int .i64 32, .int .i64 16, .slice A' 32 ca', .slice C' 16 cc'] : Array Value).size) := Lib.hid (hw.there (n := 5) rfl)
        have HO := Lib.hid (state_one 2 32 16 A' 32 ca' C' 16 cc')
        refine st_store (by rfl) 27 (.tmp 3) (.tmp 67) (by rfl) x 0 #[.int .i64 2, .int .i64 32, .int .i64 16, .slice A' 32 ca', .slice C' 16 cc'] ((by kernel_rfl : _ = tm 3).trans ex) ((by kernel_rfl : _ = tm 67).trans e1) HT.out info_state HO.out ?_
        refine hK.out undef (w.setCells x 0 [.int .i64 2, .int .i64 32, .int .i64 16, .slice A' 32 ca', .slice C' 16 cc']) ?_
        exact h.addS' (hd 1 (by kernel_rfl)) (hd 2 (by kernel_rfl)) (hd 3 (by kernel_rfl)) (hd 4 (by kernel_rfl)) (fun _ => (hd 5 (by kernel_rfl))) (hd 6 (by kernel_rfl)) (hd 7 (by kernel_rfl)) (hd 8 (by kernel_rfl)) (hd 10 (by kernel_rfl)) (fun _ => (hd 11 (by kernel_rfl))) ex ed
      case start => exact ⟨hH, fun _ => ⟨hH, fun e => ff rfl e, fun e => ff rfl e, fun e => ff rfl e, fun e => ff rfl e, fun e => ff rfl e, fun e => ff rfl e, fun e => ff rfl e, fun e => ff rfl e, fun e => ff rfl e, fun e => ff rfl e⟩, fun e => ff rfl e, fun e => ff rfl e, fun e => ff rfl e, fun e => ff rfl e, fun e => ff rfl e, fun e => ff rfl e⟩
      case fin =>
        intro tm u6 h
        try dsimp only at h
        obtain ⟨hbb, hR, hP⟩ := h.fin (by kernel_rfl) (by kernel_rfl)
        obtain ⟨g6, Az, ca6, Cz, cc6, ed, ex, hx, hm, hy⟩ := hP
        obtain ⟨y6, ey, hne, hY, haw⟩ := hy rfl
        simp only [ptr] at ex ey
        obtain ⟨hca, hcc, hF⟩ := hm
        obtain ⟨P6, Q6, rfl, rfl, hO⟩ := hF.ost (by rw [kmx_len.1]; decide) (by rw [kmx_len.2]; decide) hbb
        have hfar := haw _ rfl
        have f1 : P6 ≠ y6 := hfar.1 P6 rfl
        have f2 : Q6 ≠ y6 := hfar.2 Q6 rfl
        have HC_x := Lib.hid (⟨hca, hcc⟩ : 32 ≤ ca6 ∧ 16 ≤ cc6)
        clear h ed hy hF haw hfar hca hcc HP HS1
        simp only [pmA, List.foldl_cons, List.foldl_nil, Act.put, List.setIfInBounds_toArray, List.set_cons_zero, List.set_cons_succ]
        rw [ex, ey, hR]
        clear ex ey hR
        refine wpAnyH_ready (rs := [13]) (by kernel_rfl) (by simp) ?_
        refine AllReadyH.cons rfl (fun K0 hK => ?_) AllReadyH.nil
        have HT : Hid (u6.there y6 0 (#[.int .i64 0, .int .u64 0, .int .i64 0] : Array Value).size) := Lib.hid (hY.there (n := 3) rfl)
        have HO := Lib.hid (reply_one 0 0 0)
        have kY := hY.setCells (vs := [.int .i64 0, .int .u64 0, .int .i64 0]) rfl
        have fY := Fnd.setCells y6 [.int .i64 0, .int .u64 0, .int .i64 0] 0 u6
        have kX := hx.fnd fY hne.symm kY.bx.old
        have oX := hO.step fY f1 f2 kY.bx.old
        refine step_store_mid (by rfl) 40 (.tmp 4) (.tmp 68) (by rfl) y6 0 #[.int .i64 0, .int .u64 0, .int .i64 0] (by rfl) (by rfl) HT.out info_reply HO.out ?_
        change K0 _ (u6.setCells y6 0 [.int .i64 0, .int .u64 0, .int .i64 0])
        clear fY HT hY HO f1 f2 hne hx hO
        generalize u6.setCells y6 0 [.int .i64 0, .int .u64 0, .int .i64 0] = v7 at kY kX oX ⊢
        have hb := kY.bx.old
        refine hK.out _ _ hb (fun hH => ?_)
        clear hK K0
        try simp only [Act.put, List.setIfInBounds_toArray, List.set_cons_zero, List.set_cons_succ, List.getElem_toArray, List.getElem_cons_zero, List.getElem_cons_succ]
        refine wpAnyH_done (by kernel_rfl) ?_ _
        have Y_6 := Lib.hid (kY.rebase HW.out)
        have K_x := Lib.hid (kX.rebase HW.out)
        have O_x := Lib.hid (oX.base HW.out)
        clear kX oX
        clear kY
        replace K_s := Lib.hid (K_s.out.on hb)
        replace O_s := Lib.hid (O_s.out.on hb)
        replace HW := Lib.hid (below_on HW.out hb)
        clear hb hH hbb
        go_upto_region 7 with fail
        have HP : Hid (∀ s', (none : Option St) = some s' → 0 < s'.sl.length ∧ 0 < s'.th.length) := Lib.hid fun s' e => by cases e
        have HS1 := Lib.hid (⟨O_x.out.lies, km_ge.2.2.2.1, kmx_len.1.symm, kmx_len.2.symm, by decide, by decide, HC_x.out.1, HC_x.out.2⟩ : StH _ kmx 2 32 16 (some ⟨P6, 0, none⟩) 32 ca6 (some ⟨Q6, 0, none⟩) 16 cc6)
        refine wp_region_held_drew (S := fun w' => Below v7.heap.size v7 w') (by kernel_rfl) (below_self v7).drew (fun hH => ?_)
        refine wpAnyH_take (i := 0) (v := .agg #[.int .i64 2, .int .i64 32, .int .i64 16, .slice (some ⟨P6, 0, none⟩) 32 ca6, .slice (some ⟨Q6, 0, none⟩) 16 cc6]) rfl (by kernel_rfl) (by kernel_rfl) (by kernel_rfl) (fun _ _ _ h => h) (yieldsIf_load_mid (by rfl) 27 (.tmp 3) (by rfl) g6 0 (by rfl) [.int .i64 2, .int .i64 32, .int .i64 16, .slice (some ⟨P6, 0, none⟩) 32 ca6, .slice (some ⟨Q6, 0, none⟩) 16 cc6] _ (fun w hS => ((K_x.out.bx.on hS).range)) Tryz.underlying27 rfl info_state) (by assumption) ?_
        try simp only [Act.put, List.setIfInBounds_toArray, List.set_cons_zero, List.set_cons_succ, List.getElem_toArray, List.getElem_cons_zero, List.getElem_cons_succ]
        refine wpAnyH_inv (f0 := 1) [1, 2, 3, 4, 5, 6, 7, 8, 9, 10] [71, 72, 73, 74, 75, 76, 69, 6, 5] (fun l tm w => PHI v7 [1] [] 2 32 16 (some ⟨P6, 0, none⟩) 32 ca6 (some ⟨Q6, 0, none⟩) 16 cc6 none (.agg #[.int .i64 13, .int .u64 0, .int .i64 0]) [.int .i64 0, .int .u64 0, .int .i64 0] false false (fun p q => .agg #[.int .i64 7, flat1 p, flat1 q, .int .i64 0, .int .i64 0, .int .u64 0]) (l 1) (l 2) true true (l 3) (l 4) (l 5) (l 6) (l 7) (l 8) (l 9) (l 10) (tm 71) (tm 72) (.slice none 0 0) (.agg #[(.slice none 0 0)]) (tm 73) (tm 74) (tm 69) (tm 75) (tm 76) (tm 5) (tm 6) w) (by kernel_rfl) (by kernel_rfl) rfl (by decide) (fun l tm w h => h.bb) ?start (AllSteps.cons rfl ?o1 (AllSteps.cons rfl ?o2 (AllSteps.cons rfl ?o3 (AllSteps.cons rfl ?o4 (AllSteps.cons rfl ?o5 (AllSteps.cons rfl ?o6 (AllSteps.cons rfl ?o7 (AllSteps.cons rfl ?o8 (AllSteps.cons rfl ?o9 (AllSteps.cons rfl ?o10 AllSteps.nil)))))))))) ?fin
        case o1 =>
          intro l tm w h hl hd K0 hK
          try dsimp only at h
          rw [hl] at h
          have hh := h.addB1 (below_alloc w (.cells #[.int .i64 1] 3)) (lis_one w 1)
          exact st_run (v := .slice (some ⟨w.heap.size, 0, none⟩) 1 1) (by rfl) (by kernel_rfl) (hK.out _ _ hh)
        case o2 =>
          intro l tm w h hl hd K0 hK
          try dsimp only at h
          rw [hl] at h
          have hs := h.early1.1
          have h0 := h
          rw [hs] at h0
          obtain ⟨⟨B, nB, cB, eB, -⟩, -⟩ := h0.way1 (hd 1 (by kernel_rfl))
          have hc := way18_is (A := B) (n := nB) (cap := cB) w
          rw [← eB] at hc
          refine st_call (f := 27) (args := #[(tm 71)]) (w' := w) (by rfl) (by kernel_rfl) (hc.mono ?_)
          rintro e w1 ⟨rfl, hb⟩
          exact ⟨_, rfl, hK.out _ _ (h.addW1 (hd 1 (by kernel_rfl)) hb rfl)⟩
        case o3 =>
          intro l tm w h hl hd K0 hK
          try dsimp only at h
          rw [hl] at h
          have d1 := hd 2 (by kernel_rfl)
          have d2 : true = true := rfl
          have hs : l 10 = false := by rw [Bool.eq_false_iff]; exact fun e => absurd ((h.o e).2.2.2.2.1 rfl) (by decide)
          have h0 := h
          rw [hs] at h0
          obtain ⟨⟨B1, n1, k1, eB1, eN1, eK1, eI1⟩, eW1⟩ := h0.way1 ((h0.rg rfl).w1 d1).1
          obtain ⟨⟨B2, n2, k2, eB2, eN2, eK2, eI2⟩, eW2⟩ := h0.way2 rfl
          have hW1 := (eW1 d1).trans (by rw [eB1])
          have hW2 := (eW2 d2).trans (by rw [eB2])
          refine st_run (v := (fun p q => .agg #[.int .i64 7, flat1 p, flat1 q, .int .i64 0, .int .i64 0, .int .u64 0]) (tm 72) (.agg #[(.slice none 0 0)])) (w' := w) (by rfl) ?_ (hK.out _ _ (h.addBd d1 d2 rfl))
          simp only [List.getElem_toArray, List.getElem_cons_zero, List.getElem_cons_succ, pmA, List.foldl_cons, List.foldl_nil, Act.put, List.setIfInBounds_toArray, List.set_cons_zero, List.set_cons_succ]
          rw [hW1]
          kernel_rfl
        case o4 =>
          intro l tm w h hl hd K0 hK
          try dsimp only at h
          rw [hl] at h
          have d0 := hd 3 (by kernel_rfl)
          obtain ⟨d1, d2, eBD⟩ := h.e6 d0
          have hs : l 10 = false := h.notS.1
          have h0 := h
          rw [hs] at h0
          obtain ⟨⟨B1, n1, k1, eB1, eN1, eK1, eI1⟩, eW1⟩ := h0.way1 ((h0.rg rfl).w1 d1).1
          obtain ⟨⟨B2, n2, k2, eB2, eN2, eK2, eI2⟩, eW2⟩ := h0.way2 rfl
          have hW1 := (eW1 d1).trans (by rw [eB1])
          have hW2 := (eW2 d2).trans (by rw [eB2])
          rw [hW1, hW2] at eBD
          have hA : #[.agg #[.int .i64 2, .int .i64 32, .int .i64 16, .slice (some ⟨P6, 0, none⟩) 32 ca6, .slice (some ⟨Q6, 0, none⟩) 16 cc6], .int .i64 0, (tm 73)] = #[.agg #[.int .i64 2, .int .i64 32, .int .i64 16, .slice (some ⟨P6, 0, none⟩) 32 ca6, .slice (some ⟨Q6, 0, none⟩) 16 cc6], .int .i64 0, .agg #[.int .i64 7, .slice B1 n1 k1, .slice B2 n2 k2, .int .i64 0, .int .i64 0, .int .u64 0]] := by rw [eBD]; rfl
          refine st_call (f := 28) (args := #[.agg #[.int .i64 2, .int .i64 32, .int .i64 16, .slice (some ⟨P6, 0, none⟩) 32 ca6, .slice (some ⟨Q6, 0, none⟩) 16 cc6], .int .i64 0, (tm 73)]) (w' := w) (by rfl) (by kernel_rfl) ?_
          rw [hA]
          refine (mdo_is (z := 0) (HS1.out.on h.bb) eN1 eK1 eI1 eN2 eK2 eI2 km_b).mono ?_
          rintro e w1 ⟨A', ca', C', cc', rfl, hb, hm⟩
          obtain ⟨q1, q2⟩ := resD_of (a := 2) (b := 32) (c := 16) (R := (.agg #[.int .i64 13, .int .u64 0, .int .i64 0])) h.bb.size hm HP.out
          exact ⟨_, rfl, hK.out _ _ (h.addD hb q1 q2)⟩
        case o5 =>
          intro l tm w h hl hd K0 hK
          try dsimp only at h
          rw [hl] at h
          exact st_run (v := tm 74) (w' := w) (by rfl) (by kernel_rfl) (hK.out _ _ (h.addMv (hd 4 (by kernel_rfl)) rfl))
        case o6 =>
          intro l tm w h hl hd K0 hK
          try dsimp only at h
          rw [hl] at h
          obtain ⟨A', ca', C', cc', eT, -⟩ := h.tup (hd 5 (by kernel_rfl))
          refine st_run (v := .agg #[.int .i64 2, .int .i64 32, .int .i64 16, .slice A' 32 ca', .slice C' 16 cc']) (w' := w) (by rfl) ?_ (hK.out _ _ (h.addE1 (hd 5 (by kernel_rfl)) eT))
          simp only [List.getElem_toArray, List.getElem_cons_zero, List.getElem_cons_succ, pmA, List.foldl_cons, List.foldl_nil, Act.put, List.setIfInBounds_toArray, List.set_cons_zero, List.set_cons_succ]
          rw [eT]
          kernel_rfl
        case o7 =>
          intro l tm w h hl hd K0 hK
          try dsimp only at h
          rw [hl] at h
          obtain ⟨A', ca', C', cc', eT, -⟩ := h.tup (hd 5 (by kernel_rfl))
          refine st_run (v := (.agg #[.int .i64 13, .int .u64 0, .int .i64 0])) (w' := w) (by rfl) ?_ (hK.out _ _ (h.addE2 (hd 5 (by kernel_rfl)) eT))
          simp only [List.getElem_toArray, List.getElem_cons_zero, List.getElem_cons_succ, pmA, List.foldl_cons, List.foldl_nil, Act.put, List.setIfInBounds_toArray, List.set_cons_zero, List.set_cons_succ]
          rw [eT]
          kernel_rfl
        case o8 =>
          intro l tm w h hl hd K0 hK
          try dsimp only at h
          rw [hl] at h
          have hh := h.addQ HP.out 27
          exact st_run (v := ptr w.heap.size) (by rfl) (by kernel_rfl) (hK.out _ _ hh)
        case o9 =>
          intro l tm w h hl hd K0 hK
          try dsimp only at h
          rw [hl] at h
          have hh := h.addY HP.out 40
          exact st_run (v := ptr w.heap.size) (by rfl) (by kernel_rfl) (hK.out _ _ hh)
        case o10 =>
          intro l tm w h hl hd K0 hK
          try dsimp only at h
          rw [hl] at h
          obtain ⟨x, A', ca', C', cc', ex, e1, ed, hw⟩ := h.atS' (hd 4 (by kernel_rfl)) (hd 5 (by kernel_rfl)) (hd 6 (by kernel_rfl)) (hd 8 (by kernel_rfl))
          have HT : Hid (w.there x 0 (#[.int .i64 2, .int .i64 32, .int .i64 16, .slice A' 32 ca', .slice C' 16 cc'] : Array Value).size) := Lib.hid (hw.there (n := 5) rfl)
          have HO := Lib.hid (state_one 2 32 16 A' 32 ca' C' 16 cc')
          refine st_store (by rfl) 27 (.tmp 5) (.tmp 75) (by rfl) x 0 #[.int .i64 2, .int .i64 32, .int .i64 16, .slice A' 32 ca', .slice C' 16 cc'] ((by kernel_rfl : _ = tm 5).trans ex) ((by kernel_rfl : _ = tm 75).trans e1) HT.out info_state HO.out ?_
          refine hK.out undef (w.setCells x 0 [.int .i64 2, .int .i64 32, .int .i64 16, .slice A' 32 ca', .slice C' 16 cc']) ?_
          exact h.addS' (hd 1 (by kernel_rfl)) (hd 2 (by kernel_rfl)) rfl rfl (fun _ => (hd 3 (by kernel_rfl))) (hd 4 (by kernel_rfl)) (hd 5 (by kernel_rfl)) (hd 6 (by kernel_rfl)) (hd 8 (by kernel_rfl)) (fun _ => (hd 9 (by kernel_rfl))) ex ed
        case start => exact ⟨hH, fun _ => ⟨hH, fun e => ff rfl e, fun e => ff rfl e, fun _ => ⟨none, 0, 0, rfl, rfl, Nat.le_refl _, none_at _⟩, fun _ => ⟨rfl, rfl⟩, fun e => ff rfl e, fun e => ff rfl e, fun e => ff rfl e, fun e => ff rfl e, fun e => ff rfl e, fun e => ff rfl e⟩, fun e => ff rfl e, fun e => ff rfl e, fun e => ff rfl e, fun e => ff rfl e, fun e => ff rfl e, fun e => ff rfl e⟩
        case fin =>
          intro tm u7 h
          try dsimp only at h
          obtain ⟨hbb, hR, hP⟩ := h.fin (by kernel_rfl) (by kernel_rfl)
          obtain ⟨g7, Az, ca7, Cz, cc7, ed, ex, hx, hm, hy⟩ := hP
          obtain ⟨y7, ey, hne, hY, haw⟩ := hy rfl
          simp only [ptr] at ex ey
          clear h ed hy hm haw hx hne HP HS1
          simp only [pmA, List.foldl_cons, List.foldl_nil, Act.put, List.setIfInBounds_toArray, List.set_cons_zero, List.set_cons_succ]
          rw [ex, ey, hR]
          clear ex ey hR
          refine wpAnyH_ready (rs := [11]) (by kernel_rfl) (by simp) ?_
          refine AllReadyH.cons rfl (fun K0 hK => ?_) AllReadyH.nil
          have HT : Hid (u7.there y7 0 (#[.int .i64 13, .int .u64 0, .int .i64 0] : Array Value).size) := Lib.hid (hY.there (n := 3) rfl)
          have HO := Lib.hid (reply_one 13 0 0)
          have kY := hY.setCells (vs := [.int .i64 13, .int .u64 0, .int .i64 0]) rfl
          have fY := Fnd.setCells y7 [.int .i64 13, .int .u64 0, .int .i64 0] 0 u7
          refine step_store_mid (by rfl) 40 (.tmp 6) (.tmp 76) (by rfl) y7 0 #[.int .i64 13, .int .u64 0, .int .i64 0] (by rfl) (by rfl) HT.out info_reply HO.out ?_
          change K0 _ (u7.setCells y7 0 [.int .i64 13, .int .u64 0, .int .i64 0])
          clear fY HT hY HO
          generalize u7.setCells y7 0 [.int .i64 13, .int .u64 0, .int .i64 0] = v8 at kY ⊢
          have hb := kY.bx.old
          refine hK.out _ _ hb (fun hH => ?_)
          clear hK K0
          try simp only [Act.put, List.setIfInBounds_toArray, List.set_cons_zero, List.set_cons_succ, List.getElem_toArray, List.getElem_cons_zero, List.getElem_cons_succ]
          refine wpAnyH_done (by kernel_rfl) ?_ _
          have Y_7 := Lib.hid (kY.rebase HW.out)
          clear kY
          replace K_s := Lib.hid (K_s.out.on hb)
          replace Y_6 := Lib.hid (Y_6.out.on hb)
          replace K_x := Lib.hid (K_x.out.on hb)
          replace O_s := Lib.hid (O_s.out.on hb)
          replace O_x := Lib.hid (O_x.out.on hb)
          replace HW := Lib.hid (below_on HW.out hb)
          clear hb hH hbb
          go_upto_region 8 with fail
          have HP : Hid (∀ s', (none : Option St) = some s' → 0 < s'.sl.length ∧ 0 < s'.th.length) := Lib.hid fun s' e => by cases e
          have HS1 := Lib.hid (⟨O_s.out.lies, km_ge.2.2.1, ks3_len.1.symm, ks3_len.2.symm, by decide, by decide, HC_ks3.out.1, HC_ks3.out.2⟩ : StH _ ks3 2 32 16 (some ⟨P3, 0, none⟩) 32 ca3 (some ⟨Q3, 0, none⟩) 16 cc3)
          refine wp_region_held_drew (S := fun w' => Below v8.heap.size v8 w') (by kernel_rfl) (below_self v8).drew (fun hH => ?_)
          refine wpAnyH_take (i := 0) (v := .agg #[.int .i64 2, .int .i64 32, .int .i64 16, .slice (some ⟨P3, 0, none⟩) 32 ca3, .slice (some ⟨Q3, 0, none⟩) 16 cc3]) rfl (by kernel_rfl) (by kernel_rfl) (by kernel_rfl) (fun _ _ _ h => h) (yieldsIf_load_mid (by rfl) 27 (.tmp 1) (by rfl) j0 0 (by rfl) [.int .i64 2, .int .i64 32, .int .i64 16, .slice (some ⟨P3, 0, none⟩) 32 ca3, .slice (some ⟨Q3, 0, none⟩) 16 cc3] _ (fun w hS => ((K_s.out.bx.on hS).range)) Tryz.underlying27 rfl info_state) (by assumption) ?_
          try simp only [Act.put, List.setIfInBounds_toArray, List.set_cons_zero, List.set_cons_succ, List.getElem_toArray, List.getElem_cons_zero, List.getElem_cons_succ]
          refine wpAnyH_inv (f0 := 1) [1, 2, 3, 4, 5, 6, 7, 8, 9, 10] [79, 80, 81, 82, 83, 84, 77, 8, 7] (fun l tm w => PHI v8 [3] [] 2 32 16 (some ⟨P3, 0, none⟩) 32 ca3 (some ⟨Q3, 0, none⟩) 16 cc3 none (.agg #[.int .i64 6, .int .u64 0, .int .i64 0]) [.int .i64 0, .int .u64 0, .int .i64 0] false false (fun p q => .agg #[.int .i64 7, flat1 p, flat1 q, .int .i64 0, .int .i64 0, .int .u64 0]) (l 1) (l 2) true true (l 3) (l 4) (l 5) (l 6) (l 7) (l 8) (l 9) (l 10) (tm 79) (tm 80) (.slice none 0 0) (.agg #[(.slice none 0 0)]) (tm 81) (tm 82) (tm 77) (tm 83) (tm 84) (tm 7) (tm 8) w) (by kernel_rfl) (by kernel_rfl) rfl (by decide) (fun l tm w h => h.bb) ?start (AllSteps.cons rfl ?o1 (AllSteps.cons rfl ?o2 (AllSteps.cons rfl ?o3 (AllSteps.cons rfl ?o4 (AllSteps.cons rfl ?o5 (AllSteps.cons rfl ?o6 (AllSteps.cons rfl ?o7 (AllSteps.cons rfl ?o8 (AllSteps.cons rfl ?o9 (AllSteps.cons rfl ?o10 AllSteps.nil)))))))))) ?fin
          case o1 =>
            intro l tm w h hl hd K0 hK
            try dsimp only at h
            rw [hl] at h
            have hh := h.addB1 (below_alloc w (.cells #[.int .i64 3] 3)) (lis_one w 3)
            exact st_run (v := .slice (some ⟨w.heap.size, 0, none⟩) 1 1) (by rfl) (by kernel_rfl) (hK.out _ _ hh)
          case o2 =>
            intro l tm w h hl hd K0 hK
            try dsimp only at h
            rw [hl] at h
            have hs := h.early1.1
            have h0 := h
            rw [hs] at h0
            obtain ⟨⟨B, nB, cB, eB, -⟩, -⟩ := h0.way1 (hd 1 (by kernel_rfl))
            have hc := way18_is (A := B) (n := nB) (cap := cB) w
            rw [← eB] at hc
            refine st_call (f := 27) (args := #[(tm 79)]) (w' := w) (by rfl) (by kernel_rfl) (hc.mono ?_)
            rintro e w1 ⟨rfl, hb⟩
            exact ⟨_, rfl, hK.out _ _ (h.addW1 (hd 1 (by kernel_rfl)) hb rfl)⟩
          case o3 =>
            intro l tm w h hl hd K0 hK
            try dsimp only at h
            rw [hl] at h
            have d1 := hd 2 (by kernel_rfl)
            have d2 : true = true := rfl
            have hs : l 10 = false := by rw [Bool.eq_false_iff]; exact fun e => absurd ((h.o e).2.2.2.2.1 rfl) (by decide)
            have h0 := h
            rw [hs] at h0
            obtain ⟨⟨B1, n1, k1, eB1, eN1, eK1, eI1⟩, eW1⟩ := h0.way1 ((h0.rg rfl).w1 d1).1
            obtain ⟨⟨B2, n2, k2, eB2, eN2, eK2, eI2⟩, eW2⟩ := h0.way2 rfl
            have hW1 := (eW1 d1).trans (by rw [eB1])
            have hW2 := (eW2 d2).trans (by rw [eB2])
            refine st_run (v := (fun p q => .agg #[.int .i64 7, flat1 p, flat1 q, .int .i64 0, .int .i64 0, .int .u64 0]) (tm 80) (.agg #[(.slice none 0 0)])) (w' := w) (by rfl) ?_ (hK.out _ _ (h.addBd d1 d2 rfl))
            simp only [List.getElem_toArray, List.getElem_cons_zero, List.getElem_cons_succ, pmA, List.foldl_cons, List.foldl_nil, Act.put, List.setIfInBounds_toArray, List.set_cons_zero, List.set_cons_succ]
            rw [hW1]
            kernel_rfl
          case o4 =>
            intro l tm w h hl hd K0 hK
            try dsimp only at h
            rw [hl] at h
            have d0 := hd 3 (by kernel_rfl)
            obtain ⟨d1, d2, eBD⟩ := h.e6 d0
            have hs : l 10 = false := h.notS.1
            have h0 := h
            rw [hs] at h0
            obtain ⟨⟨B1, n1, k1, eB1, eN1, eK1, eI1⟩, eW1⟩ := h0.way1 ((h0.rg rfl).w1 d1).1
            obtain ⟨⟨B2, n2, k2, eB2, eN2, eK2, eI2⟩, eW2⟩ := h0.way2 rfl
            have hW1 := (eW1 d1).trans (by rw [eB1])
            have hW2 := (eW2 d2).trans (by rw [eB2])
            rw [hW1, hW2] at eBD
            have hA : #[.agg #[.int .i64 2, .int .i64 32, .int .i64 16, .slice (some ⟨P3, 0, none⟩) 32 ca3, .slice (some ⟨Q3, 0, none⟩) 16 cc3], .int .i64 0, (tm 81)] = #[.agg #[.int .i64 2, .int .i64 32, .int .i64 16, .slice (some ⟨P3, 0, none⟩) 32 ca3, .slice (some ⟨Q3, 0, none⟩) 16 cc3], .int .i64 0, .agg #[.int .i64 7, .slice B1 n1 k1, .slice B2 n2 k2, .int .i64 0, .int .i64 0, .int .u64 0]] := by rw [eBD]; rfl
            refine st_call (f := 28) (args := #[.agg #[.int .i64 2, .int .i64 32, .int .i64 16, .slice (some ⟨P3, 0, none⟩) 32 ca3, .slice (some ⟨Q3, 0, none⟩) 16 cc3], .int .i64 0, (tm 81)]) (w' := w) (by rfl) (by kernel_rfl) ?_
            rw [hA]
            refine (mdo_is (z := 0) (HS1.out.on h.bb) eN1 eK1 eI1 eN2 eK2 eI2 km_c).mono ?_
            rintro e w1 ⟨A', ca', C', cc', rfl, hb, hm⟩
            obtain ⟨q1, q2⟩ := resD_of (a := 2) (b := 32) (c := 16) (R := (.agg #[.int .i64 6, .int .u64 0, .int .i64 0])) h.bb.size hm HP.out
            exact ⟨_, rfl, hK.out _ _ (h.addD hb q1 q2)⟩
          case o5 =>
            intro l tm w h hl hd K0 hK
            try dsimp only at h
            rw [hl] at h
            exact st_run (v := tm 82) (w' := w) (by rfl) (by kernel_rfl) (hK.out _ _ (h.addMv (hd 4 (by kernel_rfl)) rfl))
          case o6 =>
            intro l tm w h hl hd K0 hK
            try dsimp only at h
            rw [hl] at h
            obtain ⟨A', ca', C', cc', eT, -⟩ := h.tup (hd 5 (by kernel_rfl))
            refine st_run (v := .agg #[.int .i64 2, .int .i64 32, .int .i64 16, .slice A' 32 ca', .slice C' 16 cc']) (w' := w) (by rfl) ?_ (hK.out _ _ (h.addE1 (hd 5 (by kernel_rfl)) eT))
            simp only [List.getElem_toArray, List.getElem_cons_zero, List.getElem_cons_succ, pmA, List.foldl_cons, List.foldl_nil, Act.put, List.setIfInBounds_toArray, List.set_cons_zero, List.set_cons_succ]
            rw [eT]
            kernel_rfl
          case o7 =>
            intro l tm w h hl hd K0 hK
            try dsimp only at h
            rw [hl] at h
            obtain ⟨A', ca', C', cc', eT, -⟩ := h.tup (hd 5 (by kernel_rfl))
            refine st_run (v := (.agg #[.int .i64 6, .int .u64 0, .int .i64 0])) (w' := w) (by rfl) ?_ (hK.out _ _ (h.addE2 (hd 5 (by kernel_rfl)) eT))
            simp only [List.getElem_toArray, List.getElem_cons_zero, List.getElem_cons_succ, pmA, List.foldl_cons, List.foldl_nil, Act.put, List.setIfInBounds_toArray, List.set_cons_zero, List.set_cons_succ]
            rw [eT]
            kernel_rfl
          case o8 =>
            intro l tm w h hl hd K0 hK
            try dsimp only at h
            rw [hl] at h
            have hh := h.addQ HP.out 27
            exact st_run (v := ptr w.heap.size) (by rfl) (by kernel_rfl) (hK.out _ _ hh)
          case o9 =>
            intro l tm w h hl hd K0 hK
            try dsimp only at h
            rw [hl] at h
            have hh := h.addY HP.out 40
            exact st_run (v := ptr w.heap.size) (by rfl) (by kernel_rfl) (hK.out _ _ hh)
          case o10 =>
            intro l tm w h hl hd K0 hK
            try dsimp only at h
            rw [hl] at h
            obtain ⟨x, A', ca', C', cc', ex, e1, ed, hw⟩ := h.atS' (hd 4 (by kernel_rfl)) (hd 5 (by kernel_rfl)) (hd 6 (by kernel_rfl)) (hd 8 (by kernel_rfl))
            have HT : Hid (w.there x 0 (#[.int .i64 2, .int .i64 32, .int .i64 16, .slice A' 32 ca', .slice C' 16 cc'] : Array Value).size) := Lib.hid (hw.there (n := 5) rfl)
            have HO := Lib.hid (state_one 2 32 16 A' 32 ca' C' 16 cc')
            refine st_store (by rfl) 27 (.tmp 7) (.tmp 83) (by rfl) x 0 #[.int .i64 2, .int .i64 32, .int .i64 16, .slice A' 32 ca', .slice C' 16 cc'] ((by kernel_rfl : _ = tm 7).trans ex) ((by kernel_rfl : _ = tm 83).trans e1) HT.out info_state HO.out ?_
            refine hK.out undef (w.setCells x 0 [.int .i64 2, .int .i64 32, .int .i64 16, .slice A' 32 ca', .slice C' 16 cc']) ?_
            exact h.addS' (hd 1 (by kernel_rfl)) (hd 2 (by kernel_rfl)) rfl rfl (fun _ => (hd 3 (by kernel_rfl))) (hd 4 (by kernel_rfl)) (hd 5 (by kernel_rfl)) (hd 6 (by kernel_rfl)) (hd 8 (by kernel_rfl)) (fun _ => (hd 9 (by kernel_rfl))) ex ed
          case start => exact ⟨hH, fun _ => ⟨hH, fun e => ff rfl e, fun e => ff rfl e, fun _ => ⟨none, 0, 0, rfl, rfl, Nat.le_refl _, none_at _⟩, fun _ => ⟨rfl, rfl⟩, fun e => ff rfl e, fun e => ff rfl e, fun e => ff rfl e, fun e => ff rfl e, fun e => ff rfl e, fun e => ff rfl e⟩, fun e => ff rfl e, fun e => ff rfl e, fun e => ff rfl e, fun e => ff rfl e, fun e => ff rfl e, fun e => ff rfl e⟩
          case fin =>
            intro tm u8 h
            try dsimp only at h
            obtain ⟨hbb, hR, hP⟩ := h.fin (by kernel_rfl) (by kernel_rfl)
            obtain ⟨g8, Az, ca8, Cz, cc8, ed, ex, hx, hm, hy⟩ := hP
            obtain ⟨y8, ey, hne, hY, haw⟩ := hy rfl
            simp only [ptr] at ex ey
            clear h ed hy hm haw hx hne HP HS1
            simp only [pmA, List.foldl_cons, List.foldl_nil, Act.put, List.setIfInBounds_toArray, List.set_cons_zero, List.set_cons_succ]
            rw [ex, ey, hR]
            clear ex ey hR
            refine wpAnyH_ready (rs := [11]) (by kernel_rfl) (by simp) ?_
            refine AllReadyH.cons rfl (fun K0 hK => ?_) AllReadyH.nil
            have HT : Hid (u8.there y8 0 (#[.int .i64 6, .int .u64 0, .int .i64 0] : Array Value).size) := Lib.hid (hY.there (n := 3) rfl)
            have HO := Lib.hid (reply_one 6 0 0)
            have kY := hY.setCells (vs := [.int .i64 6, .int .u64 0, .int .i64 0]) rfl
            have fY := Fnd.setCells y8 [.int .i64 6, .int .u64 0, .int .i64 0] 0 u8
            refine step_store_mid (by rfl) 40 (.tmp 8) (.tmp 84) (by rfl) y8 0 #[.int .i64 6, .int .u64 0, .int .i64 0] (by rfl) (by rfl) HT.out info_reply HO.out ?_
            change K0 _ (u8.setCells y8 0 [.int .i64 6, .int .u64 0, .int .i64 0])
            clear fY HT hY HO
            generalize u8.setCells y8 0 [.int .i64 6, .int .u64 0, .int .i64 0] = v9 at kY ⊢
            have hb := kY.bx.old
            refine hK.out _ _ hb (fun hH => ?_)
            clear hK K0
            try simp only [Act.put, List.setIfInBounds_toArray, List.set_cons_zero, List.set_cons_succ, List.getElem_toArray, List.getElem_cons_zero, List.getElem_cons_succ]
            refine wpAnyH_done (by kernel_rfl) ?_ _
            have Y_8 := Lib.hid (kY.rebase HW.out)
            clear kY
            replace K_s := Lib.hid (K_s.out.on hb)
            replace Y_6 := Lib.hid (Y_6.out.on hb)
            replace K_x := Lib.hid (K_x.out.on hb)
            replace Y_7 := Lib.hid (Y_7.out.on hb)
            replace O_s := Lib.hid (O_s.out.on hb)
            replace O_x := Lib.hid (O_x.out.on hb)
            replace HW := Lib.hid (below_on HW.out hb)
            clear hb hH hbb
            go_upto_region 9 with fail
            have HP : Hid (∀ s', (none : Option St) = some s' → 0 < s'.sl.length ∧ 0 < s'.th.length) := Lib.hid fun s' e => by cases e
            have HS1 := Lib.hid (⟨O_s.out.lies, km_ge.2.2.1, ks3_len.1.symm, ks3_len.2.symm, by decide, by decide, HC_ks3.out.1, HC_ks3.out.2⟩ : StH _ ks3 2 32 16 (some ⟨P3, 0, none⟩) 32 ca3 (some ⟨Q3, 0, none⟩) 16 cc3)
            refine wp_region_held_drew (S := fun w' => Below v9.heap.size v9 w') (by kernel_rfl) (below_self v9).drew (fun hH => ?_)
            refine wpAnyH_take (i := 0) (v := .agg #[.int .i64 2, .int .i64 32, .int .i64 16, .slice (some ⟨P3, 0, none⟩) 32 ca3, .slice (some ⟨Q3, 0, none⟩) 16 cc3]) rfl (by kernel_rfl) (by kernel_rfl) (by kernel_rfl) (fun _ _ _ h => h) (yieldsIf_load_mid (by rfl) 27 (.tmp 1) (by rfl) j0 0 (by rfl) [.int .i64 2, .int .i64 32, .int .i64 16, .slice (some ⟨P3, 0, none⟩) 32 ca3, .slice (some ⟨Q3, 0, none⟩) 16 cc3] _ (fun w hS => ((K_s.out.bx.on hS).range)) Tryz.underlying27 rfl info_state) (by assumption) ?_
            try simp only [Act.put, List.setIfInBounds_toArray, List.set_cons_zero, List.set_cons_succ, List.getElem_toArray, List.getElem_cons_zero, List.getElem_cons_succ]
            refine wpAnyH_inv (f0 := 1) [1, 2, 3, 4, 5, 6, 7, 8, 9, 10, 11, 12] [87, 88, 89, 90, 91, 92, 93, 94, 85, 10, 9] (fun l tm w => PHI v9 [4] [3] 2 32 16 (some ⟨P3, 0, none⟩) 32 ca3 (some ⟨Q3, 0, none⟩) 16 cc3 none (.agg #[.int .i64 6, .int .u64 0, .int .i64 0]) [.int .i64 0, .int .u64 0, .int .i64 0] false false (fun p q => .agg #[.int .i64 7, flat1 p, flat1 q, .int .i64 0, .int .i64 0, .int .u64 0]) (l 1) (l 2) (l 3) (l 4) (l 5) (l 6) (l 7) (l 8) (l 9) (l 10) (l 11) (l 12) (tm 87) (tm 88) (tm 89) (tm 90) (tm 91) (tm 92) (tm 85) (tm 93) (tm 94) (tm 9) (tm 10) w) (by kernel_rfl) (by kernel_rfl) rfl (by decide) (fun l tm w h => h.bb) ?start (AllSteps.cons rfl ?o1 (AllSteps.cons rfl ?o2 (AllSteps.cons rfl ?o3 (AllSteps.cons rfl ?o4 (AllSteps.cons rfl ?o5 (AllSteps.cons rfl ?o6 (AllSteps.cons rfl ?o7 (AllSteps.cons rfl ?o8 (AllSteps.cons rfl ?o9 (AllSteps.cons rfl ?o10 (AllSteps.cons rfl ?o11 (AllSteps.cons rfl ?o12 AllSteps.nil)))))))))))) ?fin
            case o1 =>
              intro l tm w h hl hd K0 hK
              try dsimp only at h
              rw [hl] at h
              have hh := h.addB1 (below_alloc w (.cells #[.int .i64 4] 3)) (lis_one w 4)
              exact st_run (v := .slice (some ⟨w.heap.size, 0, none⟩) 1 1) (by rfl) (by kernel_rfl) (hK.out _ _ hh)
            case o2 =>
              intro l tm w h hl hd K0 hK
              try dsimp only at h
              rw [hl] at h
              have hs := h.early1.1
              have h0 := h
              rw [hs] at h0
              obtain ⟨⟨B, nB, cB, eB, -⟩, -⟩ := h0.way1 (hd 1 (by kernel_rfl))
              have hc := way18_is (A := B) (n := nB) (cap := cB) w
              rw [← eB] at hc
              refine st_call (f := 27) (args := #[(tm 87)]) (w' := w) (by rfl) (by kernel_rfl) (hc.mono ?_)
              rintro e w1 ⟨rfl, hb⟩
              exact ⟨_, rfl, hK.out _ _ (h.addW1 (hd 1 (by kernel_rfl)) hb rfl)⟩
            case o3 =>
              intro l tm w h hl hd K0 hK
              try dsimp only at h
              rw [hl] at h
              have hh := h.addB2 (below_alloc w (.cells #[.int .i64 3] 3)) (lis_one w 3)
              exact st_run (v := .slice (some ⟨w.heap.size, 0, none⟩) 1 1) (by rfl) (by kernel_rfl) (hK.out _ _ hh)
            case o4 =>
              intro l tm w h hl hd K0 hK
              try dsimp only at h
              rw [hl] at h
              have hs := h.early2.1
              have h0 := h
              rw [hs] at h0
              obtain ⟨⟨B, nB, cB, eB, -⟩, -⟩ := h0.way2 (hd 3 (by kernel_rfl))
              have hc := way18_is (A := B) (n := nB) (cap := cB) w
              rw [← eB] at hc
              refine st_call (f := 27) (args := #[(tm 89)]) (w' := w) (by rfl) (by kernel_rfl) (hc.mono ?_)
              rintro e w1 ⟨rfl, hb⟩
              exact ⟨_, rfl, hK.out _ _ (h.addW2 (hd 3 (by kernel_rfl)) hb rfl)⟩
            case o5 =>
              intro l tm w h hl hd K0 hK
              try dsimp only at h
              rw [hl] at h
              have d1 := hd 2 (by kernel_rfl)
              have d2 := hd 4 (by kernel_rfl)
              have hs : l 12 = false := by rw [Bool.eq_false_iff]; exact fun e => absurd ((h.o e).2.2.2.2.1 rfl) (by decide)
              have h0 := h
              rw [hs] at h0
              obtain ⟨⟨B1, n1, k1, eB1, eN1, eK1, eI1⟩, eW1⟩ := h0.way1 ((h0.rg rfl).w1 d1).1
              obtain ⟨⟨B2, n2, k2, eB2, eN2, eK2, eI2⟩, eW2⟩ := h0.way2 ((h0.rg rfl).w2 d2).1
              have hW1 := (eW1 d1).trans (by rw [eB1])
              have hW2 := (eW2 d2).trans (by rw [eB2])
              refine st_run (v := (fun p q => .agg #[.int .i64 7, flat1 p, flat1 q, .int .i64 0, .int .i64 0, .int .u64 0]) (tm 88) (tm 90)) (w' := w) (by rfl) ?_ (hK.out _ _ (h.addBd d1 d2 rfl))
              simp only [List.getElem_toArray, List.getElem_cons_zero, List.getElem_cons_succ, pmA, List.foldl_cons, List.foldl_nil, Act.put, List.setIfInBounds_toArray, List.set_cons_zero, List.set_cons_succ]
              rw [hW1, hW2]
              kernel_rfl
            case o6 =>
              intro l tm w h hl hd K0 hK
              try dsimp only at h
              rw [hl] at h
              have d0 := hd 5 (by kernel_rfl)
              obtain ⟨d1, d2, eBD⟩ := h.e6 d0
              have hs : l 12 = false := h.notS.1
              have h0 := h
              rw [hs] at h0
              obtain ⟨⟨B1, n1, k1, eB1, eN1, eK1, eI1⟩, eW1⟩ := h0.way1 ((h0.rg rfl).w1 d1).1
              obtain ⟨⟨B2, n2, k2, eB2, eN2, eK2, eI2⟩, eW2⟩ := h0.way2 ((h0.rg rfl).w2 d2).1
              have hW1 := (eW1 d1).trans (by rw [eB1])
              have hW2 := (eW2 d2).trans (by rw [eB2])
              rw [hW1, hW2] at eBD
              have hA : #[.agg #[.int .i64 2, .int .i64 32, .int .i64 16, .slice (some ⟨P3, 0, none⟩) 32 ca3, .slice (some ⟨Q3, 0, none⟩) 16 cc3], .int .i64 0, (tm 91)] = #[.agg #[.int .i64 2, .int .i64 32, .int .i64 16, .slice (some ⟨P3, 0, none⟩) 32 ca3, .slice (some ⟨Q3, 0, none⟩) 16 cc3], .int .i64 0, .agg #[.int .i64 7, .slice B1 n1 k1, .slice B2 n2 k2, .int .i64 0, .int .i64 0, .int .u64 0]] := by rw [eBD]; rfl
              refine st_call (f := 28) (args := #[.agg #[.int .i64 2, .int .i64 32, .int .i64 16, .slice (some ⟨P3, 0, none⟩) 32 ca3, .slice (some ⟨Q3, 0, none⟩) 16 cc3], .int .i64 0, (tm 91)]) (w' := w) (by rfl) (by kernel_rfl) ?_
              rw [hA]
              refine (mdo_is (z := 0) (HS1.out.on h.bb) eN1 eK1 eI1 eN2 eK2 eI2 km_d).mono ?_
              rintro e w1 ⟨A', ca', C', cc', rfl, hb, hm⟩
              obtain ⟨q1, q2⟩ := resD_of (a := 2) (b := 32) (c := 16) (R := (.agg #[.int .i64 6, .int .u64 0, .int .i64 0])) h.bb.size hm HP.out
              exact ⟨_, rfl, hK.out _ _ (h.addD hb q1 q2)⟩
            case o7 =>
              intro l tm w h hl hd K0 hK
              try dsimp only at h
              rw [hl] at h
              exact st_run (v := tm 92) (w' := w) (by rfl) (by kernel_rfl) (hK.out _ _ (h.addMv (hd 6 (by kernel_rfl)) rfl))
            case o8 =>
              intro l tm w h hl hd K0 hK
              try dsimp only at h
              rw [hl] at h
              obtain ⟨A', ca', C', cc', eT, -⟩ := h.tup (hd 7 (by kernel_rfl))
              refine st_run (v := .agg #[.int .i64 2, .int .i64 32, .int .i64 16, .slice A' 32 ca', .slice C' 16 cc']) (w' := w) (by rfl) ?_ (hK.out _ _ (h.addE1 (hd 7 (by kernel_rfl)) eT))
              simp only [List.getElem_toArray, List.getElem_cons_zero, List.getElem_cons_succ, pmA, List.foldl_cons, List.foldl_nil, Act.put, List.setIfInBounds_toArray, List.set_cons_zero, List.set_cons_succ]
              rw [eT]
              kernel_rfl
            case o9 =>
              intro l tm w h hl hd K0 hK
              try dsimp only at h
              rw [hl] at h
              obtain ⟨A', ca', C', cc', eT, -⟩ := h.tup (hd 7 (by kernel_rfl))
              refine st_run (v := (.agg #[.int .i64 6, .int .u64 0, .int .i64 0])) (w' := w) (by rfl) ?_ (hK.out _ _ (h.addE2 (hd 7 (by kernel_rfl)) eT))
              simp only [List.getElem_toArray, List.getElem_cons_zero, List.getElem_cons_succ, pmA, List.foldl_cons, List.foldl_nil, Act.put, List.setIfInBounds_toArray, List.set_cons_zero, List.set_cons_succ]
              rw [eT]
              kernel_rfl
            case o10 =>
              intro l tm w h hl hd K0 hK
              try dsimp only at h
              rw [hl] at h
              have hh := h.addQ HP.out 27
              exact st_run (v := ptr w.heap.size) (by rfl) (by kernel_rfl) (hK.out _ _ hh)
            case o11 =>
              intro l tm w h hl hd K0 hK
              try dsimp only at h
              rw [hl] at h
              have hh := h.addY HP.out 40
              exact st_run (v := ptr w.heap.size) (by rfl) (by kernel_rfl) (hK.out _ _ hh)
            case o12 =>
              intro l tm w h hl hd K0 hK
              try dsimp only at h
              rw [hl] at h
              obtain ⟨x, A', ca', C', cc', ex, e1, ed, hw⟩ := h.atS' (hd 6 (by kernel_rfl)) (hd 7 (by kernel_rfl)) (hd 8 (by kernel_rfl)) (hd 10 (by kernel_rfl))
              have HT : Hid (w.there x 0 (#[.int .i64 2, .int .i64 32, .int .i64 16, .slice A' 32 ca', .slice C' 16 cc'] : Array Value).size) := Lib.hid (hw.there (n := 5) rfl)
              have HO := Lib.hid (state_one 2 32 16 A' 32 ca' C' 16 cc')
              refine st_store (by rfl) 27 (.tmp 9) (.tmp 93) (by rfl) x 0 #[.int .i64 2, .int .i64 32, .int .i64 16, .slice A' 32 ca', .slice C' 16 cc'] ((by kernel_rfl : _ = tm 9).trans ex) ((by kernel_rfl : _ = tm 93).trans e1) HT.out info_state HO.out ?_
              refine hK.out undef (w.setCells x 0 [.int .i64 2, .int .i64 32, .int .i64 16, .slice A' 32 ca', .slice C' 16 cc']) ?_
              exact h.addS' (hd 1 (by kernel_rfl)) (hd 2 (by kernel_rfl)) (hd 3 (by kernel_rfl)) (hd 4 (by kernel_rfl)) (fun _ => (hd 5 (by kernel_rfl))) (hd 6 (by kernel_rfl)) (hd 7 (by kernel_rfl)) (hd 8 (by kernel_rfl)) (hd 10 (by kernel_rfl)) (fun _ => (hd 11 (by kernel_rfl))) ex ed
            case start => exact ⟨hH, fun _ => ⟨hH, fun e => ff rfl e, fun e => ff rfl e, fun e => ff rfl e, fun e => ff rfl e, fun e => ff rfl e, fun e => ff rfl e, fun e => ff rfl e, fun e => ff rfl e, fun e => ff rfl e, fun e => ff rfl e⟩, fun e => ff rfl e, fun e => ff rfl e, fun e => ff rfl e, fun e => ff rfl e, fun e => ff rfl e, fun e => ff rfl e⟩
            case fin =>
              intro tm u9 h
              try dsimp only at h
              obtain ⟨hbb, hR, hP⟩ := h.fin (by kernel_rfl) (by kernel_rfl)
              obtain ⟨g9, Az, ca9, Cz, cc9, ed, ex, hx, hm, hy⟩ := hP
              obtain ⟨y9, ey, hne, hY, haw⟩ := hy rfl
              simp only [ptr] at ex ey
              clear h ed hy hm haw hx hne HP HS1
              simp only [pmA, List.foldl_cons, List.foldl_nil, Act.put, List.setIfInBounds_toArray, List.set_cons_zero, List.set_cons_succ]
              rw [ex, ey, hR]
              clear ex ey hR
              refine wpAnyH_ready (rs := [13]) (by kernel_rfl) (by simp) ?_
              refine AllReadyH.cons rfl (fun K0 hK => ?_) AllReadyH.nil
              have HT : Hid (u9.there y9 0 (#[.int .i64 6, .int .u64 0, .int .i64 0] : Array Value).size) := Lib.hid (hY.there (n := 3) rfl)
              have HO := Lib.hid (reply_one 6 0 0)
              have kY := hY.setCells (vs := [.int .i64 6, .int .u64 0, .int .i64 0]) rfl
              have fY := Fnd.setCells y9 [.int .i64 6, .int .u64 0, .int .i64 0] 0 u9
              refine step_store_mid (by rfl) 40 (.tmp 10) (.tmp 94) (by rfl) y9 0 #[.int .i64 6, .int .u64 0, .int .i64 0] (by rfl) (by rfl) HT.out info_reply HO.out ?_
              change K0 _ (u9.setCells y9 0 [.int .i64 6, .int .u64 0, .int .i64 0])
              clear fY HT hY HO
              generalize u9.setCells y9 0 [.int .i64 6, .int .u64 0, .int .i64 0] = v10 at kY ⊢
              have hb := kY.bx.old
              refine hK.out _ _ hb (fun hH => ?_)
              clear hK K0
              try simp only [Act.put, List.setIfInBounds_toArray, List.set_cons_zero, List.set_cons_succ, List.getElem_toArray, List.getElem_cons_zero, List.getElem_cons_succ]
              refine wpAnyH_done (by kernel_rfl) ?_ _
              have Y_9 := Lib.hid (kY.rebase HW.out)
              clear kY
              replace K_s := Lib.hid (K_s.out.on hb)
              replace Y_6 := Lib.hid (Y_6.out.on hb)
              replace K_x := Lib.hid (K_x.out.on hb)
              replace Y_7 := Lib.hid (Y_7.out.on hb)
              replace Y_8 := Lib.hid (Y_8.out.on hb)
              replace O_s := Lib.hid (O_s.out.on hb)
              replace O_x := Lib.hid (O_x.out.on hb)
              replace HW := Lib.hid (below_on HW.out hb)
              clear hb hH hbb
              go_upto_region 10 with fail
              have HP : Hid (∀ s', (none : Option St) = some s' → 0 < s'.sl.length ∧ 0 < s'.th.length) := Lib.hid fun s' e => by cases e
              have HS1 := Lib.hid (⟨O_s.out.lies, km_ge.2.2.1, ks3_len.1.symm, ks3_len.2.symm, by decide, by decide, HC_ks3.out.1, HC_ks3.out.2⟩ : StH _ ks3 2 32 16 (some ⟨P3, 0, none⟩) 32 ca3 (some ⟨Q3, 0, none⟩) 16 cc3)
              refine wp_region_held_drew (S := fun w' => Below v10.heap.size v10 w') (by kernel_rfl) (below_self v10).drew (fun hH => ?_)
              refine wpAnyH_take (i := 0) (v := .agg #[.int .i64 2, .int .i64 32, .int .i64 16, .slice (some ⟨P3, 0, none⟩) 32 ca3, .slice (some ⟨Q3, 0, none⟩) 16 cc3]) rfl (by kernel_rfl) (by kernel_rfl) (by kernel_rfl) (fun _ _ _ h => h) (yieldsIf_load_mid (by rfl) 27 (.tmp 1) (by rfl) j0 0 (by rfl) [.int .i64 2, .int .i64 32, .int .i64 16, .slice (some ⟨P3, 0, none⟩) 32 ca3, .slice (some ⟨Q3, 0, none⟩) 16 cc3] _ (fun w hS => ((K_s.out.bx.on hS).range)) Tryz.underlying27 rfl info_state) (by assumption) ?_
              try simp only [Act.put, List.setIfInBounds_toArray, List.set_cons_zero, List.set_cons_succ, List.getElem_toArray, List.getElem_cons_zero, List.getElem_cons_succ]
              refine wpAnyH_inv (f0 := 1) [1, 2, 3, 4, 5, 6, 7, 8, 9, 10, 11, 12] [97, 98, 99, 100, 101, 102, 103, 104, 95, 12, 11] (fun l tm w => PHI v10 [1] [0] 2 32 16 (some ⟨P3, 0, none⟩) 32 ca3 (some ⟨Q3, 0, none⟩) 16 cc3 none (.agg #[.int .i64 7, .int .u64 0, .int .i64 0]) [.int .i64 0, .int .u64 0, .int .i64 0] false false (fun p q => .agg #[.int .i64 7, flat1 p, flat1 q, .int .i64 0, .int .i64 0, .int .u64 0]) (l 1) (l 2) (l 3) (l 4) (l 5) (l 6) (l 7) (l 8) (l 9) (l 10) (l 11) (l 12) (tm 97) (tm 98) (tm 99) (tm 100) (tm 101) (tm 102) (tm 95) (tm 103) (tm 104) (tm 11) (tm 12) w) (by kernel_rfl) (by kernel_rfl) rfl (by decide) (fun l tm w h => h.bb) ?start (AllSteps.cons rfl ?o1 (AllSteps.cons rfl ?o2 (AllSteps.cons rfl ?o3 (AllSteps.cons rfl ?o4 (AllSteps.cons rfl ?o5 (AllSteps.cons rfl ?o6 (AllSteps.cons rfl ?o7 (AllSteps.cons rfl ?o8 (AllSteps.cons rfl ?o9 (AllSteps.cons rfl ?o10 (AllSteps.cons rfl ?o11 (AllSteps.cons rfl ?o12 AllSteps.nil)))))))))))) ?fin
              case o1 =>
                intro l tm w h hl hd K0 hK
                try dsimp only at h
                rw [hl] at h
                have hh := h.addB1 (below_alloc w (.cells #[.int .i64 1] 3)) (lis_one w 1)
                exact st_run (v := .slice (some ⟨w.heap.size, 0, none⟩) 1 1) (by rfl) (by kernel_rfl) (hK.out _ _ hh)
              case o2 =>
                intro l tm w h hl hd K0 hK
                try dsimp only at h
                rw [hl] at h
                have hs := h.early1.1
                have h0 := h
                rw [hs] at h0
                obtain ⟨⟨B, nB, cB, eB, -⟩, -⟩ := h0.way1 (hd 1 (by kernel_rfl))
                have hc := way18_is (A := B) (n := nB) (cap := cB) w
                rw [← eB] at hc
                refine st_call (f := 27) (args := #[(tm 97)]) (w' := w) (by rfl) (by kernel_rfl) (hc.mono ?_)
                rintro e w1 ⟨rfl, hb⟩
                exact ⟨_, rfl, hK.out _ _ (h.addW1 (hd 1 (by kernel_rfl)) hb rfl)⟩
              case o3 =>
                intro l tm w h hl hd K0 hK
                try dsimp only at h
                rw [hl] at h
                have hh := h.addB2 (below_alloc w (.cells #[.int .i64 0] 3)) (lis_one w 0)
                exact st_run (v := .slice (some ⟨w.heap.size, 0, none⟩) 1 1) (by rfl) (by kernel_rfl) (hK.out _ _ hh)
              case o4 =>
                intro l tm w h hl hd K0 hK
                try dsimp only at h
                rw [hl] at h
                have hs := h.early2.1
                have h0 := h
                rw [hs] at h0
                obtain ⟨⟨B, nB, cB, eB, -⟩, -⟩ := h0.way2 (hd 3 (by kernel_rfl))
                have hc := way18_is (A := B) (n := nB) (cap := cB) w
                rw [← eB] at hc
                refine st_call (f := 27) (args := #[(tm 99)]) (w' := w) (by rfl) (by kernel_rfl) (hc.mono ?_)
                rintro e w1 ⟨rfl, hb⟩
                exact ⟨_, rfl, hK.out _ _ (h.addW2 (hd 3 (by kernel_rfl)) hb rfl)⟩
              case o5 =>
                intro l tm w h hl hd K0 hK
                try dsimp only at h
                rw [hl] at h
                have d1 := hd 2 (by kernel_rfl)
                have d2 := hd 4 (by kernel_rfl)
                have hs : l 12 = false := by rw [Bool.eq_false_iff]; exact fun e => absurd ((h.o e).2.2.2.2.1 rfl) (by decide)
                have h0 := h
                rw [hs] at h0
                obtain ⟨⟨B1, n1, k1, eB1, eN1, eK1, eI1⟩, eW1⟩ := h0.way1 ((h0.rg rfl).w1 d1).1
                obtain ⟨⟨B2, n2, k2, eB2, eN2, eK2, eI2⟩, eW2⟩ := h0.way2 ((h0.rg rfl).w2 d2).1
                have hW1 := (eW1 d1).trans (by rw [eB1])
                have hW2 := (eW2 d2).trans (by rw [eB2])
                refine st_run (v := (fun p q => .agg #[.int .i64 7, flat1 p, flat1 q, .int .i64 0, .int .i64 0, .int .u64 0]) (tm 98) (tm 100)) (w' := w) (by rfl) ?_ (hK.out _ _ (h.addBd d1 d2 rfl))
                simp only [List.getElem_toArray, List.getElem_cons_zero, List.getElem_cons_succ, pmA, List.foldl_cons, List.foldl_nil, Act.put, List.setIfInBounds_toArray, List.set_cons_zero, List.set_cons_succ]
                rw [hW1, hW2]
                kernel_rfl
              case o6 =>
                intro l tm w h hl hd K0 hK
                try dsimp only at h
                rw [hl] at h
                have d0 := hd 5 (by kernel_rfl)
                obtain ⟨d1, d2, eBD⟩ := h.e6 d0
                have hs : l 12 = false := h.notS.1
                have h0 := h
                rw [hs] at h0
                obtain ⟨⟨B1, n1, k1, eB1, eN1, eK1, eI1⟩, eW1⟩ := h0.way1 ((h0.rg rfl).w1 d1).1
                obtain ⟨⟨B2, n2, k2, eB2, eN2, eK2, eI2⟩, eW2⟩ := h0.way2 ((h0.rg rfl).w2 d2).1
                have hW1 := (eW1 d1).trans (by rw [eB1])
                have hW2 := (eW2 d2).trans (by rw [eB2])
                rw [hW1, hW2] at eBD
                have hA : #[.agg #[.int .i64 2, .int .i64 32, .int .i64 16, .slice (some ⟨P3, 0, none⟩) 32 ca3, .slice (some ⟨Q3, 0, none⟩) 16 cc3], .int .i64 0, (tm 101)] = #[.agg #[.int .i64 2, .int .i64 32, .int .i64 16, .slice (some ⟨P3, 0, none⟩) 32 ca3, .slice (some ⟨Q3, 0, none⟩) 16 cc3], .int .i64 0, .agg #[.int .i64 7, .slice B1 n1 k1, .slice B2 n2 k2, .int .i64 0, .int .i64 0, .int .u64 0]] := by rw [eBD]; rfl
                refine st_call (f := 28) (args := #[.agg #[.int .i64 2, .int .i64 32, .int .i64 16, .slice (some ⟨P3, 0, none⟩) 32 ca3, .slice (some ⟨Q3, 0, none⟩) 16 cc3], .int .i64 0, (tm 101)]) (w' := w) (by rfl) (by kernel_rfl) ?_
                rw [hA]
                refine (mdo_is (z := 0) (HS1.out.on h.bb) eN1 eK1 eI1 eN2 eK2 eI2 km_e).mono ?_
                rintro e w1 ⟨A', ca', C', cc', rfl, hb, hm⟩
                obtain ⟨q1, q2⟩ := resD_of (a := 2) (b := 32) (c := 16) (R := (.agg #[.int .i64 7, .int .u64 0, .int .i64 0])) h.bb.size hm HP.out
                exact ⟨_, rfl, hK.out _ _ (h.addD hb q1 q2)⟩
              case o7 =>
                intro l tm w h hl hd K0 hK
                try dsimp only at h
                rw [hl] at h
                exact st_run (v := tm 102) (w' := w) (by rfl) (by kernel_rfl) (hK.out _ _ (h.addMv (hd 6 (by kernel_rfl)) rfl))
              case o8 =>
                intro l tm w h hl hd K0 hK
                try dsimp only at h
                rw [hl] at h
                obtain ⟨A', ca', C', cc', eT, -⟩ := h.tup (hd 7 (by kernel_rfl))
                refine st_run (v := .agg #[.int .i64 2, .int .i64 32, .int .i64 16, .slice A' 32 ca', .slice C' 16 cc']) (w' := w) (by rfl) ?_ (hK.out _ _ (h.addE1 (hd 7 (by kernel_rfl)) eT))
                simp only [List.getElem_toArray, List.getElem_cons_zero, List.getElem_cons_succ, pmA, List.foldl_cons, List.foldl_nil, Act.put, List.setIfInBounds_toArray, List.set_cons_zero, List.set_cons_succ]
                rw [eT]
                kernel_rfl
              case o9 =>
                intro l tm w h hl hd K0 hK
                try dsimp only at h
                rw [hl] at h
                obtain ⟨A', ca', C', cc', eT, -⟩ := h.tup (hd 7 (by kernel_rfl))
                refine st_run (v := (.agg #[.int .i64 7, .int .u64 0, .int .i64 0])) (w' := w) (by rfl) ?_ (hK.out _ _ (h.addE2 (hd 7 (by kernel_rfl)) eT))
                simp only [List.getElem_toArray, List.getElem_cons_zero, List.getElem_cons_succ, pmA, List.foldl_cons, List.foldl_nil, Act.put, List.setIfInBounds_toArray, List.set_cons_zero, List.set_cons_succ]
                rw [eT]
                kernel_rfl
              case o10 =>
                intro l tm w h hl hd K0 hK
                try dsimp only at h
                rw [hl] at h
                have hh := h.addQ HP.out 27
                exact st_run (v := ptr w.heap.size) (by rfl) (by kernel_rfl) (hK.out _ _ hh)
              case o11 =>
                intro l tm w h hl hd K0 hK
                try dsimp only at h
                rw [hl] at h
                have hh := h.addY HP.out 40
                exact st_run (v := ptr w.heap.size) (by rfl) (by kernel_rfl) (hK.out _ _ hh)
              case o12 =>
                intro l tm w h hl hd K0 hK
                try dsimp only at h
                rw [hl] at h
                obtain ⟨x, A', ca', C', cc', ex, e1, ed, hw⟩ := h.atS' (hd 6 (by kernel_rfl)) (hd 7 (by kernel_rfl)) (hd 8 (by kernel_rfl)) (hd 10 (by kernel_rfl))
                have HT : Hid (w.there x 0 (#[.int .i64 2, .int .i64 32, .int .i64 16, .slice A' 32 ca', .slice C' 16 cc'] : Array Value).size) := Lib.hid (hw.there (n := 5) rfl)
                have HO := Lib.hid (state_one 2 32 16 A' 32 ca' C' 16 cc')
                refine st_store (by rfl) 27 (.tmp 11) (.tmp 103) (by rfl) x 0 #[.int .i64 2, .int .i64 32, .int .i64 16, .slice A' 32 ca', .slice C' 16 cc'] ((by kernel_rfl : _ = tm 11).trans ex) ((by kernel_rfl : _ = tm 103).trans e1) HT.out info_state HO.out ?_
                refine hK.out undef (w.setCells x 0 [.int .i64 2, .int .i64 32, .int .i64 16, .slice A' 32 ca', .slice C' 16 cc']) ?_
                exact h.addS' (hd 1 (by kernel_rfl)) (hd 2 (by kernel_rfl)) (hd 3 (by kernel_rfl)) (hd 4 (by kernel_rfl)) (fun _ => (hd 5 (by kernel_rfl))) (hd 6 (by kernel_rfl)) (hd 7 (by kernel_rfl)) (hd 8 (by kernel_rfl)) (hd 10 (by kernel_rfl)) (fun _ => (hd 11 (by kernel_rfl))) ex ed
              case start => exact ⟨hH, fun _ => ⟨hH, fun e => ff rfl e, fun e => ff rfl e, fun e => ff rfl e, fun e => ff rfl e, fun e => ff rfl e, fun e => ff rfl e, fun e => ff rfl e, fun e => ff rfl e, fun e => ff rfl e, fun e => ff rfl e⟩, fun e => ff rfl e, fun e => ff rfl e, fun e => ff rfl e, fun e => ff rfl e, fun e => ff rfl e, fun e => ff rfl e⟩
              case fin =>
                intro tm u10 h
                try dsimp only at h
                obtain ⟨hbb, hR, hP⟩ := h.fin (by kernel_rfl) (by kernel_rfl)
                obtain ⟨g10, Az, ca10, Cz, cc10, ed, ex, hx, hm, hy⟩ := hP
                obtain ⟨y10, ey, hne, hY, haw⟩ := hy rfl
                simp only [ptr] at ex ey
                clear h ed hy hm haw hx hne HP HS1
                simp only [pmA, List.foldl_cons, List.foldl_nil, Act.put, List.setIfInBounds_toArray, List.set_cons_zero, List.set_cons_succ]
                rw [ex, ey, hR]
                clear ex ey hR
                refine wpAnyH_ready (rs := [13]) (by kernel_rfl) (by simp) ?_
                refine AllReadyH.cons rfl (fun K0 hK => ?_) AllReadyH.nil
                have HT : Hid (u10.there y10 0 (#[.int .i64 7, .int .u64 0, .int .i64 0] : Array Value).size) := Lib.hid (hY.there (n := 3) rfl)
                have HO := Lib.hid (reply_one 7 0 0)
                have kY := hY.setCells (vs := [.int .i64 7, .int .u64 0, .int .i64 0]) rfl
                have fY := Fnd.setCells y10 [.int .i64 7, .int .u64 0, .int .i64 0] 0 u10
                refine step_store_mid (by rfl) 40 (.tmp 12) (.tmp 104) (by rfl) y10 0 #[.int .i64 7, .int .u64 0, .int .i64 0] (by rfl) (by rfl) HT.out info_reply HO.out ?_
                change K0 _ (u10.setCells y10 0 [.int .i64 7, .int .u64 0, .int .i64 0])
                clear fY HT hY HO
                generalize u10.setCells y10 0 [.int .i64 7, .int .u64 0, .int .i64 0] = v11 at kY ⊢
                have hb := kY.bx.old
                refine hK.out _ _ hb (fun hH => ?_)
                clear hK K0
                try simp only [Act.put, List.setIfInBounds_toArray, List.set_cons_zero, List.set_cons_succ, List.getElem_toArray, List.getElem_cons_zero, List.getElem_cons_succ]
                refine wpAnyH_done (by kernel_rfl) ?_ _
                have Y_10 := Lib.hid (kY.rebase HW.out)
                clear kY
                replace K_s := Lib.hid (K_s.out.on hb)
                replace Y_6 := Lib.hid (Y_6.out.on hb)
                replace K_x := Lib.hid (K_x.out.on hb)
                replace Y_7 := Lib.hid (Y_7.out.on hb)
                replace Y_8 := Lib.hid (Y_8.out.on hb)
                replace Y_9 := Lib.hid (Y_9.out.on hb)
                replace O_s := Lib.hid (O_s.out.on hb)
                replace O_x := Lib.hid (O_x.out.on hb)
                replace HW := Lib.hid (below_on HW.out hb)
                clear hb hH hbb
                go_upto_region 11 with fail
                have HP : Hid (∀ s', (none : Option St) = some s' → 0 < s'.sl.length ∧ 0 < s'.th.length) := Lib.hid fun s' e => by cases e
                have HS1 := Lib.hid (⟨O_s.out.lies, km_ge.2.2.1, ks3_len.1.symm, ks3_len.2.symm, by decide, by decide, HC_ks3.out.1, HC_ks3.out.2⟩ : StH _ ks3 2 32 16 (some ⟨P3, 0, none⟩) 32 ca3 (some ⟨Q3, 0, none⟩) 16 cc3)
                refine wp_region_held_drew (S := fun w' => Below v11.heap.size v11 w') (by kernel_rfl) (below_self v11).drew (fun hH => ?_)
                refine wpAnyH_take (i := 0) (v := .agg #[.int .i64 2, .int .i64 32, .int .i64 16, .slice (some ⟨P3, 0, none⟩) 32 ca3, .slice (some ⟨Q3, 0, none⟩) 16 cc3]) rfl (by kernel_rfl) (by kernel_rfl) (by kernel_rfl) (fun _ _ _ h => h) (yieldsIf_load_mid (by rfl) 27 (.tmp 1) (by rfl) j0 0 (by rfl) [.int .i64 2, .int .i64 32, .int .i64 16, .slice (some ⟨P3, 0, none⟩) 32 ca3, .slice (some ⟨Q3, 0, none⟩) 16 cc3] _ (fun w hS => ((K_s.out.bx.on hS).range)) Tryz.underlying27 rfl info_state) (by assumption) ?_
                try simp only [Act.put, List.setIfInBounds_toArray, List.set_cons_zero, List.set_cons_succ, List.getElem_toArray, List.getElem_cons_zero, List.getElem_cons_succ]
                refine wpAnyH_inv (f0 := 1) [1, 2, 3, 4, 5, 6, 7, 8, 9, 10] [107, 108, 109, 110, 111, 112, 105, 14, 13] (fun l tm w => PHI v11 [0] [] 2 32 16 (some ⟨P3, 0, none⟩) 32 ca3 (some ⟨Q3, 0, none⟩) 16 cc3 none (.agg #[.int .i64 7, .int .u64 0, .int .i64 0]) [.int .i64 0, .int .u64 0, .int .i64 0] false false (fun p q => .agg #[.int .i64 7, flat1 p, flat1 q, .int .i64 0, .int .i64 0, .int .u64 0]) (l 1) (l 2) true true (l 3) (l 4) (l 5) (l 6) (l 7) (l 8) (l 9) (l 10) (tm 107) (tm 108) (.slice none 0 0) (.agg #[(.slice none 0 0)]) (tm 109) (tm 110) (tm 105) (tm 111) (tm 112) (tm 13) (tm 14) w) (by kernel_rfl) (by kernel_rfl) rfl (by decide) (fun l tm w h => h.bb) ?start (AllSteps.cons rfl ?o1 (AllSteps.cons rfl ?o2 (AllSteps.cons rfl ?o3 (AllSteps.cons rfl ?o4 (AllSteps.cons rfl ?o5 (AllSteps.cons rfl ?o6 (AllSteps.cons rfl ?o7 (AllSteps.cons rfl ?o8 (AllSteps.cons rfl ?o9 (AllSteps.cons rfl ?o10 AllSteps.nil)))))))))) ?fin
                case o1 =>
                  intro l tm w h hl hd K0 hK
                  try dsimp only at h
                  rw [hl] at h
                  have hh := h.addB1 (below_alloc w (.cells #[.int .i64 0] 3)) (lis_one w 0)
                  exact st_run (v := .slice (some ⟨w.heap.size, 0, none⟩) 1 1) (by rfl) (by kernel_rfl) (hK.out _ _ hh)
                case o2 =>
                  intro l tm w h hl hd K0 hK
                  try dsimp only at h
                  rw [hl] at h
                  have hs := h.early1.1
                  have h0 := h
                  rw [hs] at h0
                  obtain ⟨⟨B, nB, cB, eB, -⟩, -⟩ := h0.way1 (hd 1 (by kernel_rfl))
                  have hc := way18_is (A := B) (n := nB) (cap := cB) w
                  rw [← eB] at hc
                  refine st_call (f := 27) (args := #[(tm 107)]) (w' := w) (by rfl) (by kernel_rfl) (hc.mono ?_)
                  rintro e w1 ⟨rfl, hb⟩
                  exact ⟨_, rfl, hK.out _ _ (h.addW1 (hd 1 (by kernel_rfl)) hb rfl)⟩
                case o3 =>
                  intro l tm w h hl hd K0 hK
                  try dsimp only at h
                  rw [hl] at h
                  have d1 := hd 2 (by kernel_rfl)
                  have d2 : true = true := rfl
                  have hs : l 10 = false := by rw [Bool.eq_false_iff]; exact fun e => absurd ((h.o e).2.2.2.2.1 rfl) (by decide)
                  have h0 := h
                  rw [hs] at h0
                  obtain ⟨⟨B1, n1, k1, eB1, eN1, eK1, eI1⟩, eW1⟩ := h0.way1 ((h0.rg rfl).w1 d1).1
                  obtain ⟨⟨B2, n2, k2, eB2, eN2, eK2, eI2⟩, eW2⟩ := h0.way2 rfl
                  have hW1 := (eW1 d1).trans (by rw [eB1])
                  have hW2 := (eW2 d2).trans (by rw [eB2])
                  refine st_run (v := (fun p q => .agg #[.int .i64 7, flat1 p, flat1 q, .int .i64 0, .int .i64 0, .int .u64 0]) (tm 108) (.agg #[(.slice none 0 0)])) (w' := w) (by rfl) ?_ (hK.out _ _ (h.addBd d1 d2 rfl))
                  simp only [List.getElem_toArray, List.getElem_cons_zero, List.getElem_cons_succ, pmA, List.foldl_cons, List.foldl_nil, Act.put, List.setIfInBounds_toArray, List.set_cons_zero, List.set_cons_succ]
                  rw [hW1]
                  kernel_rfl
                case o4 =>
                  intro l tm w h hl hd K0 hK
                  try dsimp only at h
                  rw [hl] at h
                  have d0 := hd 3 (by kernel_rfl)
                  obtain ⟨d1, d2, eBD⟩ := h.e6 d0
                  have hs : l 10 = false := h.notS.1
                  have h0 := h
                  rw [hs] at h0
                  obtain ⟨⟨B1, n1, k1, eB1, eN1, eK1, eI1⟩, eW1⟩ := h0.way1 ((h0.rg rfl).w1 d1).1
                  obtain ⟨⟨B2, n2, k2, eB2, eN2, eK2, eI2⟩, eW2⟩ := h0.way2 rfl
                  have hW1 := (eW1 d1).trans (by rw [eB1])
                  have hW2 := (eW2 d2).trans (by rw [eB2])
                  rw [hW1, hW2] at eBD
                  have hA : #[.agg #[.int .i64 2, .int .i64 32, .int .i64 16, .slice (some ⟨P3, 0, none⟩) 32 ca3, .slice (some ⟨Q3, 0, none⟩) 16 cc3], .int .i64 0, (tm 109)] = #[.agg #[.int .i64 2, .int .i64 32, .int .i64 16, .slice (some ⟨P3, 0, none⟩) 32 ca3, .slice (some ⟨Q3, 0, none⟩) 16 cc3], .int .i64 0, .agg #[.int .i64 7, .slice B1 n1 k1, .slice B2 n2 k2, .int .i64 0, .int .i64 0, .int .u64 0]] := by rw [eBD]; rfl
                  refine st_call (f := 28) (args := #[.agg #[.int .i64 2, .int .i64 32, .int .i64 16, .slice (some ⟨P3, 0, none⟩) 32 ca3, .slice (some ⟨Q3, 0, none⟩) 16 cc3], .int .i64 0, (tm 109)]) (w' := w) (by rfl) (by kernel_rfl) ?_
                  rw [hA]
                  refine (mdo_is (z := 0) (HS1.out.on h.bb) eN1 eK1 eI1 eN2 eK2 eI2 km_f).mono ?_
                  rintro e w1 ⟨A', ca', C', cc', rfl, hb, hm⟩
                  obtain ⟨q1, q2⟩ := resD_of (a := 2) (b := 32) (c := 16) (R := (.agg #[.int .i64 7, .int .u64 0, .int .i64 0])) h.bb.size hm HP.out
                  exact ⟨_, rfl, hK.out _ _ (h.addD hb q1 q2)⟩
                case o5 =>
                  intro l tm w h hl hd K0 hK
                  try dsimp only at h
                  rw [hl] at h
                  exact st_run (v := tm 110) (w' := w) (by rfl) (by kernel_rfl) (hK.out _ _ (h.addMv (hd 4 (by kernel_rfl)) rfl))
                case o6 =>
                  intro l tm w h hl hd K0 hK
                  try dsimp only at h
                  rw [hl] at h
                  obtain ⟨A', ca', C', cc', eT, -⟩ := h.tup (hd 5 (by kernel_rfl))
                  refine st_run (v := .agg #[.int .i64 2, .int .i64 32, .int .i64 16, .slice A' 32 ca', .slice C' 16 cc']) (w' := w) (by rfl) ?_ (hK.out _ _ (h.addE1 (hd 5 (by kernel_rfl)) eT))
                  simp only [List.getElem_toArray, List.getElem_cons_zero, List.getElem_cons_succ, pmA, List.foldl_cons, List.foldl_nil, Act.put, List.setIfInBounds_toArray, List.set_cons_zero, List.set_cons_succ]
                  rw [eT]
                  kernel_rfl
                case o7 =>
                  intro l tm w h hl hd K0 hK
                  try dsimp only at h
                  rw [hl] at h
                  obtain ⟨A', ca', C', cc', eT, -⟩ := h.tup (hd 5 (by kernel_rfl))
                  refine st_run (v := (.agg #[.int .i64 7, .int .u64 0, .int .i64 0])) (w' := w) (by rfl) ?_ (hK.out _ _ (h.addE2 (hd 5 (by kernel_rfl)) eT))
                  simp only [List.getElem_toArray, List.getElem_cons_zero, List.getElem_cons_succ, pmA, List.foldl_cons, List.foldl_nil, Act.put, List.setIfInBounds_toArray, List.set_cons_zero, List.set_cons_succ]
                  rw [eT]
                  kernel_rfl
                case o8 =>
                  intro l tm w h hl hd K0 hK
                  try dsimp only at h
                  rw [hl] at h
                  have hh := h.addQ HP.out 27
                  exact st_run (v := ptr w.heap.size) (by rfl) (by kernel_rfl) (hK.out _ _ hh)
                case o9 =>
                  intro l tm w h hl hd K0 hK
                  try dsimp only at h
                  rw [hl] at h
                  have hh := h.addY HP.out 40
                  exact st_run (v := ptr w.heap.size) (by rfl) (by kernel_rfl) (hK.out _ _ hh)
                case o10 =>
                  intro l tm w h hl hd K0 hK
                  try dsimp only at h
                  rw [hl] at h
                  obtain ⟨x, A', ca', C', cc', ex, e1, ed, hw⟩ := h.atS' (hd 4 (by kernel_rfl)) (hd 5 (by kernel_rfl)) (hd 6 (by kernel_rfl)) (hd 8 (by kernel_rfl))
                  have HT : Hid (w.there x 0 (#[.int .i64 2, .int .i64 32, .int .i64 16, .slice A' 32 ca', .slice C' 16 cc'] : Array Value).size) := Lib.hid (hw.there (n := 5) rfl)
                  have HO := Lib.hid (state_one 2 32 16 A' 32 ca' C' 16 cc')
                  refine st_store (by rfl) 27 (.tmp 13) (.tmp 111) (by rfl) x 0 #[.int .i64 2, .int .i64 32, .int .i64 16, .slice A' 32 ca', .slice C' 16 cc'] ((by kernel_rfl : _ = tm 13).trans ex) ((by kernel_rfl : _ = tm 111).trans e1) HT.out info_state HO.out ?_
                  refine hK.out undef (w.setCells x 0 [.int .i64 2, .int .i64 32, .int .i64 16, .slice A' 32 ca', .slice C' 16 cc']) ?_
                  exact h.addS' (hd 1 (by kernel_rfl)) (hd 2 (by kernel_rfl)) rfl rfl (fun _ => (hd 3 (by kernel_rfl))) (hd 4 (by kernel_rfl)) (hd 5 (by kernel_rfl)) (hd 6 (by kernel_rfl)) (hd 8 (by kernel_rfl)) (fun _ => (hd 9 (by kernel_rfl))) ex ed
                case start => exact ⟨hH, fun _ => ⟨hH, fun e => ff rfl e, fun e => ff rfl e, fun _ => ⟨none, 0, 0, rfl, rfl, Nat.le_refl _, none_at _⟩, fun _ => ⟨rfl, rfl⟩, fun e => ff rfl e, fun e => ff rfl e, fun e => ff rfl e, fun e => ff rfl e, fun e => ff rfl e, fun e => ff rfl e⟩, fun e => ff rfl e, fun e => ff rfl e, fun e => ff rfl e, fun e => ff rfl e, fun e => ff rfl e, fun e => ff rfl e⟩
                case fin =>
                  intro tm u11 h
                  try dsimp only at h
                  obtain ⟨hbb, hR, hP⟩ := h.fin (by kernel_rfl) (by kernel_rfl)
                  obtain ⟨g11, Az, ca11, Cz, cc11, ed, ex, hx, hm, hy⟩ := hP
                  obtain ⟨y11, ey, hne, hY, haw⟩ := hy rfl
                  simp only [ptr] at ex ey
                  clear h ed hy hm haw hx hne HP HS1
                  simp only [pmA, List.foldl_cons, List.foldl_nil, Act.put, List.setIfInBounds_toArray, List.set_cons_zero, List.set_cons_succ]
                  rw [ex, ey, hR]
                  clear ex ey hR
                  refine wpAnyH_ready (rs := [11]) (by kernel_rfl) (by simp) ?_
                  refine AllReadyH.cons rfl (fun K0 hK => ?_) AllReadyH.nil
                  have HT : Hid (u11.there y11 0 (#[.int .i64 7, .int .u64 0, .int .i64 0] : Array Value).size) := Lib.hid (hY.there (n := 3) rfl)
                  have HO := Lib.hid (reply_one 7 0 0)
                  have kY := hY.setCells (vs := [.int .i64 7, .int .u64 0, .int .i64 0]) rfl
                  have fY := Fnd.setCells y11 [.int .i64 7, .int .u64 0, .int .i64 0] 0 u11
                  refine step_store_mid (by rfl) 40 (.tmp 14) (.tmp 112) (by rfl) y11 0 #[.int .i64 7, .int .u64 0, .int .i64 0] (by rfl) (by rfl) HT.out info_reply HO.out ?_
                  change K0 _ (u11.setCells y11 0 [.int .i64 7, .int .u64 0, .int .i64 0])
                  clear fY HT hY HO
                  generalize u11.setCells y11 0 [.int .i64 7, .int .u64 0, .int .i64 0] = v12 at kY ⊢
                  have hb := kY.bx.old
                  refine hK.out _ _ hb (fun hH => ?_)
                  clear hK K0
                  try simp only [Act.put, List.setIfInBounds_toArray, List.set_cons_zero, List.set_cons_succ, List.getElem_toArray, List.getElem_cons_zero, List.getElem_cons_succ]
                  refine wpAnyH_done (by kernel_rfl) ?_ _
                  have Y_11 := Lib.hid (kY.rebase HW.out)
                  clear kY
                  replace K_s := Lib.hid (K_s.out.on hb)
                  replace Y_6 := Lib.hid (Y_6.out.on hb)
                  replace K_x := Lib.hid (K_x.out.on hb)
                  replace Y_7 := Lib.hid (Y_7.out.on hb)
                  replace Y_8 := Lib.hid (Y_8.out.on hb)
                  replace Y_9 := Lib.hid (Y_9.out.on hb)
                  replace Y_10 := Lib.hid (Y_10.out.on hb)
                  replace O_s := Lib.hid (O_s.out.on hb)
                  replace O_x := Lib.hid (O_x.out.on hb)
                  replace HW := Lib.hid (below_on HW.out hb)
                  clear hb hH hbb
                  go_upto_region 12 with fail
                  have HP : Hid (∀ s', (none : Option St) = some s' → 0 < s'.sl.length ∧ 0 < s'.th.length) := Lib.hid fun s' e => by cases e
                  have HS1 := Lib.hid (⟨O_s.out.lies, km_ge.2.2.1, ks3_len.1.symm, ks3_len.2.symm, by decide, by decide, HC_ks3.out.1, HC_ks3.out.2⟩ : StH _ ks3 2 32 16 (some ⟨P3, 0, none⟩) 32 ca3 (some ⟨Q3, 0, none⟩) 16 cc3)
                  refine wp_region_held_drew (S := fun w' => Below v12.heap.size v12 w') (by kernel_rfl) (below_self v12).drew (fun hH => ?_)
                  refine wpAnyH_take (i := 0) (v := .agg #[.int .i64 2, .int .i64 32, .int .i64 16, .slice (some ⟨P3, 0, none⟩) 32 ca3, .slice (some ⟨Q3, 0, none⟩) 16 cc3]) rfl (by kernel_rfl) (by kernel_rfl) (by kernel_rfl) (fun _ _ _ h => h) (yieldsIf_load_mid (by rfl) 27 (.tmp 1) (by rfl) j0 0 (by rfl) [.int .i64 2, .int .i64 32, .int .i64 16, .slice (some ⟨P3, 0, none⟩) 32 ca3, .slice (some ⟨Q3, 0, none⟩) 16 cc3] _ (fun w hS => ((K_s.out.bx.on hS).range)) Tryz.underlying27 rfl info_state) (by assumption) ?_
                  try simp only [Act.put, List.setIfInBounds_toArray, List.set_cons_zero, List.set_cons_succ, List.getElem_toArray, List.getElem_cons_zero, List.getElem_cons_succ]
                  refine wpAnyH_inv (f0 := 1) [1, 2, 3, 4, 5, 6, 7, 8, 9, 10] [115, 116, 117, 118, 119, 120, 113, 16, 15] (fun l tm w => PHI v12 [1] [] 2 32 16 (some ⟨P3, 0, none⟩) 32 ca3 (some ⟨Q3, 0, none⟩) 16 cc3 none (.agg #[.int .i64 14, .int .u64 0, .int .i64 0]) [.int .i64 0, .int .u64 0, .int .i64 0] false false (fun p q => .agg #[.int .i64 8, flat1 p, flat1 q, .int .i64 0, .int .i64 0, .int .u64 0]) (l 1) (l 2) true true (l 3) (l 4) (l 5) (l 6) (l 7) (l 8) (l 9) (l 10) (tm 115) (tm 116) (.slice none 0 0) (.agg #[(.slice none 0 0)]) (tm 117) (tm 118) (tm 113) (tm 119) (tm 120) (tm 15) (tm 16) w) (by kernel_rfl) (by kernel_rfl) rfl (by decide) (fun l tm w h => h.bb) ?start (AllSteps.cons rfl ?o1 (AllSteps.cons rfl ?o2 (AllSteps.cons rfl ?o3 (AllSteps.cons rfl ?o4 (AllSteps.cons rfl ?o5 (AllSteps.cons rfl ?o6 (AllSteps.cons rfl ?o7 (AllSteps.cons rfl ?o8 (AllSteps.cons rfl ?o9 (AllSteps.cons rfl ?o10 AllSteps.nil)))))))))) ?fin
                  case o1 =>
                    intro l tm w h hl hd K0 hK
                    try dsimp only at h
                    rw [hl] at h
                    have hh := h.addB1 (below_alloc w (.cells #[.int .i64 1] 3)) (lis_one w 1)
                    exact st_run (v := .slice (some ⟨w.heap.size, 0, none⟩) 1 1) (by rfl) (by kernel_rfl) (hK.out _ _ hh)
                  case o2 =>
                    intro l tm w h hl hd K0 hK
                    try dsimp only at h
                    rw [hl] at h
                    have hs := h.early1.1
                    have h0 := h
                    rw [hs] at h0
                    obtain ⟨⟨B, nB, cB, eB, -⟩, -⟩ := h0.way1 (hd 1 (by kernel_rfl))
                    have hc := way18_is (A := B) (n := nB) (cap := cB) w
                    rw [← eB] at hc
                    refine st_call (f := 27) (args := #[(tm 115)]) (w' := w) (by rfl) (by kernel_rfl) (hc.mono ?_)
                    rintro e w1 ⟨rfl, hb⟩
                    exact ⟨_, rfl, hK.out _ _ (h.addW1 (hd 1 (by kernel_rfl)) hb rfl)⟩
                  case o3 =>
                    intro l tm w h hl hd K0 hK
                    try dsimp only at h
                    rw [hl] at h
                    have d1 := hd 2 (by kernel_rfl)
                    have d2 : true = true := rfl
                    have hs : l 10 = false := by rw [Bool.eq_false_iff]; exact fun e => absurd ((h.o e).2.2.2.2.1 rfl) (by decide)
                    have h0 := h
                    rw [hs] at h0
                    obtain ⟨⟨B1, n1, k1, eB1, eN1, eK1, eI1⟩, eW1⟩ := h0.way1 ((h0.rg rfl).w1 d1).1
                    obtain ⟨⟨B2, n2, k2, eB2, eN2, eK2, eI2⟩, eW2⟩ := h0.way2 rfl
                    have hW1 := (eW1 d1).trans (by rw [eB1])
                    have hW2 := (eW2 d2).trans (by rw [eB2])
                    refine st_run (v := (fun p q => .agg #[.int .i64 8, flat1 p, flat1 q, .int .i64 0, .int .i64 0, .int .u64 0]) (tm 116) (.agg #[(.slice none 0 0)])) (w' := w) (by rfl) ?_ (hK.out _ _ (h.addBd d1 d2 rfl))
                    simp only [List.getElem_toArray, List.getElem_cons_zero, List.getElem_cons_succ, pmA, List.foldl_cons, List.foldl_nil, Act.put, List.setIfInBounds_toArray, List.set_cons_zero, List.set_cons_succ]
                    rw [hW1]
                    kernel_rfl
                  case o4 =>
                    intro l tm w h hl hd K0 hK
                    try dsimp only at h
                    rw [hl] at h
                    have d0 := hd 3 (by kernel_rfl)
                    obtain ⟨d1, d2, eBD⟩ := h.e6 d0
                    have hs : l 10 = false := h.notS.1
                    have h0 := h
                    rw [hs] at h0
                    obtain ⟨⟨B1, n1, k1, eB1, eN1, eK1, eI1⟩, eW1⟩ := h0.way1 ((h0.rg rfl).w1 d1).1
                    obtain ⟨⟨B2, n2, k2, eB2, eN2, eK2, eI2⟩, eW2⟩ := h0.way2 rfl
                    have hW1 := (eW1 d1).trans (by rw [eB1])
                    have hW2 := (eW2 d2).trans (by rw [eB2])
                    rw [hW1, hW2] at eBD
                    have hA : #[.agg #[.int .i64 2, .int .i64 32, .int .i64 16, .slice (some ⟨P3, 0, none⟩) 32 ca3, .slice (some ⟨Q3, 0, none⟩) 16 cc3], .int .i64 0, (tm 117)] = #[.agg #[.int .i64 2, .int .i64 32, .int .i64 16, .slice (some ⟨P3, 0, none⟩) 32 ca3, .slice (some ⟨Q3, 0, none⟩) 16 cc3], .int .i64 0, .agg #[.int .i64 8, .slice B1 n1 k1, .slice B2 n2 k2, .int .i64 0, .int .i64 0, .int .u64 0]] := by rw [eBD]; rfl
                    refine st_call (f := 28) (args := #[.agg #[.int .i64 2, .int .i64 32, .int .i64 16, .slice (some ⟨P3, 0, none⟩) 32 ca3, .slice (some ⟨Q3, 0, none⟩) 16 cc3], .int .i64 0, (tm 117)]) (w' := w) (by rfl) (by kernel_rfl) ?_
                    rw [hA]
                    refine (mdo_is (z := 0) (HS1.out.on h.bb) eN1 eK1 eI1 eN2 eK2 eI2 km_g).mono ?_
                    rintro e w1 ⟨A', ca', C', cc', rfl, hb, hm⟩
                    obtain ⟨q1, q2⟩ := resD_of (a := 2) (b := 32) (c := 16) (R := (.agg #[.int .i64 14, .int .u64 0, .int .i64 0])) h.bb.size hm HP.out
                    exact ⟨_, rfl, hK.out _ _ (h.addD hb q1 q2)⟩
                  case o5 =>
                    intro l tm w h hl hd K0 hK
                    try dsimp only at h
                    rw [hl] at h
                    exact st_run (v := tm 118) (w' := w) (by rfl) (by kernel_rfl) (hK.out _ _ (h.addMv (hd 4 (by kernel_rfl)) rfl))
                  case o6 =>
                    intro l tm w h hl hd K0 hK
                    try dsimp only at h
                    rw [hl] at h
                    obtain ⟨A', ca', C', cc', eT, -⟩ := h.tup (hd 5 (by kernel_rfl))
                    refine st_run (v := .agg #[.int .i64 2, .int .i64 32, .int .i64 16, .slice A' 32 ca', .slice C' 16 cc']) (w' := w) (by rfl) ?_ (hK.out _ _ (h.addE1 (hd 5 (by kernel_rfl)) eT))
                    simp only [List.getElem_toArray, List.getElem_cons_zero, List.getElem_cons_succ, pmA, List.foldl_cons, List.foldl_nil, Act.put, List.setIfInBounds_toArray, List.set_cons_zero, List.set_cons_succ]
                    rw [eT]
                    kernel_rfl
                  case o7 =>
                    intro l tm w h hl hd K0 hK
                    try dsimp only at h
                    rw [hl] at h
                    obtain ⟨A', ca', C', cc', eT, -⟩ := h.tup (hd 5 (by kernel_rfl))
                    refine st_run (v := (.agg #[.int .i64 14, .int .u64 0, .int .i64 0])) (w' := w) (by rfl) ?_ (hK.out _ _ (h.addE2 (hd 5 (by kernel_rfl)) eT))
                    simp only [List.getElem_toArray, List.getElem_cons_zero, List.getElem_cons_succ, pmA, List.foldl_cons, List.foldl_nil, Act.put, List.setIfInBounds_toArray, List.set_cons_zero, List.set_cons_succ]
                    rw [eT]
                    kernel_rfl
                  case o8 =>
                    intro l tm w h hl hd K0 hK
                    try dsimp only at h
                    rw [hl] at h
                    have hh := h.addQ HP.out 27
                    exact st_run (v := ptr w.heap.size) (by rfl) (by kernel_rfl) (hK.out _ _ hh)
                  case o9 =>
                    intro l tm w h hl hd K0 hK
                    try dsimp only at h
                    rw [hl] at h
                    have hh := h.addY HP.out 40
                    exact st_run (v := ptr w.heap.size) (by rfl) (by kernel_rfl) (hK.out _ _ hh)
                  case o10 =>
                    intro l tm w h hl hd K0 hK
                    try dsimp only at h
                    rw [hl] at h
                    obtain ⟨x, A', ca', C', cc', ex, e1, ed, hw⟩ := h.atS' (hd 4 (by kernel_rfl)) (hd 5 (by kernel_rfl)) (hd 6 (by kernel_rfl)) (hd 8 (by kernel_rfl))
                    have HT : Hid (w.there x 0 (#[.int .i64 2, .int .i64 32, .int .i64 16, .slice A' 32 ca', .slice C' 16 cc'] : Array Value).size) := Lib.hid (hw.there (n := 5) rfl)
                    have HO := Lib.hid (state_one 2 32 16 A' 32 ca' C' 16 cc')
                    refine st_store (by rfl) 27 (.tmp 15) (.tmp 119) (by rfl) x 0 #[.int .i64 2, .int .i64 32, .int .i64 16, .slice A' 32 ca', .slice C' 16 cc'] ((by kernel_rfl : _ = tm 15).trans ex) ((by kernel_rfl : _ = tm 119).trans e1) HT.out info_state HO.out ?_
                    refine hK.out undef (w.setCells x 0 [.int .i64 2, .int .i64 32, .int .i64 16, .slice A' 32 ca', .slice C' 16 cc']) ?_
                    exact h.addS' (hd 1 (by kernel_rfl)) (hd 2 (by kernel_rfl)) rfl rfl (fun _ => (hd 3 (by kernel_rfl))) (hd 4 (by kernel_rfl)) (hd 5 (by kernel_rfl)) (hd 6 (by kernel_rfl)) (hd 8 (by kernel_rfl)) (fun _ => (hd 9 (by kernel_rfl))) ex ed
                  case start => exact ⟨hH, fun _ => ⟨hH, fun e => ff rfl e, fun e => ff rfl e, fun _ => ⟨none, 0, 0, rfl, rfl, Nat.le_refl _, none_at _⟩, fun _ => ⟨rfl, rfl⟩, fun e => ff rfl e, fun e => ff rfl e, fun e => ff rfl e, fun e => ff rfl e, fun e => ff rfl e, fun e => ff rfl e⟩, fun e => ff rfl e, fun e => ff rfl e, fun e => ff rfl e, fun e => ff rfl e, fun e => ff rfl e, fun e => ff rfl e⟩
                  case fin =>
                    intro tm u12 h
                    try dsimp only at h
                    obtain ⟨hbb, hR, hP⟩ := h.fin (by kernel_rfl) (by kernel_rfl)
                    obtain ⟨g12, Az, ca12, Cz, cc12, ed, ex, hx, hm, hy⟩ := hP
                    obtain ⟨y12, ey, hne, hY, haw⟩ := hy rfl
                    simp only [ptr] at ex ey
                    clear h ed hy hm haw hx hne HP HS1
                    simp only [pmA, List.foldl_cons, List.foldl_nil, Act.put, List.setIfInBounds_toArray, List.set_cons_zero, List.set_cons_succ]
                    rw [ex, ey, hR]
                    clear ex ey hR
                    refine wpAnyH_ready (rs := [11]) (by kernel_rfl) (by simp) ?_
                    refine AllReadyH.cons rfl (fun K0 hK => ?_) AllReadyH.nil
                    have HT : Hid (u12.there y12 0 (#[.int .i64 14, .int .u64 0, .int .i64 0] : Array Value).size) := Lib.hid (hY.there (n := 3) rfl)
                    have HO := Lib.hid (reply_one 14 0 0)
                    have kY := hY.setCells (vs := [.int .i64 14, .int .u64 0, .int .i64 0]) rfl
                    have fY := Fnd.setCells y12 [.int .i64 14, .int .u64 0, .int .i64 0] 0 u12
                    refine step_store_mid (by rfl) 40 (.tmp 16) (.tmp 120) (by rfl) y12 0 #[.int .i64 14, .int .u64 0, .int .i64 0] (by rfl) (by rfl) HT.out info_reply HO.out ?_
                    change K0 _ (u12.setCells y12 0 [.int .i64 14, .int .u64 0, .int .i64 0])
                    clear fY HT hY HO
                    generalize u12.setCells y12 0 [.int .i64 14, .int .u64 0, .int .i64 0] = v13 at kY ⊢
                    have hb := kY.bx.old
                    refine hK.out _ _ hb (fun hH => ?_)
                    clear hK K0
                    try simp only [Act.put, List.setIfInBounds_toArray, List.set_cons_zero, List.set_cons_succ, List.getElem_toArray, List.getElem_cons_zero, List.getElem_cons_succ]
                    refine wpAnyH_done (by kernel_rfl) ?_ _
                    have Y_12 := Lib.hid (kY.rebase HW.out)
                    clear kY
                    replace K_s := Lib.hid (K_s.out.on hb)
                    replace Y_6 := Lib.hid (Y_6.out.on hb)
                    replace K_x := Lib.hid (K_x.out.on hb)
                    replace Y_7 := Lib.hid (Y_7.out.on hb)
                    replace Y_8 := Lib.hid (Y_8.out.on hb)
                    replace Y_9 := Lib.hid (Y_9.out.on hb)
                    replace Y_10 := Lib.hid (Y_10.out.on hb)
                    replace Y_11 := Lib.hid (Y_11.out.on hb)
                    replace O_s := Lib.hid (O_s.out.on hb)
                    replace O_x := Lib.hid (O_x.out.on hb)
                    replace HW := Lib.hid (below_on HW.out hb)
                    clear hb hH hbb
                    go_upto_region 13 with fail
                    have HP : Hid (∀ s', (none : Option St) = some s' → 0 < s'.sl.length ∧ 0 < s'.th.length) := Lib.hid fun s' e => by cases e
                    have HS1 := Lib.hid (⟨O_x.out.lies, km_ge.2.2.2.1, kmx_len.1.symm, kmx_len.2.symm, by decide, by decide, HC_x.out.1, HC_x.out.2⟩ : StH _ kmx 2 32 16 (some ⟨P6, 0, none⟩) 32 ca6 (some ⟨Q6, 0, none⟩) 16 cc6)
                    refine wp_region_held_drew (S := fun w' => Below v13.heap.size v13 w') (by kernel_rfl) (below_self v13).drew (fun hH => ?_)
                    refine wpAnyH_take (i := 0) (v := .agg #[.int .i64 2, .int .i64 32, .int .i64 16, .slice (some ⟨P6, 0, none⟩) 32 ca6, .slice (some ⟨Q6, 0, none⟩) 16 cc6]) rfl (by kernel_rfl) (by kernel_rfl) (by kernel_rfl) (fun _ _ _ h => h) (yieldsIf_load_mid (by rfl) 27 (.tmp 3) (by rfl) g6 0 (by rfl) [.int .i64 2, .int .i64 32, .int .i64 16, .slice (some ⟨P6, 0, none⟩) 32 ca6, .slice (some ⟨Q6, 0, none⟩) 16 cc6] _ (fun w hS => ((K_x.out.bx.on hS).range)) Tryz.underlying27 rfl info_state) (by assumption) ?_
                    try simp only [Act.put, List.setIfInBounds_toArray, List.set_cons_zero, List.set_cons_succ, List.getElem_toArray, List.getElem_cons_zero, List.getElem_cons_succ]
                    refine wpAnyH_inv (f0 := 1) [1, 2, 3, 4, 5, 6, 7, 8, 9, 10] [123, 124, 125, 126, 127, 128, 121, 18, 17] (fun l tm w => PHI v13 [4] [] 2 32 16 (some ⟨P6, 0, none⟩) 32 ca6 (some ⟨Q6, 0, none⟩) 16 cc6 none (.agg #[.int .i64 6, .int .u64 0, .int .i64 0]) [.int .i64 0, .int .u64 0, .int .i64 0] false false (fun p q => .agg #[.int .i64 8, flat1 p, flat1 q, .int .i64 0, .int .i64 0, .int .u64 0]) (l 1) (l 2) true true (l 3) (l 4) (l 5) (l 6) (l 7) (l 8) (l 9) (l 10) (tm 123) (tm 124) (.slice none 0 0) (.agg #[(.slice none 0 0)]) (tm 125) (tm 126) (tm 121) (tm 127) (tm 128) (tm 17) (tm 18) w) (by kernel_rfl) (by kernel_rfl) rfl (by decide) (fun l tm w h => h.bb) ?start (AllSteps.cons rfl ?o1 (AllSteps.cons rfl ?o2 (AllSteps.cons rfl ?o3 (AllSteps.cons rfl ?o4 (AllSteps.cons rfl ?o5 (AllSteps.cons rfl ?o6 (AllSteps.cons rfl ?o7 (AllSteps.cons rfl ?o8 (AllSteps.cons rfl ?o9 (AllSteps.cons rfl ?o10 AllSteps.nil)))))))))) ?fin
                    case o1 =>
                      intro l tm w h hl hd K0 hK
                      try dsimp only at h
                      rw [hl] at h
                      have hh := h.addB1 (below_alloc w (.cells #[.int .i64 4] 3)) (lis_one w 4)
                      exact st_run (v := .slice (some ⟨w.heap.size, 0, none⟩) 1 1) (by rfl) (by kernel_rfl) (hK.out _ _ hh)
                    case o2 =>
                      intro l tm w h hl hd K0 hK
                      try dsimp only at h
                      rw [hl] at h
                      have hs := h.early1.1
                      have h0 := h
                      rw [hs] at h0
                      obtain ⟨⟨B, nB, cB, eB, -⟩, -⟩ := h0.way1 (hd 1 (by kernel_rfl))
                      have hc := way18_is (A := B) (n := nB) (cap := cB) w
                      rw [← eB] at hc
                      refine st_call (f := 27) (args := #[(tm 123)]) (w' := w) (by rfl) (by kernel_rfl) (hc.mono ?_)
                      rintro e w1 ⟨rfl, hb⟩
                      exact ⟨_, rfl, hK.out _ _ (h.addW1 (hd 1 (by kernel_rfl)) hb rfl)⟩
                    case o3 =>
                      intro l tm w h hl hd K0 hK
                      try dsimp only at h
                      rw [hl] at h
                      have d1 := hd 2 (by kernel_rfl)
                      have d2 : true = true := rfl
                      have hs : l 10 = false := by rw [Bool.eq_false_iff]; exact fun e => absurd ((h.o e).2.2.2.2.1 rfl) (by decide)
                      have h0 := h
                      rw [hs] at h0
                      obtain ⟨⟨B1, n1, k1, eB1, eN1, eK1, eI1⟩, eW1⟩ := h0.way1 ((h0.rg rfl).w1 d1).1
                      obtain ⟨⟨B2, n2, k2, eB2, eN2, eK2, eI2⟩, eW2⟩ := h0.way2 rfl
                      have hW1 := (eW1 d1).trans (by rw [eB1])
                      have hW2 := (eW2 d2).trans (by rw [eB2])
                      refine st_run (v := (fun p q => .agg #[.int .i64 8, flat1 p, flat1 q, .int .i64 0, .int .i64 0, .int .u64 0]) (tm 124) (.agg #[(.slice none 0 0)])) (w' := w) (by rfl) ?_ (hK.out _ _ (h.addBd d1 d2 rfl))
                      simp only [List.getElem_toArray, List.getElem_cons_zero, List.getElem_cons_succ, pmA, List.foldl_cons, List.foldl_nil, Act.put, List.setIfInBounds_toArray, List.set_cons_zero, List.set_cons_succ]
                      rw [hW1]
                      kernel_rfl
                    case o4 =>
                      intro l tm w h hl hd K0 hK
                      try dsimp only at h
                      rw [hl] at h
                      have d0 := hd 3 (by kernel_rfl)
                      obtain ⟨d1, d2, eBD⟩ := h.e6 d0
                      have hs : l 10 = false := h.notS.1
                      have h0 := h
                      rw [hs] at h0
                      obtain ⟨⟨B1, n1, k1, eB1, eN1, eK1, eI1⟩, eW1⟩ := h0.way1 ((h0.rg rfl).w1 d1).1
                      obtain ⟨⟨B2, n2, k2, eB2, eN2, eK2, eI2⟩, eW2⟩ := h0.way2 rfl
                      have hW1 := (eW1 d1).trans (by rw [eB1])
                      have hW2 := (eW2 d2).trans (by rw [eB2])
                      rw [hW1, hW2] at eBD
                      have hA : #[.agg #[.int .i64 2, .int .i64 32, .int .i64 16, .slice (some ⟨P6, 0, none⟩) 32 ca6, .slice (some ⟨Q6, 0, none⟩) 16 cc6], .int .i64 0, (tm 125)] = #[.agg #[.int .i64 2, .int .i64 32, .int .i64 16, .slice (some ⟨P6, 0, none⟩) 32 ca6, .slice (some ⟨Q6, 0, none⟩) 16 cc6], .int .i64 0, .agg #[.int .i64 8, .slice B1 n1 k1, .slice B2 n2 k2, .int .i64 0, .int .i64 0, .int .u64 0]] := by rw [eBD]; rfl
                      refine st_call (f := 28) (args := #[.agg #[.int .i64 2, .int .i64 32, .int .i64 16, .slice (some ⟨P6, 0, none⟩) 32 ca6, .slice (some ⟨Q6, 0, none⟩) 16 cc6], .int .i64 0, (tm 125)]) (w' := w) (by rfl) (by kernel_rfl) ?_
                      rw [hA]
                      refine (mdo_is (z := 0) (HS1.out.on h.bb) eN1 eK1 eI1 eN2 eK2 eI2 km_h).mono ?_
                      rintro e w1 ⟨A', ca', C', cc', rfl, hb, hm⟩
                      obtain ⟨q1, q2⟩ := resD_of (a := 2) (b := 32) (c := 16) (R := (.agg #[.int .i64 6, .int .u64 0, .int .i64 0])) h.bb.size hm HP.out
                      exact ⟨_, rfl, hK.out _ _ (h.addD hb q1 q2)⟩
                    case o5 =>
                      intro l tm w h hl hd K0 hK
                      try dsimp only at h
                      rw [hl] at h
                      exact st_run (v := tm 126) (w' := w) (by rfl) (by kernel_rfl) (hK.out _ _ (h.addMv (hd 4 (by kernel_rfl)) rfl))
                    case o6 =>
                      intro l tm w h hl hd K0 hK
                      try dsimp only at h
                      rw [hl] at h
                      obtain ⟨A', ca', C', cc', eT, -⟩ := h.tup (hd 5 (by kernel_rfl))
                      refine st_run (v := .agg #[.int .i64 2, .int .i64 32, .int .i64 16, .slice A' 32 ca', .slice C' 16 cc']) (w' := w) (by rfl) ?_ (hK.out _ _ (h.addE1 (hd 5 (by kernel_rfl)) eT))
                      simp only [List.getElem_toArray, List.getElem_cons_zero, List.getElem_cons_succ, pmA, List.foldl_cons, List.foldl_nil, Act.put, List.setIfInBounds_toArray, List.set_cons_zero, List.set_cons_succ]
                      rw [eT]
                      kernel_rfl
                    case o7 =>
                      intro l tm w h hl hd K0 hK
                      try dsimp only at h
                      rw [hl] at h
                      obtain ⟨A', ca', C', cc', eT, -⟩ := h.tup (hd 5 (by kernel_rfl))
                      refine st_run (v := (.agg #[.int .i64 6, .int .u64 0, .int .i64 0])) (w' := w) (by rfl) ?_ (hK.out _ _ (h.addE2 (hd 5 (by kernel_rfl)) eT))
                      simp only [List.getElem_toArray, List.getElem_cons_zero, List.getElem_cons_succ, pmA, List.foldl_cons, List.foldl_nil, Act.put, List.setIfInBounds_toArray, List.set_cons_zero, List.set_cons_succ]
                      rw [eT]
                      kernel_rfl
                    case o8 =>
                      intro l tm w h hl hd K0 hK
                      try dsimp only at h
                      rw [hl] at h
                      have hh := h.addQ HP.out 27
                      exact st_run (v := ptr w.heap.size) (by rfl) (by kernel_rfl) (hK.out _ _ hh)
                    case o9 =>
                      intro l tm w h hl hd K0 hK
                      try dsimp only at h
                      rw [hl] at h
                      have hh := h.addY HP.out 40
                      exact st_run (v := ptr w.heap.size) (by rfl) (by kernel_rfl) (hK.out _ _ hh)
                    case o10 =>
                      intro l tm w h hl hd K0 hK
                      try dsimp only at h
                      rw [hl] at h
                      obtain ⟨x, A', ca', C', cc', ex, e1, ed, hw⟩ := h.atS' (hd 4 (by kernel_rfl)) (hd 5 (by kernel_rfl)) (hd 6 (by kernel_rfl)) (hd 8 (by kernel_rfl))
                      have HT : Hid (w.there x 0 (#[.int .i64 2, .int .i64 32, .int .i64 16, .slice A' 32 ca', .slice C' 16 cc'] : Array Value).size) := Lib.hid (hw.there (n := 5) rfl)
                      have HO := Lib.hid (state_one 2 32 16 A' 32 ca' C' 16 cc')
                      refine st_store (by rfl) 27 (.tmp 17) (.tmp 127) (by rfl) x 0 #[.int .i64 2, .int .i64 32, .int .i64 16, .slice A' 32 ca', .slice C' 16 cc'] ((by kernel_rfl : _ = tm 17).trans ex) ((by kernel_rfl : _ = tm 127).trans e1) HT.out info_state HO.out ?_
                      refine hK.out undef (w.setCells x 0 [.int .i64 2, .int .i64 32, .int .i64 16, .slice A' 32 ca', .slice C' 16 cc']) ?_
                      exact h.addS' (hd 1 (by kernel_rfl)) (hd 2 (by kernel_rfl)) rfl rfl (fun _ => (hd 3 (by kernel_rfl))) (hd 4 (by kernel_rfl)) (hd 5 (by kernel_rfl)) (hd 6 (by kernel_rfl)) (hd 8 (by kernel_rfl)) (fun _ => (hd 9 (by kernel_rfl))) ex ed
                    case start => exact ⟨hH, fun _ => ⟨hH, fun e => ff rfl e, fun e => ff rfl e, fun _ => ⟨none, 0, 0, rfl, rfl, Nat.le_refl _, none_at _⟩, fun _ => ⟨rfl, rfl⟩, fun e => ff rfl e, fun e => ff rfl e, fun e => ff rfl e, fun e => ff rfl e, fun e => ff rfl e, fun e => ff rfl e⟩, fun e => ff rfl e, fun e => ff rfl e, fun e => ff rfl e, fun e => ff rfl e, fun e => ff rfl e, fun e => ff rfl e⟩
                    case fin =>
                      intro tm u13 h
                      try dsimp only at h
                      obtain ⟨hbb, hR, hP⟩ := h.fin (by kernel_rfl) (by kernel_rfl)
                      obtain ⟨g13, Az, ca13, Cz, cc13, ed, ex, hx, hm, hy⟩ := hP
                      obtain ⟨y13, ey, hne, hY, haw⟩ := hy rfl
                      simp only [ptr] at ex ey
                      clear h ed hy hm haw hx hne HP HS1
                      simp only [pmA, List.foldl_cons, List.foldl_nil, Act.put, List.setIfInBounds_toArray, List.set_cons_zero, List.set_cons_succ]
                      rw [ex, ey, hR]
                      clear ex ey hR
                      refine wpAnyH_ready (rs := [11]) (by kernel_rfl) (by simp) ?_
                      refine AllReadyH.cons rfl (fun K0 hK => ?_) AllReadyH.nil
                      have HT : Hid (u13.there y13 0 (#[.int .i64 6, .int .u64 0, .int .i64 0] : Array Value).size) := Lib.hid (hY.there (n := 3) rfl)
                      have HO := Lib.hid (reply_one 6 0 0)
                      have kY := hY.setCells (vs := [.int .i64 6, .int .u64 0, .int .i64 0]) rfl
                      have fY := Fnd.setCells y13 [.int .i64 6, .int .u64 0, .int .i64 0] 0 u13
                      refine step_store_mid (by rfl) 40 (.tmp 18) (.tmp 128) (by rfl) y13 0 #[.int .i64 6, .int .u64 0, .int .i64 0] (by rfl) (by rfl) HT.out info_reply HO.out ?_
                      change K0 _ (u13.setCells y13 0 [.int .i64 6, .int .u64 0, .int .i64 0])
                      clear fY HT hY HO
                      generalize u13.setCells y13 0 [.int .i64 6, .int .u64 0, .int .i64 0] = v14 at kY ⊢
                      have hb := kY.bx.old
                      refine hK.out _ _ hb (fun hH => ?_)
                      clear hK K0
                      try simp only [Act.put, List.setIfInBounds_toArray, List.set_cons_zero, List.set_cons_succ, List.getElem_toArray, List.getElem_cons_zero, List.getElem_cons_succ]
                      refine wpAnyH_done (by kernel_rfl) ?_ _
                      have Y_13 := Lib.hid (kY.rebase HW.out)
                      clear kY
                      replace K_s := Lib.hid (K_s.out.on hb)
                      replace Y_6 := Lib.hid (Y_6.out.on hb)
                      replace K_x := Lib.hid (K_x.out.on hb)
                      replace Y_7 := Lib.hid (Y_7.out.on hb)
                      replace Y_8 := Lib.hid (Y_8.out.on hb)
                      replace Y_9 := Lib.hid (Y_9.out.on hb)
                      replace Y_10 := Lib.hid (Y_10.out.on hb)
                      replace Y_11 := Lib.hid (Y_11.out.on hb)
                      replace Y_12 := Lib.hid (Y_12.out.on hb)
                      replace O_s := Lib.hid (O_s.out.on hb)
                      replace O_x := Lib.hid (O_x.out.on hb)
                      replace HW := Lib.hid (below_on HW.out hb)
                      clear hb hH hbb
                      go_upto_region 14 with fail
                      have HP : Hid (∀ s', some kmy = some s' → 0 < s'.sl.length ∧ 0 < s'.th.length) := Lib.hid fun s' e => by
                        injection e with e
                        rw [← e, kmy_len.1, kmy_len.2]
                        decide
                      have HS1 := Lib.hid (⟨O_x.out.lies, km_ge.2.2.2.1, kmx_len.1.symm, kmx_len.2.symm, by decide, by decide, HC_x.out.1, HC_x.out.2⟩ : StH _ kmx 2 32 16 (some ⟨P6, 0, none⟩) 32 ca6 (some ⟨Q6, 0, none⟩) 16 cc6)
                      refine wp_region_held_drew (S := fun w' => Below v14.heap.size v14 w') (by kernel_rfl) (below_self v14).drew (fun hH => ?_)
                      refine wpAnyH_take (i := 0) (v := .agg #[.int .i64 2, .int .i64 32, .int .i64 16, .slice (some ⟨P6, 0, none⟩) 32 ca6, .slice (some ⟨Q6, 0, none⟩) 16 cc6]) rfl (by kernel_rfl) (by kernel_rfl) (by kernel_rfl) (fun _ _ _ h => h) (yieldsIf_load_mid (by rfl) 27 (.tmp 3) (by rfl) g6 0 (by rfl) [.int .i64 2, .int .i64 32, .int .i64 16, .slice (some ⟨P6, 0, none⟩) 32 ca6, .slice (some ⟨Q6, 0, none⟩) 16 cc6] _ (fun w hS => ((K_x.out.bx.on hS).range)) Tryz.underlying27 rfl info_state) (by assumption) ?_
                      try simp only [Act.put, List.setIfInBounds_toArray, List.set_cons_zero, List.set_cons_succ, List.getElem_toArray, List.getElem_cons_zero, List.getElem_cons_succ]
                      refine wpAnyH_inv (f0 := 1) [1, 2, 3, 4, 5, 6, 7, 8, 9, 10, 11, 12] [131, 132, 133, 134, 135, 136, 137, 138, 129, 20, 19] (fun l tm w => PHI v14 [1] [5] 2 32 16 (some ⟨P6, 0, none⟩) 32 ca6 (some ⟨Q6, 0, none⟩) 16 cc6 (some kmy) (.agg #[.int .i64 0, .int .u64 7, .int .i64 9]) [.int .i64 0, .int .u64 0, .int .i64 0] false false (fun p q => .agg #[.int .i64 8, flat1 p, flat1 q, .int .i64 0, .int .i64 0, .int .u64 0]) (l 1) (l 2) (l 3) (l 4) (l 5) (l 6) (l 7) (l 8) (l 9) (l 10) (l 11) (l 12) (tm 131) (tm 132) (tm 133) (tm 134) (tm 135) (tm 136) (tm 129) (tm 137) (tm 138) (tm 19) (tm 20) w) (by kernel_rfl) (by kernel_rfl) rfl (by decide) (fun l tm w h => h.bb) ?start (AllSteps.cons rfl ?o1 (AllSteps.cons rfl ?o2 (AllSteps.cons rfl ?o3 (AllSteps.cons rfl ?o4 (AllSteps.cons rfl ?o5 (AllSteps.cons rfl ?o6 (AllSteps.cons rfl ?o7 (AllSteps.cons rfl ?o8 (AllSteps.cons rfl ?o9 (AllSteps.cons rfl ?o10 (AllSteps.cons rfl ?o11 (AllSteps.cons rfl ?o12 AllSteps.nil)))))))))))) ?fin
                      case o1 =>
                        intro l tm w h hl hd K0 hK
                        try dsimp only at h
                        rw [hl] at h
                        have hh := h.addB1 (below_alloc w (.cells #[.int .i64 1] 3)) (lis_one w 1)
                        exact st_run (v := .slice (some ⟨w.heap.size, 0, none⟩) 1 1) (by rfl) (by kernel_rfl) (hK.out _ _ hh)
                      case o2 =>
                        intro l tm w h hl hd K0 hK
                        try dsimp only at h
                        rw [hl] at h
                        have hs := h.early1.1
                        have h0 := h
                        rw [hs] at h0
                        obtain ⟨⟨B, nB, cB, eB, -⟩, -⟩ := h0.way1 (hd 1 (by kernel_rfl))
                        have hc := way18_is (A := B) (n := nB) (cap := cB) w
                        rw [← eB] at hc
                        refine st_call (f := 27) (args := #[(tm 131)]) (w' := w) (by rfl) (by kernel_rfl) (hc.mono ?_)
                        rintro e w1 ⟨rfl, hb⟩
                        exact ⟨_, rfl, hK.out _ _ (h.addW1 (hd 1 (by kernel_rfl)) hb rfl)⟩
                      case o3 =>
                        intro l tm w h hl hd K0 hK
                        try dsimp only at h
                        rw [hl] at h
                        have hh := h.addB2 (below_alloc w (.cells #[.int .i64 5] 3)) (lis_one w 5)
                        exact st_run (v := .slice (some ⟨w.heap.size, 0, none⟩) 1 1) (by rfl) (by kernel_rfl) (hK.out _ _ hh)
                      case o4 =>
                        intro l tm w h hl hd K0 hK
                        try dsimp only at h
                        rw [hl] at h
                        have hs := h.early2.1
                        have h0 := h
                        rw [hs] at h0
                        obtain ⟨⟨B, nB, cB, eB, -⟩, -⟩ := h0.way2 (hd 3 (by kernel_rfl))
                        have hc := way18_is (A := B) (n := nB) (cap := cB) w
                        rw [← eB] at hc
                        refine st_call (f := 27) (args := #[(tm 133)]) (w' := w) (by rfl) (by kernel_rfl) (hc.mono ?_)
                        rintro e w1 ⟨rfl, hb⟩
                        exact ⟨_, rfl, hK.out _ _ (h.addW2 (hd 3 (by kernel_rfl)) hb rfl)⟩
                      case o5 =>
                        intro l tm w h hl hd K0 hK
                        try dsimp only at h
                        rw [hl] at h
                        have d1 := hd 2 (by kernel_rfl)
                        have d2 := hd 4 (by kernel_rfl)
                        have hs : l 12 = false := by rw [Bool.eq_false_iff]; exact fun e => absurd ((h.o e).2.2.2.2.1 rfl) (by decide)
                        have h0 := h
                        rw [hs] at h0
                        obtain ⟨⟨B1, n1, k1, eB1, eN1, eK1, eI1⟩, eW1⟩ := h0.way1 ((h0.rg rfl).w1 d1).1
                        obtain ⟨⟨B2, n2, k2, eB2, eN2, eK2, eI2⟩, eW2⟩ := h0.way2 ((h0.rg rfl).w2 d2).1
                        have hW1 := (eW1 d1).trans (by rw [eB1])
                        have hW2 := (eW2 d2).trans (by rw [eB2])
                        refine st_run (v := (fun p q => .agg #[.int .i64 8, flat1 p, flat1 q, .int .i64 0, .int .i64 0, .int .u64 0]) (tm 132) (tm 134)) (w' := w) (by rfl) ?_ (hK.out _ _ (h.addBd d1 d2 rfl))
                        simp only [List.getElem_toArray, List.getElem_cons_zero, List.getElem_cons_succ, pmA, List.foldl_cons, List.foldl_nil, Act.put, List.setIfInBounds_toArray, List.set_cons_zero, List.set_cons_succ]
                        rw [hW1, hW2]
                        kernel_rfl
                      case o6 =>
                        intro l tm w h hl hd K0 hK
                        try dsimp only at h
                        rw [hl] at h
                        have d0 := hd 5 (by kernel_rfl)
                        obtain ⟨d1, d2, eBD⟩ := h.e6 d0
                        have hs : l 12 = false := h.notS.1
                        have h0 := h
                        rw [hs] at h0
                        obtain ⟨⟨B1, n1, k1, eB1, eN1, eK1, eI1⟩, eW1⟩ := h0.way1 ((h0.rg rfl).w1 d1).1
                        obtain ⟨⟨B2, n2, k2, eB2, eN2, eK2, eI2⟩, eW2⟩ := h0.way2 ((h0.rg rfl).w2 d2).1
                        have hW1 := (eW1 d1).trans (by rw [eB1])
                        have hW2 := (eW2 d2).trans (by rw [eB2])
                        rw [hW1, hW2] at eBD
                        have hA : #[.agg #[.int .i64 2, .int .i64 32, .int .i64 16, .slice (some ⟨P6, 0, none⟩) 32 ca6, .slice (some ⟨Q6, 0, none⟩) 16 cc6], .int .i64 1, (tm 135)] = #[.agg #[.int .i64 2, .int .i64 32, .int .i64 16, .slice (some ⟨P6, 0, none⟩) 32 ca6, .slice (some ⟨Q6, 0, none⟩) 16 cc6], .int .i64 1, .agg #[.int .i64 8, .slice B1 n1 k1, .slice B2 n2 k2, .int .i64 0, .int .i64 0, .int .u64 0]] := by rw [eBD]; rfl
                        refine st_call (f := 28) (args := #[.agg #[.int .i64 2, .int .i64 32, .int .i64 16, .slice (some ⟨P6, 0, none⟩) 32 ca6, .slice (some ⟨Q6, 0, none⟩) 16 cc6], .int .i64 1, (tm 135)]) (w' := w) (by rfl) (by kernel_rfl) ?_
                        rw [hA]
                        refine (mdo_is (z := 0) (HS1.out.on h.bb) eN1 eK1 eI1 eN2 eK2 eI2 km_i).mono ?_
                        rintro e w1 ⟨A', ca', C', cc', rfl, hb, hm⟩
                        obtain ⟨q1, q2⟩ := resD_of (a := 2) (b := 32) (c := 16) (R := (.agg #[.int .i64 0, .int .u64 7, .int .i64 9])) h.bb.size hm HP.out
                        exact ⟨_, rfl, hK.out _ _ (h.addD hb q1 q2)⟩
                      case o7 =>
                        intro l tm w h hl hd K0 hK
                        try dsimp only at h
                        rw [hl] at h
                        exact st_run (v := tm 136) (w' := w) (by rfl) (by kernel_rfl) (hK.out _ _ (h.addMv (hd 6 (by kernel_rfl)) rfl))
                      case o8 =>
                        intro l tm w h hl hd K0 hK
                        try dsimp only at h
                        rw [hl] at h
                        obtain ⟨A', ca', C', cc', eT, -⟩ := h.tup (hd 7 (by kernel_rfl))
                        refine st_run (v := .agg #[.int .i64 2, .int .i64 32, .int .i64 16, .slice A' 32 ca', .slice C' 16 cc']) (w' := w) (by rfl) ?_ (hK.out _ _ (h.addE1 (hd 7 (by kernel_rfl)) eT))
                        simp only [List.getElem_toArray, List.getElem_cons_zero, List.getElem_cons_succ, pmA, List.foldl_cons, List.foldl_nil, Act.put, List.setIfInBounds_toArray, List.set_cons_zero, List.set_cons_succ]
                        rw [eT]
                        kernel_rfl
                      case o9 =>
                        intro l tm w h hl hd K0 hK
                        try dsimp only at h
                        rw [hl] at h
                        obtain ⟨A', ca', C', cc', eT, -⟩ := h.tup (hd 7 (by kernel_rfl))
                        refine st_run (v := (.agg #[.int .i64 0, .int .u64 7, .int .i64 9])) (w' := w) (by rfl) ?_ (hK.out _ _ (h.addE2 (hd 7 (by kernel_rfl)) eT))
                        simp only [List.getElem_toArray, List.getElem_cons_zero, List.getElem_cons_succ, pmA, List.foldl_cons, List.foldl_nil, Act.put, List.setIfInBounds_toArray, List.set_cons_zero, List.set_cons_succ]
                        rw [eT]
                        kernel_rfl
                      case o10 =>
                        intro l tm w h hl hd K0 hK
                        try dsimp only at h
                        rw [hl] at h
                        have hh := h.addQ HP.out 27
                        exact st_run (v := ptr w.heap.size) (by rfl) (by kernel_rfl) (hK.out _ _ hh)
                      case o11 =>
                        intro l tm w h hl hd K0 hK
                        try dsimp only at h
                        rw [hl] at h
                        have hh := h.addY HP.out 40
                        exact st_run (v := ptr w.heap.size) (by rfl) (by kernel_rfl) (hK.out _ _ hh)
                      case o12 =>
                        intro l tm w h hl hd K0 hK
                        try dsimp only at h
                        rw [hl] at h
                        obtain ⟨x, A', ca', C', cc', ex, e1, ed, hw⟩ := h.atS' (hd 6 (by kernel_rfl)) (hd 7 (by kernel_rfl)) (hd 8 (by kernel_rfl)) (hd 10 (by kernel_rfl))
                        have HT : Hid (w.there x 0 (#[.int .i64 2, .int .i64 32, .int .i64 16, .slice A' 32 ca', .slice C' 16 cc'] : Array Value).size) := Lib.hid (hw.there (n := 5) rfl)
                        have HO := Lib.hid (state_one 2 32 16 A' 32 ca' C' 16 cc')
                        refine st_store (by rfl) 27 (.tmp 19) (.tmp 137) (by rfl) x 0 #[.int .i64 2, .int .i64 32, .int .i64 16, .slice A' 32 ca', .slice C' 16 cc'] ((by kernel_rfl : _ = tm 19).trans ex) ((by kernel_rfl : _ = tm 137).trans e1) HT.out info_state HO.out ?_
                        refine hK.out undef (w.setCells x 0 [.int .i64 2, .int .i64 32, .int .i64 16, .slice A' 32 ca', .slice C' 16 cc']) ?_
                        exact h.addS' (hd 1 (by kernel_rfl)) (hd 2 (by kernel_rfl)) (hd 3 (by kernel_rfl)) (hd 4 (by kernel_rfl)) (fun _ => (hd 5 (by kernel_rfl))) (hd 6 (by kernel_rfl)) (hd 7 (by kernel_rfl)) (hd 8 (by kernel_rfl)) (hd 10 (by kernel_rfl)) (fun _ => (hd 11 (by kernel_rfl))) ex ed
                      case start => exact ⟨hH, fun _ => ⟨hH, fun e => ff rfl e, fun e => ff rfl e, fun e => ff rfl e, fun e => ff rfl e, fun e => ff rfl e, fun e => ff rfl e, fun e => ff rfl e, fun e => ff rfl e, fun e => ff rfl e, fun e => ff rfl e⟩, fun e => ff rfl e, fun e => ff rfl e, fun e => ff rfl e, fun e => ff rfl e, fun e => ff rfl e, fun e => ff rfl e⟩
                      case fin =>
                        intro tm u14 h
                        try dsimp only at h
                        obtain ⟨hbb, hR, hP⟩ := h.fin (by kernel_rfl) (by kernel_rfl)
                        obtain ⟨g14, Az, ca14, Cz, cc14, ed, ex, hx, hm, hy⟩ := hP
                        obtain ⟨y14, ey, hne, hY, haw⟩ := hy rfl
                        simp only [ptr] at ex ey
                        obtain ⟨hca, hcc, hF⟩ := hm
                        obtain ⟨P14, Q14, rfl, rfl, hO⟩ := hF.ost (by rw [kmy_len.1]; decide) (by rw [kmy_len.2]; decide) hbb
                        have hfar := haw _ rfl
                        have f1 : P14 ≠ y14 := hfar.1 P14 rfl
                        have f2 : Q14 ≠ y14 := hfar.2 Q14 rfl
                        have HC_y := Lib.hid (⟨hca, hcc⟩ : 32 ≤ ca14 ∧ 16 ≤ cc14)
                        clear h ed hy hF haw hfar hca hcc HP HS1
                        simp only [pmA, List.foldl_cons, List.foldl_nil, Act.put, List.setIfInBounds_toArray, List.set_cons_zero, List.set_cons_succ]
                        rw [ex, ey, hR]
                        clear ex ey hR
                        refine wpAnyH_ready (rs := [13]) (by kernel_rfl) (by simp) ?_
                        refine AllReadyH.cons rfl (fun K0 hK => ?_) AllReadyH.nil
                        have HT : Hid (u14.there y14 0 (#[.int .i64 0, .int .u64 7, .int .i64 9] : Array Value).size) := Lib.hid (hY.there (n := 3) rfl)
                        have HO := Lib.hid (reply_one 0 7 9)
                        have kY := hY.setCells (vs := [.int .i64 0, .int .u64 7, .int .i64 9]) rfl
                        have fY := Fnd.setCells y14 [.int .i64 0, .int .u64 7, .int .i64 9] 0 u14
                        have kX := hx.fnd fY hne.symm kY.bx.old
                        have oX := hO.step fY f1 f2 kY.bx.old
                        refine step_store_mid (by rfl) 40 (.tmp 20) (.tmp 138) (by rfl) y14 0 #[.int .i64 0, .int .u64 7, .int .i64 9] (by rfl) (by rfl) HT.out info_reply HO.out ?_
                        change K0 _ (u14.setCells y14 0 [.int .i64 0, .int .u64 7, .int .i64 9])
                        clear fY HT hY HO f1 f2 hne hx hO
                        generalize u14.setCells y14 0 [.int .i64 0, .int .u64 7, .int .i64 9] = v15 at kY kX oX ⊢
                        have hb := kY.bx.old
                        refine hK.out _ _ hb (fun hH => ?_)
                        clear hK K0
                        try simp only [Act.put, List.setIfInBounds_toArray, List.set_cons_zero, List.set_cons_succ, List.getElem_toArray, List.getElem_cons_zero, List.getElem_cons_succ]
                        refine wpAnyH_done (by kernel_rfl) ?_ _
                        have Y_14 := Lib.hid (kY.rebase HW.out)
                        have K_y := Lib.hid (kX.rebase HW.out)
                        have O_y := Lib.hid (oX.base HW.out)
                        clear kX oX
                        clear kY
                        replace K_s := Lib.hid (K_s.out.on hb)
                        replace Y_6 := Lib.hid (Y_6.out.on hb)
                        replace K_x := Lib.hid (K_x.out.on hb)
                        replace Y_7 := Lib.hid (Y_7.out.on hb)
                        replace Y_8 := Lib.hid (Y_8.out.on hb)
                        replace Y_9 := Lib.hid (Y_9.out.on hb)
                        replace Y_10 := Lib.hid (Y_10.out.on hb)
                        replace Y_11 := Lib.hid (Y_11.out.on hb)
                        replace Y_12 := Lib.hid (Y_12.out.on hb)
                        replace Y_13 := Lib.hid (Y_13.out.on hb)
                        replace O_s := Lib.hid (O_s.out.on hb)
                        replace O_x := Lib.hid (O_x.out.on hb)
                        replace HW := Lib.hid (below_on HW.out hb)
                        clear hb hH hbb
                        go_upto_region 15 with fail
                        have HP : Hid (∀ s', (none : Option St) = some s' → 0 < s'.sl.length ∧ 0 < s'.th.length) := Lib.hid fun s' e => by cases e
                        have HS1 := Lib.hid (⟨O_x.out.lies, km_ge.2.2.2.1, kmx_len.1.symm, kmx_len.2.symm, by decide, by decide, HC_x.out.1, HC_x.out.2⟩ : StH _ kmx 2 32 16 (some ⟨P6, 0, none⟩) 32 ca6 (some ⟨Q6, 0, none⟩) 16 cc6)
                        refine wp_region_held_drew (S := fun w' => Below v15.heap.size v15 w') (by kernel_rfl) (below_self v15).drew (fun hH => ?_)
                        refine wpAnyH_take (i := 0) (v := .agg #[.int .i64 2, .int .i64 32, .int .i64 16, .slice (some ⟨P6, 0, none⟩) 32 ca6, .slice (some ⟨Q6, 0, none⟩) 16 cc6]) rfl (by kernel_rfl) (by kernel_rfl) (by kernel_rfl) (fun _ _ _ h => h) (yieldsIf_load_mid (by rfl) 27 (.tmp 3) (by rfl) g6 0 (by rfl) [.int .i64 2, .int .i64 32, .int .i64 16, .slice (some ⟨P6, 0, none⟩) 32 ca6, .slice (some ⟨Q6, 0, none⟩) 16 cc6] _ (fun w hS => ((K_x.out.bx.on hS).range)) Tryz.underlying27 rfl info_state) (by assumption) ?_
                        try simp only [Act.put, List.setIfInBounds_toArray, List.set_cons_zero, List.set_cons_succ, List.getElem_toArray, List.getElem_cons_zero, List.getElem_cons_succ]
                        refine wpAnyH_inv (f0 := 1) [1, 2, 3, 4, 5, 6, 7, 8, 9, 10, 11, 12] [141, 142, 143, 144, 145, 146, 147, 148, 139, 22, 21] (fun l tm w => PHI v15 [1] [1] 2 32 16 (some ⟨P6, 0, none⟩) 32 ca6 (some ⟨Q6, 0, none⟩) 16 cc6 none (.agg #[.int .i64 5, .int .u64 0, .int .i64 0]) [.int .i64 0, .int .u64 0, .int .i64 0] false false (fun p q => .agg #[.int .i64 8, flat1 p, flat1 q, .int .i64 0, .int .i64 0, .int .u64 0]) (l 1) (l 2) (l 3) (l 4) (l 5) (l 6) (l 7) (l 8) (l 9) (l 10) (l 11) (l 12) (tm 141) (tm 142) (tm 143) (tm 144) (tm 145) (tm 146) (tm 139) (tm 147) (tm 148) (tm 21) (tm 22) w) (by kernel_rfl) (by kernel_rfl) rfl (by decide) (fun l tm w h => h.bb) ?start (AllSteps.cons rfl ?o1 (AllSteps.cons rfl ?o2 (AllSteps.cons rfl ?o3 (AllSteps.cons rfl ?o4 (AllSteps.cons rfl ?o5 (AllSteps.cons rfl ?o6 (AllSteps.cons rfl ?o7 (AllSteps.cons rfl ?o8 (AllSteps.cons rfl ?o9 (AllSteps.cons rfl ?o10 (AllSteps.cons rfl ?o11 (AllSteps.cons rfl ?o12 AllSteps.nil)))))))))))) ?fin
                        case o1 =>
                          intro l tm w h hl hd K0 hK
                          try dsimp only at h
                          rw [hl] at h
                          have hh := h.addB1 (below_alloc w (.cells #[.int .i64 1] 3)) (lis_one w 1)
                          exact st_run (v := .slice (some ⟨w.heap.size, 0, none⟩) 1 1) (by rfl) (by kernel_rfl) (hK.out _ _ hh)
                        case o2 =>
                          intro l tm w h hl hd K0 hK
                          try dsimp only at h
                          rw [hl] at h
                          have hs := h.early1.1
                          have h0 := h
                          rw [hs] at h0
                          obtain ⟨⟨B, nB, cB, eB, -⟩, -⟩ := h0.way1 (hd 1 (by kernel_rfl))
                          have hc := way18_is (A := B) (n := nB) (cap := cB) w
                          rw [← eB] at hc
                          refine st_call (f := 27) (args := #[(tm 141)]) (w' := w) (by rfl) (by kernel_rfl) (hc.mono ?_)
                          rintro e w1 ⟨rfl, hb⟩
                          exact ⟨_, rfl, hK.out _ _ (h.addW1 (hd 1 (by kernel_rfl)) hb rfl)⟩
                        case o3 =>
                          intro l tm w h hl hd K0 hK
                          try dsimp only at h
                          rw [hl] at h
                          have hh := h.addB2 (below_alloc w (.cells #[.int .i64 1] 3)) (lis_one w 1)
                          exact st_run (v := .slice (some ⟨w.heap.size, 0, none⟩) 1 1) (by rfl) (by kernel_rfl) (hK.out _ _ hh)
                        case o4 =>
                          intro l tm w h hl hd K0 hK
                          try dsimp only at h
                          rw [hl] at h
                          have hs := h.early2.1
                          have h0 := h
                          rw [hs] at h0
                          obtain ⟨⟨B, nB, cB, eB, -⟩, -⟩ := h0.way2 (hd 3 (by kernel_rfl))
                          have hc := way18_is (A := B) (n := nB) (cap := cB) w
                          rw [← eB] at hc
                          refine st_call (f := 27) (args := #[(tm 143)]) (w' := w) (by rfl) (by kernel_rfl) (hc.mono ?_)
                          rintro e w1 ⟨rfl, hb⟩
                          exact ⟨_, rfl, hK.out _ _ (h.addW2 (hd 3 (by kernel_rfl)) hb rfl)⟩
                        case o5 =>
                          intro l tm w h hl hd K0 hK
                          try dsimp only at h
                          rw [hl] at h
                          have d1 := hd 2 (by kernel_rfl)
                          have d2 := hd 4 (by kernel_rfl)
                          have hs : l 12 = false := by rw [Bool.eq_false_iff]; exact fun e => absurd ((h.o e).2.2.2.2.1 rfl) (by decide)
                          have h0 := h
                          rw [hs] at h0
                          obtain ⟨⟨B1, n1, k1, eB1, eN1, eK1, eI1⟩, eW1⟩ := h0.way1 ((h0.rg rfl).w1 d1).1
                          obtain ⟨⟨B2, n2, k2, eB2, eN2, eK2, eI2⟩, eW2⟩ := h0.way2 ((h0.rg rfl).w2 d2).1
                          have hW1 := (eW1 d1).trans (by rw [eB1])
                          have hW2 := (eW2 d2).trans (by rw [eB2])
                          refine st_run (v := (fun p q => .agg #[.int .i64 8, flat1 p, flat1 q, .int .i64 0, .int .i64 0, .int .u64 0]) (tm 142) (tm 144)) (w' := w) (by rfl) ?_ (hK.out _ _ (h.addBd d1 d2 rfl))
                          simp only [List.getElem_toArray, List.getElem_cons_zero, List.getElem_cons_succ, pmA, List.foldl_cons, List.foldl_nil, Act.put, List.setIfInBounds_toArray, List.set_cons_zero, List.set_cons_succ]
                          rw [hW1, hW2]
                          kernel_rfl
                        case o6 =>
                          intro l tm w h hl hd K0 hK
                          try dsimp only at h
                          rw [hl] at h
                          have d0 := hd 5 (by kernel_rfl)
                          obtain ⟨d1, d2, eBD⟩ := h.e6 d0
                          have hs : l 12 = false := h.notS.1
                          have h0 := h
                          rw [hs] at h0
                          obtain ⟨⟨B1, n1, k1, eB1, eN1, eK1, eI1⟩, eW1⟩ := h0.way1 ((h0.rg rfl).w1 d1).1
                          obtain ⟨⟨B2, n2, k2, eB2, eN2, eK2, eI2⟩, eW2⟩ := h0.way2 ((h0.rg rfl).w2 d2).1
                          have hW1 := (eW1 d1).trans (by rw [eB1])
                          have hW2 := (eW2 d2).trans (by rw [eB2])
                          rw [hW1, hW2] at eBD
                          have hA : #[.agg #[.int .i64 2, .int .i64 32, .int .i64 16, .slice (some ⟨P6, 0, none⟩) 32 ca6, .slice (some ⟨Q6, 0, none⟩) 16 cc6], .int .i64 1, (tm 145)] = #[.agg #[.int .i64 2, .int .i64 32, .int .i64 16, .slice (some ⟨P6, 0, none⟩) 32 ca6, .slice (some ⟨Q6, 0, none⟩) 16 cc6], .int .i64 1, .agg #[.int .i64 8, .slice B1 n1 k1, .slice B2 n2 k2, .int .i64 0, .int .i64 0, .int .u64 0]] := by rw [eBD]; rfl
                          refine st_call (f := 28) (args := #[.agg #[.int .i64 2, .int .i64 32, .int .i64 16, .slice (some ⟨P6, 0, none⟩) 32 ca6, .slice (some ⟨Q6, 0, none⟩) 16 cc6], .int .i64 1, (tm 145)]) (w' := w) (by rfl) (by kernel_rfl) ?_
                          rw [hA]
                          refine (mdo_is (z := 0) (HS1.out.on h.bb) eN1 eK1 eI1 eN2 eK2 eI2 km_j).mono ?_
                          rintro e w1 ⟨A', ca', C', cc', rfl, hb, hm⟩
                          obtain ⟨q1, q2⟩ := resD_of (a := 2) (b := 32) (c := 16) (R := (.agg #[.int .i64 5, .int .u64 0, .int .i64 0])) h.bb.size hm HP.out
                          exact ⟨_, rfl, hK.out _ _ (h.addD hb q1 q2)⟩
                        case o7 =>
                          intro l tm w h hl hd K0 hK
                          try dsimp only at h
                          rw [hl] at h
                          exact st_run (v := tm 146) (w' := w) (by rfl) (by kernel_rfl) (hK.out _ _ (h.addMv (hd 6 (by kernel_rfl)) rfl))
                        case o8 =>
                          intro l tm w h hl hd K0 hK
                          try dsimp only at h
                          rw [hl] at h
                          obtain ⟨A', ca', C', cc', eT, -⟩ := h.tup (hd 7 (by kernel_rfl))
                          refine st_run (v := .agg #[.int .i64 2, .int .i64 32, .int .i64 16, .slice A' 32 ca', .slice C' 16 cc']) (w' := w) (by rfl) ?_ (hK.out _ _ (h.addE1 (hd 7 (by kernel_rfl)) eT))
                          simp only [List.getElem_toArray, List.getElem_cons_zero, List.getElem_cons_succ, pmA, List.foldl_cons, List.foldl_nil, Act.put, List.setIfInBounds_toArray, List.set_cons_zero, List.set_cons_succ]
                          rw [eT]
                          kernel_rfl
                        case o9 =>
                          intro l tm w h hl hd K0 hK
                          try dsimp only at h
                          rw [hl] at h
                          obtain ⟨A', ca', C', cc', eT, -⟩ := h.tup (hd 7 (by kernel_rfl))
                          refine st_run (v := (.agg #[.int .i64 5, .int .u64 0, .int .i64 0])) (w' := w) (by rfl) ?_ (hK.out _ _ (h.addE2 (hd 7 (by kernel_rfl)) eT))
                          simp only [List.getElem_toArray, List.getElem_cons_zero, List.getElem_cons_succ, pmA, List.foldl_cons, List.foldl_nil, Act.put, List.setIfInBounds_toArray, List.set_cons_zero, List.set_cons_succ]
                          rw [eT]
                          kernel_rfl
                        case o10 =>
                          intro l tm w h hl hd K0 hK
                          try dsimp only at h
                          rw [hl] at h
                          have hh := h.addQ HP.out 27
                          exact st_run (v := ptr w.heap.size) (by rfl) (by kernel_rfl) (hK.out _ _ hh)
                        case o11 =>
                          intro l tm w h hl hd K0 hK
                          try dsimp only at h
                          rw [hl] at h
                          have hh := h.addY HP.out 40
                          exact st_run (v := ptr w.heap.size) (by rfl) (by kernel_rfl) (hK.out _ _ hh)
                        case o12 =>
                          intro l tm w h hl hd K0 hK
                          try dsimp only at h
                          rw [hl] at h
                          obtain ⟨x, A', ca', C', cc', ex, e1, ed, hw⟩ := h.atS' (hd 6 (by kernel_rfl)) (hd 7 (by kernel_rfl)) (hd 8 (by kernel_rfl)) (hd 10 (by kernel_rfl))
                          have HT : Hid (w.there x 0 (#[.int .i64 2, .int .i64 32, .int .i64 16, .slice A' 32 ca', .slice C' 16 cc'] : Array Value).size) := Lib.hid (hw.there (n := 5) rfl)
                          have HO := Lib.hid (state_one 2 32 16 A' 32 ca' C' 16 cc')
                          refine st_store (by rfl) 27 (.tmp 21) (.tmp 147) (by rfl) x 0 #[.int .i64 2, .int .i64 32, .int .i64 16, .slice A' 32 ca', .slice C' 16 cc'] ((by kernel_rfl : _ = tm 21).trans ex) ((by kernel_rfl : _ = tm 147).trans e1) HT.out info_state HO.out ?_
                          refine hK.out undef (w.setCells x 0 [.int .i64 2, .int .i64 32, .int .i64 16, .slice A' 32 ca', .slice C' 16 cc']) ?_
                          exact h.addS' (hd 1 (by kernel_rfl)) (hd 2 (by kernel_rfl)) (hd 3 (by kernel_rfl)) (hd 4 (by kernel_rfl)) (fun _ => (hd 5 (by kernel_rfl))) (hd 6 (by kernel_rfl)) (hd 7 (by kernel_rfl)) (hd 8 (by kernel_rfl)) (hd 10 (by kernel_rfl)) (fun _ => (hd 11 (by kernel_rfl))) ex ed
                        case start => exact ⟨hH, fun _ => ⟨hH, fun e => ff rfl e, fun e => ff rfl e, fun e => ff rfl e, fun e => ff rfl e, fun e => ff rfl e, fun e => ff rfl e, fun e => ff rfl e, fun e => ff rfl e, fun e => ff rfl e, fun e => ff rfl e⟩, fun e => ff rfl e, fun e => ff rfl e, fun e => ff rfl e, fun e => ff rfl e, fun e => ff rfl e, fun e => ff rfl e⟩
                        case fin =>
                          intro tm u15 h
                          try dsimp only at h
                          obtain ⟨hbb, hR, hP⟩ := h.fin (by kernel_rfl) (by kernel_rfl)
                          obtain ⟨g15, Az, ca15, Cz, cc15, ed, ex, hx, hm, hy⟩ := hP
                          obtain ⟨y15, ey, hne, hY, haw⟩ := hy rfl
                          simp only [ptr] at ex ey
                          clear h ed hy hm haw hx hne HP HS1
                          simp only [pmA, List.foldl_cons, List.foldl_nil, Act.put, List.setIfInBounds_toArray, List.set_cons_zero, List.set_cons_succ]
                          rw [ex, ey, hR]
                          clear ex ey hR
                          refine wpAnyH_ready (rs := [13]) (by kernel_rfl) (by simp) ?_
                          refine AllReadyH.cons rfl (fun K0 hK => ?_) AllReadyH.nil
                          have HT : Hid (u15.there y15 0 (#[.int .i64 5, .int .u64 0, .int .i64 0] : Array Value).size) := Lib.hid (hY.there (n := 3) rfl)
                          have HO := Lib.hid (reply_one 5 0 0)
                          have kY := hY.setCells (vs := [.int .i64 5, .int .u64 0, .int .i64 0]) rfl
                          have fY := Fnd.setCells y15 [.int .i64 5, .int .u64 0, .int .i64 0] 0 u15
                          refine step_store_mid (by rfl) 40 (.tmp 22) (.tmp 148) (by rfl) y15 0 #[.int .i64 5, .int .u64 0, .int .i64 0] (by rfl) (by rfl) HT.out info_reply HO.out ?_
                          change K0 _ (u15.setCells y15 0 [.int .i64 5, .int .u64 0, .int .i64 0])
                          clear fY HT hY HO
                          generalize u15.setCells y15 0 [.int .i64 5, .int .u64 0, .int .i64 0] = v16 at kY ⊢
                          have hb := kY.bx.old
                          refine hK.out _ _ hb (fun hH => ?_)
                          clear hK K0
                          try simp only [Act.put, List.setIfInBounds_toArray, List.set_cons_zero, List.set_cons_succ, List.getElem_toArray, List.getElem_cons_zero, List.getElem_cons_succ]
                          refine wpAnyH_done (by kernel_rfl) ?_ _
                          have Y_15 := Lib.hid (kY.rebase HW.out)
                          clear kY
                          replace K_s := Lib.hid (K_s.out.on hb)
                          replace Y_6 := Lib.hid (Y_6.out.on hb)
                          replace K_x := Lib.hid (K_x.out.on hb)
                          replace Y_7 := Lib.hid (Y_7.out.on hb)
                          replace Y_8 := Lib.hid (Y_8.out.on hb)
                          replace Y_9 := Lib.hid (Y_9.out.on hb)
                          replace Y_10 := Lib.hid (Y_10.out.on hb)
                          replace Y_11 := Lib.hid (Y_11.out.on hb)
                          replace Y_12 := Lib.hid (Y_12.out.on hb)
                          replace Y_13 := Lib.hid (Y_13.out.on hb)
                          replace Y_14 := Lib.hid (Y_14.out.on hb)
                          replace K_y := Lib.hid (K_y.out.on hb)
                          replace O_s := Lib.hid (O_s.out.on hb)
                          replace O_x := Lib.hid (O_x.out.on hb)
                          replace O_y := Lib.hid (O_y.out.on hb)
                          replace HW := Lib.hid (below_on HW.out hb)
                          clear hb hH hbb
                          go_upto_region 16 with fail
                          have HP : Hid (∀ s', some ks3 = some s' → 0 < s'.sl.length ∧ 0 < s'.th.length) := Lib.hid fun s' e => by
                            injection e with e
                            rw [← e, ks3_len.1, ks3_len.2]
                            decide
                          have HS1 := Lib.hid (⟨O_x.out.lies, km_ge.2.2.2.1, kmx_len.1.symm, kmx_len.2.symm, by decide, by decide, HC_x.out.1, HC_x.out.2⟩ : StH _ kmx 2 32 16 (some ⟨P6, 0, none⟩) 32 ca6 (some ⟨Q6, 0, none⟩) 16 cc6)
                          refine wp_region_held_drew (S := fun w' => Below v16.heap.size v16 w') (by kernel_rfl) (below_self v16).drew (fun hH => ?_)
                          refine wpAnyH_take (i := 0) (v := .agg #[.int .i64 2, .int .i64 32, .int .i64 16, .slice (some ⟨P6, 0, none⟩) 32 ca6, .slice (some ⟨Q6, 0, none⟩) 16 cc6]) rfl (by kernel_rfl) (by kernel_rfl) (by kernel_rfl) (fun _ _ _ h => h) (yieldsIf_load_mid (by rfl) 27 (.tmp 3) (by rfl) g6 0 (by rfl) [.int .i64 2, .int .i64 32, .int .i64 16, .slice (some ⟨P6, 0, none⟩) 32 ca6, .slice (some ⟨Q6, 0, none⟩) 16 cc6] _ (fun w hS => ((K_x.out.bx.on hS).range)) Tryz.underlying27 rfl info_state) (by assumption) ?_
                          try simp only [Act.put, List.setIfInBounds_toArray, List.set_cons_zero, List.set_cons_succ, List.getElem_toArray, List.getElem_cons_zero, List.getElem_cons_succ]
                          refine wpAnyH_inv (f0 := 1) [1, 2, 3, 4, 5, 6, 7, 8, 9, 10] [151, 152, 153, 154, 155, 156, 149, 24, 23] (fun l tm w => PHI v16 [1] [] 2 32 16 (some ⟨P6, 0, none⟩) 32 ca6 (some ⟨Q6, 0, none⟩) 16 cc6 (some ks3) (.agg #[.int .i64 0, .int .u64 7, .int .i64 9]) [.int .i64 0, .int .u64 0, .int .i64 0] false false (fun p q => .agg #[.int .i64 8, flat1 p, flat1 q, .int .i64 0, .int .i64 0, .int .u64 0]) (l 1) (l 2) true true (l 3) (l 4) (l 5) (l 6) (l 7) (l 8) (l 9) (l 10) (tm 151) (tm 152) (.slice none 0 0) (.agg #[(.slice none 0 0)]) (tm 153) (tm 154) (tm 149) (tm 155) (tm 156) (tm 23) (tm 24) w) (by kernel_rfl) (by kernel_rfl) rfl (by decide) (fun l tm w h => h.bb) ?start (AllSteps.cons rfl ?o1 (AllSteps.cons rfl ?o2 (AllSteps.cons rfl ?o3 (AllSteps.cons rfl ?o4 (AllSteps.cons rfl ?o5 (AllSteps.cons rfl ?o6 (AllSteps.cons rfl ?o7 (AllSteps.cons rfl ?o8 (AllSteps.cons rfl ?o9 (AllSteps.cons rfl ?o10 AllSteps.nil)))))))))) ?fin
                          case o1 =>
                            intro l tm w h hl hd K0 hK
                            try dsimp only at h
                            rw [hl] at h
                            have hh := h.addB1 (below_alloc w (.cells #[.int .i64 1] 3)) (lis_one w 1)
                            exact st_run (v := .slice (some ⟨w.heap.size, 0, none⟩) 1 1) (by rfl) (by kernel_rfl) (hK.out _ _ hh)
                          case o2 =>
                            intro l tm w h hl hd K0 hK
                            try dsimp only at h
                            rw [hl] at h
                            have hs := h.early1.1
                            have h0 := h
                            rw [hs] at h0
                            obtain ⟨⟨B, nB, cB, eB, -⟩, -⟩ := h0.way1 (hd 1 (by kernel_rfl))
                            have hc := way18_is (A := B) (n := nB) (cap := cB) w
                            rw [← eB] at hc
                            refine st_call (f := 27) (args := #[(tm 151)]) (w' := w) (by rfl) (by kernel_rfl) (hc.mono ?_)
                            rintro e w1 ⟨rfl, hb⟩
                            exact ⟨_, rfl, hK.out _ _ (h.addW1 (hd 1 (by kernel_rfl)) hb rfl)⟩
                          case o3 =>
                            intro l tm w h hl hd K0 hK
                            try dsimp only at h
                            rw [hl] at h
                            have d1 := hd 2 (by kernel_rfl)
                            have d2 : true = true := rfl
                            have hs : l 10 = false := by rw [Bool.eq_false_iff]; exact fun e => absurd ((h.o e).2.2.2.2.1 rfl) (by decide)
                            have h0 := h
                            rw [hs] at h0
                            obtain ⟨⟨B1, n1, k1, eB1, eN1, eK1, eI1⟩, eW1⟩ := h0.way1 ((h0.rg rfl).w1 d1).1
                            obtain ⟨⟨B2, n2, k2, eB2, eN2, eK2, eI2⟩, eW2⟩ := h0.way2 rfl
                            have hW1 := (eW1 d1).trans (by rw [eB1])
                            have hW2 := (eW2 d2).trans (by rw [eB2])
                            refine st_run (v := (fun p q => .agg #[.int .i64 8, flat1 p, flat1 q, .int .i64 0, .int .i64 0, .int .u64 0]) (tm 152) (.agg #[(.slice none 0 0)])) (w' := w) (by rfl) ?_ (hK.out _ _ (h.addBd d1 d2 rfl))
                            simp only [List.getElem_toArray, List.getElem_cons_zero, List.getElem_cons_succ, pmA, List.foldl_cons, List.foldl_nil, Act.put, List.setIfInBounds_toArray, List.set_cons_zero, List.set_cons_succ]
                            rw [hW1]
                            kernel_rfl
                          case o4 =>
                            intro l tm w h hl hd K0 hK
                            try dsimp only at h
                            rw [hl] at h
                            have d0 := hd 3 (by kernel_rfl)
                            obtain ⟨d1, d2, eBD⟩ := h.e6 d0
                            have hs : l 10 = false := h.notS.1
                            have h0 := h
                            rw [hs] at h0
                            obtain ⟨⟨B1, n1, k1, eB1, eN1, eK1, eI1⟩, eW1⟩ := h0.way1 ((h0.rg rfl).w1 d1).1
                            obtain ⟨⟨B2, n2, k2, eB2, eN2, eK2, eI2⟩, eW2⟩ := h0.way2 rfl
                            have hW1 := (eW1 d1).trans (by rw [eB1])
                            have hW2 := (eW2 d2).trans (by rw [eB2])
                            rw [hW1, hW2] at eBD
                            have hA : #[.agg #[.int .i64 2, .int .i64 32, .int .i64 16, .slice (some ⟨P6, 0, none⟩) 32 ca6, .slice (some ⟨Q6, 0, none⟩) 16 cc6], .int .i64 1, (tm 153)] = #[.agg #[.int .i64 2, .int .i64 32, .int .i64 16, .slice (some ⟨P6, 0, none⟩) 32 ca6, .slice (some ⟨Q6, 0, none⟩) 16 cc6], .int .i64 1, .agg #[.int .i64 8, .slice B1 n1 k1, .slice B2 n2 k2, .int .i64 0, .int .i64 0, .int .u64 0]] := by rw [eBD]; rfl
                            refine st_call (f := 28) (args := #[.agg #[.int .i64 2, .int .i64 32, .int .i64 16, .slice (some ⟨P6, 0, none⟩) 32 ca6, .slice (some ⟨Q6, 0, none⟩) 16 cc6], .int .i64 1, (tm 153)]) (w' := w) (by rfl) (by kernel_rfl) ?_
                            rw [hA]
                            refine (mdo_is (z := 0) (HS1.out.on h.bb) eN1 eK1 eI1 eN2 eK2 eI2 km_k).mono ?_
                            rintro e w1 ⟨A', ca', C', cc', rfl, hb, hm⟩
                            obtain ⟨q1, q2⟩ := resD_of (a := 2) (b := 32) (c := 16) (R := (.agg #[.int .i64 0, .int .u64 7, .int .i64 9])) h.bb.size hm HP.out
                            exact ⟨_, rfl, hK.out _ _ (h.addD hb q1 q2)⟩
                          case o5 =>
                            intro l tm w h hl hd K0 hK
                            try dsimp only at h
                            rw [hl] at h
                            exact st_run (v := tm 154) (w' := w) (by rfl) (by kernel_rfl) (hK.out _ _ (h.addMv (hd 4 (by kernel_rfl)) rfl))
                          case o6 =>
                            intro l tm w h hl hd K0 hK
                            try dsimp only at h
                            rw [hl] at h
                            obtain ⟨A', ca', C', cc', eT, -⟩ := h.tup (hd 5 (by kernel_rfl))
                            refine st_run (v := .agg #[.int .i64 2, .int .i64 32, .int .i64 16, .slice A' 32 ca', .slice C' 16 cc']) (w' := w) (by rfl) ?_ (hK.out _ _ (h.addE1 (hd 5 (by kernel_rfl)) eT))
                            simp only [List.getElem_toArray, List.getElem_cons_zero, List.getElem_cons_succ, pmA, List.foldl_cons, List.foldl_nil, Act.put, List.setIfInBounds_toArray, List.set_cons_zero, List.set_cons_succ]
                            rw [eT]
                            kernel_rfl
                          case o7 =>
                            intro l tm w h hl hd K0 hK
                            try dsimp only at h
                            rw [hl] at h
                            obtain ⟨A', ca', C', cc', eT, -⟩ := h.tup (hd 5 (by kernel_rfl))
                            refine st_run (v := (.agg #[.int .i64 0, .int .u64 7, .int .i64 9])) (w' := w) (by rfl) ?_ (hK.out _ _ (h.addE2 (hd 5 (by kernel_rfl)) eT))
                            simp only [List.getElem_toArray, List.getElem_cons_zero, List.getElem_cons_succ, pmA, List.foldl_cons, List.foldl_nil, Act.put, List.setIfInBounds_toArray, List.set_cons_zero, List.set_cons_succ]
                            rw [eT]
                            kernel_rfl
                          case o8 =>
                            intro l tm w h hl hd K0 hK
                            try dsimp only at h
                            rw [hl] at h
                            have hh := h.addQ HP.out 27
                            exact st_run (v := ptr w.heap.size) (by rfl) (by kernel_rfl) (hK.out _ _ hh)
                          case o9 =>
                            intro l tm w h hl hd K0 hK
                            try dsimp only at h
                            rw [hl] at h
                            have hh := h.addY HP.out 40
                            exact st_run (v := ptr w.heap.size) (by rfl) (by kernel_rfl) (hK.out _ _ hh)
                          case o10 =>
                            intro l tm w h hl hd K0 hK
                            try dsimp only at h
                            rw [hl] at h
                            obtain ⟨x, A', ca', C', cc', ex, e1, ed, hw⟩ := h.atS' (hd 4 (by kernel_rfl)) (hd 5 (by kernel_rfl)) (hd 6 (by kernel_rfl)) (hd 8 (by kernel_rfl))
                            have HT : Hid (w.there x 0 (#[.int .i64 2, .int .i64 32, .int .i64 16, .slice A' 32 ca', .slice C' 16 cc'] : Array Value).size) := Lib.hid (hw.there (n := 5) rfl)
                            have HO := Lib.hid (state_one 2 32 16 A' 32 ca' C' 16 cc')
                            refine st_store (by rfl) 27 (.tmp 23) (.tmp 155) (by rfl) x 0 #[.int .i64 2, .int .i64 32, .int .i64 16, .slice A' 32 ca', .slice C' 16 cc'] ((by kernel_rfl : _ = tm 23).trans ex) ((by kernel_rfl : _ = tm 155).trans e1) HT.out info_state HO.out ?_
                            refine hK.out undef (w.setCells x 0 [.int .i64 2, .int .i64 32, .int .i64 16, .slice A' 32 ca', .slice C' 16 cc']) ?_
                            exact h.addS' (hd 1 (by kernel_rfl)) (hd 2 (by kernel_rfl)) rfl rfl (fun _ => (hd 3 (by kernel_rfl))) (hd 4 (by kernel_rfl)) (hd 5 (by kernel_rfl)) (hd 6 (by kernel_rfl)) (hd 8 (by kernel_rfl)) (fun _ => (hd 9 (by kernel_rfl))) ex ed
                          case start => exact ⟨hH, fun _ => ⟨hH, fun e => ff rfl e, fun e => ff rfl e, fun _ => ⟨none, 0, 0, rfl, rfl, Nat.le_refl _, none_at _⟩, fun _ => ⟨rfl, rfl⟩, fun e => ff rfl e, fun e => ff rfl e, fun e => ff rfl e, fun e => ff rfl e, fun e => ff rfl e, fun e => ff rfl e⟩, fun e => ff rfl e, fun e => ff rfl e, fun e => ff rfl e, fun e => ff rfl e, fun e => ff rfl e, fun e => ff rfl e⟩
                          case fin =>
                            intro tm u16 h
                            try dsimp only at h
                            obtain ⟨hbb, hR, hP⟩ := h.fin (by kernel_rfl) (by kernel_rfl)
                            obtain ⟨g16, Az, ca16, Cz, cc16, ed, ex, hx, hm, hy⟩ := hP
                            obtain ⟨y16, ey, hne, hY, haw⟩ := hy rfl
                            simp only [ptr] at ex ey
                            obtain ⟨hca, hcc, hF⟩ := hm
                            obtain ⟨P16, Q16, rfl, rfl, hO⟩ := hF.ost (by rw [ks3_len.1]; decide) (by rw [ks3_len.2]; decide) hbb
                            have hfar := haw _ rfl
                            have f1 : P16 ≠ y16 := hfar.1 P16 rfl
                            have f2 : Q16 ≠ y16 := hfar.2 Q16 rfl
                            have HC_z := Lib.hid (⟨hca, hcc⟩ : 32 ≤ ca16 ∧ 16 ≤ cc16)
                            clear h ed hy hF haw hfar hca hcc HP HS1
                            simp only [pmA, List.foldl_cons, List.foldl_nil, Act.put, List.setIfInBounds_toArray, List.set_cons_zero, List.set_cons_succ]
                            rw [ex, ey, hR]
                            clear ex ey hR
                            refine wpAnyH_ready (rs := [11]) (by kernel_rfl) (by simp) ?_
                            refine AllReadyH.cons rfl (fun K0 hK => ?_) AllReadyH.nil
                            have HT : Hid (u16.there y16 0 (#[.int .i64 0, .int .u64 7, .int .i64 9] : Array Value).size) := Lib.hid (hY.there (n := 3) rfl)
                            have HO := Lib.hid (reply_one 0 7 9)
                            have kY := hY.setCells (vs := [.int .i64 0, .int .u64 7, .int .i64 9]) rfl
                            have fY := Fnd.setCells y16 [.int .i64 0, .int .u64 7, .int .i64 9] 0 u16
                            have kX := hx.fnd fY hne.symm kY.bx.old
                            have oX := hO.step fY f1 f2 kY.bx.old
                            refine step_store_mid (by rfl) 40 (.tmp 24) (.tmp 156) (by rfl) y16 0 #[.int .i64 0, .int .u64 7, .int .i64 9] (by rfl) (by rfl) HT.out info_reply HO.out ?_
                            change K0 _ (u16.setCells y16 0 [.int .i64 0, .int .u64 7, .int .i64 9])
                            clear fY HT hY HO f1 f2 hne hx hO
                            generalize u16.setCells y16 0 [.int .i64 0, .int .u64 7, .int .i64 9] = v17 at kY kX oX ⊢
                            have hb := kY.bx.old
                            refine hK.out _ _ hb (fun hH => ?_)
                            clear hK K0
                            try simp only [Act.put, List.setIfInBounds_toArray, List.set_cons_zero, List.set_cons_succ, List.getElem_toArray, List.getElem_cons_zero, List.getElem_cons_succ]
                            refine wpAnyH_done (by kernel_rfl) ?_ _
                            have Y_16 := Lib.hid (kY.rebase HW.out)
                            have K_z := Lib.hid (kX.rebase HW.out)
                            have O_z := Lib.hid (oX.base HW.out)
                            clear kX oX
                            clear kY
                            replace K_s := Lib.hid (K_s.out.on hb)
                            replace Y_6 := Lib.hid (Y_6.out.on hb)
                            replace K_x := Lib.hid (K_x.out.on hb)
                            replace Y_7 := Lib.hid (Y_7.out.on hb)
                            replace Y_8 := Lib.hid (Y_8.out.on hb)
                            replace Y_9 := Lib.hid (Y_9.out.on hb)
                            replace Y_10 := Lib.hid (Y_10.out.on hb)
                            replace Y_11 := Lib.hid (Y_11.out.on hb)
                            replace Y_12 := Lib.hid (Y_12.out.on hb)
                            replace Y_13 := Lib.hid (Y_13.out.on hb)
                            replace Y_14 := Lib.hid (Y_14.out.on hb)
                            replace K_y := Lib.hid (K_y.out.on hb)
                            replace Y_15 := Lib.hid (Y_15.out.on hb)
                            replace O_s := Lib.hid (O_s.out.on hb)
                            replace O_x := Lib.hid (O_x.out.on hb)
                            replace O_y := Lib.hid (O_y.out.on hb)
                            replace HW := Lib.hid (below_on HW.out hb)
                            clear hb hH hbb
                            go_upto_region 17 with fail
                            have HP : Hid (∀ s', (none : Option St) = some s' → 0 < s'.sl.length ∧ 0 < s'.th.length) := Lib.hid fun s' e => by cases e
                            have HS1 := Lib.hid (⟨O_s.out.lies, km_ge.2.2.1, ks3_len.1.symm, ks3_len.2.symm, by decide, by decide, HC_ks3.out.1, HC_ks3.out.2⟩ : StH _ ks3 2 32 16 (some ⟨P3, 0, none⟩) 32 ca3 (some ⟨Q3, 0, none⟩) 16 cc3)
                            refine wp_region_held_drew (S := fun w' => Below v17.heap.size v17 w') (by kernel_rfl) (below_self v17).drew (fun hH => ?_)
                            refine wpAnyH_take (i := 0) (v := .agg #[.int .i64 2, .int .i64 32, .int .i64 16, .slice (some ⟨P3, 0, none⟩) 32 ca3, .slice (some ⟨Q3, 0, none⟩) 16 cc3]) rfl (by kernel_rfl) (by kernel_rfl) (by kernel_rfl) (fun _ _ _ h => h) (yieldsIf_load_mid (by rfl) 27 (.tmp 1) (by rfl) j0 0 (by rfl) [.int .i64 2, .int .i64 32, .int .i64 16, .slice (some ⟨P3, 0, none⟩) 32 ca3, .slice (some ⟨Q3, 0, none⟩) 16 cc3] _ (fun w hS => ((K_s.out.bx.on hS).range)) Tryz.underlying27 rfl info_state) (by assumption) ?_
                            try simp only [Act.put, List.setIfInBounds_toArray, List.set_cons_zero, List.set_cons_succ, List.getElem_toArray, List.getElem_cons_zero, List.getElem_cons_succ]
                            refine wpAnyH_inv (f0 := 1) [1, 2, 3, 4, 5, 6, 7, 8, 9, 10, 11, 12] [159, 160, 161, 162, 163, 164, 165, 166, 157, 26, 25] (fun l tm w => PHI v17 [1] [6] 2 32 16 (some ⟨P3, 0, none⟩) 32 ca3 (some ⟨Q3, 0, none⟩) 16 cc3 none (.agg #[.int .i64 4, .int .u64 0, .int .i64 0]) [.int .i64 0, .int .u64 0, .int .i64 0] false false (fun p q => .agg #[.int .i64 7, flat1 p, flat1 q, .int .i64 0, .int .i64 0, .int .u64 0]) (l 1) (l 2) (l 3) (l 4) (l 5) (l 6) (l 7) (l 8) (l 9) (l 10) (l 11) (l 12) (tm 159) (tm 160) (tm 161) (tm 162) (tm 163) (tm 164) (tm 157) (tm 165) (tm 166) (tm 25) (tm 26) w) (by kernel_rfl) (by kernel_rfl) rfl (by decide) (fun l tm w h => h.bb) ?start (AllSteps.cons rfl ?o1 (AllSteps.cons rfl ?o2 (AllSteps.cons rfl ?o3 (AllSteps.cons rfl ?o4 (AllSteps.cons rfl ?o5 (AllSteps.cons rfl ?o6 (AllSteps.cons rfl ?o7 (AllSteps.cons rfl ?o8 (AllSteps.cons rfl ?o9 (AllSteps.cons rfl ?o10 (AllSteps.cons rfl ?o11 (AllSteps.cons rfl ?o12 AllSteps.nil)))))))))))) ?fin
                            case o1 =>
                              intro l tm w h hl hd K0 hK
                              try dsimp only at h
                              rw [hl] at h
                              have hh := h.addB1 (below_alloc w (.cells #[.int .i64 1] 3)) (lis_one w 1)
                              exact st_run (v := .slice (some ⟨w.heap.size, 0, none⟩) 1 1) (by rfl) (by kernel_rfl) (hK.out _ _ hh)
                            case o2 =>
                              intro l tm w h hl hd K0 hK
                              try dsimp only at h
                              rw [hl] at h
                              have hs := h.early1.1
                              have h0 := h
                              rw [hs] at h0
                              obtain ⟨⟨B, nB, cB, eB, -⟩, -⟩ := h0.way1 (hd 1 (by kernel_rfl))
                              have hc := way18_is (A := B) (n := nB) (cap := cB) w
                              rw [← eB] at hc
                              refine st_call (f := 27) (args := #[(tm 159)]) (w' := w) (by rfl) (by kernel_rfl) (hc.mono ?_)
                              rintro e w1 ⟨rfl, hb⟩
                              exact ⟨_, rfl, hK.out _ _ (h.addW1 (hd 1 (by kernel_rfl)) hb rfl)⟩
                            case o3 =>
                              intro l tm w h hl hd K0 hK
                              try dsimp only at h
                              rw [hl] at h
                              have hh := h.addB2 (below_alloc w (.cells #[.int .i64 6] 3)) (lis_one w 6)
                              exact st_run (v := .slice (some ⟨w.heap.size, 0, none⟩) 1 1) (by rfl) (by kernel_rfl) (hK.out _ _ hh)
                            case o4 =>
                              intro l tm w h hl hd K0 hK
                              try dsimp only at h
                              rw [hl] at h
                              have hs := h.early2.1
                              have h0 := h
                              rw [hs] at h0
                              obtain ⟨⟨B, nB, cB, eB, -⟩, -⟩ := h0.way2 (hd 3 (by kernel_rfl))
                              have hc := way18_is (A := B) (n := nB) (cap := cB) w
                              rw [← eB] at hc
                              refine st_call (f := 27) (args := #[(tm 161)]) (w' := w) (by rfl) (by kernel_rfl) (hc.mono ?_)
                              rintro e w1 ⟨rfl, hb⟩
                              exact ⟨_, rfl, hK.out _ _ (h.addW2 (hd 3 (by kernel_rfl)) hb rfl)⟩
                            case o5 =>
                              intro l tm w h hl hd K0 hK
                              try dsimp only at h
                              rw [hl] at h
                              have d1 := hd 2 (by kernel_rfl)
                              have d2 := hd 4 (by kernel_rfl)
                              have hs : l 12 = false := by rw [Bool.eq_false_iff]; exact fun e => absurd ((h.o e).2.2.2.2.1 rfl) (by decide)
                              have h0 := h
                              rw [hs] at h0
                              obtain ⟨⟨B1, n1, k1, eB1, eN1, eK1, eI1⟩, eW1⟩ := h0.way1 ((h0.rg rfl).w1 d1).1
                              obtain ⟨⟨B2, n2, k2, eB2, eN2, eK2, eI2⟩, eW2⟩ := h0.way2 ((h0.rg rfl).w2 d2).1
                              have hW1 := (eW1 d1).trans (by rw [eB1])
                              have hW2 := (eW2 d2).trans (by rw [eB2])
                              refine st_run (v := (fun p q => .agg #[.int .i64 7, flat1 p, flat1 q, .int .i64 0, .int .i64 0, .int .u64 0]) (tm 160) (tm 162)) (w' := w) (by rfl) ?_ (hK.out _ _ (h.addBd d1 d2 rfl))
                              simp only [List.getElem_toArray, List.getElem_cons_zero, List.getElem_cons_succ, pmA, List.foldl_cons, List.foldl_nil, Act.put, List.setIfInBounds_toArray, List.set_cons_zero, List.set_cons_succ]
                              rw [hW1, hW2]
                              kernel_rfl
                            case o6 =>
                              intro l tm w h hl hd K0 hK
                              try dsimp only at h
                              rw [hl] at h
                              have d0 := hd 5 (by kernel_rfl)
                              obtain ⟨d1, d2, eBD⟩ := h.e6 d0
                              have hs : l 12 = false := h.notS.1
                              have h0 := h
                              rw [hs] at h0
                              obtain ⟨⟨B1, n1, k1, eB1, eN1, eK1, eI1⟩, eW1⟩ := h0.way1 ((h0.rg rfl).w1 d1).1
                              obtain ⟨⟨B2, n2, k2, eB2, eN2, eK2, eI2⟩, eW2⟩ := h0.way2 ((h0.rg rfl).w2 d2).1
                              have hW1 := (eW1 d1).trans (by rw [eB1])
                              have hW2 := (eW2 d2).trans (by rw [eB2])
                              rw [hW1, hW2] at eBD
                              have hA : #[.agg #[.int .i64 2, .int .i64 32, .int .i64 16, .slice (some ⟨P3, 0, none⟩) 32 ca3, .slice (some ⟨Q3, 0, none⟩) 16 cc3], .int .i64 0, (tm 163)] = #[.agg #[.int .i64 2, .int .i64 32, .int .i64 16, .slice (some ⟨P3, 0, none⟩) 32 ca3, .slice (some ⟨Q3, 0, none⟩) 16 cc3], .int .i64 0, .agg #[.int .i64 7, .slice B1 n1 k1, .slice B2 n2 k2, .int .i64 0, .int .i64 0, .int .u64 0]] := by rw [eBD]; rfl
                              refine st_call (f := 28) (args := #[.agg #[.int .i64 2, .int .i64 32, .int .i64 16, .slice (some ⟨P3, 0, none⟩) 32 ca3, .slice (some ⟨Q3, 0, none⟩) 16 cc3], .int .i64 0, (tm 163)]) (w' := w) (by rfl) (by kernel_rfl) ?_
                              rw [hA]
                              refine (mdo_is (z := 0) (HS1.out.on h.bb) eN1 eK1 eI1 eN2 eK2 eI2 km_l).mono ?_
                              rintro e w1 ⟨A', ca', C', cc', rfl, hb, hm⟩
                              obtain ⟨q1, q2⟩ := resD_of (a := 2) (b := 32) (c := 16) (R := (.agg #[.int .i64 4, .int .u64 0, .int .i64 0])) h.bb.size hm HP.out
                              exact ⟨_, rfl, hK.out _ _ (h.addD hb q1 q2)⟩
                            case o7 =>
                              intro l tm w h hl hd K0 hK
                              try dsimp only at h
                              rw [hl] at h
                              exact st_run (v := tm 164) (w' := w) (by rfl) (by kernel_rfl) (hK.out _ _ (h.addMv (hd 6 (by kernel_rfl)) rfl))
                            case o8 =>
                              intro l tm w h hl hd K0 hK
                              try dsimp only at h
                              rw [hl] at h
                              obtain ⟨A', ca', C', cc', eT, -⟩ := h.tup (hd 7 (by kernel_rfl))
                              refine st_run (v := .agg #[.int .i64 2, .int .i64 32, .int .i64 16, .slice A' 32 ca', .slice C' 16 cc']) (w' := w) (by rfl) ?_ (hK.out _ _ (h.addE1 (hd 7 (by kernel_rfl)) eT))
                              simp only [List.getElem_toArray, List.getElem_cons_zero, List.getElem_cons_succ, pmA, List.foldl_cons, List.foldl_nil, Act.put, List.setIfInBounds_toArray, List.set_cons_zero, List.set_cons_succ]
                              rw [eT]
                              kernel_rfl
                            case o9 =>
                              intro l tm w h hl hd K0 hK
                              try dsimp only at h
                              rw [hl] at h
                              obtain ⟨A', ca', C', cc', eT, -⟩ := h.tup (hd 7 (by kernel_rfl))
                              refine st_run (v := (.agg #[.int .i64 4, .int .u64 0, .int .i64 0])) (w' := w) (by rfl) ?_ (hK.out _ _ (h.addE2 (hd 7 (by kernel_rfl)) eT))
                              simp only [List.getElem_toArray, List.getElem_cons_zero, List.getElem_cons_succ, pmA, List.foldl_cons, List.foldl_nil, Act.put, List.setIfInBounds_toArray, List.set_cons_zero, List.set_cons_succ]
                              rw [eT]
                              kernel_rfl
                            case o10 =>
                              intro l tm w h hl hd K0 hK
                              try dsimp only at h
                              rw [hl] at h
                              have hh := h.addQ HP.out 27
                              exact st_run (v := ptr w.heap.size) (by rfl) (by kernel_rfl) (hK.out _ _ hh)
                            case o11 =>
                              intro l tm w h hl hd K0 hK
                              try dsimp only at h
                              rw [hl] at h
                              have hh := h.addY HP.out 40
                              exact st_run (v := ptr w.heap.size) (by rfl) (by kernel_rfl) (hK.out _ _ hh)
                            case o12 =>
                              intro l tm w h hl hd K0 hK
                              try dsimp only at h
                              rw [hl] at h
                              obtain ⟨x, A', ca', C', cc', ex, e1, ed, hw⟩ := h.atS' (hd 6 (by kernel_rfl)) (hd 7 (by kernel_rfl)) (hd 8 (by kernel_rfl)) (hd 10 (by kernel_rfl))
                              have HT : Hid (w.there x 0 (#[.int .i64 2, .int .i64 32, .int .i64 16, .slice A' 32 ca', .slice C' 16 cc'] : Array Value).size) := Lib.hid (hw.there (n := 5) rfl)
                              have HO := Lib.hid (state_one 2 32 16 A' 32 ca' C' 16 cc')
                              refine st_store (by rfl) 27 (.tmp 25) (.tmp 165) (by rfl) x 0 #[.int .i64 2, .int .i64 32, .int .i64 16, .slice A' 32 ca', .slice C' 16 cc'] ((by kernel_rfl : _ = tm 25).trans ex) ((by kernel_rfl : _ = tm 165).trans e1) HT.out info_state HO.out ?_
                              refine hK.out undef (w.setCells x 0 [.int .i64 2, .int .i64 32, .int .i64 16, .slice A' 32 ca', .slice C' 16 cc']) ?_
                              exact h.addS' (hd 1 (by kernel_rfl)) (hd 2 (by kernel_rfl)) (hd 3 (by kernel_rfl)) (hd 4 (by kernel_rfl)) (fun _ => (hd 5 (by kernel_rfl))) (hd 6 (by kernel_rfl)) (hd 7 (by kernel_rfl)) (hd 8 (by kernel_rfl)) (hd 10 (by kernel_rfl)) (fun _ => (hd 11 (by kernel_rfl))) ex ed
                            case start => exact ⟨hH, fun _ => ⟨hH, fun e => ff rfl e, fun e => ff rfl e, fun e => ff rfl e, fun e => ff rfl e, fun e => ff rfl e, fun e => ff rfl e, fun e => ff rfl e, fun e => ff rfl e, fun e => ff rfl e, fun e => ff rfl e⟩, fun e => ff rfl e, fun e => ff rfl e, fun e => ff rfl e, fun e => ff rfl e, fun e => ff rfl e, fun e => ff rfl e⟩
                            case fin =>
                              intro tm u17 h
                              try dsimp only at h
                              obtain ⟨hbb, hR, hP⟩ := h.fin (by kernel_rfl) (by kernel_rfl)
                              obtain ⟨g17, Az, ca17, Cz, cc17, ed, ex, hx, hm, hy⟩ := hP
                              obtain ⟨y17, ey, hne, hY, haw⟩ := hy rfl
                              simp only [ptr] at ex ey
                              clear h ed hy hm haw hx hne HP HS1
                              simp only [pmA, List.foldl_cons, List.foldl_nil, Act.put, List.setIfInBounds_toArray, List.set_cons_zero, List.set_cons_succ]
                              rw [ex, ey, hR]
                              clear ex ey hR
                              refine wpAnyH_ready (rs := [13]) (by kernel_rfl) (by simp) ?_
                              refine AllReadyH.cons rfl (fun K0 hK => ?_) AllReadyH.nil
                              have HT : Hid (u17.there y17 0 (#[.int .i64 4, .int .u64 0, .int .i64 0] : Array Value).size) := Lib.hid (hY.there (n := 3) rfl)
                              have HO := Lib.hid (reply_one 4 0 0)
                              have kY := hY.setCells (vs := [.int .i64 4, .int .u64 0, .int .i64 0]) rfl
                              have fY := Fnd.setCells y17 [.int .i64 4, .int .u64 0, .int .i64 0] 0 u17
                              refine step_store_mid (by rfl) 40 (.tmp 26) (.tmp 166) (by rfl) y17 0 #[.int .i64 4, .int .u64 0, .int .i64 0] (by rfl) (by rfl) HT.out info_reply HO.out ?_
                              change K0 _ (u17.setCells y17 0 [.int .i64 4, .int .u64 0, .int .i64 0])
                              clear fY HT hY HO
                              generalize u17.setCells y17 0 [.int .i64 4, .int .u64 0, .int .i64 0] = v18 at kY ⊢
                              have hb := kY.bx.old
                              refine hK.out _ _ hb (fun hH => ?_)
                              clear hK K0
                              try simp only [Act.put, List.setIfInBounds_toArray, List.set_cons_zero, List.set_cons_succ, List.getElem_toArray, List.getElem_cons_zero, List.getElem_cons_succ]
                              refine wpAnyH_done (by kernel_rfl) ?_ _
                              have Y_17 := Lib.hid (kY.rebase HW.out)
                              clear kY
                              replace K_s := Lib.hid (K_s.out.on hb)
                              replace Y_6 := Lib.hid (Y_6.out.on hb)
                              replace K_x := Lib.hid (K_x.out.on hb)
                              replace Y_7 := Lib.hid (Y_7.out.on hb)
                              replace Y_8 := Lib.hid (Y_8.out.on hb)
                              replace Y_9 := Lib.hid (Y_9.out.on hb)
                              replace Y_10 := Lib.hid (Y_10.out.on hb)
                              replace Y_11 := Lib.hid (Y_11.out.on hb)
                              replace Y_12 := Lib.hid (Y_12.out.on hb)
                              replace Y_13 := Lib.hid (Y_13.out.on hb)
                              replace Y_14 := Lib.hid (Y_14.out.on hb)
                              replace K_y := Lib.hid (K_y.out.on hb)
                              replace Y_15 := Lib.hid (Y_15.out.on hb)
                              replace Y_16 := Lib.hid (Y_16.out.on hb)
                              replace K_z := Lib.hid (K_z.out.on hb)
                              replace O_s := Lib.hid (O_s.out.on hb)
                              replace O_x := Lib.hid (O_x.out.on hb)
                              replace O_y := Lib.hid (O_y.out.on hb)
                              replace O_z := Lib.hid (O_z.out.on hb)
                              replace HW := Lib.hid (below_on HW.out hb)
                              clear hb hH hbb
                              go_upto_region 18 with fail
                              dsimp only [List.append]
                              have r6_0 := Y_6.out.bx.c 0 _ rfl
                              have r6_1 := Y_6.out.bx.c 1 _ rfl
                              have r6_2 := Y_6.out.bx.c 2 _ rfl
                              have hq0 : ∀ w, (Op.equalIn 10000 40 (.agg #[.int .i64 0, .int .u64 0, .int .i64 0]) (.agg #[.int .i64 0, .int .u64 0, .int .i64 0])).run Tryz.prog w = .ok true w := fun w => eq_reply 0 0 0 0 0 0 w
                              have r7_0 := Y_7.out.bx.c 0 _ rfl
                              have r8_0 := Y_8.out.bx.c 0 _ rfl
                              have r9_0 := Y_9.out.bx.c 0 _ rfl
                              have r10_0 := Y_10.out.bx.c 0 _ rfl
                              have r11_0 := Y_11.out.bx.c 0 _ rfl
                              have r12_0 := Y_12.out.bx.c 0 _ rfl
                              have r13_0 := Y_13.out.bx.c 0 _ rfl
                              have r15_0 := Y_15.out.bx.c 0 _ rfl
                              have r17_0 := Y_17.out.bx.c 0 _ rfl
                              have r14_0 := Y_14.out.bx.c 0 _ rfl
                              have r14_1 := Y_14.out.bx.c 1 _ rfl
                              have r14_2 := Y_14.out.bx.c 2 _ rfl
                              have r16_0 := Y_16.out.bx.c 0 _ rfl
                              have r16_1 := Y_16.out.bx.c 1 _ rfl
                              have r16_2 := Y_16.out.bx.c 2 _ rfl
                              have hq7 : ∀ w, (Op.equalIn 10000 40 (.agg #[.int .i64 0, .int .u64 7, .int .i64 9]) (.agg #[.int .i64 0, .int .u64 7, .int .i64 9])).run Tryz.prog w = .ok true w := fun w => eq_reply 0 0 9 9 7 7 w
                              have c3 := K_y.out.bx.c 3 _ rfl
                              have c4 := K_y.out.bx.c 4 _ rfl
                              have h := O_y.out.slCm (j := 13) (by rw [kmy_len.1]; decide)
                              rw [kmy_13] at h
                              obtain ⟨s0, s1, s2, s3, s4⟩ := h
                              simp only [Nat.reduceMul, Nat.reduceAdd] at s0 s1 s2 s3 s4
                              have hqs : ∀ w, (Op.equalIn 10000 64 (.agg #[.int .i64 3, .int .i64 1, .int .i64 1, .int .i64 0, .int .i64 3]) (.agg #[.int .i64 3, .int .i64 1, .int .i64 1, .int .i64 0, .int .i64 3])).run Tryz.prog w = .ok true w := fun w => by
                                have := peqslot ⟨⟨3, 1, 1, 0⟩, 3⟩ ⟨⟨3, 1, 1, 0⟩, 3⟩ w
                                rw [Sl.eq_iff.2 rfl] at this
                                exact this
                              have h := O_y.out.thCm (j := 1) (by rw [kmy_len.2]; decide)
                              rw [kmy_1] at h
                              obtain ⟨p0, p1, p2, p3, p4, p5, p6, p7, p8, p9, p10, p11, p12⟩ := h
                              simp only [Nat.reduceMul, Nat.reduceAdd, Tng.of] at p0 p1 p2 p3 p4 p5 p6 p7 p8 p9 p10 p11 p12
                              have hqt : ∀ w, (Op.equalIn 10000 67 (.agg #[.int .i64 3, .int .i64 0, .int .i64 0, .int .i64 0, .int .i64 0, .int .i64 0, .int .i64 0, .bool false, .int .u64 0, .int .u64 0, .int .u64 0, .int .u64 0, .int .u64 0]) (.agg #[.int .i64 3, .int .i64 0, .int .i64 0, .int .i64 0, .int .i64 0, .int .i64 0, .int .i64 0, .bool false, .int .u64 0, .int .u64 0, .int .u64 0, .int .u64 0, .int .u64 0])).run Tryz.prog w = .ok true w := fun w => by
                                have := teq26 (Tng.of 3) (Tng.of 3) w
                                rw [Tng.eq_self] at this
                                exact this
                              have t0 := K_s.out.bx.c 0 _ rfl
                              have t1 := K_s.out.bx.c 1 _ rfl
                              have t2 := K_s.out.bx.c 2 _ rfl
                              have t3 := K_s.out.bx.c 3 _ rfl
                              have t4 := K_s.out.bx.c 4 _ rfl
                              have j0 := K_z.out.bx.c 0 _ rfl
                              have j1 := K_z.out.bx.c 1 _ rfl
                              have j2 := K_z.out.bx.c 2 _ rfl
                              have j3 := K_z.out.bx.c 3 _ rfl
                              have j4 := K_z.out.bx.c 4 _ rfl
                              go_wp2_with fail
                              refine (psame_is (⟨O_z.out.lies, km_ge.2.2.1, ks3_len.1.symm, ks3_len.2.symm, by decide, by decide, HC_z.out.1, HC_z.out.2⟩ : StH _ ks3 2 32 16 (some ⟨P16, 0, none⟩) 32 ca16 (some ⟨Q16, 0, none⟩) 16 cc16) (⟨O_s.out.lies, km_ge.2.2.1, ks3_len.1.symm, ks3_len.2.symm, by decide, by decide, HC_ks3.out.1, HC_ks3.out.2⟩ : StH _ ks3 2 32 16 (some ⟨P3, 0, none⟩) 32 ca3 (some ⟨Q3, 0, none⟩) 16 cc3) (St.same_iff.2 rfl)).mono ?_
                              rintro e z3 ⟨rfl, hb⟩
                              have HE := Lib.hid (below_on HW.out hb)
                              have r17 := (Y_17.out.on hb).bx.c 0 _ rfl
                              clear hb hq0 hq7 hqs hqt c3 c4 s0 s1 s2 s3 s4 t0 t1 t2 t3 t4 j0 j1 j2 j3 j4 r17_0 p0 p1 p2 p3 p4 p5 p6 p7 p8 p9 p10 p11 p12
                              go_wp2
                              go_ret
                              exact ⟨rfl, HE.out⟩
end Go.Proofs.YtkpbfbmkolgmgaaGreat
