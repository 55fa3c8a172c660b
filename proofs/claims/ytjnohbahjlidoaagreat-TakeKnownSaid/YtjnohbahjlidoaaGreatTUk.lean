/-
  The law's own nested: a node in a slot, with a bell and a copy of it in it, and a copy of that beside. Condition: none.
-/
import Derived.Test.YtjnohbahjlidoaaGreatTUi
namespace Go.Proofs.YtjnohbahjlidoaaGreat
open Go.RowKit
set_option linter.unusedSimpArgs false
set_option linter.unusedVariables false

theorem Wbs.rebase {V U w : World} {g : Nat} {cs : List Value} (h : Wbs U w g cs) (hb : Below V.heap.size V U) : Wbs V w g cs := ⟨⟨h.bx.c, hb.trans (h.bx.old.mono hb.size), Nat.le_trans hb.size h.bx.base, h.bx.lt⟩, h.free⟩
theorem tn1_len : tn1.sl.length = 32 ∧ tn1.th.length = 16 := ⟨by kernel_rfl, by kernel_rfl⟩
theorem tn2_len : tn2.sl.length = 32 ∧ tn2.th.length = 16 := ⟨by kernel_rfl, by kernel_rfl⟩
theorem tn3_len : tn3.sl.length = 32 ∧ tn3.th.length = 16 := ⟨by kernel_rfl, by kernel_rfl⟩
theorem tn4_len : tn4.sl.length = 32 ∧ tn4.th.length = 16 := ⟨by kernel_rfl, by kernel_rfl⟩
theorem tn_g : tn1.g = ⟨2, 32, 16⟩ ∧ tn2.g = ⟨2, 32, 16⟩ ∧ tn3.g = ⟨2, 32, 16⟩ ∧ tn4.g = ⟨2, 32, 16⟩ := ⟨by kernel_rfl, by kernel_rfl, by kernel_rfl, by kernel_rfl⟩
set_option maxRecDepth 100000 in
set_option maxHeartbeats 16000000 in
theorem nested17_is (w : World) : Calls Tryz.prog 9 #[] w fun e w' => ∃ P ca Q cc, e = .returned (.agg #[.int .i64 2, .int .i64 32, .int .i64 16, .slice (some ⟨P, 0, none⟩) 32 ca, .slice (some ⟨Q, 0, none⟩) 16 cc]) ∧ 32 ≤ ca ∧ 16 ≤ cc ∧ Ost w w' tn4 P Q := by
  have rb := Wbs.more (below_self w) [.int .i64 0, .int .i64 0, .int .i64 0, .slice none 0 0, .slice none 0 0] 28
  go_enter Tryz.func9, Tryz.ntmps9
  go_upto_region 1 with fail
  obtain ⟨g0, hg0⟩ : ∃ g0, g0 = w.heap.size := ⟨_, rfl⟩
  rw [← hg0] at rb ⊢
  clear hg0
  generalize w.alloc _ = w1 at rb ⊢
  have RB := Lib.hid rb
  clear rb
  go_wp2_with fail
  refine (first17_is w1).mono ?_
  rintro e w2 ⟨A, ca, C, cc, rfl, hS, -, hb⟩
  have HS := Lib.hid hS
  have HB2 := Lib.hid hb
  clear hS hb
  have hL := one_at w2 0
  have hb := below_alloc w2 (.cells #[.int .i64 0] 3)
  go_wp2_with fail
  generalize w2.alloc _ = w3 at hL hb ⊢
  have HL := Lib.hid hL
  have HB3 := Lib.hid hb
  clear hL hb
  refine (way17_is w3).mono ?_
  rintro e w4 ⟨rfl, hb⟩
  replace HL := Lib.hid (HL.out.on hb)
  have HB4 := Lib.hid (below_on HB3.out hb)
  clear hb HB3
  have hM := one_at w4 2
  have hb := below_alloc w4 (.cells #[.int .i64 2] 3)
  go_wp2_with fail
  generalize w4.alloc _ = w5 at hM hb ⊢
  have HM := Lib.hid hM
  replace HL := Lib.hid (HL.out.on hb)
  have HB5 := Lib.hid (below_on HB4.out hb)
  clear hM hb HB4
  refine (way17_is w5).mono ?_
  rintro e w6 ⟨rfl, hb⟩
  replace HM := Lib.hid (HM.out.on hb)
  replace HL := Lib.hid (HL.out.on hb)
  have HB6 := Lib.hid (below_on HB5.out hb)
  clear hb HB5
  go_wp2_with fail
  refine (do_is (z := 0) (HS.out.on HB6.out) rfl (by simp) HL.out rfl (by simp) HM.out tn_a).mono ?_
  rintro e w7 ⟨A2, ca1, C2, cc1, rfl, hb, hca, hcc, hF⟩
  obtain ⟨P1, Q1, rfl, rfl, hO⟩ := hF.ost (by rw [tn1_len.1]; decide) (by rw [tn1_len.2]; decide) hb
  replace RB := Lib.hid (RB.out.on (below_on (below_on HB2.out HB6.out) hb))
  simp only [Rep.val]
  clear hF hb HS HB2 HB6 HL HM
  have HC1 := Lib.hid (⟨hca, hcc⟩ : 32 ≤ ca1 ∧ 16 ≤ cc1)
  clear hca hcc
  obtain ⟨n2, n3⟩ := boxes2 w7 [.int .i64 2, .int .i64 32, .int .i64 16, .slice (some ⟨P1, 0, none⟩) 32 ca1, .slice (some ⟨Q1, 0, none⟩) 16 cc1] [.int .i64 0, .int .u64 ((0 : Nat) : Int), .int .i64 4] 28 33
  have hal0 := below_alloc w7 (.cells #[.int .i64 2, .int .i64 32, .int .i64 16, .slice (some ⟨P1, 0, none⟩) 32 ca1, .slice (some ⟨Q1, 0, none⟩) 16 cc1] 28)
  have hal := below_alloc (w7.alloc (.cells #[.int .i64 2, .int .i64 32, .int .i64 16, .slice (some ⟨P1, 0, none⟩) 32 ca1, .slice (some ⟨Q1, 0, none⟩) 16 cc1] 28)) (.cells #[.int .i64 0, .int .u64 ((0 : Nat) : Int), .int .i64 4] 33)
  have o2 := (hO.on hal0).on hal
  have r2 := (RB.out.on hal0).on hal
  clear hO n3 hal hal0
  have HNE : Hid (g0 ≠ w7.heap.size) := Lib.hid (by have := RB.out.bx.lt; omega)
  have HB7 := Lib.hid RB.out.bx.old
  clear RB
  go_upto_region 2 with fail
  obtain ⟨j1, hj1⟩ : ∃ j1, j1 = w7.heap.size + 1 := ⟨_, rfl⟩
  try rw [← hj1]
  clear hj1
  obtain ⟨j0, hj0⟩ : ∃ j0, j0 = w7.heap.size := ⟨_, rfl⟩
  rw [← hj0] at n2 HNE ⊢
  clear hj0
  generalize (w7.alloc _).alloc _ = v2 at n2 o2 r2 ⊢
  have K := Lib.hid (n2.rebase HB7.out)
  have O_tn1 := Lib.hid o2
  have RB := Lib.hid r2
  have HC_tn1 := HC1
  clear n2 o2 r2 HC1
  have HS1 : Hid (StH v2 tn1 2 32 16 (some ⟨P1, 0, none⟩) 32 ca1 (some ⟨Q1, 0, none⟩) 16 cc1) := Lib.hid ⟨O_tn1.out.lies, tn_g.1, tn1_len.1.symm, tn1_len.2.symm, by decide, by decide, HC_tn1.out.1, HC_tn1.out.2⟩
  have HG2 : Hid (g0 < v2.heap.size) := Lib.hid RB.out.bx.lt
  have HP : Hid (∀ s', some tn2 = some s' → 0 < s'.sl.length ∧ 0 < s'.th.length) := Lib.hid fun s' e => by
    injection e with e
    rw [← e, tn2_len.1, tn2_len.2]
    decide
  have hb0 := (below_self v2).drew
  refine wp_region_held_drew (S := fun _ => True) (by kernel_rfl) trivial (fun _ => ?_)
  refine wpAnyH_inv (f0 := 0) [0, 1, 2, 3, 4, 5, 6, 7, 8, 9, 10] [14, 15, 16, 17, 18, 19, 20, 13, 21, 22] (fun l tm w => P7 v2 j0 [0] [2, 1] 2 32 16 (some ⟨P1, 0, none⟩) 32 ca1 (some ⟨Q1, 0, none⟩) 16 cc1 (some tn2) (.agg #[.int .i64 0, .int .u64 0, .int .i64 5]) (fun p q => .agg #[.int .i64 1, flat1 p, flat1 q, .int .i64 4, .int .i64 0, .int .u64 0]) (.agg #[.int .i64 2, .int .i64 32, .int .i64 16, .slice (some ⟨P1, 0, none⟩) 32 ca1, .slice (some ⟨Q1, 0, none⟩) 16 cc1]) (l 0) (l 1) (l 2) (l 3) (l 4) (l 5) (l 6) (l 7) (l 8) (l 9) (l 10) (tm 14) (tm 15) (tm 16) (tm 17) (tm 18) (tm 19) (tm 20) (tm 13) (tm 21) (tm 22) w) (by kernel_rfl) (by kernel_rfl) rfl (by decide) (fun _ _ _ _ => trivial) ?start (AllSteps.cons rfl ?o0 (AllSteps.cons rfl ?o1 (AllSteps.cons rfl ?o2 (AllSteps.cons rfl ?o3 (AllSteps.cons rfl ?o4 (AllSteps.cons rfl ?o5 (AllSteps.cons rfl ?o6 (AllSteps.cons rfl ?o7 (AllSteps.cons rfl ?o8 (AllSteps.cons rfl ?o9 (AllSteps.cons rfl ?o10 AllSteps.nil))))))))))) ?fin
  case o0 =>
    intro l tm w h hl hd K0 hK
    try dsimp only at h
    rw [hl] at h
    have hs6 := h.early (by simp)
    have hP := h.h hs6
    refine st_load (by rfl) 28 (.tmp 1) (by rfl) j0 0 (by kernel_rfl) [.int .i64 2, .int .i64 32, .int .i64 16, .slice (some ⟨P1, 0, none⟩) 32 ca1, .slice (some ⟨Q1, 0, none⟩) 16 cc1] _ (K.out.on hP.bb).bx.range Tryz.underlying28 rfl info_state ?_
    exact hK.out _ _ ⟨fun _ => rfl, fun _ => hP, fun e => ff hs6 e⟩
  case o1 =>
    intro l tm w h hl hd K0 hK
    try dsimp only at h
    rw [hl] at h
    have hs6 := h.early (by simp)
    have hv6 := h.ld
    replace h := h.h hs6
    have hh := h.addB1 (below_alloc w (.cells #[.int .i64 0] 3)) (lis_one w 0)
    exact st_run (v := .slice (some ⟨w.heap.size, 0, none⟩) 1 1) (by rfl) (by kernel_rfl) (hK.out _ _ ⟨hv6, fun _ => hh, fun e => ff hs6 e⟩)
  case o2 =>
    intro l tm w h hl hd K0 hK
    try dsimp only at h
    rw [hl] at h
    have hs6 := h.early (by simp)
    have hv6 := h.ld
    replace h := h.h hs6
    have h0 := h
    obtain ⟨⟨B, nB, cB, eB, -⟩, -⟩ := h0.way1 (hd 1 (by kernel_rfl))
    have hc := way17_is (A := B) (n := nB) (cap := cB) w
    rw [← eB] at hc
    refine st_call (f := 11) (args := #[(tm 15)]) (w' := w) (by rfl) (by kernel_rfl) (hc.mono ?_)
    rintro e w1 ⟨rfl, hb⟩
    exact ⟨_, rfl, hK.out _ _ ⟨hv6, fun _ => (h.addW1 (hd 1 (by kernel_rfl)) hb rfl), fun e => ff hs6 e⟩⟩
  case o3 =>
    intro l tm w h hl hd K0 hK
    try dsimp only at h
    rw [hl] at h
    have hs6 := h.early (by simp)
    have hv6 := h.ld
    replace h := h.h hs6
    have hh := h.addB2 (below_alloc w (.cells #[.int .i64 2, .int .i64 1] 3)) (lis_two w 2 1)
    exact st_run (v := .slice (some ⟨w.heap.size, 0, none⟩) 2 2) (by rfl) (by kernel_rfl) (hK.out _ _ ⟨hv6, fun _ => hh, fun e => ff hs6 e⟩)
  case o4 =>
    intro l tm w h hl hd K0 hK
    try dsimp only at h
    rw [hl] at h
    have hs6 := h.early (by simp)
    have hv6 := h.ld
    replace h := h.h hs6
    have h0 := h
    obtain ⟨⟨B, nB, cB, eB, -⟩, -⟩ := h0.way2 (hd 3 (by kernel_rfl))
    have hc := way17_is (A := B) (n := nB) (cap := cB) w
    rw [← eB] at hc
    refine st_call (f := 11) (args := #[(tm 17)]) (w' := w) (by rfl) (by kernel_rfl) (hc.mono ?_)
    rintro e w1 ⟨rfl, hb⟩
    exact ⟨_, rfl, hK.out _ _ ⟨hv6, fun _ => (h.addW2 (hd 3 (by kernel_rfl)) hb rfl), fun e => ff hs6 e⟩⟩
  case o5 =>
    intro l tm w h hl hd K0 hK
    try dsimp only at h
    rw [hl] at h
    have hs6 := h.early (by simp)
    have hv6 := h.ld
    replace h := h.h hs6
    have d1 := hd 2 (by kernel_rfl)
    have d2 := hd 4 (by kernel_rfl)
    have h0 := h
    obtain ⟨⟨B1, n1, k1, eB1, eN1, eK1, eI1⟩, eW1⟩ := h0.way1 ((h0.rg rfl).w1 d1).1
    obtain ⟨⟨B2, n2, k2, eB2, eN2, eK2, eI2⟩, eW2⟩ := h0.way2 ((h0.rg rfl).w2 d2).1
    have hW1 := (eW1 d1).trans (by rw [eB1])
    have hW2 := (eW2 d2).trans (by rw [eB2])
    refine st_run (v := (fun p q => .agg #[.int .i64 1, flat1 p, flat1 q, .int .i64 4, .int .i64 0, .int .u64 0]) (tm 16) (tm 18)) (w' := w) (by rfl) ?_ (hK.out _ _ ⟨hv6, fun _ => (h.addBd d1 d2 rfl), fun e => ff hs6 e⟩)
    simp only [List.getElem_toArray, List.getElem_cons_zero, List.getElem_cons_succ, pmA, List.foldl_cons, List.foldl_nil, Act.put, List.setIfInBounds_toArray, List.set_cons_zero, List.set_cons_succ]
    rw [hW1, hW2]
    kernel_rfl
  case o6 =>
    intro l tm w h hl hd K0 hK
    try dsimp only at h
    rw [hl] at h
    have hs6 := h.early (by simp)
    have hv6 := h.ld
    replace h := h.h hs6
    have d0 := hd 5 (by kernel_rfl)
    obtain ⟨d1, d2, eBD⟩ := h.e6 d0
    have h0 := h
    obtain ⟨⟨B1, n1, k1, eB1, eN1, eK1, eI1⟩, eW1⟩ := h0.way1 ((h0.rg rfl).w1 d1).1
    obtain ⟨⟨B2, n2, k2, eB2, eN2, eK2, eI2⟩, eW2⟩ := h0.way2 ((h0.rg rfl).w2 d2).1
    have hW1 := (eW1 d1).trans (by rw [eB1])
    have hW2 := (eW2 d2).trans (by rw [eB2])
    rw [hW1, hW2] at eBD
    have hA : #[(tm 14), .int .i64 0, (tm 19)] = #[.agg #[.int .i64 2, .int .i64 32, .int .i64 16, .slice (some ⟨P1, 0, none⟩) 32 ca1, .slice (some ⟨Q1, 0, none⟩) 16 cc1], .int .i64 0, .agg #[.int .i64 1, .slice B1 n1 k1, .slice B2 n2 k2, .int .i64 4, .int .i64 0, .int .u64 0]] := by rw [hv6 (hd 0 (by kernel_rfl)), eBD]; rfl
    refine st_call (f := 21) (args := #[(tm 14), .int .i64 0, (tm 19)]) (w' := w) (by rfl) (by kernel_rfl) ?_
    rw [hA]
    refine (do_is (z := 0) (HS1.out.on h.bb) eN1 eK1 eI1 eN2 eK2 eI2 tn_b).mono ?_
    rintro e w1 ⟨A', ca', C', cc', rfl, hb, hm⟩
    obtain ⟨q1, q2⟩ := resD_of (a := 2) (b := 32) (c := 16) (R := (.agg #[.int .i64 0, .int .u64 0, .int .i64 5])) h.bb.size hm HP.out
    exact ⟨_, rfl, hK.out _ _ ⟨hv6, fun _ => (h.addD hb q1 q2), fun e => ff hs6 e⟩⟩
  case o7 =>
    intro l tm w h hl hd K0 hK
    try dsimp only at h
    rw [hl] at h
    have hs6 := h.early (by simp)
    have hv6 := h.ld
    replace h := h.h hs6
    exact st_run (v := tm 20) (w' := w) (by rfl) (by kernel_rfl) (hK.out _ _ ⟨hv6, fun _ => (h.addMv (hd 6 (by kernel_rfl)) rfl), fun e => ff hs6 e⟩)
  case o8 =>
    intro l tm w h hl hd K0 hK
    try dsimp only at h
    rw [hl] at h
    have hs6 := h.early (by simp)
    have hv6 := h.ld
    replace h := h.h hs6
    obtain ⟨A', ca', C', cc', eT, -⟩ := h.tup (hd 7 (by kernel_rfl))
    refine st_run (v := .agg #[.int .i64 2, .int .i64 32, .int .i64 16, .slice A' 32 ca', .slice C' 16 cc']) (w' := w) (by rfl) ?_ (hK.out _ _ ⟨hv6, fun _ => (h.addE1 (hd 7 (by kernel_rfl)) eT), fun e => ff hs6 e⟩)
    simp only [List.getElem_toArray, List.getElem_cons_zero, List.getElem_cons_succ, pmA, List.foldl_cons, List.foldl_nil, Act.put, List.setIfInBounds_toArray, List.set_cons_zero, List.set_cons_succ]
    rw [eT]
    kernel_rfl
  case o9 =>
    intro l tm w h hl hd K0 hK
    try dsimp only at h
    rw [hl] at h
    rcases hs : l 10 with _ | _
    · have hv6 := h.ld
      replace h := h.h hs
      obtain ⟨A', ca', C', cc', eT, -⟩ := h.tup (hd 7 (by kernel_rfl))
      refine st_run (v := (.agg #[.int .i64 0, .int .u64 0, .int .i64 5])) (w' := w) (by rfl) ?_ (hK.out _ _ ⟨hv6, fun _ => h.addE2 (hd 7 (by kernel_rfl)) eT, fun e => ff hs e⟩)
      simp only [List.getElem_toArray, List.getElem_cons_zero, List.getElem_cons_succ, pmA, List.foldl_cons, List.foldl_nil, Act.put, List.setIfInBounds_toArray, List.set_cons_zero, List.set_cons_succ]
      rw [eT]
      kernel_rfl
    · obtain ⟨hfl, w0, A1, ca1, C1, cc1, eD, ew, hP⟩ := h.s hs
      obtain ⟨A', ca', C', cc', eT, -⟩ := hP.tup (hd 7 (by kernel_rfl))
      refine st_run (v := (.agg #[.int .i64 0, .int .u64 0, .int .i64 5])) (w' := w) (by rfl) ?_ (hK.out _ _ ⟨h.ld, fun e => ff e hs, fun _ => ⟨hfl, w0, A1, ca1, C1, cc1, eD, ew, hP.addE2 (hd 7 (by kernel_rfl)) eT⟩⟩)
      simp only [List.getElem_toArray, List.getElem_cons_zero, List.getElem_cons_succ, pmA, List.foldl_cons, List.foldl_nil, Act.put, List.setIfInBounds_toArray, List.set_cons_zero, List.set_cons_succ]
      rw [eT]
      kernel_rfl
  case o10 =>
    intro l tm w h hl hd K0 hK
    try dsimp only at h
    rw [hl] at h
    have hP := h.h rfl
    obtain ⟨A', ca', C', cc', e1, eD⟩ := hP.e1v (hd 7 (by kernel_rfl)) (hd 8 (by kernel_rfl))
    have HT : Hid (w.there j0 0 (#[.int .i64 2, .int .i64 32, .int .i64 16, .slice A' 32 ca', .slice C' 16 cc'] : Array Value).size) := Lib.hid ((K.out.on hP.bb).there (n := 5) rfl)
    have HO := Lib.hid (state_one 2 32 16 A' 32 ca' C' 16 cc')
    refine st_store (by rfl) 28 (.tmp 1) (.tmp 21) (by rfl) j0 0 #[.int .i64 2, .int .i64 32, .int .i64 16, .slice A' 32 ca', .slice C' 16 cc'] (by kernel_rfl) ((by kernel_rfl : _ = tm 21).trans e1) HT.out info_state HO.out ?_
    have hfl : (l 0 && l 1 && l 2 && l 3 && l 4 && l 5 && l 6 && l 7 && l 8) = true := by simp only [hd 0 (by kernel_rfl), hd 1 (by kernel_rfl), hd 2 (by kernel_rfl), hd 3 (by kernel_rfl), hd 4 (by kernel_rfl), hd 5 (by kernel_rfl), hd 6 (by kernel_rfl), hd 7 (by kernel_rfl), hd 8 (by kernel_rfl), Bool.and_self]
    exact hK.out undef (w.setCells j0 0 [.int .i64 2, .int .i64 32, .int .i64 16, .slice A' 32 ca', .slice C' 16 cc']) ⟨h.ld, fun e => ff e rfl, fun _ => ⟨hfl, w, A', ca', C', cc', eD, rfl, hP⟩⟩
  case start => exact ⟨fun e => ff rfl e, fun _ => ⟨hb0, fun _ => ⟨hb0, fun e => ff rfl e, fun e => ff rfl e, fun e => ff rfl e, fun e => ff rfl e, fun e => ff rfl e, fun e => ff rfl e, fun e => ff rfl e, fun e => ff rfl e, fun e => ff rfl e, fun e => ff rfl e⟩, fun e => ff rfl e, fun e => ff rfl e, fun e => ff rfl e, fun e => ff rfl e, fun e => ff rfl e, fun e => ff rfl e⟩, fun e => ff rfl e⟩
  case fin =>
    clear hb0
    intro tm u6 h
    try dsimp only at h
    obtain ⟨w0, Az, ca2, Cz, cc2, eu, hbz, hm⟩ := h.fin (by kernel_rfl)
    subst eu
    obtain ⟨hca, hcc, hF⟩ := hm
    obtain ⟨P2, Q2, rfl, rfl, hO⟩ := hF.ost (by rw [tn2_len.1]; decide) (by rw [tn2_len.2]; decide) hbz
    have HC_tn2 := Lib.hid (⟨hca, hcc⟩ : 32 ≤ ca2 ∧ 16 ≤ cc2)
    clear h hca hcc hF HP
    have HPN_tn2 : Hid (v2.heap.size ≤ P2 ∧ v2.heap.size ≤ Q2) := Lib.hid ⟨hO.oP, hO.oQ⟩
    have hlt := K.out.bx.lt
    have hl1 := hO.oP
    have hl2 := hO.oQ
    have f := Fnd.setCells j0 [.int .i64 2, .int .i64 32, .int .i64 16, .slice (some ⟨P2, 0, none⟩) 32 ca2, .slice (some ⟨Q2, 0, none⟩) 16 cc2] 0 w0
    have k7 := (K.out.on hbz).setCells (vs := [.int .i64 2, .int .i64 32, .int .i64 16, .slice (some ⟨P2, 0, none⟩) 32 ca2, .slice (some ⟨Q2, 0, none⟩) 16 cc2]) rfl
    have o6 := (hO.base K.out.bx.old).step f (by omega) (by omega) k7.bx.old
    have y_RB := (RB.out.on hbz).fnd f (HNE.out) k7.bx.old
    clear f hO hlt hl1 hl2 hbz
    simp only [pmA, List.foldl_cons, List.foldl_nil, Act.put, List.setIfInBounds_toArray, List.set_cons_zero, List.set_cons_succ]
    generalize w0.setCells j0 0 _ = v3 at k7 o6 y_RB ⊢
    clear K
    have K := Lib.hid k7
    have O_tn2 := Lib.hid o6
    replace RB := Lib.hid y_RB
    clear k7 o6 y_RB
    refine wpAnyH_done (by kernel_rfl) ?_ _
    go_upto_region 3 with fail
    clear HS1 O_tn1 HC_tn1
    have HS1 : Hid (StH v3 tn2 2 32 16 (some ⟨P2, 0, none⟩) 32 ca2 (some ⟨Q2, 0, none⟩) 16 cc2) := Lib.hid ⟨O_tn2.out.lies, tn_g.2.1, tn2_len.1.symm, tn2_len.2.symm, by decide, by decide, HC_tn2.out.1, HC_tn2.out.2⟩
    have HG3 : Hid (g0 < v3.heap.size) := Lib.hid RB.out.bx.lt
    have HP : Hid (∀ s', some tn3 = some s' → 0 < s'.sl.length ∧ 0 < s'.th.length) := Lib.hid fun s' e => by
      injection e with e
      rw [← e, tn3_len.1, tn3_len.2]
      decide
    have hb0 := (below_self v3).drew
    refine wp_region_held_drew (S := fun _ => True) (by kernel_rfl) trivial (fun _ => ?_)
    refine wpAnyH_inv (f0 := 0) [0, 1, 2, 3, 4, 5, 6, 7, 8, 9, 10] [24, 25, 26, 27, 28, 29, 30, 23, 31, 32] (fun l tm w => P7 v3 j0 [2, 1] [2, 2] 2 32 16 (some ⟨P2, 0, none⟩) 32 ca2 (some ⟨Q2, 0, none⟩) 16 cc2 (some tn3) (.agg #[.int .i64 0, .int .u64 0, .int .i64 0]) (fun p q => .agg #[.int .i64 2, flat1 p, flat1 q, .int .i64 1, .int .i64 0, .int .u64 0]) (.agg #[.int .i64 2, .int .i64 32, .int .i64 16, .slice (some ⟨P2, 0, none⟩) 32 ca2, .slice (some ⟨Q2, 0, none⟩) 16 cc2]) (l 0) (l 1) (l 2) (l 3) (l 4) (l 5) (l 6) (l 7) (l 8) (l 9) (l 10) (tm 24) (tm 25) (tm 26) (tm 27) (tm 28) (tm 29) (tm 30) (tm 23) (tm 31) (tm 32) w) (by kernel_rfl) (by kernel_rfl) rfl (by decide) (fun _ _ _ _ => trivial) ?start (AllSteps.cons rfl ?o0 (AllSteps.cons rfl ?o1 (AllSteps.cons rfl ?o2 (AllSteps.cons rfl ?o3 (AllSteps.cons rfl ?o4 (AllSteps.cons rfl ?o5 (AllSteps.cons rfl ?o6 (AllSteps.cons rfl ?o7 (AllSteps.cons rfl ?o8 (AllSteps.cons rfl ?o9 (AllSteps.cons rfl ?o10 AllSteps.nil))))))))))) ?fin
    case o0 =>
      intro l tm w h hl hd K0 hK
      try dsimp only at h
      rw [hl] at h
      have hs6 := h.early (by simp)
      have hP := h.h hs6
      refine st_load (by rfl) 28 (.tmp 1) (by rfl) j0 0 (by kernel_rfl) [.int .i64 2, .int .i64 32, .int .i64 16, .slice (some ⟨P2, 0, none⟩) 32 ca2, .slice (some ⟨Q2, 0, none⟩) 16 cc2] _ (K.out.on hP.bb).bx.range Tryz.underlying28 rfl info_state ?_
      exact hK.out _ _ ⟨fun _ => rfl, fun _ => hP, fun e => ff hs6 e⟩
    case o1 =>
      intro l tm w h hl hd K0 hK
      try dsimp only at h
      rw [hl] at h
      have hs6 := h.early (by simp)
      have hv6 := h.ld
      replace h := h.h hs6
      have hh := h.addB1 (below_alloc w (.cells #[.int .i64 2, .int .i64 1] 3)) (lis_two w 2 1)
      exact st_run (v := .slice (some ⟨w.heap.size, 0, none⟩) 2 2) (by rfl) (by kernel_rfl) (hK.out _ _ ⟨hv6, fun _ => hh, fun e => ff hs6 e⟩)
    case o2 =>
      intro l tm w h hl hd K0 hK
      try dsimp only at h
      rw [hl] at h
      have hs6 := h.early (by simp)
      have hv6 := h.ld
      replace h := h.h hs6
      have h0 := h
      obtain ⟨⟨B, nB, cB, eB, -⟩, -⟩ := h0.way1 (hd 1 (by kernel_rfl))
      have hc := way17_is (A := B) (n := nB) (cap := cB) w
      rw [← eB] at hc
      refine st_call (f := 11) (args := #[(tm 25)]) (w' := w) (by rfl) (by kernel_rfl) (hc.mono ?_)
      rintro e w1 ⟨rfl, hb⟩
      exact ⟨_, rfl, hK.out _ _ ⟨hv6, fun _ => (h.addW1 (hd 1 (by kernel_rfl)) hb rfl), fun e => ff hs6 e⟩⟩
    case o3 =>
      intro l tm w h hl hd K0 hK
      try dsimp only at h
      rw [hl] at h
      have hs6 := h.early (by simp)
      have hv6 := h.ld
      replace h := h.h hs6
      have hh := h.addB2 (below_alloc w (.cells #[.int .i64 2, .int .i64 2] 3)) (lis_two w 2 2)
      exact st_run (v := .slice (some ⟨w.heap.size, 0, none⟩) 2 2) (by rfl) (by kernel_rfl) (hK.out _ _ ⟨hv6, fun _ => hh, fun e => ff hs6 e⟩)
    case o4 =>
      intro l tm w h hl hd K0 hK
      try dsimp only at h
      rw [hl] at h
      have hs6 := h.early (by simp)
      have hv6 := h.ld
      replace h := h.h hs6
      have h0 := h
      obtain ⟨⟨B, nB, cB, eB, -⟩, -⟩ := h0.way2 (hd 3 (by kernel_rfl))
      have hc := way17_is (A := B) (n := nB) (cap := cB) w
      rw [← eB] at hc
      refine st_call (f := 11) (args := #[(tm 27)]) (w' := w) (by rfl) (by kernel_rfl) (hc.mono ?_)
      rintro e w1 ⟨rfl, hb⟩
      exact ⟨_, rfl, hK.out _ _ ⟨hv6, fun _ => (h.addW2 (hd 3 (by kernel_rfl)) hb rfl), fun e => ff hs6 e⟩⟩
    case o5 =>
      intro l tm w h hl hd K0 hK
      try dsimp only at h
      rw [hl] at h
      have hs6 := h.early (by simp)
      have hv6 := h.ld
      replace h := h.h hs6
      have d1 := hd 2 (by kernel_rfl)
      have d2 := hd 4 (by kernel_rfl)
      have h0 := h
      obtain ⟨⟨B1, n1, k1, eB1, eN1, eK1, eI1⟩, eW1⟩ := h0.way1 ((h0.rg rfl).w1 d1).1
      obtain ⟨⟨B2, n2, k2, eB2, eN2, eK2, eI2⟩, eW2⟩ := h0.way2 ((h0.rg rfl).w2 d2).1
      have hW1 := (eW1 d1).trans (by rw [eB1])
      have hW2 := (eW2 d2).trans (by rw [eB2])
      refine st_run (v := (fun p q => .agg #[.int .i64 2, flat1 p, flat1 q, .int .i64 1, .int .i64 0, .int .u64 0]) (tm 26) (tm 28)) (w' := w) (by rfl) ?_ (hK.out _ _ ⟨hv6, fun _ => (h.addBd d1 d2 rfl), fun e => ff hs6 e⟩)
      simp only [List.getElem_toArray, List.getElem_cons_zero, List.getElem_cons_succ, pmA, List.foldl_cons, List.foldl_nil, Act.put, List.setIfInBounds_toArray, List.set_cons_zero, List.set_cons_succ]
      rw [hW1, hW2]
      kernel_rfl
    case o6 =>
      intro l tm w h hl hd K0 hK
      try dsimp only at h
      rw [hl] at h
      have hs6 := h.early (by simp)
      have hv6 := h.ld
      replace h := h.h hs6
      have d0 := hd 5 (by kernel_rfl)
      obtain ⟨d1, d2, eBD⟩ := h.e6 d0
      have h0 := h
      obtain ⟨⟨B1, n1, k1, eB1, eN1, eK1, eI1⟩, eW1⟩ := h0.way1 ((h0.rg rfl).w1 d1).1
      obtain ⟨⟨B2, n2, k2, eB2, eN2, eK2, eI2⟩, eW2⟩ := h0.way2 ((h0.rg rfl).w2 d2).1
      have hW1 := (eW1 d1).trans (by rw [eB1])
      have hW2 := (eW2 d2).trans (by rw [eB2])
      rw [hW1, hW2] at eBD
      have hA : #[(tm 24), .int .i64 0, (tm 29)] = #[.agg #[.int .i64 2, .int .i64 32, .int .i64 16, .slice (some ⟨P2, 0, none⟩) 32 ca2, .slice (some ⟨Q2, 0, none⟩) 16 cc2], .int .i64 0, .agg #[.int .i64 2, .slice B1 n1 k1, .slice B2 n2 k2, .int .i64 1, .int .i64 0, .int .u64 0]] := by rw [hv6 (hd 0 (by kernel_rfl)), eBD]; rfl
      refine st_call (f := 18) (args := #[(tm 24), .int .i64 0, (tm 29)]) (w' := w) (by rfl) (by kernel_rfl) ?_
      rw [hA]
      refine (gdo_is (z := 0) (HS1.out.on h.bb) eN1 eK1 eI1 eN2 eK2 eI2 tn_c).mono ?_
      rintro e w1 ⟨A', ca', C', cc', rfl, hb, hm⟩
      obtain ⟨q1, q2⟩ := resD_of (a := 2) (b := 32) (c := 16) (R := (.agg #[.int .i64 0, .int .u64 0, .int .i64 0])) h.bb.size hm HP.out
      exact ⟨_, rfl, hK.out _ _ ⟨hv6, fun _ => (h.addD hb q1 q2), fun e => ff hs6 e⟩⟩
    case o7 =>
      intro l tm w h hl hd K0 hK
      try dsimp only at h
      rw [hl] at h
      have hs6 := h.early (by simp)
      have hv6 := h.ld
      replace h := h.h hs6
      exact st_run (v := tm 30) (w' := w) (by rfl) (by kernel_rfl) (hK.out _ _ ⟨hv6, fun _ => (h.addMv (hd 6 (by kernel_rfl)) rfl), fun e => ff hs6 e⟩)
    case o8 =>
      intro l tm w h hl hd K0 hK
      try dsimp only at h
      rw [hl] at h
      have hs6 := h.early (by simp)
      have hv6 := h.ld
      replace h := h.h hs6
      obtain ⟨A', ca', C', cc', eT, -⟩ := h.tup (hd 7 (by kernel_rfl))
      refine st_run (v := .agg #[.int .i64 2, .int .i64 32, .int .i64 16, .slice A' 32 ca', .slice C' 16 cc']) (w' := w) (by rfl) ?_ (hK.out _ _ ⟨hv6, fun _ => (h.addE1 (hd 7 (by kernel_rfl)) eT), fun e => ff hs6 e⟩)
      simp only [List.getElem_toArray, List.getElem_cons_zero, List.getElem_cons_succ, pmA, List.foldl_cons, List.foldl_nil, Act.put, List.setIfInBounds_toArray, List.set_cons_zero, List.set_cons_succ]
      rw [eT]
      kernel_rfl
    case o9 =>
      intro l tm w h hl hd K0 hK
      try dsimp only at h
      rw [hl] at h
      rcases hs : l 10 with _ | _
      · have hv6 := h.ld
        replace h := h.h hs
        obtain ⟨A', ca', C', cc', eT, -⟩ := h.tup (hd 7 (by kernel_rfl))
        refine st_run (v := (.agg #[.int .i64 0, .int .u64 0, .int .i64 0])) (w' := w) (by rfl) ?_ (hK.out _ _ ⟨hv6, fun _ => h.addE2 (hd 7 (by kernel_rfl)) eT, fun e => ff hs e⟩)
        simp only [List.getElem_toArray, List.getElem_cons_zero, List.getElem_cons_succ, pmA, List.foldl_cons, List.foldl_nil, Act.put, List.setIfInBounds_toArray, List.set_cons_zero, List.set_cons_succ]
        rw [eT]
        kernel_rfl
      · obtain ⟨hfl, w0, A1, ca1, C1, cc1, eD, ew, hP⟩ := h.s hs
        obtain ⟨A', ca', C', cc', eT, -⟩ := hP.tup (hd 7 (by kernel_rfl))
        refine st_run (v := (.agg #[.int .i64 0, .int .u64 0, .int .i64 0])) (w' := w) (by rfl) ?_ (hK.out _ _ ⟨h.ld, fun e => ff e hs, fun _ => ⟨hfl, w0, A1, ca1, C1, cc1, eD, ew, hP.addE2 (hd 7 (by kernel_rfl)) eT⟩⟩)
        simp only [List.getElem_toArray, List.getElem_cons_zero, List.getElem_cons_succ, pmA, List.foldl_cons, List.foldl_nil, Act.put, List.setIfInBounds_toArray, List.set_cons_zero, List.set_cons_succ]
        rw [eT]
        kernel_rfl
    case o10 =>
      intro l tm w h hl hd K0 hK
      try dsimp only at h
      rw [hl] at h
      have hP := h.h rfl
      obtain ⟨A', ca', C', cc', e1, eD⟩ := hP.e1v (hd 7 (by kernel_rfl)) (hd 8 (by kernel_rfl))
      have HT : Hid (w.there j0 0 (#[.int .i64 2, .int .i64 32, .int .i64 16, .slice A' 32 ca', .slice C' 16 cc'] : Array Value).size) := Lib.hid ((K.out.on hP.bb).there (n := 5) rfl)
      have HO := Lib.hid (state_one 2 32 16 A' 32 ca' C' 16 cc')
      refine st_store (by rfl) 28 (.tmp 1) (.tmp 31) (by rfl) j0 0 #[.int .i64 2, .int .i64 32, .int .i64 16, .slice A' 32 ca', .slice C' 16 cc'] (by kernel_rfl) ((by kernel_rfl : _ = tm 31).trans e1) HT.out info_state HO.out ?_
      have hfl : (l 0 && l 1 && l 2 && l 3 && l 4 && l 5 && l 6 && l 7 && l 8) = true := by simp only [hd 0 (by kernel_rfl), hd 1 (by kernel_rfl), hd 2 (by kernel_rfl), hd 3 (by kernel_rfl), hd 4 (by kernel_rfl), hd 5 (by kernel_rfl), hd 6 (by kernel_rfl), hd 7 (by kernel_rfl), hd 8 (by kernel_rfl), Bool.and_self]
      exact hK.out undef (w.setCells j0 0 [.int .i64 2, .int .i64 32, .int .i64 16, .slice A' 32 ca', .slice C' 16 cc']) ⟨h.ld, fun e => ff e rfl, fun _ => ⟨hfl, w, A', ca', C', cc', eD, rfl, hP⟩⟩
    case start => exact ⟨fun e => ff rfl e, fun _ => ⟨hb0, fun _ => ⟨hb0, fun e => ff rfl e, fun e => ff rfl e, fun e => ff rfl e, fun e => ff rfl e, fun e => ff rfl e, fun e => ff rfl e, fun e => ff rfl e, fun e => ff rfl e, fun e => ff rfl e, fun e => ff rfl e⟩, fun e => ff rfl e, fun e => ff rfl e, fun e => ff rfl e, fun e => ff rfl e, fun e => ff rfl e, fun e => ff rfl e⟩, fun e => ff rfl e⟩
    case fin =>
      clear hb0
      intro tm u6 h
      try dsimp only at h
      obtain ⟨w0, Az, ca3, Cz, cc3, eu, hbz, hm⟩ := h.fin (by kernel_rfl)
      subst eu
      obtain ⟨hca, hcc, hF⟩ := hm
      obtain ⟨P3, Q3, rfl, rfl, hO⟩ := hF.ost (by rw [tn3_len.1]; decide) (by rw [tn3_len.2]; decide) hbz
      have HC_tn3 := Lib.hid (⟨hca, hcc⟩ : 32 ≤ ca3 ∧ 16 ≤ cc3)
      clear h hca hcc hF HP
      have HPN_tn3 : Hid (v3.heap.size ≤ P3 ∧ v3.heap.size ≤ Q3) := Lib.hid ⟨hO.oP, hO.oQ⟩
      have hlt := K.out.bx.lt
      have hl1 := hO.oP
      have hl2 := hO.oQ
      have f := Fnd.setCells j0 [.int .i64 2, .int .i64 32, .int .i64 16, .slice (some ⟨P3, 0, none⟩) 32 ca3, .slice (some ⟨Q3, 0, none⟩) 16 cc3] 0 w0
      have k7 := (K.out.on hbz).setCells (vs := [.int .i64 2, .int .i64 32, .int .i64 16, .slice (some ⟨P3, 0, none⟩) 32 ca3, .slice (some ⟨Q3, 0, none⟩) 16 cc3]) rfl
      have o6 := (hO.base K.out.bx.old).step f (by omega) (by omega) k7.bx.old
      have y_RB := (RB.out.on hbz).fnd f (HNE.out) k7.bx.old
      clear f hO hlt hl1 hl2 hbz
      simp only [pmA, List.foldl_cons, List.foldl_nil, Act.put, List.setIfInBounds_toArray, List.set_cons_zero, List.set_cons_succ]
      generalize w0.setCells j0 0 _ = v4 at k7 o6 y_RB ⊢
      clear K
      have K := Lib.hid k7
      have O_tn3 := Lib.hid o6
      replace RB := Lib.hid y_RB
      clear k7 o6 y_RB
      refine wpAnyH_done (by kernel_rfl) ?_ _
      go_upto_region 4 with fail
      clear HS1 O_tn2 HC_tn2
      have HS1 : Hid (StH v4 tn3 2 32 16 (some ⟨P3, 0, none⟩) 32 ca3 (some ⟨Q3, 0, none⟩) 16 cc3) := Lib.hid ⟨O_tn3.out.lies, tn_g.2.2.1, tn3_len.1.symm, tn3_len.2.symm, by decide, by decide, HC_tn3.out.1, HC_tn3.out.2⟩
      have HG4 : Hid (g0 < v4.heap.size) := Lib.hid RB.out.bx.lt
      have HP : Hid (∀ s', some tn4 = some s' → 0 < s'.sl.length ∧ 0 < s'.th.length) := Lib.hid fun s' e => by
        injection e with e
        rw [← e, tn4_len.1, tn4_len.2]
        decide
      have hb0 := (below_self v4).drew
      refine wp_region_held_drew (S := fun _ => True) (by kernel_rfl) trivial (fun _ => ?_)
      refine wpAnyH_inv (f0 := 0) [0, 1, 2, 3, 4, 5, 6, 7, 8, 9, 10] [34, 35, 36, 37, 38, 39, 40, 33, 41, 42] (fun l tm w => P7 v4 j0 [2, 2] [4] 2 32 16 (some ⟨P3, 0, none⟩) 32 ca3 (some ⟨Q3, 0, none⟩) 16 cc3 (some tn4) (.agg #[.int .i64 0, .int .u64 0, .int .i64 0]) (fun p q => .agg #[.int .i64 2, flat1 p, flat1 q, .int .i64 7, .int .i64 0, .int .u64 0]) (.agg #[.int .i64 2, .int .i64 32, .int .i64 16, .slice (some ⟨P3, 0, none⟩) 32 ca3, .slice (some ⟨Q3, 0, none⟩) 16 cc3]) (l 0) (l 1) (l 2) (l 3) (l 4) (l 5) (l 6) (l 7) (l 8) (l 9) (l 10) (tm 34) (tm 35) (tm 36) (tm 37) (tm 38) (tm 39) (tm 40) (tm 33) (tm 41) (tm 42) w) (by kernel_rfl) (by kernel_rfl) rfl (by decide) (fun _ _ _ _ => trivial) ?start (AllSteps.cons rfl ?o0 (AllSteps.cons rfl ?o1 (AllSteps.cons rfl ?o2 (AllSteps.cons rfl ?o3 (AllSteps.cons rfl ?o4 (AllSteps.cons rfl ?o5 (AllSteps.cons rfl ?o6 (AllSteps.cons rfl ?o7 (AllSteps.cons rfl ?o8 (AllSteps.cons rfl ?o9 (AllSteps.cons rfl ?o10 AllSteps.nil))))))))))) ?fin
      case o0 =>
        intro l tm w h hl hd K0 hK
        try dsimp only at h
        rw [hl] at h
        have hs6 := h.early (by simp)
        have hP := h.h hs6
        refine st_load (by rfl) 28 (.tmp 1) (by rfl) j0 0 (by kernel_rfl) [.int .i64 2, .int .i64 32, .int .i64 16, .slice (some ⟨P3, 0, none⟩) 32 ca3, .slice (some ⟨Q3, 0, none⟩) 16 cc3] _ (K.out.on hP.bb).bx.range Tryz.underlying28 rfl info_state ?_
        exact hK.out _ _ ⟨fun _ => rfl, fun _ => hP, fun e => ff hs6 e⟩
      case o1 =>
        intro l tm w h hl hd K0 hK
        try dsimp only at h
        rw [hl] at h
        have hs6 := h.early (by simp)
        have hv6 := h.ld
        replace h := h.h hs6
        have hh := h.addB1 (below_alloc w (.cells #[.int .i64 2, .int .i64 2] 3)) (lis_two w 2 2)
        exact st_run (v := .slice (some ⟨w.heap.size, 0, none⟩) 2 2) (by rfl) (by kernel_rfl) (hK.out _ _ ⟨hv6, fun _ => hh, fun e => ff hs6 e⟩)
      case o2 =>
        intro l tm w h hl hd K0 hK
        try dsimp only at h
        rw [hl] at h
        have hs6 := h.early (by simp)
        have hv6 := h.ld
        replace h := h.h hs6
        have h0 := h
        obtain ⟨⟨B, nB, cB, eB, -⟩, -⟩ := h0.way1 (hd 1 (by kernel_rfl))
        have hc := way17_is (A := B) (n := nB) (cap := cB) w
        rw [← eB] at hc
        refine st_call (f := 11) (args := #[(tm 35)]) (w' := w) (by rfl) (by kernel_rfl) (hc.mono ?_)
        rintro e w1 ⟨rfl, hb⟩
        exact ⟨_, rfl, hK.out _ _ ⟨hv6, fun _ => (h.addW1 (hd 1 (by kernel_rfl)) hb rfl), fun e => ff hs6 e⟩⟩
      case o3 =>
        intro l tm w h hl hd K0 hK
        try dsimp only at h
        rw [hl] at h
        have hs6 := h.early (by simp)
        have hv6 := h.ld
        replace h := h.h hs6
        have hh := h.addB2 (below_alloc w (.cells #[.int .i64 4] 3)) (lis_one w 4)
        exact st_run (v := .slice (some ⟨w.heap.size, 0, none⟩) 1 1) (by rfl) (by kernel_rfl) (hK.out _ _ ⟨hv6, fun _ => hh, fun e => ff hs6 e⟩)
      case o4 =>
        intro l tm w h hl hd K0 hK
        try dsimp only at h
        rw [hl] at h
        have hs6 := h.early (by simp)
        have hv6 := h.ld
        replace h := h.h hs6
        have h0 := h
        obtain ⟨⟨B, nB, cB, eB, -⟩, -⟩ := h0.way2 (hd 3 (by kernel_rfl))
        have hc := way17_is (A := B) (n := nB) (cap := cB) w
        rw [← eB] at hc
        refine st_call (f := 11) (args := #[(tm 37)]) (w' := w) (by rfl) (by kernel_rfl) (hc.mono ?_)
        rintro e w1 ⟨rfl, hb⟩
        exact ⟨_, rfl, hK.out _ _ ⟨hv6, fun _ => (h.addW2 (hd 3 (by kernel_rfl)) hb rfl), fun e => ff hs6 e⟩⟩
      case o5 =>
        intro l tm w h hl hd K0 hK
        try dsimp only at h
        rw [hl] at h
        have hs6 := h.early (by simp)
        have hv6 := h.ld
        replace h := h.h hs6
        have d1 := hd 2 (by kernel_rfl)
        have d2 := hd 4 (by kernel_rfl)
        have h0 := h
        obtain ⟨⟨B1, n1, k1, eB1, eN1, eK1, eI1⟩, eW1⟩ := h0.way1 ((h0.rg rfl).w1 d1).1
        obtain ⟨⟨B2, n2, k2, eB2, eN2, eK2, eI2⟩, eW2⟩ := h0.way2 ((h0.rg rfl).w2 d2).1
        have hW1 := (eW1 d1).trans (by rw [eB1])
        have hW2 := (eW2 d2).trans (by rw [eB2])
        refine st_run (v := (fun p q => .agg #[.int .i64 2, flat1 p, flat1 q, .int .i64 7, .int .i64 0, .int .u64 0]) (tm 36) (tm 38)) (w' := w) (by rfl) ?_ (hK.out _ _ ⟨hv6, fun _ => (h.addBd d1 d2 rfl), fun e => ff hs6 e⟩)
        simp only [List.getElem_toArray, List.getElem_cons_zero, List.getElem_cons_succ, pmA, List.foldl_cons, List.foldl_nil, Act.put, List.setIfInBounds_toArray, List.set_cons_zero, List.set_cons_succ]
        rw [hW1, hW2]
        kernel_rfl
      case o6 =>
        intro l tm w h hl hd K0 hK
        try dsimp only at h
        rw [hl] at h
        have hs6 := h.early (by simp)
        have hv6 := h.ld
        replace h := h.h hs6
        have d0 := hd 5 (by kernel_rfl)
        obtain ⟨d1, d2, eBD⟩ := h.e6 d0
        have h0 := h
        obtain ⟨⟨B1, n1, k1, eB1, eN1, eK1, eI1⟩, eW1⟩ := h0.way1 ((h0.rg rfl).w1 d1).1
        obtain ⟨⟨B2, n2, k2, eB2, eN2, eK2, eI2⟩, eW2⟩ := h0.way2 ((h0.rg rfl).w2 d2).1
        have hW1 := (eW1 d1).trans (by rw [eB1])
        have hW2 := (eW2 d2).trans (by rw [eB2])
        rw [hW1, hW2] at eBD
        have hA : #[(tm 34), .int .i64 0, (tm 39)] = #[.agg #[.int .i64 2, .int .i64 32, .int .i64 16, .slice (some ⟨P3, 0, none⟩) 32 ca3, .slice (some ⟨Q3, 0, none⟩) 16 cc3], .int .i64 0, .agg #[.int .i64 2, .slice B1 n1 k1, .slice B2 n2 k2, .int .i64 7, .int .i64 0, .int .u64 0]] := by rw [hv6 (hd 0 (by kernel_rfl)), eBD]; rfl
        refine st_call (f := 18) (args := #[(tm 34), .int .i64 0, (tm 39)]) (w' := w) (by rfl) (by kernel_rfl) ?_
        rw [hA]
        refine (gdo_is (z := 0) (HS1.out.on h.bb) eN1 eK1 eI1 eN2 eK2 eI2 tn_d).mono ?_
        rintro e w1 ⟨A', ca', C', cc', rfl, hb, hm⟩
        obtain ⟨q1, q2⟩ := resD_of (a := 2) (b := 32) (c := 16) (R := (.agg #[.int .i64 0, .int .u64 0, .int .i64 0])) h.bb.size hm HP.out
        exact ⟨_, rfl, hK.out _ _ ⟨hv6, fun _ => (h.addD hb q1 q2), fun e => ff hs6 e⟩⟩
      case o7 =>
        intro l tm w h hl hd K0 hK
        try dsimp only at h
        rw [hl] at h
        have hs6 := h.early (by simp)
        have hv6 := h.ld
        replace h := h.h hs6
        exact st_run (v := tm 40) (w' := w) (by rfl) (by kernel_rfl) (hK.out _ _ ⟨hv6, fun _ => (h.addMv (hd 6 (by kernel_rfl)) rfl), fun e => ff hs6 e⟩)
      case o8 =>
        intro l tm w h hl hd K0 hK
        try dsimp only at h
        rw [hl] at h
        have hs6 := h.early (by simp)
        have hv6 := h.ld
        replace h := h.h hs6
        obtain ⟨A', ca', C', cc', eT, -⟩ := h.tup (hd 7 (by kernel_rfl))
        refine st_run (v := .agg #[.int .i64 2, .int .i64 32, .int .i64 16, .slice A' 32 ca', .slice C' 16 cc']) (w' := w) (by rfl) ?_ (hK.out _ _ ⟨hv6, fun _ => (h.addE1 (hd 7 (by kernel_rfl)) eT), fun e => ff hs6 e⟩)
        simp only [List.getElem_toArray, List.getElem_cons_zero, List.getElem_cons_succ, pmA, List.foldl_cons, List.foldl_nil, Act.put, List.setIfInBounds_toArray, List.set_cons_zero, List.set_cons_succ]
        rw [eT]
        kernel_rfl
      case o9 =>
        intro l tm w h hl hd K0 hK
        try dsimp only at h
        rw [hl] at h
        rcases hs : l 10 with _ | _
        · have hv6 := h.ld
          replace h := h.h hs
          obtain ⟨A', ca', C', cc', eT, -⟩ := h.tup (hd 7 (by kernel_rfl))
          refine st_run (v := (.agg #[.int .i64 0, .int .u64 0, .int .i64 0])) (w' := w) (by rfl) ?_ (hK.out _ _ ⟨hv6, fun _ => h.addE2 (hd 7 (by kernel_rfl)) eT, fun e => ff hs e⟩)
          simp only [List.getElem_toArray, List.getElem_cons_zero, List.getElem_cons_succ, pmA, List.foldl_cons, List.foldl_nil, Act.put, List.setIfInBounds_toArray, List.set_cons_zero, List.set_cons_succ]
          rw [eT]
          kernel_rfl
        · obtain ⟨hfl, w0, A1, ca1, C1, cc1, eD, ew, hP⟩ := h.s hs
          obtain ⟨A', ca', C', cc', eT, -⟩ := hP.tup (hd 7 (by kernel_rfl))
          refine st_run (v := (.agg #[.int .i64 0, .int .u64 0, .int .i64 0])) (w' := w) (by rfl) ?_ (hK.out _ _ ⟨h.ld, fun e => ff e hs, fun _ => ⟨hfl, w0, A1, ca1, C1, cc1, eD, ew, hP.addE2 (hd 7 (by kernel_rfl)) eT⟩⟩)
          simp only [List.getElem_toArray, List.getElem_cons_zero, List.getElem_cons_succ, pmA, List.foldl_cons, List.foldl_nil, Act.put, List.setIfInBounds_toArray, List.set_cons_zero, List.set_cons_succ]
          rw [eT]
          kernel_rfl
      case o10 =>
        intro l tm w h hl hd K0 hK
        try dsimp only at h
        rw [hl] at h
        have hP := h.h rfl
        obtain ⟨A', ca', C', cc', e1, eD⟩ := hP.e1v (hd 7 (by kernel_rfl)) (hd 8 (by kernel_rfl))
        have HT : Hid (w.there j0 0 (#[.int .i64 2, .int .i64 32, .int .i64 16, .slice A' 32 ca', .slice C' 16 cc'] : Array Value).size) := Lib.hid ((K.out.on hP.bb).there (n := 5) rfl)
        have HO := Lib.hid (state_one 2 32 16 A' 32 ca' C' 16 cc')
        refine st_store (by rfl) 28 (.tmp 1) (.tmp 41) (by rfl) j0 0 #[.int .i64 2, .int .i64 32, .int .i64 16, .slice A' 32 ca', .slice C' 16 cc'] (by kernel_rfl) ((by kernel_rfl : _ = tm 41).trans e1) HT.out info_state HO.out ?_
        have hfl : (l 0 && l 1 && l 2 && l 3 && l 4 && l 5 && l 6 && l 7 && l 8) = true := by simp only [hd 0 (by kernel_rfl), hd 1 (by kernel_rfl), hd 2 (by kernel_rfl), hd 3 (by kernel_rfl), hd 4 (by kernel_rfl), hd 5 (by kernel_rfl), hd 6 (by kernel_rfl), hd 7 (by kernel_rfl), hd 8 (by kernel_rfl), Bool.and_self]
        exact hK.out undef (w.setCells j0 0 [.int .i64 2, .int .i64 32, .int .i64 16, .slice A' 32 ca', .slice C' 16 cc']) ⟨h.ld, fun e => ff e rfl, fun _ => ⟨hfl, w, A', ca', C', cc', eD, rfl, hP⟩⟩
      case start => exact ⟨fun e => ff rfl e, fun _ => ⟨hb0, fun _ => ⟨hb0, fun e => ff rfl e, fun e => ff rfl e, fun e => ff rfl e, fun e => ff rfl e, fun e => ff rfl e, fun e => ff rfl e, fun e => ff rfl e, fun e => ff rfl e, fun e => ff rfl e, fun e => ff rfl e⟩, fun e => ff rfl e, fun e => ff rfl e, fun e => ff rfl e, fun e => ff rfl e, fun e => ff rfl e, fun e => ff rfl e⟩, fun e => ff rfl e⟩
      case fin =>
        clear hb0
        intro tm u6 h
        try dsimp only at h
        obtain ⟨w0, Az, ca4, Cz, cc4, eu, hbz, hm⟩ := h.fin (by kernel_rfl)
        subst eu
        obtain ⟨hca, hcc, hF⟩ := hm
        obtain ⟨P4, Q4, rfl, rfl, hO⟩ := hF.ost (by rw [tn4_len.1]; decide) (by rw [tn4_len.2]; decide) hbz
        have HC_tn4 := Lib.hid (⟨hca, hcc⟩ : 32 ≤ ca4 ∧ 16 ≤ cc4)
        clear h hca hcc hF HP
        have HPN_tn4 : Hid (v4.heap.size ≤ P4 ∧ v4.heap.size ≤ Q4) := Lib.hid ⟨hO.oP, hO.oQ⟩
        have hlt := K.out.bx.lt
        have hl1 := hO.oP
        have hl2 := hO.oQ
        have f := Fnd.setCells j0 [.int .i64 2, .int .i64 32, .int .i64 16, .slice (some ⟨P4, 0, none⟩) 32 ca4, .slice (some ⟨Q4, 0, none⟩) 16 cc4] 0 w0
        have k7 := (K.out.on hbz).setCells (vs := [.int .i64 2, .int .i64 32, .int .i64 16, .slice (some ⟨P4, 0, none⟩) 32 ca4, .slice (some ⟨Q4, 0, none⟩) 16 cc4]) rfl
        have o6 := (hO.base K.out.bx.old).step f (by omega) (by omega) k7.bx.old
        have y_RB := (RB.out.on hbz).fnd f (HNE.out) k7.bx.old
        clear f hO hlt hl1 hl2 hbz
        simp only [pmA, List.foldl_cons, List.foldl_nil, Act.put, List.setIfInBounds_toArray, List.set_cons_zero, List.set_cons_succ]
        generalize w0.setCells j0 0 _ = v5 at k7 o6 y_RB ⊢
        clear K
        have K := Lib.hid k7
        have O_tn4 := Lib.hid o6
        replace RB := Lib.hid y_RB
        clear k7 o6 y_RB
        refine wpAnyH_done (by kernel_rfl) ?_ _
        go_upto_region 5 with fail
        clear HS1 O_tn3 HC_tn3
        have HT : Hid (v5.there g0 0 (#[.int .i64 2, .int .i64 32, .int .i64 16, .slice (some ⟨P4, 0, none⟩) 32 ca4, .slice (some ⟨Q4, 0, none⟩) 16 cc4] : Array Value).size) := Lib.hid (RB.out.there (n := 5) rfl)
        have HO := Lib.hid (state_one 2 32 16 (some ⟨P4, 0, none⟩) 32 ca4 (some ⟨Q4, 0, none⟩) 16 cc4)
        have r9 := RB.out.setCells (vs := [.int .i64 2, .int .i64 32, .int .i64 16, .slice (some ⟨P4, 0, none⟩) 32 ca4, .slice (some ⟨Q4, 0, none⟩) 16 cc4]) rfl
        have hl := RB.out.bx.lt
        have o9 := O_tn4.out.step (Fnd.setCells g0 [.int .i64 2, .int .i64 32, .int .i64 16, .slice (some ⟨P4, 0, none⟩) 32 ca4, .slice (some ⟨Q4, 0, none⟩) 16 cc4] 0 v5) (by have h1 := HPN_tn4.out.1; have h2 := HG4.out; omega) (by have h1 := HPN_tn4.out.2; have h2 := HG4.out; omega) r9.bx.old
        have k0 := K.out.bx.c 0 _ rfl
        have k1 := K.out.bx.c 1 _ rfl
        have k2 := K.out.bx.c 2 _ rfl
        have k3 := K.out.bx.c 3 _ rfl
        have k4 := K.out.bx.c 4 _ rfl
        clear hl RB O_tn4
        go_wp2_with ((with_reducible change wpList _ _ _ _ _ _); refine wpList_store_mid (by rfl) 28 (.tmp 0) (.tmp 43) (by rfl) g0 0 #[.int .i64 2, .int .i64 32, .int .i64 16, .slice (some ⟨P4, 0, none⟩) 32 ca4, .slice (some ⟨Q4, 0, none⟩) 16 cc4] (by rfl) (by rfl) HT.out info_state HO.out ?_; change wpList _ _ _ _ _ (v5.setCells g0 0 [.int .i64 2, .int .i64 32, .int .i64 16, .slice (some ⟨P4, 0, none⟩) 32 ca4, .slice (some ⟨Q4, 0, none⟩) 16 cc4]); generalize v5.setCells g0 0 _ = v9 at r9 o9 ⊢)
        refine bodyPost_ret (results_c rfl _ _ _ (b := g0) (by rfl) r9.bx.range Tryz.underlying28 rfl info_state) rfl ?_
        exact ⟨P4, ca4, Q4, cc4, rfl, HC_tn4.out.1, HC_tn4.out.2, o9⟩
end Go.Proofs.YtjnohbahjlidoaaGreat
