/-
  The walk of the law MailLost. Condition: none.
-/
import Derived.Test.YtkpbfbmkolgmgaaGreatTVg
import Derived.Test.YtkpbfbmkolgmgaaGreatTVq
import Derived.Test.YtkpbfbmkolgmgaaGreatTDe
import Derived.Test.YtkpbfbmkolgmgaaGreatTUf
import Derived.Test.YtkpbfbmkolgmgaaGreatTVh
namespace Go.Proofs.YtkpbfbmkolgmgaaGreat
open Go.RowKit
set_option linter.unusedSimpArgs false
set_option linter.unusedVariables false

def ml1 : St := gputS s64 1 2 ⟨3, 1, 1, 0⟩
def ml2 (z : Nat) : St := tputS ml1 1 (mbox z 0 3)
def ml3 (z : Nat) : St := tputS s64 1 (mbox z 0 0)
def ml7 : St := gputS s64 1 2 ⟨3, 1, 7, 0⟩
def ml4 (z : Nat) : St := tputS ml7 1 (mbox z 0 0)
def ml6 (z : Nat) : St := tputS (ml4 z) 1 (Tng.of 3)
def ml5 (z : Nat) : St := tputS (ml3 z) 1 (Tng.of 3)
theorem mlf_1 : gdo s64 0 ⟨2, [1], [2], 1, 0, 0⟩ = (some ml1, ⟨0, 0, 0⟩) := by kernel_rfl
theorem mlf_2 (z : Nat) : mdo ml1 0 ⟨7, [1], [2], 0, 0, z⟩ = (some (ml2 z), ⟨0, 0, 0⟩) := by kernel_rfl
theorem Tpt.under {s : St} {i : Nat} {x : Tng} (M : Tpt s i x) (b : Nat) : underN (tputS s i x) b = underN s b := by
  rw [underN, underN, tput_th]
  show krounds (edgesN (tputS s i x).th s.sl) _ _ = _
  rw [M.edges]
theorem Tpt.sown {s : St} {i : Nat} {x : Tng} (M : Tpt s i x) (G : Gst s) (z : Int) : sowner (tputS s i x) z = sowner s z := by
  rw [sowner, sowner, sgood_iff.2 G, sgood_iff.2 (M.gst G), M.owner]
theorem Tpt.inside {s : St} {i : Nat} {x : Tng} (M : Tpt s i x) (G : Gst s) (a z : Int) : sinside (tputS s i x) a z = sinside s a z := by
  rw [sinside, sinside, sgood_iff.2 G, sgood_iff.2 (M.gst G), insideN, insideN, tput_th, M.tyIs, M.owner]
  simp only [M.under]
theorem Tpt.may {s : St} {i : Nat} {x : Tng} (M : Tpt s i x) (G : Gst s) (f t : Int) (c : Cp) : gmay (tputS s i x) f t c = gmay s f t c := by
  unfold gmay
  rw [M.sown G, M.inside G]
  rfl
theorem s64_gst : Gst s64 := sgood_iff.1 (by kernel_rfl)
theorem ml1_gst : Gst ml1 := sgood_iff.1 (by kernel_rfl)
theorem ml7_gst : Gst ml7 := sgood_iff.1 (by kernel_rfl)
theorem ml_t1 (z : Nat) : Tpt ml1 1 (mbox z 0 3) := ⟨by decide +kernel, by kernel_rfl, show (3 : Int) ≠ 2 by decide, show (3 : Int) ≠ 0 by decide, by kernel_rfl, by kernel_rfl, tng_good.2 (.full z 0 3 (by decide) (by decide) (by decide) (by decide)), by kernel_rfl⟩
theorem ml_t3 (z : Nat) : Tpt s64 1 (mbox z 0 0) := ⟨by decide +kernel, by kernel_rfl, show (3 : Int) ≠ 2 by decide, show (3 : Int) ≠ 0 by decide, by kernel_rfl, by kernel_rfl, tng_good.2 (.full z 0 0 (by decide) (by decide) (by decide) (by decide)), by kernel_rfl⟩
theorem ml_t4 (z : Nat) : Tpt ml7 1 (mbox z 0 0) := ⟨by decide +kernel, by kernel_rfl, show (3 : Int) ≠ 2 by decide, show (3 : Int) ≠ 0 by decide, by kernel_rfl, by kernel_rfl, tng_good.2 (.full z 0 0 (by decide) (by decide) (by decide) (by decide)), by kernel_rfl⟩
theorem mlf_3 (z : Nat) : tdo (ml2 z) 0 ⟨5, [2], [], 0, 0, 0⟩ = (some (ml3 z), ⟨0, 0, 1⟩) := by
  have e1 : fcap (ml2 z) 0 [2] = (2, ⟨3, 1, 1, 0⟩, 0) := ((ml_t1 z).cap ml1_gst 0 [2]).trans (by kernel_rfl)
  have e2 : empAll (ml2 z) [2] = (ml3 z, 1) := by
    have hg : sgood (ml2 z) = true := sgood_iff.2 ((ml_t1 z).gst ml1_gst)
    exact (if_pos hg).trans (by kernel_rfl : runE eAt [2] (ml2 z) = (ml3 z, 1))
  rw [tdo, if_pos ⟨.inl rfl, by kernel_rfl⟩]
  dsimp only
  rw [e1]
  refine (if_pos rfl).trans ?_
  have e3 : tslots (ml2 z) 2 5 = [2] := if_neg (by decide)
  show (some (empAll (ml2 z) (tslots (ml2 z) 2 5)).1, (⟨0, 0, (empAll (ml2 z) (tslots (ml2 z) 2 5)).2⟩ : Rep)) = _
  rw [e3, e2]
  rfl
theorem mlf_4 (z : Nat) : gdo (ml3 z) 0 ⟨2, [1], [2], 7, 0, 0⟩ = (some (ml4 z), ⟨0, 0, 0⟩) := by
  have e1 : fcap (ml3 z) 0 [1] = (1, ⟨3, 1, 7, 0⟩, 0) := ((ml_t3 z).cap s64_gst 0 [1]).trans (by kernel_rfl)
  have e2 : fempty (ml3 z) 0 [2] = (2, 0) := ((ml_t3 z).empty s64_gst 0 [2]).trans (by kernel_rfl)
  have e4 : gmay (ml3 z) 1 2 ⟨3, 1, 7, 0⟩ = 0 := ((ml_t3 z).may s64_gst 1 2 _).trans (by kernel_rfl)
  have e3 : gput (ml3 z) 1 2 ⟨3, 1, 7, 0⟩ = (some (ml4 z), 0) := by rw [gput, if_pos e4]; rfl
  have e5 : ganswer (ml3 z) 0 ⟨2, [1], [2], 7, 0, 0⟩ = gput (ml3 z) 1 2 ⟨3, 1, 7, 0⟩ := by
    rw [ganswer, if_neg (show ¬ ¬ ((2 : Int) ≤ 2 ∧ (2 : Int) ≤ 4 ∧ cgood ⟨2, [1], [2], 7, 0, 0⟩ = true) from fun q => q ⟨by decide, by decide, by kernel_rfl⟩)]
    dsimp only
    rw [e1, e2]
    rfl
  rw [gdo, e5, e3]
theorem mlf_5 (z : Nat) : mdo (ml3 z) 1 ⟨8, [1], [3], 0, 0, 0⟩ = (some (ml5 z), ⟨0, z, 0⟩) :=
  (mdo_at (k := ⟨3, 1, 7, 0⟩) (f := 9) (i := 1) (by kernel_rfl) (.inr rfl) (((ml_t3 z).cap s64_gst 1 [1]).trans (by kernel_rfl)) rfl rfl).trans (by kernel_rfl)
theorem mlf_6 (z : Nat) : mdo (ml4 z) 1 ⟨8, [1], [3], 0, 0, 0⟩ = (some (ml6 z), ⟨0, z, 0⟩) :=
  (mdo_at (s := ml4 z) (t := 1) (c := ⟨8, [1], [3], 0, 0, 0⟩) (k := ⟨3, 1, 7, 0⟩) (f := 9) (i := 1) (by kernel_rfl) (.inr rfl) (((ml_t4 z).cap ml7_gst 1 [1]).trans (by kernel_rfl)) rfl rfl).trans (by kernel_rfl)
theorem ml1_len : ml1.sl.length = 32 ∧ ml1.th.length = 16 := ⟨by kernel_rfl, by kernel_rfl⟩
theorem ml2_len {z : Nat} : (ml2 z).sl.length = 32 ∧ (ml2 z).th.length = 16 := ⟨by kernel_rfl, by kernel_rfl⟩
theorem ml3_len {z : Nat} : (ml3 z).sl.length = 32 ∧ (ml3 z).th.length = 16 := ⟨by kernel_rfl, by kernel_rfl⟩
theorem ml4_len {z : Nat} : (ml4 z).sl.length = 32 ∧ (ml4 z).th.length = 16 := ⟨by kernel_rfl, by kernel_rfl⟩
theorem ml5_len {z : Nat} : (ml5 z).sl.length = 32 ∧ (ml5 z).th.length = 16 := ⟨by kernel_rfl, by kernel_rfl⟩
theorem ml6_len {z : Nat} : (ml6 z).sl.length = 32 ∧ (ml6 z).th.length = 16 := ⟨by kernel_rfl, by kernel_rfl⟩
theorem ml_g {z : Nat} : ml1.g = ⟨2, 32, 16⟩ ∧ (ml2 z).g = ⟨2, 32, 16⟩ ∧ (ml3 z).g = ⟨2, 32, 16⟩ ∧ (ml4 z).g = ⟨2, 32, 16⟩ ∧ (ml5 z).g = ⟨2, 32, 16⟩ ∧ (ml6 z).g = ⟨2, 32, 16⟩ := ⟨by kernel_rfl, by kernel_rfl, by kernel_rfl, by kernel_rfl, by kernel_rfl, by kernel_rfl⟩
theorem ml5_good (z : Nat) : sgood (ml5 z) = true := sgood_iff.2 (mdo_good (mlf_5 z)).2.1
theorem ml6_good (z : Nat) : sgood (ml6 z) = true := sgood_iff.2 (mdo_good (mlf_6 z)).2.1
theorem ml5_11 (z : Nat) : slAt (ml5 z).sl 11 = ⟨.none, -1⟩ := by kernel_rfl
theorem ml6_11 (z : Nat) : slAt (ml6 z).sl 11 = ⟨.none, -1⟩ := by kernel_rfl

set_option maxRecDepth 100000 in
set_option maxHeartbeats 64000000 in
theorem mail_lost {z : Nat} {again : Bool} (w : World) : Calls Tryz.prog 7 #[.int .u64 (z : Int), .bool again] w fun e w' => e = .returned (.bool true) ∧ Below w.heap.size w w' := by
  go_enter Tryz.func7, Tryz.ntmps7
  go_wp2_with fail
  refine (awake18_is w).mono ?_
  rintro e w1 ⟨rfl, hb⟩
  have HW := Lib.hid hb
  clear hb
  go_wp2_with fail
  refine (first18_is w1).mono ?_
  rintro e w2 ⟨A, ca, C, cc, rfl, hS, -, hb⟩
  have HS := Lib.hid hS
  have HB2 := Lib.hid hb
  clear hS hb
  have hL := one_at w2 1
  have hb := below_alloc w2 (.cells #[.int .i64 1] 3)
  go_wp2_with fail
  generalize w2.alloc _ = w3 at hL hb ⊢
  have HL := Lib.hid hL
  have HB3 := Lib.hid hb
  clear hL hb
  refine (way18_is w3).mono ?_
  rintro e w4 ⟨rfl, hb⟩
  replace HL := Lib.hid (HL.out.on hb)
  have HB4 := Lib.hid (below_on HB3.out hb)
  clear hb HB3
  have hM := one_at w4 2
  have hb := below_alloc w4 (.cells #[.int .i64 2] 3)
  go_wp2_with fail
  generalize w4.alloc _ = w5 at hM hb ⊢
  have HM := Lib.hid hM
  replace HL := Lib.hid (HL.out.on hb)
  have HB5 := Lib.hid (below_on HB4.out hb)
  clear hM hb HB4
  refine (way18_is w5).mono ?_
  rintro e w6 ⟨rfl, hb⟩
  replace HM := Lib.hid (HM.out.on hb)
  replace HL := Lib.hid (HL.out.on hb)
  have HB6 := Lib.hid (below_on HB5.out hb)
  clear hb HB5
  go_wp2_with fail
  refine (gdo_is (z := 0) (HS.out.on HB6.out) rfl (by simp) HL.out rfl (by simp) HM.out mlf_1).mono ?_
  rintro e w7 ⟨A2, ca1, C2, cc1, rfl, hb, hca, hcc, hF⟩
  obtain ⟨P1, Q1, rfl, rfl, hO⟩ := hF.ost (by rw [ml1_len.1]; decide) (by rw [ml1_len.2]; decide) hb
  have hO := hO.base (below_on (below_on HW.out HB2.out) HB6.out)
  have HB7 := Lib.hid (below_on (below_on HB2.out HB6.out) hb)
  simp only [Rep.val]
  clear hF hb HS HB2 HB6 HL HM
  have HC_s := Lib.hid (⟨hca, hcc⟩ : 32 ≤ ca1 ∧ 16 ≤ cc1)
  clear hca hcc
  obtain ⟨n2, n3⟩ := boxes2 w7 [.int .i64 2, .int .i64 32, .int .i64 16, .slice (some ⟨P1, 0, none⟩) 32 ca1, .slice (some ⟨Q1, 0, none⟩) 16 cc1] [.int .i64 0, .int .u64 0, .int .i64 0] 27 40
  have hal := below_on (below_alloc w7 (.cells #[.int .i64 2, .int .i64 32, .int .i64 16, .slice (some ⟨P1, 0, none⟩) 32 ca1, .slice (some ⟨Q1, 0, none⟩) 16 cc1] 27)) (below_alloc _ (.cells #[.int .i64 0, .int .u64 0, .int .i64 0] 40))
  have o2 := hO.on hal
  replace HW := Lib.hid (below_on HW.out HB7.out)
  clear hO hal HB7
  go_upto_region 4 with fail
  obtain ⟨j1, hj1⟩ : ∃ j1, j1 = w7.heap.size + 1 := ⟨_, rfl⟩
  obtain ⟨j0, hj0⟩ : ∃ j0, j0 = w7.heap.size := ⟨_, rfl⟩
  have HNE_j1 : Hid (j1 ≠ j0) := Lib.hid (by omega)
  rw [← hj1] at n3 ⊢
  rw [← hj0] at n2 ⊢
  clear hj0 hj1
  generalize (w7.alloc _).alloc _ = v4 at n2 n3 o2 ⊢
  have K_s := Lib.hid (n2.rebase HW.out)
  have Y_3 := Lib.hid (n3.rebase HW.out)
  have O_s := Lib.hid o2
  clear n2 n3 o2 HW
  have HP : Hid (∀ s', some (ml2 z) = some s' → 0 < s'.sl.length ∧ 0 < s'.th.length) := Lib.hid fun s' e => by
    injection e with e
    rw [← e, ml2_len.1, ml2_len.2]
    decide
  have HS1 := Lib.hid (⟨O_s.out.lies, (ml_g (z := z)).1, ml1_len.1.symm, ml1_len.2.symm, by decide, by decide, HC_s.out.1, HC_s.out.2⟩ : StH _ ml1 2 32 16 (some ⟨P1, 0, none⟩) 32 ca1 (some ⟨Q1, 0, none⟩) 16 cc1)
  have hb0 := (below_self v4).drew
  refine wp_region_held_drew (S := fun _ => True) (by kernel_rfl) trivial (fun _ => ?_)
  refine wpAnyH_take (i := 5) (v := ?_) rfl (by kernel_rfl) (by kernel_rfl) (by kernel_rfl) (fun _ _ _ h => h) (Or.inl ⟨by rfl, ?_⟩) (by assumption) ?_
  rotate_left
  · intro w hSw; go_simp; try with_reducible rfl
  try simp only [Act.put, List.setIfInBounds_toArray, List.set_cons_zero, List.set_cons_succ, List.getElem_toArray, List.getElem_cons_zero, List.getElem_cons_succ]
  refine wpAnyH_inv (f0 := 1) [0, 1, 2, 3, 4, 6, 7, 8, 9, 10, 11, 12] [24, 25, 26, 27, 28, 30, 31, 32, 33, 23, 7] (fun l tm w => P8 v4 j0 [1] [2] 2 32 16 (some ⟨P1, 0, none⟩) 32 ca1 (some ⟨Q1, 0, none⟩) 16 cc1 (some (ml2 z)) (.agg #[.int .i64 0, .int .u64 0, .int .i64 0]) (fun p q => .agg #[.int .i64 7, flat1 p, flat1 q, .int .i64 0, .int .i64 0, .int .u64 (z : Int)]) (.agg #[.int .i64 2, .int .i64 32, .int .i64 16, .slice (some ⟨P1, 0, none⟩) 32 ca1, .slice (some ⟨Q1, 0, none⟩) 16 cc1]) [.int .i64 0, .int .u64 0, .int .i64 0] (l 0) (l 1) (l 2) (l 3) (l 4) (l 6) (l 7) (l 8) (l 9) (l 10) (l 11) (l 12) (tm 24) (tm 25) (tm 26) (tm 27) (tm 28) (tm 30) (tm 31) (tm 23) (tm 32) (tm 33) (tm 7) w) (by kernel_rfl) (by kernel_rfl) rfl (by decide) (fun _ _ _ _ => trivial) ?start (AllSteps.cons rfl ?o0 (AllSteps.cons rfl ?o1 (AllSteps.cons rfl ?o2 (AllSteps.cons rfl ?o3 (AllSteps.cons rfl ?o4 (AllSteps.cons rfl ?o6 (AllSteps.cons rfl ?o7 (AllSteps.cons rfl ?o8 (AllSteps.cons rfl ?o9 (AllSteps.cons rfl ?o10 (AllSteps.cons rfl ?o11 (AllSteps.cons rfl ?o12 AllSteps.nil)))))))))))) ?fin
  case o0 =>
    intro l tm w h hl hd K0 hK
    try dsimp only at h
    rw [hl] at h
    have hs6 := h.early (by simp)
    have hP := h.h hs6
    refine st_load (by rfl) 27 (.tmp 5) (by rfl) j0 0 (by kernel_rfl) [.int .i64 2, .int .i64 32, .int .i64 16, .slice (some ⟨P1, 0, none⟩) 32 ca1, .slice (some ⟨Q1, 0, none⟩) 16 cc1] _ (K_s.out.on hP.bb).bx.range Tryz.underlying27 rfl info_state ?_
    exact hK.out _ _ ⟨fun _ => rfl, fun _ => hP, fun e => ff hs6 e⟩
  case o1 =>
    intro l tm w h hl hd K0 hK
    try dsimp only at h
    rw [hl] at h
    have hs6 := h.early (by simp)
    have hv6 := h.ld
    replace h := h.h hs6
    have hh := h.addB1 (below_alloc w (.cells #[.int .i64 1] 3)) (lis_one w 1)
    exact st_run (v := .slice (some ⟨w.heap.size, 0, none⟩) 1 1) (by rfl) (by kernel_rfl) (hK.out _ _ ⟨hv6, fun _ => hh, fun e => ff hs6 e⟩)
  case o2 =>
    intro l tm w h hl hd K0 hK
    try dsimp only at h
    rw [hl] at h
    have hs6 := h.early (by simp)
    have hv6 := h.ld
    replace h := h.h hs6
    have h0 := h
    obtain ⟨⟨B, nB, cB, eB, -⟩, -⟩ := h0.way1 (hd 1 (by kernel_rfl))
    have hc := way18_is (A := B) (n := nB) (cap := cB) w
    rw [← eB] at hc
    refine st_call (f := 27) (args := #[(tm 25)]) (w' := w) (by rfl) (by kernel_rfl) (hc.mono ?_)
    rintro e w1 ⟨rfl, hb⟩
    exact ⟨_, rfl, hK.out _ _ ⟨hv6, fun _ => (h.addW1 (hd 1 (by kernel_rfl)) hb rfl), fun e => ff hs6 e⟩⟩
  case o3 =>
    intro l tm w h hl hd K0 hK
    try dsimp only at h
    rw [hl] at h
    have hs6 := h.early (by simp)
    have hv6 := h.ld
    replace h := h.h hs6
    have hh := h.addB2 (below_alloc w (.cells #[.int .i64 2] 3)) (lis_one w 2)
    exact st_run (v := .slice (some ⟨w.heap.size, 0, none⟩) 1 1) (by rfl) (by kernel_rfl) (hK.out _ _ ⟨hv6, fun _ => hh, fun e => ff hs6 e⟩)
  case o4 =>
    intro l tm w h hl hd K0 hK
    try dsimp only at h
    rw [hl] at h
    have hs6 := h.early (by simp)
    have hv6 := h.ld
    replace h := h.h hs6
    have h0 := h
    obtain ⟨⟨B, nB, cB, eB, -⟩, -⟩ := h0.way2 (hd 3 (by kernel_rfl))
    have hc := way18_is (A := B) (n := nB) (cap := cB) w
    rw [← eB] at hc
    refine st_call (f := 27) (args := #[(tm 27)]) (w' := w) (by rfl) (by kernel_rfl) (hc.mono ?_)
    rintro e w1 ⟨rfl, hb⟩
    exact ⟨_, rfl, hK.out _ _ ⟨hv6, fun _ => (h.addW2 (hd 3 (by kernel_rfl)) hb rfl), fun e => ff hs6 e⟩⟩
  case o6 =>
    intro l tm w h hl hd K0 hK
    try dsimp only at h
    rw [hl] at h
    have hs6 := h.early (by simp)
    have hv6 := h.ld
    replace h := h.h hs6
    have d1 := hd 2 (by kernel_rfl)
    have d2 := hd 4 (by kernel_rfl)
    have h0 := h
    obtain ⟨⟨B1, n1, k1, eB1, eN1, eK1, eI1⟩, eW1⟩ := h0.way1 ((h0.rg rfl).w1 d1).1
    obtain ⟨⟨B2, n2, k2, eB2, eN2, eK2, eI2⟩, eW2⟩ := h0.way2 ((h0.rg rfl).w2 d2).1
    have hW1 := (eW1 d1).trans (by rw [eB1])
    have hW2 := (eW2 d2).trans (by rw [eB2])
    refine st_run (v := (fun p q => .agg #[.int .i64 7, flat1 p, flat1 q, .int .i64 0, .int .i64 0, .int .u64 (z : Int)]) (tm 26) (tm 28)) (w' := w) (by rfl) ?_ (hK.out _ _ ⟨hv6, fun _ => (h.addBd d1 d2 rfl), fun e => ff hs6 e⟩)
    simp only [List.getElem_toArray, List.getElem_cons_zero, List.getElem_cons_succ, pmA, List.foldl_cons, List.foldl_nil, Act.put, List.setIfInBounds_toArray, List.set_cons_zero, List.set_cons_succ]
    rw [hW1, hW2]
    kernel_rfl
  case o7 =>
    intro l tm w h hl hd K0 hK
    try dsimp only at h
    rw [hl] at h
    have hs6 := h.early (by simp)
    have hv6 := h.ld
    replace h := h.h hs6
    have d0 := hd 6 (by kernel_rfl)
    obtain ⟨d1, d2, eBD⟩ := h.e6 d0
    have h0 := h
    obtain ⟨⟨B1, n1, k1, eB1, eN1, eK1, eI1⟩, eW1⟩ := h0.way1 ((h0.rg rfl).w1 d1).1
    obtain ⟨⟨B2, n2, k2, eB2, eN2, eK2, eI2⟩, eW2⟩ := h0.way2 ((h0.rg rfl).w2 d2).1
    have hW1 := (eW1 d1).trans (by rw [eB1])
    have hW2 := (eW2 d2).trans (by rw [eB2])
    rw [hW1, hW2] at eBD
    have hA : #[(tm 24), .int .i64 0, (tm 30)] = #[.agg #[.int .i64 2, .int .i64 32, .int .i64 16, .slice (some ⟨P1, 0, none⟩) 32 ca1, .slice (some ⟨Q1, 0, none⟩) 16 cc1], .int .i64 0, .agg #[.int .i64 7, .slice B1 n1 k1, .slice B2 n2 k2, .int .i64 0, .int .i64 0, .int .u64 (z : Int)]] := by rw [hv6 (hd 0 (by kernel_rfl)), eBD]; rfl
    refine st_call (f := 28) (args := #[(tm 24), .int .i64 0, (tm 30)]) (w' := w) (by rfl) (by kernel_rfl) ?_
    rw [hA]
    refine (mdo_is (z := z) (HS1.out.on h.bb) eN1 eK1 eI1 eN2 eK2 eI2 (mlf_2 z)).mono ?_
    rintro e w1 ⟨A', ca', C', cc', rfl, hb, hm⟩
    obtain ⟨q1, q2⟩ := resD_of (a := 2) (b := 32) (c := 16) (R := (.agg #[.int .i64 0, .int .u64 0, .int .i64 0])) h.bb.size hm HP.out
    exact ⟨_, rfl, hK.out _ _ ⟨hv6, fun _ => (h.addD hb q1 q2), fun e => ff hs6 e⟩⟩
  case o8 =>
    intro l tm w h hl hd K0 hK
    try dsimp only at h
    rw [hl] at h
    have hs6 := h.early (by simp)
    have hv6 := h.ld
    replace h := h.h hs6
    exact st_run (v := tm 31) (w' := w) (by rfl) (by kernel_rfl) (hK.out _ _ ⟨hv6, fun _ => (h.addMv (hd 7 (by kernel_rfl)) rfl), fun e => ff hs6 e⟩)
  case o9 =>
    intro l tm w h hl hd K0 hK
    try dsimp only at h
    rw [hl] at h
    have hs6 := h.early (by simp)
    have hv6 := h.ld
    replace h := h.h hs6
    obtain ⟨A', ca', C', cc', eT, -⟩ := h.tup (hd 8 (by kernel_rfl))
    refine st_run (v := .agg #[.int .i64 2, .int .i64 32, .int .i64 16, .slice A' 32 ca', .slice C' 16 cc']) (w' := w) (by rfl) ?_ (hK.out _ _ ⟨hv6, fun _ => (h.addE1 (hd 8 (by kernel_rfl)) eT), fun e => ff hs6 e⟩)
    simp only [List.getElem_toArray, List.getElem_cons_zero, List.getElem_cons_succ, pmA, List.foldl_cons, List.foldl_nil, Act.put, List.setIfInBounds_toArray, List.set_cons_zero, List.set_cons_succ]
    rw [eT]
    kernel_rfl
  case o10 =>
    intro l tm w h hl hd K0 hK
    try dsimp only at h
    rw [hl] at h
    rcases hs : l 12 with _ | _
    · have hv6 := h.ld
      replace h := h.h hs
      obtain ⟨A', ca', C', cc', eT, -⟩ := h.tup (hd 8 (by kernel_rfl))
      refine st_run (v := (.agg #[.int .i64 0, .int .u64 0, .int .i64 0])) (w' := w) (by rfl) ?_ (hK.out _ _ ⟨hv6, fun _ => h.addE2 (hd 8 (by kernel_rfl)) eT, fun e => ff hs e⟩)
      simp only [List.getElem_toArray, List.getElem_cons_zero, List.getElem_cons_succ, pmA, List.foldl_cons, List.foldl_nil, Act.put, List.setIfInBounds_toArray, List.set_cons_zero, List.set_cons_succ]
      rw [eT]
      kernel_rfl
    · obtain ⟨hfl, w0, A1, ca1, C1, cc1, eD, ew, hP⟩ := h.s hs
      obtain ⟨A', ca', C', cc', eT, -⟩ := hP.tup (hd 8 (by kernel_rfl))
      refine st_run (v := (.agg #[.int .i64 0, .int .u64 0, .int .i64 0])) (w' := w) (by rfl) ?_ (hK.out _ _ ⟨h.ld, fun e => ff e hs, fun _ => ⟨hfl, w0, A1, ca1, C1, cc1, eD, ew, hP.addE2 (hd 8 (by kernel_rfl)) eT⟩⟩)
      simp only [List.getElem_toArray, List.getElem_cons_zero, List.getElem_cons_succ, pmA, List.foldl_cons, List.foldl_nil, Act.put, List.setIfInBounds_toArray, List.set_cons_zero, List.set_cons_succ]
      rw [eT]
      kernel_rfl
  case o11 =>
    intro l tm w h hl hd K0 hK
    try dsimp only at h
    rw [hl] at h
    have hs6 := h.early (by simp)
    have hv6 := h.ld
    replace h := h.h hs6
    have hh := h.addY HP.out 40
    exact st_run (v := ptr w.heap.size) (by rfl) (by kernel_rfl) (hK.out _ _ ⟨hv6, fun _ => hh, fun e => ff hs6 e⟩)
  case o12 =>
    intro l tm w h hl hd K0 hK
    try dsimp only at h
    rw [hl] at h
    have hP := h.h rfl
    obtain ⟨A', ca', C', cc', e1, eD⟩ := hP.e1v (hd 8 (by kernel_rfl)) (hd 9 (by kernel_rfl))
    have HT : Hid (w.there j0 0 (#[.int .i64 2, .int .i64 32, .int .i64 16, .slice A' 32 ca', .slice C' 16 cc'] : Array Value).size) := Lib.hid ((K_s.out.on hP.bb).there (n := 5) rfl)
    have HO := Lib.hid (state_one 2 32 16 A' 32 ca' C' 16 cc')
    refine st_store (by rfl) 27 (.tmp 5) (.tmp 32) (by rfl) j0 0 #[.int .i64 2, .int .i64 32, .int .i64 16, .slice A' 32 ca', .slice C' 16 cc'] (by kernel_rfl) ((by kernel_rfl : _ = tm 32).trans e1) HT.out info_state HO.out ?_
    have hfl : (l 0 && l 1 && l 2 && l 3 && l 4 && l 6 && l 7 && l 8 && l 9 && l 11) = true := by simp only [hd 0 (by kernel_rfl), hd 1 (by kernel_rfl), hd 2 (by kernel_rfl), hd 3 (by kernel_rfl), hd 4 (by kernel_rfl), hd 6 (by kernel_rfl), hd 7 (by kernel_rfl), hd 8 (by kernel_rfl), hd 9 (by kernel_rfl), hd 11 (by kernel_rfl), Bool.and_self, Bool.and_true, Bool.true_and]
    exact hK.out undef (w.setCells j0 0 [.int .i64 2, .int .i64 32, .int .i64 16, .slice A' 32 ca', .slice C' 16 cc']) ⟨h.ld, fun e => ff e rfl, fun _ => ⟨hfl, w, A', ca', C', cc', eD, rfl, hP⟩⟩
  case start => exact ⟨fun e => ff rfl e, fun _ => ⟨hb0, fun _ => ⟨hb0, fun e => ff rfl e, fun e => ff rfl e, fun e => ff rfl e, fun e => ff rfl e, fun e => ff rfl e, fun e => ff rfl e, fun e => ff rfl e, fun e => ff rfl e, fun e => ff rfl e, fun e => ff rfl e⟩, fun e => ff rfl e, fun e => ff rfl e, fun e => ff rfl e, fun e => ff rfl e, fun e => ff rfl e, fun e => ff rfl e⟩, fun e => ff rfl e⟩
  case fin =>
    clear hb0
    intro tm u6 h
    try dsimp only at h
    obtain ⟨w0, Az, ca4, Cz, cc4, y4, eu, hbz, hm, ey, hY, hfar, hR⟩ := h.fin (by kernel_rfl) (by kernel_rfl)
    subst eu
    obtain ⟨hca, hcc, hF⟩ := hm
    obtain ⟨P4, Q4, rfl, rfl, hO⟩ := hF.ost (by rw [ml2_len.1]; decide) (by rw [ml2_len.2]; decide) hbz
    have HC_s2 := Lib.hid (⟨hca, hcc⟩ : 32 ≤ ca4 ∧ 16 ≤ cc4)
    replace hfar := hfar _ rfl
    have f1 : P4 ≠ y4 := hfar.1 P4 rfl
    have f2 : Q4 ≠ y4 := hfar.2 Q4 rfl
    simp only [ptr] at ey
    clear h hca hcc hF HP hfar
    have hlt := K_s.out.bx.lt
    have hl1 := hO.oP
    have hl2 := hO.oQ
    have hy0 := hY.bx.base
    have hyl := hY.bx.lt
    have HNE_y4 : Hid (y4 ≠ j0) := Lib.hid (by omega)
    have f := Fnd.setCells j0 [.int .i64 2, .int .i64 32, .int .i64 16, .slice (some ⟨P4, 0, none⟩) 32 ca4, .slice (some ⟨Q4, 0, none⟩) 16 cc4] 0 w0
    have k7 := (K_s.out.on hbz).setCells (vs := [.int .i64 2, .int .i64 32, .int .i64 16, .slice (some ⟨P4, 0, none⟩) 32 ca4, .slice (some ⟨Q4, 0, none⟩) 16 cc4]) rfl
    have o6 := (hO.base K_s.out.bx.old).step f (by omega) (by omega) k7.bx.old
    have y7 := (hY.rebase K_s.out.bx.old).fnd f (by omega) k7.bx.old
    have y_Y_3 := (Y_3.out.on hbz).fnd f HNE_j1.out k7.bx.old
    have hoy : j1 ≠ y4 ∧ True := by
      have e0 := Y_3.out.bx.lt; exact ⟨by omega, trivial⟩
    have HOY := Lib.hid hoy
    clear f hO hlt hl1 hl2 hbz hY hy0 hyl hoy
    simp only [pmA, List.foldl_cons, List.foldl_nil, Act.put, List.setIfInBounds_toArray, List.set_cons_zero, List.set_cons_succ]
    rw [ey, hR]
    clear ey hR
    generalize w0.setCells j0 0 _ = u7 at k7 o6 y7 y_Y_3 ⊢
    refine wpAnyH_ready (rs := [13]) (by kernel_rfl) (by simp) ?_
    refine AllReadyH.cons rfl (fun K0 hK => ?_) AllReadyH.nil
    have HT : Hid (u7.there y4 0 (#[.int .i64 0, .int .u64 0, .int .i64 0] : Array Value).size) := Lib.hid (y7.there (n := 3) rfl)
    have HO := Lib.hid (reply_one 0 0 0)
    have kY := y7.setCells (vs := [.int .i64 0, .int .u64 0, .int .i64 0]) rfl
    have fY := Fnd.setCells y4 [.int .i64 0, .int .u64 0, .int .i64 0] 0 u7
    have k8 := k7.fnd fY HNE_y4.out.symm kY.bx.old
    have o8 := o6.step fY f1 f2 kY.bx.old
    have z_Y_3 := y_Y_3.fnd fY (HOY.out.1) kY.bx.old
    refine step_store_mid (by rfl) 40 (.tmp 7) (.tmp 33) (by rfl) y4 0 #[.int .i64 0, .int .u64 0, .int .i64 0] (by rfl) (by rfl) HT.out info_reply HO.out ?_
    change K0 _ (u7.setCells y4 0 [.int .i64 0, .int .u64 0, .int .i64 0])
    clear fY HT HO k7 o6 y7 f1 f2 y_Y_3
    generalize u7.setCells y4 0 [.int .i64 0, .int .u64 0, .int .i64 0] = v5 at kY k8 o8 z_Y_3 ⊢
    clear K_s HS1 O_s
    have K_s := Lib.hid k8
    have O_s2 := Lib.hid o8
    have Y_4 := Lib.hid kY
    replace Y_3 := Lib.hid z_Y_3
    clear k8 o8 kY HOY z_Y_3
    refine hK.out _ _ trivial (fun _ => ?_)
    clear hK K0
    try simp only [Act.put, List.setIfInBounds_toArray, List.set_cons_zero, List.set_cons_succ, List.getElem_toArray, List.getElem_cons_zero, List.getElem_cons_succ]
    refine wpAnyH_done (by kernel_rfl) ?_ _
    go_upto_region 5 with fail
    have HP : Hid (∀ s', some (ml3 z) = some s' → 0 < s'.sl.length ∧ 0 < s'.th.length) := Lib.hid fun s' e => by
      injection e with e
      rw [← e, ml3_len.1, ml3_len.2]
      decide
    have HS1 := Lib.hid (⟨O_s2.out.lies, (ml_g (z := z)).2.1, ml2_len.1.symm, ml2_len.2.symm, by decide, by decide, HC_s2.out.1, HC_s2.out.2⟩ : StH _ (ml2 z) 2 32 16 (some ⟨P4, 0, none⟩) 32 ca4 (some ⟨Q4, 0, none⟩) 16 cc4)
    have hb0 := (below_self v5).drew
    refine wp_region_held_drew (S := fun _ => True) (by kernel_rfl) trivial (fun _ => ?_)
    refine wpAnyH_inv (f0 := 1) [0, 1, 2, 3, 4, 5, 6, 7, 8, 9] [35, 36, 37, 38, 39, 40, 41, 34, 8] (fun l tm w => P8 v5 j0 [2] [] 2 32 16 (some ⟨P4, 0, none⟩) 32 ca4 (some ⟨Q4, 0, none⟩) 16 cc4 (some (ml3 z)) (.agg #[.int .i64 0, .int .u64 0, .int .i64 1]) (fun p q => .agg #[.int .i64 5, flat1 p, flat1 q, .int .i64 0, .int .i64 0, .int .u64 0]) (.agg #[.int .i64 2, .int .i64 32, .int .i64 16, .slice (some ⟨P4, 0, none⟩) 32 ca4, .slice (some ⟨Q4, 0, none⟩) 16 cc4]) [.int .i64 0, .int .u64 0, .int .i64 0] (l 0) (l 1) (l 2) true true (l 3) (l 4) (l 5) (l 6) (l 7) (l 8) (l 9) (tm 35) (tm 36) (tm 37) (.slice none 0 0) (.agg #[(.slice none 0 0)]) (tm 38) (tm 39) (tm 34) (tm 40) (tm 41) (tm 8) w) (by kernel_rfl) (by kernel_rfl) rfl (by decide) (fun _ _ _ _ => trivial) ?start (AllSteps.cons rfl ?o0 (AllSteps.cons rfl ?o1 (AllSteps.cons rfl ?o2 (AllSteps.cons rfl ?o3 (AllSteps.cons rfl ?o4 (AllSteps.cons rfl ?o5 (AllSteps.cons rfl ?o6 (AllSteps.cons rfl ?o7 (AllSteps.cons rfl ?o8 (AllSteps.cons rfl ?o9 AllSteps.nil)))))))))) ?fin
    case o0 =>
      intro l tm w h hl hd K0 hK
      try dsimp only at h
      rw [hl] at h
      have hs6 := h.early (by simp)
      have hP := h.h hs6
      refine st_load (by rfl) 27 (.tmp 5) (by rfl) j0 0 (by kernel_rfl) [.int .i64 2, .int .i64 32, .int .i64 16, .slice (some ⟨P4, 0, none⟩) 32 ca4, .slice (some ⟨Q4, 0, none⟩) 16 cc4] _ (K_s.out.on hP.bb).bx.range Tryz.underlying27 rfl info_state ?_
      exact hK.out _ _ ⟨fun _ => rfl, fun _ => hP, fun e => ff hs6 e⟩
    case o1 =>
      intro l tm w h hl hd K0 hK
      try dsimp only at h
      rw [hl] at h
      have hs6 := h.early (by simp)
      have hv6 := h.ld
      replace h := h.h hs6
      have hh := h.addB1 (below_alloc w (.cells #[.int .i64 2] 3)) (lis_one w 2)
      exact st_run (v := .slice (some ⟨w.heap.size, 0, none⟩) 1 1) (by rfl) (by kernel_rfl) (hK.out _ _ ⟨hv6, fun _ => hh, fun e => ff hs6 e⟩)
    case o2 =>
      intro l tm w h hl hd K0 hK
      try dsimp only at h
      rw [hl] at h
      have hs6 := h.early (by simp)
      have hv6 := h.ld
      replace h := h.h hs6
      have h0 := h
      obtain ⟨⟨B, nB, cB, eB, -⟩, -⟩ := h0.way1 (hd 1 (by kernel_rfl))
      have hc := way18_is (A := B) (n := nB) (cap := cB) w
      rw [← eB] at hc
      refine st_call (f := 27) (args := #[(tm 36)]) (w' := w) (by rfl) (by kernel_rfl) (hc.mono ?_)
      rintro e w1 ⟨rfl, hb⟩
      exact ⟨_, rfl, hK.out _ _ ⟨hv6, fun _ => (h.addW1 (hd 1 (by kernel_rfl)) hb rfl), fun e => ff hs6 e⟩⟩
    case o3 =>
      intro l tm w h hl hd K0 hK
      try dsimp only at h
      rw [hl] at h
      have hs6 := h.early (by simp)
      have hv6 := h.ld
      replace h := h.h hs6
      have d1 := hd 2 (by kernel_rfl)
      have d2 : true = true := rfl
      have h0 := h
      obtain ⟨⟨B1, n1, k1, eB1, eN1, eK1, eI1⟩, eW1⟩ := h0.way1 ((h0.rg rfl).w1 d1).1
      obtain ⟨⟨B2, n2, k2, eB2, eN2, eK2, eI2⟩, eW2⟩ := h0.way2 rfl
      have hW1 := (eW1 d1).trans (by rw [eB1])
      have hW2 := (eW2 d2).trans (by rw [eB2])
      refine st_run (v := (fun p q => .agg #[.int .i64 5, flat1 p, flat1 q, .int .i64 0, .int .i64 0, .int .u64 0]) (tm 37) (.agg #[(.slice none 0 0)])) (w' := w) (by rfl) ?_ (hK.out _ _ ⟨hv6, fun _ => (h.addBd d1 d2 rfl), fun e => ff hs6 e⟩)
      simp only [List.getElem_toArray, List.getElem_cons_zero, List.getElem_cons_succ, pmA, List.foldl_cons, List.foldl_nil, Act.put, List.setIfInBounds_toArray, List.set_cons_zero, List.set_cons_succ]
      rw [hW1]
      kernel_rfl
    case o4 =>
      intro l tm w h hl hd K0 hK
      try dsimp only at h
      rw [hl] at h
      have hs6 := h.early (by simp)
      have hv6 := h.ld
      replace h := h.h hs6
      have d0 := hd 3 (by kernel_rfl)
      obtain ⟨d1, d2, eBD⟩ := h.e6 d0
      have h0 := h
      obtain ⟨⟨B1, n1, k1, eB1, eN1, eK1, eI1⟩, eW1⟩ := h0.way1 ((h0.rg rfl).w1 d1).1
      obtain ⟨⟨B2, n2, k2, eB2, eN2, eK2, eI2⟩, eW2⟩ := h0.way2 rfl
      have hW1 := (eW1 d1).trans (by rw [eB1])
      have hW2 := (eW2 d2).trans (by rw [eB2])
      rw [hW1, hW2] at eBD
      have hA : #[(tm 35), .int .i64 0, (tm 38)] = #[.agg #[.int .i64 2, .int .i64 32, .int .i64 16, .slice (some ⟨P4, 0, none⟩) 32 ca4, .slice (some ⟨Q4, 0, none⟩) 16 cc4], .int .i64 0, .agg #[.int .i64 5, .slice B1 n1 k1, .slice B2 n2 k2, .int .i64 0, .int .i64 0, .int .u64 0]] := by rw [hv6 (hd 0 (by kernel_rfl)), eBD]; rfl
      refine st_call (f := 33) (args := #[(tm 35), .int .i64 0, (tm 38)]) (w' := w) (by rfl) (by kernel_rfl) ?_
      rw [hA]
      refine (tdo_is (z := 0) (HS1.out.on h.bb) eN1 eK1 eI1 eN2 eK2 eI2 (mlf_3 z)).mono ?_
      rintro e w1 ⟨A', ca', C', cc', rfl, hb, hm⟩
      obtain ⟨q1, q2⟩ := resD_of (a := 2) (b := 32) (c := 16) (R := (.agg #[.int .i64 0, .int .u64 0, .int .i64 1])) h.bb.size hm HP.out
      exact ⟨_, rfl, hK.out _ _ ⟨hv6, fun _ => (h.addD hb q1 q2), fun e => ff hs6 e⟩⟩
    case o5 =>
      intro l tm w h hl hd K0 hK
      try dsimp only at h
      rw [hl] at h
      have hs6 := h.early (by simp)
      have hv6 := h.ld
      replace h := h.h hs6
      exact st_run (v := tm 39) (w' := w) (by rfl) (by kernel_rfl) (hK.out _ _ ⟨hv6, fun _ => (h.addMv (hd 4 (by kernel_rfl)) rfl), fun e => ff hs6 e⟩)
    case o6 =>
      intro l tm w h hl hd K0 hK
      try dsimp only at h
      rw [hl] at h
      have hs6 := h.early (by simp)
      have hv6 := h.ld
      replace h := h.h hs6
      obtain ⟨A', ca', C', cc', eT, -⟩ := h.tup (hd 5 (by kernel_rfl))
      refine st_run (v := .agg #[.int .i64 2, .int .i64 32, .int .i64 16, .slice A' 32 ca', .slice C' 16 cc']) (w' := w) (by rfl) ?_ (hK.out _ _ ⟨hv6, fun _ => (h.addE1 (hd 5 (by kernel_rfl)) eT), fun e => ff hs6 e⟩)
      simp only [List.getElem_toArray, List.getElem_cons_zero, List.getElem_cons_succ, pmA, List.foldl_cons, List.foldl_nil, Act.put, List.setIfInBounds_toArray, List.set_cons_zero, List.set_cons_succ]
      rw [eT]
      kernel_rfl
    case o7 =>
      intro l tm w h hl hd K0 hK
      try dsimp only at h
      rw [hl] at h
      rcases hs : l 9 with _ | _
      · have hv6 := h.ld
        replace h := h.h hs
        obtain ⟨A', ca', C', cc', eT, -⟩ := h.tup (hd 5 (by kernel_rfl))
        refine st_run (v := (.agg #[.int .i64 0, .int .u64 0, .int .i64 1])) (w' := w) (by rfl) ?_ (hK.out _ _ ⟨hv6, fun _ => h.addE2 (hd 5 (by kernel_rfl)) eT, fun e => ff hs e⟩)
        simp only [List.getElem_toArray, List.getElem_cons_zero, List.getElem_cons_succ, pmA, List.foldl_cons, List.foldl_nil, Act.put, List.setIfInBounds_toArray, List.set_cons_zero, List.set_cons_succ]
        rw [eT]
        kernel_rfl
      · obtain ⟨hfl, w0, A1, ca1, C1, cc1, eD, ew, hP⟩ := h.s hs
        obtain ⟨A', ca', C', cc', eT, -⟩ := hP.tup (hd 5 (by kernel_rfl))
        refine st_run (v := (.agg #[.int .i64 0, .int .u64 0, .int .i64 1])) (w' := w) (by rfl) ?_ (hK.out _ _ ⟨h.ld, fun e => ff e hs, fun _ => ⟨hfl, w0, A1, ca1, C1, cc1, eD, ew, hP.addE2 (hd 5 (by kernel_rfl)) eT⟩⟩)
        simp only [List.getElem_toArray, List.getElem_cons_zero, List.getElem_cons_succ, pmA, List.foldl_cons, List.foldl_nil, Act.put, List.setIfInBounds_toArray, List.set_cons_zero, List.set_cons_succ]
        rw [eT]
        kernel_rfl
    case o8 =>
      intro l tm w h hl hd K0 hK
      try dsimp only at h
      rw [hl] at h
      have hs6 := h.early (by simp)
      have hv6 := h.ld
      replace h := h.h hs6
      have hh := h.addY HP.out 40
      exact st_run (v := ptr w.heap.size) (by rfl) (by kernel_rfl) (hK.out _ _ ⟨hv6, fun _ => hh, fun e => ff hs6 e⟩)
    case o9 =>
      intro l tm w h hl hd K0 hK
      try dsimp only at h
      rw [hl] at h
      have hP := h.h rfl
      obtain ⟨A', ca', C', cc', e1, eD⟩ := hP.e1v (hd 5 (by kernel_rfl)) (hd 6 (by kernel_rfl))
      have HT : Hid (w.there j0 0 (#[.int .i64 2, .int .i64 32, .int .i64 16, .slice A' 32 ca', .slice C' 16 cc'] : Array Value).size) := Lib.hid ((K_s.out.on hP.bb).there (n := 5) rfl)
      have HO := Lib.hid (state_one 2 32 16 A' 32 ca' C' 16 cc')
      refine st_store (by rfl) 27 (.tmp 5) (.tmp 40) (by rfl) j0 0 #[.int .i64 2, .int .i64 32, .int .i64 16, .slice A' 32 ca', .slice C' 16 cc'] (by kernel_rfl) ((by kernel_rfl : _ = tm 40).trans e1) HT.out info_state HO.out ?_
      have hfl : (l 0 && l 1 && l 2 && true && true && l 3 && l 4 && l 5 && l 6 && l 8) = true := by simp only [hd 0 (by kernel_rfl), hd 1 (by kernel_rfl), hd 2 (by kernel_rfl), hd 3 (by kernel_rfl), hd 4 (by kernel_rfl), hd 5 (by kernel_rfl), hd 6 (by kernel_rfl), hd 8 (by kernel_rfl), Bool.and_self, Bool.and_true, Bool.true_and]
      exact hK.out undef (w.setCells j0 0 [.int .i64 2, .int .i64 32, .int .i64 16, .slice A' 32 ca', .slice C' 16 cc']) ⟨h.ld, fun e => ff e rfl, fun _ => ⟨hfl, w, A', ca', C', cc', eD, rfl, hP⟩⟩
    case start => exact ⟨fun e => ff rfl e, fun _ => ⟨hb0, fun _ => ⟨hb0, fun e => ff rfl e, fun e => ff rfl e, fun _ => ⟨none, 0, 0, rfl, rfl, Nat.le_refl _, none_at _⟩, fun _ => ⟨rfl, rfl⟩, fun e => ff rfl e, fun e => ff rfl e, fun e => ff rfl e, fun e => ff rfl e, fun e => ff rfl e, fun e => ff rfl e⟩, fun e => ff rfl e, fun e => ff rfl e, fun e => ff rfl e, fun e => ff rfl e, fun e => ff rfl e, fun e => ff rfl e⟩, fun e => ff rfl e⟩
    case fin =>
      clear hb0
      intro tm u6 h
      try dsimp only at h
      obtain ⟨w0, Az, ca5, Cz, cc5, y5, eu, hbz, hm, ey, hY, hfar, hR⟩ := h.fin (by kernel_rfl) (by kernel_rfl)
      subst eu
      obtain ⟨hca, hcc, hF⟩ := hm
      obtain ⟨P5, Q5, rfl, rfl, hO⟩ := hF.ost (by rw [ml3_len.1]; decide) (by rw [ml3_len.2]; decide) hbz
      have HC_s3 := Lib.hid (⟨hca, hcc⟩ : 32 ≤ ca5 ∧ 16 ≤ cc5)
      replace hfar := hfar _ rfl
      have f1 : P5 ≠ y5 := hfar.1 P5 rfl
      have f2 : Q5 ≠ y5 := hfar.2 Q5 rfl
      simp only [ptr] at ey
      clear h hca hcc hF HP hfar
      have hlt := K_s.out.bx.lt
      have hl1 := hO.oP
      have hl2 := hO.oQ
      have hy0 := hY.bx.base
      have hyl := hY.bx.lt
      have HNE_y5 : Hid (y5 ≠ j0) := Lib.hid (by omega)
      have f := Fnd.setCells j0 [.int .i64 2, .int .i64 32, .int .i64 16, .slice (some ⟨P5, 0, none⟩) 32 ca5, .slice (some ⟨Q5, 0, none⟩) 16 cc5] 0 w0
      have k7 := (K_s.out.on hbz).setCells (vs := [.int .i64 2, .int .i64 32, .int .i64 16, .slice (some ⟨P5, 0, none⟩) 32 ca5, .slice (some ⟨Q5, 0, none⟩) 16 cc5]) rfl
      have o6 := (hO.base K_s.out.bx.old).step f (by omega) (by omega) k7.bx.old
      have y7 := (hY.rebase K_s.out.bx.old).fnd f (by omega) k7.bx.old
      have y_Y_3 := (Y_3.out.on hbz).fnd f HNE_j1.out k7.bx.old
      have y_Y_4 := (Y_4.out.on hbz).fnd f HNE_y4.out k7.bx.old
      have hoy : j1 ≠ y5 ∧ y4 ≠ y5 ∧ True := by
        have e0 := Y_3.out.bx.lt; have e1 := Y_4.out.bx.lt; exact ⟨by omega, by omega, trivial⟩
      have HOY := Lib.hid hoy
      clear f hO hlt hl1 hl2 hbz hY hy0 hyl hoy
      simp only [pmA, List.foldl_cons, List.foldl_nil, Act.put, List.setIfInBounds_toArray, List.set_cons_zero, List.set_cons_succ]
      rw [ey, hR]
      clear ey hR
      generalize w0.setCells j0 0 _ = u7 at k7 o6 y7 y_Y_3 y_Y_4 ⊢
      refine wpAnyH_ready (rs := [10]) (by kernel_rfl) (by simp) ?_
      refine AllReadyH.cons rfl (fun K0 hK => ?_) AllReadyH.nil
      have HT : Hid (u7.there y5 0 (#[.int .i64 0, .int .u64 0, .int .i64 1] : Array Value).size) := Lib.hid (y7.there (n := 3) rfl)
      have HO := Lib.hid (reply_one 0 0 1)
      have kY := y7.setCells (vs := [.int .i64 0, .int .u64 0, .int .i64 1]) rfl
      have fY := Fnd.setCells y5 [.int .i64 0, .int .u64 0, .int .i64 1] 0 u7
      have k8 := k7.fnd fY HNE_y5.out.symm kY.bx.old
      have o8 := o6.step fY f1 f2 kY.bx.old
      have z_Y_3 := y_Y_3.fnd fY (HOY.out.1) kY.bx.old
      have z_Y_4 := y_Y_4.fnd fY (HOY.out.2.1) kY.bx.old
      refine step_store_mid (by rfl) 40 (.tmp 8) (.tmp 41) (by rfl) y5 0 #[.int .i64 0, .int .u64 0, .int .i64 1] (by rfl) (by rfl) HT.out info_reply HO.out ?_
      change K0 _ (u7.setCells y5 0 [.int .i64 0, .int .u64 0, .int .i64 1])
      clear fY HT HO k7 o6 y7 f1 f2 y_Y_3 y_Y_4
      generalize u7.setCells y5 0 [.int .i64 0, .int .u64 0, .int .i64 1] = v6 at kY k8 o8 z_Y_3 z_Y_4 ⊢
      clear K_s HS1 O_s2
      have K_s := Lib.hid k8
      have O_s3 := Lib.hid o8
      have Y_5 := Lib.hid kY
      replace Y_3 := Lib.hid z_Y_3
      replace Y_4 := Lib.hid z_Y_4
      clear k8 o8 kY HOY z_Y_3 z_Y_4
      refine hK.out _ _ trivial (fun _ => ?_)
      clear hK K0
      try simp only [Act.put, List.setIfInBounds_toArray, List.set_cons_zero, List.set_cons_succ, List.getElem_toArray, List.getElem_cons_zero, List.getElem_cons_succ]
      refine wpAnyH_done (by kernel_rfl) ?_ _
      go_upto_region 6 with fail
      cases again with
      | false =>
        go_upto_region 8 with fail
        have HW := Lib.hid K_s.out.bx.old
        have K_s3 := K_s
        clear K_s
        have HP : Hid (∀ s', some (ml5 z) = some s' → 0 < s'.sl.length ∧ 0 < s'.th.length) := Lib.hid fun s' e => by
          injection e with e
          rw [← e, ml5_len.1, ml5_len.2]
          decide
        have HS1 := Lib.hid (⟨O_s3.out.lies, (ml_g (z := z)).2.2.1, ml3_len.1.symm, ml3_len.2.symm, by decide, by decide, HC_s3.out.1, HC_s3.out.2⟩ : StH _ (ml3 z) 2 32 16 (some ⟨P5, 0, none⟩) 32 ca5 (some ⟨Q5, 0, none⟩) 16 cc5)
        refine wp_region_held_drew (S := fun w' => Below v6.heap.size v6 w') (by kernel_rfl) (below_self v6).drew (fun hH => ?_)
        refine wpAnyH_take (i := 0) (v := .agg #[.int .i64 2, .int .i64 32, .int .i64 16, .slice (some ⟨P5, 0, none⟩) 32 ca5, .slice (some ⟨Q5, 0, none⟩) 16 cc5]) rfl (by kernel_rfl) (by kernel_rfl) (by kernel_rfl) (fun _ _ _ h => h) (yieldsIf_load_mid (by rfl) 27 (.tmp 5) (by rfl) j0 0 (by rfl) [.int .i64 2, .int .i64 32, .int .i64 16, .slice (some ⟨P5, 0, none⟩) 32 ca5, .slice (some ⟨Q5, 0, none⟩) 16 cc5] _ (fun w hS => ((K_s3.out.bx.on hS).range)) Tryz.underlying27 rfl info_state) (by assumption) ?_
        try simp only [Act.put, List.setIfInBounds_toArray, List.set_cons_zero, List.set_cons_succ, List.getElem_toArray, List.getElem_cons_zero, List.getElem_cons_succ]
        refine wpAnyH_inv (f0 := 1) [1, 2, 3, 4, 5, 6, 7, 8, 9, 10, 11, 12] [55, 56, 57, 58, 59, 60, 61, 62, 53, 10, 9] (fun l tm w => PHI v6 [1] [3] 2 32 16 (some ⟨P5, 0, none⟩) 32 ca5 (some ⟨Q5, 0, none⟩) 16 cc5 (some (ml5 z)) (.agg #[.int .i64 0, .int .u64 (z : Int), .int .i64 0]) [.int .i64 0, .int .u64 0, .int .i64 0] false false (fun p q => .agg #[.int .i64 8, flat1 p, flat1 q, .int .i64 0, .int .i64 0, .int .u64 0]) (l 1) (l 2) (l 3) (l 4) (l 5) (l 6) (l 7) (l 8) (l 9) (l 10) (l 11) (l 12) (tm 55) (tm 56) (tm 57) (tm 58) (tm 59) (tm 60) (tm 53) (tm 61) (tm 62) (tm 9) (tm 10) w) (by kernel_rfl) (by kernel_rfl) rfl (by decide) (fun l tm w h => h.bb) ?start (AllSteps.cons rfl ?o1 (AllSteps.cons rfl ?o2 (AllSteps.cons rfl ?o3 (AllSteps.cons rfl ?o4 (AllSteps.cons rfl ?o5 (AllSteps.cons rfl ?o6 (AllSteps.cons rfl ?o7 (AllSteps.cons rfl ?o8 (AllSteps.cons rfl ?o9 (AllSteps.cons rfl ?o10 (AllSteps.cons rfl ?o11 (AllSteps.cons rfl ?o12 AllSteps.nil)))))))))))) ?fin
        case o1 =>
          intro l tm w h hl hd K0 hK
          try dsimp only at h
          rw [hl] at h
          have hh := h.addB1 (below_alloc w (.cells #[.int .i64 1] 3)) (lis_one w 1)
          exact st_run (v := .slice (some ⟨w.heap.size, 0, none⟩) 1 1) (by rfl) (by kernel_rfl) (hK.out _ _ hh)
        case o2 =>
          intro l tm w h hl hd K0 hK
          try dsimp only at h
          rw [hl] at h
          have hs := h.early1.1
          have h0 := h
          rw [hs] at h0
          obtain ⟨⟨B, nB, cB, eB, -⟩, -⟩ := h0.way1 (hd 1 (by kernel_rfl))
          have hc := way18_is (A := B) (n := nB) (cap := cB) w
          rw [← eB] at hc
          refine st_call (f := 27) (args := #[(tm 55)]) (w' := w) (by rfl) (by kernel_rfl) (hc.mono ?_)
          rintro e w1 ⟨rfl, hb⟩
          exact ⟨_, rfl, hK.out _ _ (h.addW1 (hd 1 (by kernel_rfl)) hb rfl)⟩
        case o3 =>
          intro l tm w h hl hd K0 hK
          try dsimp only at h
          rw [hl] at h
          have hh := h.addB2 (below_alloc w (.cells #[.int .i64 3] 3)) (lis_one w 3)
          exact st_run (v := .slice (some ⟨w.heap.size, 0, none⟩) 1 1) (by rfl) (by kernel_rfl) (hK.out _ _ hh)
        case o4 =>
          intro l tm w h hl hd K0 hK
          try dsimp only at h
          rw [hl] at h
          have hs := h.early2.1
          have h0 := h
          rw [hs] at h0
          obtain ⟨⟨B, nB, cB, eB, -⟩, -⟩ := h0.way2 (hd 3 (by kernel_rfl))
          have hc := way18_is (A := B) (n := nB) (cap := cB) w
          rw [← eB] at hc
          refine st_call (f := 27) (args := #[(tm 57)]) (w' := w) (by rfl) (by kernel_rfl) (hc.mono ?_)
          rintro e w1 ⟨rfl, hb⟩
          exact ⟨_, rfl, hK.out _ _ (h.addW2 (hd 3 (by kernel_rfl)) hb rfl)⟩
        case o5 =>
          intro l tm w h hl hd K0 hK
          try dsimp only at h
          rw [hl] at h
          have d1 := hd 2 (by kernel_rfl)
          have d2 := hd 4 (by kernel_rfl)
          have hs : l 12 = false := by rw [Bool.eq_false_iff]; exact fun e => absurd ((h.o e).2.2.2.2.1 rfl) (by decide)
          have h0 := h
          rw [hs] at h0
          obtain ⟨⟨B1, n1, k1, eB1, eN1, eK1, eI1⟩, eW1⟩ := h0.way1 ((h0.rg rfl).w1 d1).1
          obtain ⟨⟨B2, n2, k2, eB2, eN2, eK2, eI2⟩, eW2⟩ := h0.way2 ((h0.rg rfl).w2 d2).1
          have hW1 := (eW1 d1).trans (by rw [eB1])
          have hW2 := (eW2 d2).trans (by rw [eB2])
          refine st_run (v := (fun p q => .agg #[.int .i64 8, flat1 p, flat1 q, .int .i64 0, .int .i64 0, .int .u64 0]) (tm 56) (tm 58)) (w' := w) (by rfl) ?_ (hK.out _ _ (h.addBd d1 d2 rfl))
          simp only [List.getElem_toArray, List.getElem_cons_zero, List.getElem_cons_succ, pmA, List.foldl_cons, List.foldl_nil, Act.put, List.setIfInBounds_toArray, List.set_cons_zero, List.set_cons_succ]
          rw [hW1, hW2]
          kernel_rfl
        case o6 =>
          intro l tm w h hl hd K0 hK
          try dsimp only at h
          rw [hl] at h
          have d0 := hd 5 (by kernel_rfl)
          obtain ⟨d1, d2, eBD⟩ := h.e6 d0
          have hs : l 12 = false := h.notS.1
          have h0 := h
          rw [hs] at h0
          obtain ⟨⟨B1, n1, k1, eB1, eN1, eK1, eI1⟩, eW1⟩ := h0.way1 ((h0.rg rfl).w1 d1).1
          obtain ⟨⟨B2, n2, k2, eB2, eN2, eK2, eI2⟩, eW2⟩ := h0.way2 ((h0.rg rfl).w2 d2).1
          have hW1 := (eW1 d1).trans (by rw [eB1])
          have hW2 := (eW2 d2).trans (by rw [eB2])
          rw [hW1, hW2] at eBD
          have hA : #[.agg #[.int .i64 2, .int .i64 32, .int .i64 16, .slice (some ⟨P5, 0, none⟩) 32 ca5, .slice (some ⟨Q5, 0, none⟩) 16 cc5], .int .i64 1, (tm 59)] = #[.agg #[.int .i64 2, .int .i64 32, .int .i64 16, .slice (some ⟨P5, 0, none⟩) 32 ca5, .slice (some ⟨Q5, 0, none⟩) 16 cc5], .int .i64 1, .agg #[.int .i64 8, .slice B1 n1 k1, .slice B2 n2 k2, .int .i64 0, .int .i64 0, .int .u64 0]] := by rw [eBD]; rfl
          refine st_call (f := 28) (args := #[.agg #[.int .i64 2, .int .i64 32, .int .i64 16, .slice (some ⟨P5, 0, none⟩) 32 ca5, .slice (some ⟨Q5, 0, none⟩) 16 cc5], .int .i64 1, (tm 59)]) (w' := w) (by rfl) (by kernel_rfl) ?_
          rw [hA]
          refine (mdo_is (z := 0) (HS1.out.on h.bb) eN1 eK1 eI1 eN2 eK2 eI2 (mlf_5 z)).mono ?_
          rintro e w1 ⟨A', ca', C', cc', rfl, hb, hm⟩
          obtain ⟨q1, q2⟩ := resD_of (a := 2) (b := 32) (c := 16) (R := (.agg #[.int .i64 0, .int .u64 (z : Int), .int .i64 0])) h.bb.size hm HP.out
          exact ⟨_, rfl, hK.out _ _ (h.addD hb q1 q2)⟩
        case o7 =>
          intro l tm w h hl hd K0 hK
          try dsimp only at h
          rw [hl] at h
          exact st_run (v := tm 60) (w' := w) (by rfl) (by kernel_rfl) (hK.out _ _ (h.addMv (hd 6 (by kernel_rfl)) rfl))
        case o8 =>
          intro l tm w h hl hd K0 hK
          try dsimp only at h
          rw [hl] at h
          obtain ⟨A', ca', C', cc', eT, -⟩ := h.tup (hd 7 (by kernel_rfl))
          refine st_run (v := .agg #[.int .i64 2, .int .i64 32, .int .i64 16, .slice A' 32 ca', .slice C' 16 cc']) (w' := w) (by rfl) ?_ (hK.out _ _ (h.addE1 (hd 7 (by kernel_rfl)) eT))
          simp only [List.getElem_toArray, List.getElem_cons_zero, List.getElem_cons_succ, pmA, List.foldl_cons, List.foldl_nil, Act.put, List.setIfInBounds_toArray, List.set_cons_zero, List.set_cons_succ]
          rw [eT]
          kernel_rfl
        case o9 =>
          intro l tm w h hl hd K0 hK
          try dsimp only at h
          rw [hl] at h
          obtain ⟨A', ca', C', cc', eT, -⟩ := h.tup (hd 7 (by kernel_rfl))
          refine st_run (v := (.agg #[.int .i64 0, .int .u64 (z : Int), .int .i64 0])) (w' := w) (by rfl) ?_ (hK.out _ _ (h.addE2 (hd 7 (by kernel_rfl)) eT))
          simp only [List.getElem_toArray, List.getElem_cons_zero, List.getElem_cons_succ, pmA, List.foldl_cons, List.foldl_nil, Act.put, List.setIfInBounds_toArray, List.set_cons_zero, List.set_cons_succ]
          rw [eT]
          kernel_rfl
        case o10 =>
          intro l tm w h hl hd K0 hK
          try dsimp only at h
          rw [hl] at h
          have hh := h.addQ HP.out 27
          exact st_run (v := ptr w.heap.size) (by rfl) (by kernel_rfl) (hK.out _ _ hh)
        case o11 =>
          intro l tm w h hl hd K0 hK
          try dsimp only at h
          rw [hl] at h
          have hh := h.addY HP.out 40
          exact st_run (v := ptr w.heap.size) (by rfl) (by kernel_rfl) (hK.out _ _ hh)
        case o12 =>
          intro l tm w h hl hd K0 hK
          try dsimp only at h
          rw [hl] at h
          obtain ⟨x, A', ca', C', cc', ex, e1, ed, hw⟩ := h.atS' (hd 6 (by kernel_rfl)) (hd 7 (by kernel_rfl)) (hd 8 (by kernel_rfl)) (hd 10 (by kernel_rfl))
          have HT : Hid (w.there x 0 (#[.int .i64 2, .int .i64 32, .int .i64 16, .slice A' 32 ca', .slice C' 16 cc'] : Array Value).size) := Lib.hid (hw.there (n := 5) rfl)
          have HO := Lib.hid (state_one 2 32 16 A' 32 ca' C' 16 cc')
          refine st_store (by rfl) 27 (.tmp 9) (.tmp 61) (by rfl) x 0 #[.int .i64 2, .int .i64 32, .int .i64 16, .slice A' 32 ca', .slice C' 16 cc'] ((by kernel_rfl : _ = tm 9).trans ex) ((by kernel_rfl : _ = tm 61).trans e1) HT.out info_state HO.out ?_
          refine hK.out undef (w.setCells x 0 [.int .i64 2, .int .i64 32, .int .i64 16, .slice A' 32 ca', .slice C' 16 cc']) ?_
          exact h.addS' (hd 1 (by kernel_rfl)) (hd 2 (by kernel_rfl)) (hd 3 (by kernel_rfl)) (hd 4 (by kernel_rfl)) (fun _ => (hd 5 (by kernel_rfl))) (hd 6 (by kernel_rfl)) (hd 7 (by kernel_rfl)) (hd 8 (by kernel_rfl)) (hd 10 (by kernel_rfl)) (fun _ => (hd 11 (by kernel_rfl))) ex ed
        case start => exact ⟨hH, fun _ => ⟨hH, fun e => ff rfl e, fun e => ff rfl e, fun e => ff rfl e, fun e => ff rfl e, fun e => ff rfl e, fun e => ff rfl e, fun e => ff rfl e, fun e => ff rfl e, fun e => ff rfl e, fun e => ff rfl e⟩, fun e => ff rfl e, fun e => ff rfl e, fun e => ff rfl e, fun e => ff rfl e, fun e => ff rfl e, fun e => ff rfl e⟩
        case fin =>
          intro tm u8 h
          try dsimp only at h
          obtain ⟨hbb, hR, hP⟩ := h.fin (by kernel_rfl) (by kernel_rfl)
          obtain ⟨g8, Az, ca8, Cz, cc8, ed, ex, hx, hm, hy⟩ := hP
          obtain ⟨y8, ey, hne, hY, haw⟩ := hy rfl
          simp only [ptr] at ex ey
          obtain ⟨hca, hcc, hF⟩ := hm
          obtain ⟨P8, Q8, rfl, rfl, hO⟩ := hF.ost (by rw [ml5_len.1]; decide) (by rw [ml5_len.2]; decide) hbb
          have hfar := haw _ rfl
          have f1 : P8 ≠ y8 := hfar.1 P8 rfl
          have f2 : Q8 ≠ y8 := hfar.2 Q8 rfl
          have HC_x := Lib.hid (⟨hca, hcc⟩ : 32 ≤ ca8 ∧ 16 ≤ cc8)
          clear h ed hy hF haw hfar hca hcc HP HS1
          simp only [pmA, List.foldl_cons, List.foldl_nil, Act.put, List.setIfInBounds_toArray, List.set_cons_zero, List.set_cons_succ]
          rw [ex, ey, hR]
          clear ex ey hR
          refine wpAnyH_ready (rs := [13]) (by kernel_rfl) (by simp) ?_
          refine AllReadyH.cons rfl (fun K0 hK => ?_) AllReadyH.nil
          have HT : Hid (u8.there y8 0 (#[.int .i64 0, .int .u64 (z : Int), .int .i64 0] : Array Value).size) := Lib.hid (hY.there (n := 3) rfl)
          have HO := Lib.hid (reply_one 0 (z : Int) 0)
          have kY := hY.setCells (vs := [.int .i64 0, .int .u64 (z : Int), .int .i64 0]) rfl
          have fY := Fnd.setCells y8 [.int .i64 0, .int .u64 (z : Int), .int .i64 0] 0 u8
          have kX := hx.fnd fY hne.symm kY.bx.old
          have oX := hO.step fY f1 f2 kY.bx.old
          refine step_store_mid (by rfl) 40 (.tmp 10) (.tmp 62) (by rfl) y8 0 #[.int .i64 0, .int .u64 (z : Int), .int .i64 0] (by rfl) (by rfl) HT.out info_reply HO.out ?_
          change K0 _ (u8.setCells y8 0 [.int .i64 0, .int .u64 (z : Int), .int .i64 0])
          clear fY HT hY HO f1 f2 hne hx hO
          generalize u8.setCells y8 0 [.int .i64 0, .int .u64 (z : Int), .int .i64 0] = v9 at kY kX oX ⊢
          have hb := kY.bx.old
          refine hK.out _ _ hb (fun hH => ?_)
          clear hK K0
          try simp only [Act.put, List.setIfInBounds_toArray, List.set_cons_zero, List.set_cons_succ, List.getElem_toArray, List.getElem_cons_zero, List.getElem_cons_succ]
          refine wpAnyH_done (by kernel_rfl) ?_ _
          have Y_8 := Lib.hid (kY.rebase HW.out)
          have K_x := Lib.hid (kX.rebase HW.out)
          have O_x := Lib.hid (oX.base HW.out)
          clear kX oX
          clear kY
          replace K_s3 := Lib.hid (K_s3.out.on hb)
          replace Y_3 := Lib.hid (Y_3.out.on hb)
          replace Y_4 := Lib.hid (Y_4.out.on hb)
          replace Y_5 := Lib.hid (Y_5.out.on hb)
          replace O_s3 := Lib.hid (O_s3.out.on hb)
          replace HW := Lib.hid (below_on HW.out hb)
          clear hb hH hbb
          have r3_0 := Y_3.out.bx.c 0 _ rfl
          have r3_1 := Y_3.out.bx.c 1 _ rfl
          have r3_2 := Y_3.out.bx.c 2 _ rfl
          have r4_0 := Y_4.out.bx.c 0 _ rfl
          have r4_1 := Y_4.out.bx.c 1 _ rfl
          have r4_2 := Y_4.out.bx.c 2 _ rfl
          have r5_0 := Y_5.out.bx.c 0 _ rfl
          have r5_1 := Y_5.out.bx.c 1 _ rfl
          have r5_2 := Y_5.out.bx.c 2 _ rfl
          have r8_0 := Y_8.out.bx.c 0 _ rfl
          have r8_1 := Y_8.out.bx.c 1 _ rfl
          have r8_2 := Y_8.out.bx.c 2 _ rfl
          have hq0 : ∀ w, (Op.equalIn 10000 40 (.agg #[.int .i64 0, .int .u64 0, .int .i64 0]) (.agg #[.int .i64 0, .int .u64 0, .int .i64 0])).run Tryz.prog w = .ok true w := fun w => eq_reply 0 0 0 0 0 0 w
          have hq1 : ∀ w, (Op.equalIn 10000 40 (.agg #[.int .i64 0, .int .u64 0, .int .i64 1]) (.agg #[.int .i64 0, .int .u64 0, .int .i64 1])).run Tryz.prog w = .ok true w := fun w => eq_reply 0 0 1 1 0 0 w
          have hqw : ∀ w, (Op.equalIn 10000 40 (.agg #[.int .i64 0, .int .u64 (z : Int), .int .i64 0]) (.agg #[.int .i64 0, .int .u64 (z : Int), .int .i64 0])).run Tryz.prog w = .ok true w := fun w => by
            have h := eq_reply 0 0 0 0 z z w
            simpa using h
          have t0 := K_x.out.bx.c 0 _ rfl
          have t1 := K_x.out.bx.c 1 _ rfl
          have t2 := K_x.out.bx.c 2 _ rfl
          have t3 := K_x.out.bx.c 3 _ rfl
          have t4 := K_x.out.bx.c 4 _ rfl
          have h := O_x.out.slC (j := 11) (by rw [ml5_len.1]; decide)
          rw [ml5_11] at h
          obtain ⟨s0, s1, s2, s3, s4⟩ := h
          simp only [Nat.reduceMul, Nat.reduceAdd, Cp.none] at s0 s1 s2 s3 s4
          have hqs : ∀ w, (Op.equalIn 10000 64 (.agg #[.int .i64 0, .int .i64 0, .int .i64 0, .int .i64 0, .int .i64 (-1)]) (.agg #[.int .i64 0, .int .i64 0, .int .i64 0, .int .i64 0, .int .i64 (-1)])).run Tryz.prog w = .ok true w := fun w => by
            have := peqslot ⟨.none, -1⟩ ⟨.none, -1⟩ w
            rw [Sl.eq_iff.2 rfl] at this
            exact this
          go_wp2_with fail
          refine (sgood_is (⟨O_x.out.lies, (ml_g (z := z)).2.2.2.2.1, ml5_len.1.symm, ml5_len.2.symm, by decide, by decide, HC_x.out.1, HC_x.out.2⟩ : StH _ (ml5 z) 2 32 16 (some ⟨P8, 0, none⟩) 32 ca8 (some ⟨Q8, 0, none⟩) 16 cc8) (ml5_good z)).mono ?_
          rintro e z3 ⟨rfl, hb⟩
          have HE := Lib.hid (below_on HW.out hb)
          clear hb hq0 hq1 hqw hqs s0 s1 s2 s3 s4 t0 t1 t2 t3 t4 r3_0 r3_1 r3_2 r4_0 r4_1 r4_2 r5_0 r5_1 r5_2 r8_0 r8_1 r8_2
          go_wp2
          go_ret
          exact ⟨rfl, HE.out⟩
      | true =>
        go_upto_region 7 with fail
        have HS1 := Lib.hid (⟨O_s3.out.lies, (ml_g (z := z)).2.2.1, ml3_len.1.symm, ml3_len.2.symm, by decide, by decide, HC_s3.out.1, HC_s3.out.2⟩ : StH _ (ml3 z) 2 32 16 (some ⟨P5, 0, none⟩) 32 ca5 (some ⟨Q5, 0, none⟩) 16 cc5)
        have HP : Hid (∀ s', some (ml4 z) = some s' → 0 < s'.sl.length ∧ 0 < s'.th.length) := Lib.hid fun s' e => by
          injection e with e
          rw [← e, ml4_len.1, ml4_len.2]
          decide
        have hb0 := (below_self v6).drew
        refine wp_region_held_drew (S := fun _ => True) (by kernel_rfl) trivial (fun _ => ?_)
        refine wpAnyH_inv (f0 := 0) [0, 1, 2, 3, 4, 5, 6, 7, 8, 9, 10] [44, 45, 46, 47, 48, 49, 50, 43, 51, 52] (fun l tm w => P7 v6 j0 [1] [2] 2 32 16 (some ⟨P5, 0, none⟩) 32 ca5 (some ⟨Q5, 0, none⟩) 16 cc5 (some (ml4 z)) (.agg #[.int .i64 0, .int .u64 0, .int .i64 0]) (fun p q => .agg #[.int .i64 2, flat1 p, flat1 q, .int .i64 7, .int .i64 0, .int .u64 0]) (.agg #[.int .i64 2, .int .i64 32, .int .i64 16, .slice (some ⟨P5, 0, none⟩) 32 ca5, .slice (some ⟨Q5, 0, none⟩) 16 cc5]) (l 0) (l 1) (l 2) (l 3) (l 4) (l 5) (l 6) (l 7) (l 8) (l 9) (l 10) (tm 44) (tm 45) (tm 46) (tm 47) (tm 48) (tm 49) (tm 50) (tm 43) (tm 51) (tm 52) w) (by kernel_rfl) (by kernel_rfl) rfl (by decide) (fun _ _ _ _ => trivial) ?start (AllSteps.cons rfl ?o0 (AllSteps.cons rfl ?o1 (AllSteps.cons rfl ?o2 (AllSteps.cons rfl ?o3 (AllSteps.cons rfl ?o4 (AllSteps.cons rfl ?o5 (AllSteps.cons rfl ?o6 (AllSteps.cons rfl ?o7 (AllSteps.cons rfl ?o8 (AllSteps.cons rfl ?o9 (AllSteps.cons rfl ?o10 AllSteps.nil))))))))))) ?fin
        case o0 =>
          intro l tm w h hl hd K0 hK
          try dsimp only at h
          rw [hl] at h
          have hs6 := h.early (by simp)
          have hP := h.h hs6
          refine st_load (by rfl) 27 (.tmp 5) (by rfl) j0 0 (by kernel_rfl) [.int .i64 2, .int .i64 32, .int .i64 16, .slice (some ⟨P5, 0, none⟩) 32 ca5, .slice (some ⟨Q5, 0, none⟩) 16 cc5] _ (K_s.out.on hP.bb).bx.range Tryz.underlying27 rfl info_state ?_
          exact hK.out _ _ ⟨fun _ => rfl, fun _ => hP, fun e => ff hs6 e⟩
        case o1 =>
          intro l tm w h hl hd K0 hK
          try dsimp only at h
          rw [hl] at h
          have hs6 := h.early (by simp)
          have hv6 := h.ld
          replace h := h.h hs6
          have hh := h.addB1 (below_alloc w (.cells #[.int .i64 1] 3)) (lis_one w 1)
          exact st_run (v := .slice (some ⟨w.heap.size, 0, none⟩) 1 1) (by rfl) (by kernel_rfl) (hK.out _ _ ⟨hv6, fun _ => hh, fun e => ff hs6 e⟩)
        case o2 =>
          intro l tm w h hl hd K0 hK
          try dsimp only at h
          rw [hl] at h
          have hs6 := h.early (by simp)
          have hv6 := h.ld
          replace h := h.h hs6
          have h0 := h
          obtain ⟨⟨B, nB, cB, eB, -⟩, -⟩ := h0.way1 (hd 1 (by kernel_rfl))
          have hc := way18_is (A := B) (n := nB) (cap := cB) w
          rw [← eB] at hc
          refine st_call (f := 27) (args := #[(tm 45)]) (w' := w) (by rfl) (by kernel_rfl) (hc.mono ?_)
          rintro e w1 ⟨rfl, hb⟩
          exact ⟨_, rfl, hK.out _ _ ⟨hv6, fun _ => (h.addW1 (hd 1 (by kernel_rfl)) hb rfl), fun e => ff hs6 e⟩⟩
        case o3 =>
          intro l tm w h hl hd K0 hK
          try dsimp only at h
          rw [hl] at h
          have hs6 := h.early (by simp)
          have hv6 := h.ld
          replace h := h.h hs6
          have hh := h.addB2 (below_alloc w (.cells #[.int .i64 2] 3)) (lis_one w 2)
          exact st_run (v := .slice (some ⟨w.heap.size, 0, none⟩) 1 1) (by rfl) (by kernel_rfl) (hK.out _ _ ⟨hv6, fun _ => hh, fun e => ff hs6 e⟩)
        case o4 =>
          intro l tm w h hl hd K0 hK
          try dsimp only at h
          rw [hl] at h
          have hs6 := h.early (by simp)
          have hv6 := h.ld
          replace h := h.h hs6
          have h0 := h
          obtain ⟨⟨B, nB, cB, eB, -⟩, -⟩ := h0.way2 (hd 3 (by kernel_rfl))
          have hc := way18_is (A := B) (n := nB) (cap := cB) w
          rw [← eB] at hc
          refine st_call (f := 27) (args := #[(tm 47)]) (w' := w) (by rfl) (by kernel_rfl) (hc.mono ?_)
          rintro e w1 ⟨rfl, hb⟩
          exact ⟨_, rfl, hK.out _ _ ⟨hv6, fun _ => (h.addW2 (hd 3 (by kernel_rfl)) hb rfl), fun e => ff hs6 e⟩⟩
        case o5 =>
          intro l tm w h hl hd K0 hK
          try dsimp only at h
          rw [hl] at h
          have hs6 := h.early (by simp)
          have hv6 := h.ld
          replace h := h.h hs6
          have d1 := hd 2 (by kernel_rfl)
          have d2 := hd 4 (by kernel_rfl)
          have h0 := h
          obtain ⟨⟨B1, n1, k1, eB1, eN1, eK1, eI1⟩, eW1⟩ := h0.way1 ((h0.rg rfl).w1 d1).1
          obtain ⟨⟨B2, n2, k2, eB2, eN2, eK2, eI2⟩, eW2⟩ := h0.way2 ((h0.rg rfl).w2 d2).1
          have hW1 := (eW1 d1).trans (by rw [eB1])
          have hW2 := (eW2 d2).trans (by rw [eB2])
          refine st_run (v := (fun p q => .agg #[.int .i64 2, flat1 p, flat1 q, .int .i64 7, .int .i64 0, .int .u64 0]) (tm 46) (tm 48)) (w' := w) (by rfl) ?_ (hK.out _ _ ⟨hv6, fun _ => (h.addBd d1 d2 rfl), fun e => ff hs6 e⟩)
          simp only [List.getElem_toArray, List.getElem_cons_zero, List.getElem_cons_succ, pmA, List.foldl_cons, List.foldl_nil, Act.put, List.setIfInBounds_toArray, List.set_cons_zero, List.set_cons_succ]
          rw [hW1, hW2]
          kernel_rfl
        case o6 =>
          intro l tm w h hl hd K0 hK
          try dsimp only at h
          rw [hl] at h
          have hs6 := h.early (by simp)
          have hv6 := h.ld
          replace h := h.h hs6
          have d0 := hd 5 (by kernel_rfl)
          obtain ⟨d1, d2, eBD⟩ := h.e6 d0
          have h0 := h
          obtain ⟨⟨B1, n1, k1, eB1, eN1, eK1, eI1⟩, eW1⟩ := h0.way1 ((h0.rg rfl).w1 d1).1
          obtain ⟨⟨B2, n2, k2, eB2, eN2, eK2, eI2⟩, eW2⟩ := h0.way2 ((h0.rg rfl).w2 d2).1
          have hW1 := (eW1 d1).trans (by rw [eB1])
          have hW2 := (eW2 d2).trans (by rw [eB2])
          rw [hW1, hW2] at eBD
          have hA : #[(tm 44), .int .i64 0, (tm 49)] = #[.agg #[.int .i64 2, .int .i64 32, .int .i64 16, .slice (some ⟨P5, 0, none⟩) 32 ca5, .slice (some ⟨Q5, 0, none⟩) 16 cc5], .int .i64 0, .agg #[.int .i64 2, .slice B1 n1 k1, .slice B2 n2 k2, .int .i64 7, .int .i64 0, .int .u64 0]] := by rw [hv6 (hd 0 (by kernel_rfl)), eBD]; rfl
          refine st_call (f := 21) (args := #[(tm 44), .int .i64 0, (tm 49)]) (w' := w) (by rfl) (by kernel_rfl) ?_
          rw [hA]
          refine (gdo_is (z := 0) (HS1.out.on h.bb) eN1 eK1 eI1 eN2 eK2 eI2 (mlf_4 z)).mono ?_
          rintro e w1 ⟨A', ca', C', cc', rfl, hb, hm⟩
          obtain ⟨q1, q2⟩ := resD_of (a := 2) (b := 32) (c := 16) (R := (.agg #[.int .i64 0, .int .u64 0, .int .i64 0])) h.bb.size hm HP.out
          exact ⟨_, rfl, hK.out _ _ ⟨hv6, fun _ => (h.addD hb q1 q2), fun e => ff hs6 e⟩⟩
        case o7 =>
          intro l tm w h hl hd K0 hK
          try dsimp only at h
          rw [hl] at h
          have hs6 := h.early (by simp)
          have hv6 := h.ld
          replace h := h.h hs6
          exact st_run (v := tm 50) (w' := w) (by rfl) (by kernel_rfl) (hK.out _ _ ⟨hv6, fun _ => (h.addMv (hd 6 (by kernel_rfl)) rfl), fun e => ff hs6 e⟩)
        case o8 =>
          intro l tm w h hl hd K0 hK
          try dsimp only at h
          rw [hl] at h
          have hs6 := h.early (by simp)
          have hv6 := h.ld
          replace h := h.h hs6
          obtain ⟨A', ca', C', cc', eT, -⟩ := h.tup (hd 7 (by kernel_rfl))
          refine st_run (v := .agg #[.int .i64 2, .int .i64 32, .int .i64 16, .slice A' 32 ca', .slice C' 16 cc']) (w' := w) (by rfl) ?_ (hK.out _ _ ⟨hv6, fun _ => (h.addE1 (hd 7 (by kernel_rfl)) eT), fun e => ff hs6 e⟩)
          simp only [List.getElem_toArray, List.getElem_cons_zero, List.getElem_cons_succ, pmA, List.foldl_cons, List.foldl_nil, Act.put, List.setIfInBounds_toArray, List.set_cons_zero, List.set_cons_succ]
          rw [eT]
          kernel_rfl
        case o9 =>
          intro l tm w h hl hd K0 hK
          try dsimp only at h
          rw [hl] at h
          rcases hs : l 10 with _ | _
          · have hv6 := h.ld
            replace h := h.h hs
            obtain ⟨A', ca', C', cc', eT, -⟩ := h.tup (hd 7 (by kernel_rfl))
            refine st_run (v := (.agg #[.int .i64 0, .int .u64 0, .int .i64 0])) (w' := w) (by rfl) ?_ (hK.out _ _ ⟨hv6, fun _ => h.addE2 (hd 7 (by kernel_rfl)) eT, fun e => ff hs e⟩)
            simp only [List.getElem_toArray, List.getElem_cons_zero, List.getElem_cons_succ, pmA, List.foldl_cons, List.foldl_nil, Act.put, List.setIfInBounds_toArray, List.set_cons_zero, List.set_cons_succ]
            rw [eT]
            kernel_rfl
          · obtain ⟨hfl, w0, A1, ca1, C1, cc1, eD, ew, hP⟩ := h.s hs
            obtain ⟨A', ca', C', cc', eT, -⟩ := hP.tup (hd 7 (by kernel_rfl))
            refine st_run (v := (.agg #[.int .i64 0, .int .u64 0, .int .i64 0])) (w' := w) (by rfl) ?_ (hK.out _ _ ⟨h.ld, fun e => ff e hs, fun _ => ⟨hfl, w0, A1, ca1, C1, cc1, eD, ew, hP.addE2 (hd 7 (by kernel_rfl)) eT⟩⟩)
            simp only [List.getElem_toArray, List.getElem_cons_zero, List.getElem_cons_succ, pmA, List.foldl_cons, List.foldl_nil, Act.put, List.setIfInBounds_toArray, List.set_cons_zero, List.set_cons_succ]
            rw [eT]
            kernel_rfl
        case o10 =>
          intro l tm w h hl hd K0 hK
          try dsimp only at h
          rw [hl] at h
          have hP := h.h rfl
          obtain ⟨A', ca', C', cc', e1, eD⟩ := hP.e1v (hd 7 (by kernel_rfl)) (hd 8 (by kernel_rfl))
          have HT : Hid (w.there j0 0 (#[.int .i64 2, .int .i64 32, .int .i64 16, .slice A' 32 ca', .slice C' 16 cc'] : Array Value).size) := Lib.hid ((K_s.out.on hP.bb).there (n := 5) rfl)
          have HO := Lib.hid (state_one 2 32 16 A' 32 ca' C' 16 cc')
          refine st_store (by rfl) 27 (.tmp 5) (.tmp 51) (by rfl) j0 0 #[.int .i64 2, .int .i64 32, .int .i64 16, .slice A' 32 ca', .slice C' 16 cc'] (by kernel_rfl) ((by kernel_rfl : _ = tm 51).trans e1) HT.out info_state HO.out ?_
          have hfl : (l 0 && l 1 && l 2 && l 3 && l 4 && l 5 && l 6 && l 7 && l 8) = true := by simp only [hd 0 (by kernel_rfl), hd 1 (by kernel_rfl), hd 2 (by kernel_rfl), hd 3 (by kernel_rfl), hd 4 (by kernel_rfl), hd 5 (by kernel_rfl), hd 6 (by kernel_rfl), hd 7 (by kernel_rfl), hd 8 (by kernel_rfl), Bool.and_self]
          exact hK.out undef (w.setCells j0 0 [.int .i64 2, .int .i64 32, .int .i64 16, .slice A' 32 ca', .slice C' 16 cc']) ⟨h.ld, fun e => ff e rfl, fun _ => ⟨hfl, w, A', ca', C', cc', eD, rfl, hP⟩⟩
        case start => exact ⟨fun e => ff rfl e, fun _ => ⟨hb0, fun _ => ⟨hb0, fun e => ff rfl e, fun e => ff rfl e, fun e => ff rfl e, fun e => ff rfl e, fun e => ff rfl e, fun e => ff rfl e, fun e => ff rfl e, fun e => ff rfl e, fun e => ff rfl e, fun e => ff rfl e⟩, fun e => ff rfl e, fun e => ff rfl e, fun e => ff rfl e, fun e => ff rfl e, fun e => ff rfl e, fun e => ff rfl e⟩, fun e => ff rfl e⟩
        case fin =>
          clear hb0
          intro tm u6 h
          try dsimp only at h
          obtain ⟨w0, Az, ca7, Cz, cc7, eu, hbz, hm⟩ := h.fin (by kernel_rfl)
          subst eu
          obtain ⟨hca, hcc, hF⟩ := hm
          obtain ⟨P7, Q7, rfl, rfl, hO⟩ := hF.ost (by rw [ml4_len.1]; decide) (by rw [ml4_len.2]; decide) hbz
          have HC_s4 := Lib.hid (⟨hca, hcc⟩ : 32 ≤ ca7 ∧ 16 ≤ cc7)
          clear h hca hcc hF HP
          have hlt := K_s.out.bx.lt
          have hl1 := hO.oP
          have hl2 := hO.oQ
          have f := Fnd.setCells j0 [.int .i64 2, .int .i64 32, .int .i64 16, .slice (some ⟨P7, 0, none⟩) 32 ca7, .slice (some ⟨Q7, 0, none⟩) 16 cc7] 0 w0
          have k7 := (K_s.out.on hbz).setCells (vs := [.int .i64 2, .int .i64 32, .int .i64 16, .slice (some ⟨P7, 0, none⟩) 32 ca7, .slice (some ⟨Q7, 0, none⟩) 16 cc7]) rfl
          have o6 := (hO.base K_s.out.bx.old).step f (by omega) (by omega) k7.bx.old
          have y_Y_3 := (Y_3.out.on hbz).fnd f (HNE_j1.out) k7.bx.old
          have y_Y_4 := (Y_4.out.on hbz).fnd f (HNE_y4.out) k7.bx.old
          have y_Y_5 := (Y_5.out.on hbz).fnd f (HNE_y5.out) k7.bx.old
          clear f hO hlt hl1 hl2 hbz
          simp only [pmA, List.foldl_cons, List.foldl_nil, Act.put, List.setIfInBounds_toArray, List.set_cons_zero, List.set_cons_succ]
          generalize w0.setCells j0 0 _ = v8 at k7 o6 y_Y_3 y_Y_4 y_Y_5 ⊢
          clear K_s
          have K_s := Lib.hid k7
          have O_s4 := Lib.hid o6
          replace Y_3 := Lib.hid y_Y_3
          replace Y_4 := Lib.hid y_Y_4
          replace Y_5 := Lib.hid y_Y_5
          clear k7 o6 y_Y_3 y_Y_4 y_Y_5
          refine wpAnyH_done (by kernel_rfl) ?_ _
          clear O_s3 HS1
          go_upto_region 8 with fail
          have HW := Lib.hid K_s.out.bx.old
          have K_s4 := K_s
          clear K_s
          have HP : Hid (∀ s', some (ml6 z) = some s' → 0 < s'.sl.length ∧ 0 < s'.th.length) := Lib.hid fun s' e => by
            injection e with e
            rw [← e, ml6_len.1, ml6_len.2]
            decide
          have HS1 := Lib.hid (⟨O_s4.out.lies, (ml_g (z := z)).2.2.2.1, ml4_len.1.symm, ml4_len.2.symm, by decide, by decide, HC_s4.out.1, HC_s4.out.2⟩ : StH _ (ml4 z) 2 32 16 (some ⟨P7, 0, none⟩) 32 ca7 (some ⟨Q7, 0, none⟩) 16 cc7)
          refine wp_region_held_drew (S := fun w' => Below v8.heap.size v8 w') (by kernel_rfl) (below_self v8).drew (fun hH => ?_)
          refine wpAnyH_take (i := 0) (v := .agg #[.int .i64 2, .int .i64 32, .int .i64 16, .slice (some ⟨P7, 0, none⟩) 32 ca7, .slice (some ⟨Q7, 0, none⟩) 16 cc7]) rfl (by kernel_rfl) (by kernel_rfl) (by kernel_rfl) (fun _ _ _ h => h) (yieldsIf_load_mid (by rfl) 27 (.tmp 5) (by rfl) j0 0 (by rfl) [.int .i64 2, .int .i64 32, .int .i64 16, .slice (some ⟨P7, 0, none⟩) 32 ca7, .slice (some ⟨Q7, 0, none⟩) 16 cc7] _ (fun w hS => ((K_s4.out.bx.on hS).range)) Tryz.underlying27 rfl info_state) (by assumption) ?_
          try simp only [Act.put, List.setIfInBounds_toArray, List.set_cons_zero, List.set_cons_succ, List.getElem_toArray, List.getElem_cons_zero, List.getElem_cons_succ]
          refine wpAnyH_inv (f0 := 1) [1, 2, 3, 4, 5, 6, 7, 8, 9, 10, 11, 12] [55, 56, 57, 58, 59, 60, 61, 62, 53, 10, 9] (fun l tm w => PHI v8 [1] [3] 2 32 16 (some ⟨P7, 0, none⟩) 32 ca7 (some ⟨Q7, 0, none⟩) 16 cc7 (some (ml6 z)) (.agg #[.int .i64 0, .int .u64 (z : Int), .int .i64 0]) [.int .i64 0, .int .u64 0, .int .i64 0] false false (fun p q => .agg #[.int .i64 8, flat1 p, flat1 q, .int .i64 0, .int .i64 0, .int .u64 0]) (l 1) (l 2) (l 3) (l 4) (l 5) (l 6) (l 7) (l 8) (l 9) (l 10) (l 11) (l 12) (tm 55) (tm 56) (tm 57) (tm 58) (tm 59) (tm 60) (tm 53) (tm 61) (tm 62) (tm 9) (tm 10) w) (by kernel_rfl) (by kernel_rfl) rfl (by decide) (fun l tm w h => h.bb) ?start (AllSteps.cons rfl ?o1 (AllSteps.cons rfl ?o2 (AllSteps.cons rfl ?o3 (AllSteps.cons rfl ?o4 (AllSteps.cons rfl ?o5 (AllSteps.cons rfl ?o6 (AllSteps.cons rfl ?o7 (AllSteps.cons rfl ?o8 (AllSteps.cons rfl ?o9 (AllSteps.cons rfl ?o10 (AllSteps.cons rfl ?o11 (AllSteps.cons rfl ?o12 AllSteps.nil)))))))))))) ?fin
          case o1 =>
            intro l tm w h hl hd K0 hK
            try dsimp only at h
            rw [hl] at h
            have hh := h.addB1 (below_alloc w (.cells #[.int .i64 1] 3)) (lis_one w 1)
            exact st_run (v := .slice (some ⟨w.heap.size, 0, none⟩) 1 1) (by rfl) (by kernel_rfl) (hK.out _ _ hh)
          case o2 =>
            intro l tm w h hl hd K0 hK
            try dsimp only at h
            rw [hl] at h
            have hs := h.early1.1
            have h0 := h
            rw [hs] at h0
            obtain ⟨⟨B, nB, cB, eB, -⟩, -⟩ := h0.way1 (hd 1 (by kernel_rfl))
            have hc := way18_is (A := B) (n := nB) (cap := cB) w
            rw [← eB] at hc
            refine st_call (f := 27) (args := #[(tm 55)]) (w' := w) (by rfl) (by kernel_rfl) (hc.mono ?_)
            rintro e w1 ⟨rfl, hb⟩
            exact ⟨_, rfl, hK.out _ _ (h.addW1 (hd 1 (by kernel_rfl)) hb rfl)⟩
          case o3 =>
            intro l tm w h hl hd K0 hK
            try dsimp only at h
            rw [hl] at h
            have hh := h.addB2 (below_alloc w (.cells #[.int .i64 3] 3)) (lis_one w 3)
            exact st_run (v := .slice (some ⟨w.heap.size, 0, none⟩) 1 1) (by rfl) (by kernel_rfl) (hK.out _ _ hh)
          case o4 =>
            intro l tm w h hl hd K0 hK
            try dsimp only at h
            rw [hl] at h
            have hs := h.early2.1
            have h0 := h
            rw [hs] at h0
            obtain ⟨⟨B, nB, cB, eB, -⟩, -⟩ := h0.way2 (hd 3 (by kernel_rfl))
            have hc := way18_is (A := B) (n := nB) (cap := cB) w
            rw [← eB] at hc
            refine st_call (f := 27) (args := #[(tm 57)]) (w' := w) (by rfl) (by kernel_rfl) (hc.mono ?_)
            rintro e w1 ⟨rfl, hb⟩
            exact ⟨_, rfl, hK.out _ _ (h.addW2 (hd 3 (by kernel_rfl)) hb rfl)⟩
          case o5 =>
            intro l tm w h hl hd K0 hK
            try dsimp only at h
            rw [hl] at h
            have d1 := hd 2 (by kernel_rfl)
            have d2 := hd 4 (by kernel_rfl)
            have hs : l 12 = false := by rw [Bool.eq_false_iff]; exact fun e => absurd ((h.o e).2.2.2.2.1 rfl) (by decide)
            have h0 := h
            rw [hs] at h0
            obtain ⟨⟨B1, n1, k1, eB1, eN1, eK1, eI1⟩, eW1⟩ := h0.way1 ((h0.rg rfl).w1 d1).1
            obtain ⟨⟨B2, n2, k2, eB2, eN2, eK2, eI2⟩, eW2⟩ := h0.way2 ((h0.rg rfl).w2 d2).1
            have hW1 := (eW1 d1).trans (by rw [eB1])
            have hW2 := (eW2 d2).trans (by rw [eB2])
            refine st_run (v := (fun p q => .agg #[.int .i64 8, flat1 p, flat1 q, .int .i64 0, .int .i64 0, .int .u64 0]) (tm 56) (tm 58)) (w' := w) (by rfl) ?_ (hK.out _ _ (h.addBd d1 d2 rfl))
            simp only [List.getElem_toArray, List.getElem_cons_zero, List.getElem_cons_succ, pmA, List.foldl_cons, List.foldl_nil, Act.put, List.setIfInBounds_toArray, List.set_cons_zero, List.set_cons_succ]
            rw [hW1, hW2]
            kernel_rfl
          case o6 =>
            intro l tm w h hl hd K0 hK
            try dsimp only at h
            rw [hl] at h
            have d0 := hd 5 (by kernel_rfl)
            obtain ⟨d1, d2, eBD⟩ := h.e6 d0
            have hs : l 12 = false := h.notS.1
            have h0 := h
            rw [hs] at h0
            obtain ⟨⟨B1, n1, k1, eB1, eN1, eK1, eI1⟩, eW1⟩ := h0.way1 ((h0.rg rfl).w1 d1).1
            obtain ⟨⟨B2, n2, k2, eB2, eN2, eK2, eI2⟩, eW2⟩ := h0.way2 ((h0.rg rfl).w2 d2).1
            have hW1 := (eW1 d1).trans (by rw [eB1])
            have hW2 := (eW2 d2).trans (by rw [eB2])
            rw [hW1, hW2] at eBD
            have hA : #[.agg #[.int .i64 2, .int .i64 32, .int .i64 16, .slice (some ⟨P7, 0, none⟩) 32 ca7, .slice (some ⟨Q7, 0, none⟩) 16 cc7], .int .i64 1, (tm 59)] = #[.agg #[.int .i64 2, .int .i64 32, .int .i64 16, .slice (some ⟨P7, 0, none⟩) 32 ca7, .slice (some ⟨Q7, 0, none⟩) 16 cc7], .int .i64 1, .agg #[.int .i64 8, .slice B1 n1 k1, .slice B2 n2 k2, .int .i64 0, .int .i64 0, .int .u64 0]] := by rw [eBD]; rfl
            refine st_call (f := 28) (args := #[.agg #[.int .i64 2, .int .i64 32, .int .i64 16, .slice (some ⟨P7, 0, none⟩) 32 ca7, .slice (some ⟨Q7, 0, none⟩) 16 cc7], .int .i64 1, (tm 59)]) (w' := w) (by rfl) (by kernel_rfl) ?_
            rw [hA]
            refine (mdo_is (z := 0) (HS1.out.on h.bb) eN1 eK1 eI1 eN2 eK2 eI2 (mlf_6 z)).mono ?_
            rintro e w1 ⟨A', ca', C', cc', rfl, hb, hm⟩
            obtain ⟨q1, q2⟩ := resD_of (a := 2) (b := 32) (c := 16) (R := (.agg #[.int .i64 0, .int .u64 (z : Int), .int .i64 0])) h.bb.size hm HP.out
            exact ⟨_, rfl, hK.out _ _ (h.addD hb q1 q2)⟩
          case o7 =>
            intro l tm w h hl hd K0 hK
            try dsimp only at h
            rw [hl] at h
            exact st_run (v := tm 60) (w' := w) (by rfl) (by kernel_rfl) (hK.out _ _ (h.addMv (hd 6 (by kernel_rfl)) rfl))
          case o8 =>
            intro l tm w h hl hd K0 hK
            try dsimp only at h
            rw [hl] at h
            obtain ⟨A', ca', C', cc', eT, -⟩ := h.tup (hd 7 (by kernel_rfl))
            refine st_run (v := .agg #[.int .i64 2, .int .i64 32, .int .i64 16, .slice A' 32 ca', .slice C' 16 cc']) (w' := w) (by rfl) ?_ (hK.out _ _ (h.addE1 (hd 7 (by kernel_rfl)) eT))
            simp only [List.getElem_toArray, List.getElem_cons_zero, List.getElem_cons_succ, pmA, List.foldl_cons, List.foldl_nil, Act.put, List.setIfInBounds_toArray, List.set_cons_zero, List.set_cons_succ]
            rw [eT]
            kernel_rfl
          case o9 =>
            intro l tm w h hl hd K0 hK
            try dsimp only at h
            rw [hl] at h
            obtain ⟨A', ca', C', cc', eT, -⟩ := h.tup (hd 7 (by kernel_rfl))
            refine st_run (v := (.agg #[.int .i64 0, .int .u64 (z : Int), .int .i64 0])) (w' := w) (by rfl) ?_ (hK.out _ _ (h.addE2 (hd 7 (by kernel_rfl)) eT))
            simp only [List.getElem_toArray, List.getElem_cons_zero, List.getElem_cons_succ, pmA, List.foldl_cons, List.foldl_nil, Act.put, List.setIfInBounds_toArray, List.set_cons_zero, List.set_cons_succ]
            rw [eT]
            kernel_rfl
          case o10 =>
            intro l tm w h hl hd K0 hK
            try dsimp only at h
            rw [hl] at h
            have hh := h.addQ HP.out 27
            exact st_run (v := ptr w.heap.size) (by rfl) (by kernel_rfl) (hK.out _ _ hh)
          case o11 =>
            intro l tm w h hl hd K0 hK
            try dsimp only at h
            rw [hl] at h
            have hh := h.addY HP.out 40
            exact st_run (v := ptr w.heap.size) (by rfl) (by kernel_rfl) (hK.out _ _ hh)
          case o12 =>
            intro l tm w h hl hd K0 hK
            try dsimp only at h
            rw [hl] at h
            obtain ⟨x, A', ca', C', cc', ex, e1, ed, hw⟩ := h.atS' (hd 6 (by kernel_rfl)) (hd 7 (by kernel_rfl)) (hd 8 (by kernel_rfl)) (hd 10 (by kernel_rfl))
            have HT : Hid (w.there x 0 (#[.int .i64 2, .int .i64 32, .int .i64 16, .slice A' 32 ca', .slice C' 16 cc'] : Array Value).size) := Lib.hid (hw.there (n := 5) rfl)
            have HO := Lib.hid (state_one 2 32 16 A' 32 ca' C' 16 cc')
            refine st_store (by rfl) 27 (.tmp 9) (.tmp 61) (by rfl) x 0 #[.int .i64 2, .int .i64 32, .int .i64 16, .slice A' 32 ca', .slice C' 16 cc'] ((by kernel_rfl : _ = tm 9).trans ex) ((by kernel_rfl : _ = tm 61).trans e1) HT.out info_state HO.out ?_
            refine hK.out undef (w.setCells x 0 [.int .i64 2, .int .i64 32, .int .i64 16, .slice A' 32 ca', .slice C' 16 cc']) ?_
            exact h.addS' (hd 1 (by kernel_rfl)) (hd 2 (by kernel_rfl)) (hd 3 (by kernel_rfl)) (hd 4 (by kernel_rfl)) (fun _ => (hd 5 (by kernel_rfl))) (hd 6 (by kernel_rfl)) (hd 7 (by kernel_rfl)) (hd 8 (by kernel_rfl)) (hd 10 (by kernel_rfl)) (fun _ => (hd 11 (by kernel_rfl))) ex ed
          case start => exact ⟨hH, fun _ => ⟨hH, fun e => ff rfl e, fun e => ff rfl e, fun e => ff rfl e, fun e => ff rfl e, fun e => ff rfl e, fun e => ff rfl e, fun e => ff rfl e, fun e => ff rfl e, fun e => ff rfl e, fun e => ff rfl e⟩, fun e => ff rfl e, fun e => ff rfl e, fun e => ff rfl e, fun e => ff rfl e, fun e => ff rfl e, fun e => ff rfl e⟩
          case fin =>
            intro tm u8 h
            try dsimp only at h
            obtain ⟨hbb, hR, hP⟩ := h.fin (by kernel_rfl) (by kernel_rfl)
            obtain ⟨g8, Az, ca8, Cz, cc8, ed, ex, hx, hm, hy⟩ := hP
            obtain ⟨y8, ey, hne, hY, haw⟩ := hy rfl
            simp only [ptr] at ex ey
            obtain ⟨hca, hcc, hF⟩ := hm
            obtain ⟨P8, Q8, rfl, rfl, hO⟩ := hF.ost (by rw [ml6_len.1]; decide) (by rw [ml6_len.2]; decide) hbb
            have hfar := haw _ rfl
            have f1 : P8 ≠ y8 := hfar.1 P8 rfl
            have f2 : Q8 ≠ y8 := hfar.2 Q8 rfl
            have HC_x := Lib.hid (⟨hca, hcc⟩ : 32 ≤ ca8 ∧ 16 ≤ cc8)
            clear h ed hy hF haw hfar hca hcc HP HS1
            simp only [pmA, List.foldl_cons, List.foldl_nil, Act.put, List.setIfInBounds_toArray, List.set_cons_zero, List.set_cons_succ]
            rw [ex, ey, hR]
            clear ex ey hR
            refine wpAnyH_ready (rs := [13]) (by kernel_rfl) (by simp) ?_
            refine AllReadyH.cons rfl (fun K0 hK => ?_) AllReadyH.nil
            have HT : Hid (u8.there y8 0 (#[.int .i64 0, .int .u64 (z : Int), .int .i64 0] : Array Value).size) := Lib.hid (hY.there (n := 3) rfl)
            have HO := Lib.hid (reply_one 0 (z : Int) 0)
            have kY := hY.setCells (vs := [.int .i64 0, .int .u64 (z : Int), .int .i64 0]) rfl
            have fY := Fnd.setCells y8 [.int .i64 0, .int .u64 (z : Int), .int .i64 0] 0 u8
            have kX := hx.fnd fY hne.symm kY.bx.old
            have oX := hO.step fY f1 f2 kY.bx.old
            refine step_store_mid (by rfl) 40 (.tmp 10) (.tmp 62) (by rfl) y8 0 #[.int .i64 0, .int .u64 (z : Int), .int .i64 0] (by rfl) (by rfl) HT.out info_reply HO.out ?_
            change K0 _ (u8.setCells y8 0 [.int .i64 0, .int .u64 (z : Int), .int .i64 0])
            clear fY HT hY HO f1 f2 hne hx hO
            generalize u8.setCells y8 0 [.int .i64 0, .int .u64 (z : Int), .int .i64 0] = v9 at kY kX oX ⊢
            have hb := kY.bx.old
            refine hK.out _ _ hb (fun hH => ?_)
            clear hK K0
            try simp only [Act.put, List.setIfInBounds_toArray, List.set_cons_zero, List.set_cons_succ, List.getElem_toArray, List.getElem_cons_zero, List.getElem_cons_succ]
            refine wpAnyH_done (by kernel_rfl) ?_ _
            have Y_8 := Lib.hid (kY.rebase HW.out)
            have K_x := Lib.hid (kX.rebase HW.out)
            have O_x := Lib.hid (oX.base HW.out)
            clear kX oX
            clear kY
            replace K_s4 := Lib.hid (K_s4.out.on hb)
            replace Y_3 := Lib.hid (Y_3.out.on hb)
            replace Y_4 := Lib.hid (Y_4.out.on hb)
            replace Y_5 := Lib.hid (Y_5.out.on hb)
            replace O_s4 := Lib.hid (O_s4.out.on hb)
            replace HW := Lib.hid (below_on HW.out hb)
            clear hb hH hbb
            have r3_0 := Y_3.out.bx.c 0 _ rfl
            have r3_1 := Y_3.out.bx.c 1 _ rfl
            have r3_2 := Y_3.out.bx.c 2 _ rfl
            have r4_0 := Y_4.out.bx.c 0 _ rfl
            have r4_1 := Y_4.out.bx.c 1 _ rfl
            have r4_2 := Y_4.out.bx.c 2 _ rfl
            have r5_0 := Y_5.out.bx.c 0 _ rfl
            have r5_1 := Y_5.out.bx.c 1 _ rfl
            have r5_2 := Y_5.out.bx.c 2 _ rfl
            have r8_0 := Y_8.out.bx.c 0 _ rfl
            have r8_1 := Y_8.out.bx.c 1 _ rfl
            have r8_2 := Y_8.out.bx.c 2 _ rfl
            have hq0 : ∀ w, (Op.equalIn 10000 40 (.agg #[.int .i64 0, .int .u64 0, .int .i64 0]) (.agg #[.int .i64 0, .int .u64 0, .int .i64 0])).run Tryz.prog w = .ok true w := fun w => eq_reply 0 0 0 0 0 0 w
            have hq1 : ∀ w, (Op.equalIn 10000 40 (.agg #[.int .i64 0, .int .u64 0, .int .i64 1]) (.agg #[.int .i64 0, .int .u64 0, .int .i64 1])).run Tryz.prog w = .ok true w := fun w => eq_reply 0 0 1 1 0 0 w
            have hqw : ∀ w, (Op.equalIn 10000 40 (.agg #[.int .i64 0, .int .u64 (z : Int), .int .i64 0]) (.agg #[.int .i64 0, .int .u64 (z : Int), .int .i64 0])).run Tryz.prog w = .ok true w := fun w => by
              have h := eq_reply 0 0 0 0 z z w
              simpa using h
            have t0 := K_x.out.bx.c 0 _ rfl
            have t1 := K_x.out.bx.c 1 _ rfl
            have t2 := K_x.out.bx.c 2 _ rfl
            have t3 := K_x.out.bx.c 3 _ rfl
            have t4 := K_x.out.bx.c 4 _ rfl
            have h := O_x.out.slC (j := 11) (by rw [ml6_len.1]; decide)
            rw [ml6_11] at h
            obtain ⟨s0, s1, s2, s3, s4⟩ := h
            simp only [Nat.reduceMul, Nat.reduceAdd, Cp.none] at s0 s1 s2 s3 s4
            have hqs : ∀ w, (Op.equalIn 10000 64 (.agg #[.int .i64 0, .int .i64 0, .int .i64 0, .int .i64 0, .int .i64 (-1)]) (.agg #[.int .i64 0, .int .i64 0, .int .i64 0, .int .i64 0, .int .i64 (-1)])).run Tryz.prog w = .ok true w := fun w => by
              have := peqslot ⟨.none, -1⟩ ⟨.none, -1⟩ w
              rw [Sl.eq_iff.2 rfl] at this
              exact this
            go_wp2_with fail
            refine (sgood_is (⟨O_x.out.lies, (ml_g (z := z)).2.2.2.2.2, ml6_len.1.symm, ml6_len.2.symm, by decide, by decide, HC_x.out.1, HC_x.out.2⟩ : StH _ (ml6 z) 2 32 16 (some ⟨P8, 0, none⟩) 32 ca8 (some ⟨Q8, 0, none⟩) 16 cc8) (ml6_good z)).mono ?_
            rintro e z3 ⟨rfl, hb⟩
            have HE := Lib.hid (below_on HW.out hb)
            clear hb hq0 hq1 hqw hqs s0 s1 s2 s3 s4 t0 t1 t2 t3 t4 r3_0 r3_1 r3_2 r4_0 r4_1 r4_2 r5_0 r5_1 r5_2 r8_0 r8_1 r8_2
            go_wp2
            go_ret
            exact ⟨rfl, HE.out⟩
end Go.Proofs.YtkpbfbmkolgmgaaGreat
