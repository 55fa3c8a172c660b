/-
  The walk of the law TakeKnown. No condition.
-/
import Derived.Test.YtjnohbahjlidoaaGreatTUk
namespace Go.Proofs.YtjnohbahjlidoaaGreat
open Go.RowKit
set_option linter.unusedSimpArgs false
set_option linter.unusedVariables false

theorem tka_len : tka.sl.length = 32 ∧ tka.th.length = 16 := ⟨by kernel_rfl, by kernel_rfl⟩
theorem tkc_len : tkc.sl.length = 32 ∧ tkc.th.length = 16 := ⟨by kernel_rfl, by kernel_rfl⟩
theorem tke_len : tke.sl.length = 32 ∧ tke.th.length = 16 := ⟨by kernel_rfl, by kernel_rfl⟩
def tbx : Tng := ⟨3, 0, 0, 0, 0, 18, 0, true, 5, 0, 0, 0, 0⟩
def tkb : St := ⟨tn4.g, tn4.sl, tn4.th.set 1 tbx⟩
def tkh : St := (empAll tkb [17, 17, -1, 99, 20]).1
theorem tkb_len : tkb.sl.length = 32 ∧ tkb.th.length = 16 := ⟨by kernel_rfl, by kernel_rfl⟩
theorem tkh_len : tkh.sl.length = 32 ∧ tkh.th.length = 16 := ⟨by kernel_rfl, by kernel_rfl⟩
theorem tkb_good : sgood tkb = true := by kernel_rfl
theorem tn4_good : sgood tn4 = true := by kernel_rfl
theorem tk_h : empAll tkb [17, 17, -1, 99, 20] = (tkh, 1) := by kernel_rfl
theorem tk_j : empAll tn4 [] = (tn4, 0) := by kernel_rfl
theorem tk_g' : tka.g = ⟨2, 32, 16⟩ ∧ tkc.g = ⟨2, 32, 16⟩ ∧ tke.g = ⟨2, 32, 16⟩ ∧ tkb.g = ⟨2, 32, 16⟩ ∧ tkh.g = ⟨2, 32, 16⟩ := ⟨by kernel_rfl, by kernel_rfl, by kernel_rfl, by kernel_rfl, by kernel_rfl⟩
theorem tka4 : thAt tka.th 4 = .zero := by kernel_rfl
theorem tka5 : (thAt tka.th 5).ty = 4 := by kernel_rfl
theorem tkas4 : slAt tka.sl 4 = ⟨⟨4, 5, 1, 0⟩, 0⟩ := by kernel_rfl
theorem tkas17 : slAt tka.sl 17 = ⟨.none, -1⟩ := by kernel_rfl
theorem tkc4 : thAt tkc.th 4 = .zero := by kernel_rfl
theorem tkc5 : thAt tkc.th 5 = .zero := by kernel_rfl
theorem tkes18 : (slAt tke.sl 18).up = 0 := by kernel_rfl
theorem tkes4 : (slAt tke.sl 4).up = 18 := by kernel_rfl
theorem tkh1 : thAt tkh.th 1 = ⟨3, 0, 0, 0, 0, 0, 0, true, 5, 0, 0, 0, 0⟩ := by kernel_rfl
theorem ints_cells (w : World) (l : List Int) (cs : List Value) (h : cs = l.map fun z => .int .i64 z) (t : TypeId) : IntsAt (w.alloc (.cells cs.toArray t)) (w.alloc (.cells cs.toArray t)).heap.size (some ⟨w.heap.size, 0, none⟩) l :=
  fun _ => ⟨w.heap.size, 0, rfl, (Bxs.new w cs t).lt, fun j z hz => by
    rw [Nat.zero_add]
    exact (Bxs.new w cs t).c j _ (by rw [h, List.getElem?_map, hz]; rfl)⟩
set_option maxRecDepth 100000 in
set_option maxHeartbeats 16000000 in
theorem take_known (w : World) : Calls Tryz.prog 3 #[] w fun e w' => e = .returned (.bool true) ∧ Below w.heap.size w w' := by
  go_enter Tryz.func3, Tryz.ntmps3
  go_wp2_with fail
  refine (awake17_is w).mono ?_
  rintro e w1 ⟨rfl, hb⟩
  have HW := Lib.hid hb
  clear hb
  go_wp2_with fail
  refine (nested17_is w1).mono ?_
  rintro e w2 ⟨Ps, cas, Qs, ccs, rfl, hca, hcc, hO⟩
  have hb := hO.old
  have HC_s := Lib.hid (⟨hca, hcc⟩ : 32 ≤ cas ∧ 16 ≤ ccs)
  have O_s := Lib.hid (hO.base HW.out)
  replace HW := Lib.hid (below_on HW.out hb)
  clear hb hca hcc hO
  go_upto_region 4 with fail
  have N := Wbs.more HW.out [.int .i64 2, .int .i64 32, .int .i64 16, .slice (some ⟨Ps, 0, none⟩) 32 cas, .slice (some ⟨Qs, 0, none⟩) 16 ccs] 28
  have hal := below_alloc w2 (.cells #[.int .i64 2, .int .i64 32, .int .i64 16, .slice (some ⟨Ps, 0, none⟩) 32 cas, .slice (some ⟨Qs, 0, none⟩) 16 ccs] 28)
  replace O_s := Lib.hid (O_s.out.on hal)
  replace HW := Lib.hid (below_on HW.out hal)
  clear hal
  obtain ⟨gs, hj⟩ : ∃ j, j = w2.heap.size := ⟨_, rfl⟩
  rw [← hj] at N ⊢
  clear hj
  generalize w2.alloc _ = v4 at N HW O_s ⊢
  have K_s := Lib.hid N
  clear N
  have HP : Hid (∀ s', some tka = some s' → 0 < s'.sl.length ∧ 0 < s'.th.length) := Lib.hid fun s' e => by
    injection e with e
    rw [← e, tka_len.1, tka_len.2]
    decide
  have HS1 := Lib.hid (⟨O_s.out.lies, tn_g.2.2.2, tn4_len.1.symm, tn4_len.2.symm, by decide, by decide, HC_s.out.1, HC_s.out.2⟩ : StH _ tn4 2 32 16 (some ⟨Ps, 0, none⟩) 32 cas (some ⟨Qs, 0, none⟩) 16 ccs)
  refine wp_region_held_drew (S := fun w' => Below v4.heap.size v4 w') (by kernel_rfl) (below_self v4).drew (fun hH => ?_)
  refine wpAnyH_take (i := 0) (v := .agg #[.int .i64 2, .int .i64 32, .int .i64 16, .slice (some ⟨Ps, 0, none⟩) 32 cas, .slice (some ⟨Qs, 0, none⟩) 16 ccs]) rfl (by kernel_rfl) (by kernel_rfl) (by kernel_rfl) (fun _ _ _ h => h) (yieldsIf_load_mid (by rfl) 28 (.tmp 1) (by rfl) gs 0 (by rfl) [.int .i64 2, .int .i64 32, .int .i64 16, .slice (some ⟨Ps, 0, none⟩) 32 cas, .slice (some ⟨Qs, 0, none⟩) 16 ccs] _ (fun w hS => ((K_s.out.bx.on hS).range)) Tryz.underlying28 rfl info_state) (by assumption) ?_
  try simp only [Act.put, List.setIfInBounds_toArray, List.set_cons_zero, List.set_cons_succ, List.getElem_toArray, List.getElem_cons_zero, List.getElem_cons_succ]
  refine wpAnyH_inv (f0 := 1) [1, 2, 3, 4, 5, 6, 7, 8, 9, 10] [20, 21, 22, 23, 18, 24, 25, 2, 3] (fun l tm w => PHI v4 [2] [] 2 32 16 (some ⟨Ps, 0, none⟩) 32 cas (some ⟨Qs, 0, none⟩) 16 ccs (some tka) (.agg #[.int .i64 0, .int .u64 0, .int .i64 3]) [.int .i64 0, .int .u64 0, .int .i64 0] false false (fun p q => .agg #[.int .i64 5, flat1 p, flat1 q, .int .i64 0, .int .i64 0, .int .u64 0]) (l 1) (l 2) true true (l 3) (l 4) (l 5) (l 6) (l 7) (l 8) (l 9) (l 10) (tm 20) (tm 21) (.slice none 0 0) (.agg #[(.slice none 0 0)]) (tm 22) (tm 23) (tm 18) (tm 24) (tm 25) (tm 2) (tm 3) w) (by kernel_rfl) (by kernel_rfl) rfl (by decide) (fun l tm w h => h.bb) ?start (AllSteps.cons rfl ?o1 (AllSteps.cons rfl ?o2 (AllSteps.cons rfl ?o3 (AllSteps.cons rfl ?o4 (AllSteps.cons rfl ?o5 (AllSteps.cons rfl ?o6 (AllSteps.cons rfl ?o7 (AllSteps.cons rfl ?o8 (AllSteps.cons rfl ?o9 (AllSteps.cons rfl ?o10 AllSteps.nil)))))))))) ?fin
  case o1 =>
    intro l tm w h hl hd K0 hK
    try dsimp only at h
    rw [hl] at h
    have hh := h.addB1 (below_alloc w (.cells #[.int .i64 2] 3)) (lis_one w 2)
    exact st_run (v := .slice (some ⟨w.heap.size, 0, none⟩) 1 1) (by rfl) (by kernel_rfl) (hK.out _ _ hh)
  case o2 =>
    intro l tm w h hl hd K0 hK
    try dsimp only at h
    rw [hl] at h
    have hs := h.early1.1
    have h0 := h
    rw [hs] at h0
    obtain ⟨⟨B, nB, cB, eB, -⟩, -⟩ := h0.way1 (hd 1 (by kernel_rfl))
    have hc := way17_is (A := B) (n := nB) (cap := cB) w
    rw [← eB] at hc
    refine st_call (f := 11) (args := #[(tm 20)]) (w' := w) (by rfl) (by kernel_rfl) (hc.mono ?_)
    rintro e w1 ⟨rfl, hb⟩
    exact ⟨_, rfl, hK.out _ _ (h.addW1 (hd 1 (by kernel_rfl)) hb rfl)⟩
  case o3 =>
    intro l tm w h hl hd K0 hK
    try dsimp only at h
    rw [hl] at h
    have d1 := hd 2 (by kernel_rfl)
    have d2 : true = true := rfl
    have hs : l 10 = false := by rw [Bool.eq_false_iff]; exact fun e => absurd ((h.o e).2.2.2.2.1 rfl) (by decide)
    have h0 := h
    rw [hs] at h0
    obtain ⟨⟨B1, n1, k1, eB1, eN1, eK1, eI1⟩, eW1⟩ := h0.way1 ((h0.rg rfl).w1 d1).1
    obtain ⟨⟨B2, n2, k2, eB2, eN2, eK2, eI2⟩, eW2⟩ := h0.way2 rfl
    have hW1 := (eW1 d1).trans (by rw [eB1])
    have hW2 := (eW2 d2).trans (by rw [eB2])
    refine st_run (v := (fun p q => .agg #[.int .i64 5, flat1 p, flat1 q, .int .i64 0, .int .i64 0, .int .u64 0]) (tm 21) (.agg #[(.slice none 0 0)])) (w' := w) (by rfl) ?_ (hK.out _ _ (h.addBd d1 d2 rfl))
    simp only [List.getElem_toArray, List.getElem_cons_zero, List.getElem_cons_succ, pmA, List.foldl_cons, List.foldl_nil, Act.put, List.setIfInBounds_toArray, List.set_cons_zero, List.set_cons_succ]
    rw [hW1]
    kernel_rfl
  case o4 =>
    intro l tm w h hl hd K0 hK
    try dsimp only at h
    rw [hl] at h
    have d0 := hd 3 (by kernel_rfl)
    obtain ⟨d1, d2, eBD⟩ := h.e6 d0
    have hs : l 10 = false := h.notS.1
    have h0 := h
    rw [hs] at h0
    obtain ⟨⟨B1, n1, k1, eB1, eN1, eK1, eI1⟩, eW1⟩ := h0.way1 ((h0.rg rfl).w1 d1).1
    obtain ⟨⟨B2, n2, k2, eB2, eN2, eK2, eI2⟩, eW2⟩ := h0.way2 rfl
    have hW1 := (eW1 d1).trans (by rw [eB1])
    have hW2 := (eW2 d2).trans (by rw [eB2])
    rw [hW1, hW2] at eBD
    have hA : #[.agg #[.int .i64 2, .int .i64 32, .int .i64 16, .slice (some ⟨Ps, 0, none⟩) 32 cas, .slice (some ⟨Qs, 0, none⟩) 16 ccs], .int .i64 0, (tm 22)] = #[.agg #[.int .i64 2, .int .i64 32, .int .i64 16, .slice (some ⟨Ps, 0, none⟩) 32 cas, .slice (some ⟨Qs, 0, none⟩) 16 ccs], .int .i64 0, .agg #[.int .i64 5, .slice B1 n1 k1, .slice B2 n2 k2, .int .i64 0, .int .i64 0, .int .u64 0]] := by rw [eBD]; rfl
    refine st_call (f := 10) (args := #[.agg #[.int .i64 2, .int .i64 32, .int .i64 16, .slice (some ⟨Ps, 0, none⟩) 32 cas, .slice (some ⟨Qs, 0, none⟩) 16 ccs], .int .i64 0, (tm 22)]) (w' := w) (by rfl) (by kernel_rfl) ?_
    rw [hA]
    refine (tdo_is (z := 0) (HS1.out.on h.bb) eN1 eK1 eI1 eN2 eK2 eI2 tk_a).mono ?_
    rintro e w1 ⟨A', ca', C', cc', rfl, hb, hm⟩
    obtain ⟨q1, q2⟩ := resD_of (a := 2) (b := 32) (c := 16) (R := (.agg #[.int .i64 0, .int .u64 0, .int .i64 3])) h.bb.size hm HP.out
    exact ⟨_, rfl, hK.out _ _ (h.addD hb q1 q2)⟩
  case o5 =>
    intro l tm w h hl hd K0 hK
    try dsimp only at h
    rw [hl] at h
    exact st_run (v := tm 23) (w' := w) (by rfl) (by kernel_rfl) (hK.out _ _ (h.addMv (hd 4 (by kernel_rfl)) rfl))
  case o6 =>
    intro l tm w h hl hd K0 hK
    try dsimp only at h
    rw [hl] at h
    obtain ⟨A', ca', C', cc', eT, -⟩ := h.tup (hd 5 (by kernel_rfl))
    refine st_run (v := .agg #[.int .i64 2, .int .i64 32, .int .i64 16, .slice A' 32 ca', .slice C' 16 cc']) (w' := w) (by rfl) ?_ (hK.out _ _ (h.addE1 (hd 5 (by kernel_rfl)) eT))
    simp only [List.getElem_toArray, List.getElem_cons_zero, List.getElem_cons_succ, pmA, List.foldl_cons, List.foldl_nil, Act.put, List.setIfInBounds_toArray, List.set_cons_zero, List.set_cons_succ]
    rw [eT]
    kernel_rfl
  case o7 =>
    intro l tm w h hl hd K0 hK
    try dsimp only at h
    rw [hl] at h
    obtain ⟨A', ca', C', cc', eT, -⟩ := h.tup (hd 5 (by kernel_rfl))
    refine st_run (v := (.agg #[.int .i64 0, .int .u64 0, .int .i64 3])) (w' := w) (by rfl) ?_ (hK.out _ _ (h.addE2 (hd 5 (by kernel_rfl)) eT))
    simp only [List.getElem_toArray, List.getElem_cons_zero, List.getElem_cons_succ, pmA, List.foldl_cons, List.foldl_nil, Act.put, List.setIfInBounds_toArray, List.set_cons_zero, List.set_cons_succ]
    rw [eT]
    kernel_rfl
  case o8 =>
    intro l tm w h hl hd K0 hK
    try dsimp only at h
    rw [hl] at h
    have hh := h.addQ HP.out 28
    exact st_run (v := ptr w.heap.size) (by rfl) (by kernel_rfl) (hK.out _ _ hh)
  case o9 =>
    intro l tm w h hl hd K0 hK
    try dsimp only at h
    rw [hl] at h
    have hh := h.addY HP.out 33
    exact st_run (v := ptr w.heap.size) (by rfl) (by kernel_rfl) (hK.out _ _ hh)
  case o10 =>
    intro l tm w h hl hd K0 hK
    try dsimp only at h
    rw [hl] at h
    obtain ⟨x, A', ca', C', cc', ex, e1, ed, hw⟩ := h.atS' (hd 4 (by kernel_rfl)) (hd 5 (by kernel_rfl)) (hd 6 (by kernel_rfl)) (hd 8 (by kernel_rfl))
    have HT : Hid (w.there x 0 (#[.int .i64 2, .int .i64 32, .int .i64 16, .slice A' 32 ca', .slice C' 16 cc'] : Array Value).size) := Lib.hid (hw.there (n := 5) rfl)
    have HO := Lib.hid (state_one 2 32 16 A' 32 ca' C' 16 cc')
    refine st_store (by rfl) 28 (.tmp 2) (.tmp 24) (by rfl) x 0 #[.int .i64 2, .int .i64 32, .int .i64 16, .slice A' 32 ca', .slice C' 16 cc'] ((by kernel_rfl : _ = tm 2).trans ex) ((by kernel_rfl : _ = tm 24).trans e1) HT.out info_state HO.out ?_
    refine hK.out undef (w.setCells x 0 [.int .i64 2, .int .i64 32, .int .i64 16, .slice A' 32 ca', .slice C' 16 cc']) ?_
    exact h.addS' (hd 1 (by kernel_rfl)) (hd 2 (by kernel_rfl)) rfl rfl (fun _ => (hd 3 (by kernel_rfl))) (hd 4 (by kernel_rfl)) (hd 5 (by kernel_rfl)) (hd 6 (by kernel_rfl)) (hd 8 (by kernel_rfl)) (fun _ => (hd 9 (by kernel_rfl))) ex ed
  case start => exact ⟨hH, fun _ => ⟨hH, fun e => ff rfl e, fun e => ff rfl e, fun _ => ⟨none, 0, 0, rfl, rfl, Nat.le_refl _, none_at _⟩, fun _ => ⟨rfl, rfl⟩, fun e => ff rfl e, fun e => ff rfl e, fun e => ff rfl e, fun e => ff rfl e, fun e => ff rfl e, fun e => ff rfl e⟩, fun e => ff rfl e, fun e => ff rfl e, fun e => ff rfl e, fun e => ff rfl e, fun e => ff rfl e, fun e => ff rfl e⟩
  case fin =>
    intro tm u4 h
    try dsimp only at h
    obtain ⟨hbb, hR, hP⟩ := h.fin (by kernel_rfl) (by kernel_rfl)
    obtain ⟨g4, Az, ca4, Cz, cc4, ed, ex, hx, hm, hy⟩ := hP
    obtain ⟨y4, ey, hne, hY, haw⟩ := hy rfl
    simp only [ptr] at ex ey
    obtain ⟨hca, hcc, hF⟩ := hm
    obtain ⟨P4, Q4, rfl, rfl, hO⟩ := hF.ost (by rw [tka_len.1]; decide) (by rw [tka_len.2]; decide) hbb
    have hfar := haw _ rfl
    have f1 : P4 ≠ y4 := hfar.1 P4 rfl
    have f2 : Q4 ≠ y4 := hfar.2 Q4 rfl
    have HC_a := Lib.hid (⟨hca, hcc⟩ : 32 ≤ ca4 ∧ 16 ≤ cc4)
    clear h ed hy hF haw hfar hca hcc HP HS1
    simp only [pmA, List.foldl_cons, List.foldl_nil, Act.put, List.setIfInBounds_toArray, List.set_cons_zero, List.set_cons_succ]
    rw [ex, ey, hR]
    clear ex ey hR
    refine wpAnyH_ready (rs := [11]) (by kernel_rfl) (by simp) ?_
    refine AllReadyH.cons rfl (fun K0 hK => ?_) AllReadyH.nil
    have HT : Hid (u4.there y4 0 (#[.int .i64 0, .int .u64 0, .int .i64 3] : Array Value).size) := Lib.hid (hY.there (n := 3) rfl)
    have HO := Lib.hid (reply_one 0 0 3)
    have kY := hY.setCells (vs := [.int .i64 0, .int .u64 0, .int .i64 3]) rfl
    have fY := Fnd.setCells y4 [.int .i64 0, .int .u64 0, .int .i64 3] 0 u4
    have kX := hx.fnd fY hne.symm kY.bx.old
    have oX := hO.step fY f1 f2 kY.bx.old
    refine step_store_mid (by rfl) 33 (.tmp 3) (.tmp 25) (by rfl) y4 0 #[.int .i64 0, .int .u64 0, .int .i64 3] (by rfl) (by rfl) HT.out info_reply HO.out ?_
    change K0 _ (u4.setCells y4 0 [.int .i64 0, .int .u64 0, .int .i64 3])
    clear fY HT hY HO f1 f2 hne hx hO
    generalize u4.setCells y4 0 [.int .i64 0, .int .u64 0, .int .i64 3] = v5 at kY kX oX ⊢
    have hb := kY.bx.old
    refine hK.out _ _ hb (fun hH => ?_)
    clear hK K0
    try simp only [Act.put, List.setIfInBounds_toArray, List.set_cons_zero, List.set_cons_succ, List.getElem_toArray, List.getElem_cons_zero, List.getElem_cons_succ]
    refine wpAnyH_done (by kernel_rfl) ?_ _
    have Y_4 := Lib.hid (kY.rebase HW.out)
    have K_a := Lib.hid (kX.rebase HW.out)
    have O_a := Lib.hid (oX.base HW.out)
    clear kX oX
    clear kY
    replace K_s := Lib.hid (K_s.out.on hb)
    replace O_s := Lib.hid (O_s.out.on hb)
    replace HW := Lib.hid (below_on HW.out hb)
    clear hb hH hbb
    go_upto_region 5 with fail
    have HP : Hid (∀ s', some tkc = some s' → 0 < s'.sl.length ∧ 0 < s'.th.length) := Lib.hid fun s' e => by
      injection e with e
      rw [← e, tkc_len.1, tkc_len.2]
      decide
    have HS1 := Lib.hid (⟨O_s.out.lies, tn_g.2.2.2, tn4_len.1.symm, tn4_len.2.symm, by decide, by decide, HC_s.out.1, HC_s.out.2⟩ : StH _ tn4 2 32 16 (some ⟨Ps, 0, none⟩) 32 cas (some ⟨Qs, 0, none⟩) 16 ccs)
    refine wp_region_held_drew (S := fun w' => Below v5.heap.size v5 w') (by kernel_rfl) (below_self v5).drew (fun hH => ?_)
    refine wpAnyH_take (i := 0) (v := .agg #[.int .i64 2, .int .i64 32, .int .i64 16, .slice (some ⟨Ps, 0, none⟩) 32 cas, .slice (some ⟨Qs, 0, none⟩) 16 ccs]) rfl (by kernel_rfl) (by kernel_rfl) (by kernel_rfl) (fun _ _ _ h => h) (yieldsIf_load_mid (by rfl) 28 (.tmp 1) (by rfl) gs 0 (by rfl) [.int .i64 2, .int .i64 32, .int .i64 16, .slice (some ⟨Ps, 0, none⟩) 32 cas, .slice (some ⟨Qs, 0, none⟩) 16 ccs] _ (fun w hS => ((K_s.out.bx.on hS).range)) Tryz.underlying28 rfl info_state) (by assumption) ?_
    try simp only [Act.put, List.setIfInBounds_toArray, List.set_cons_zero, List.set_cons_succ, List.getElem_toArray, List.getElem_cons_zero, List.getElem_cons_succ]
    refine wpAnyH_inv (f0 := 1) [1, 2, 3, 4, 5, 6, 7, 8, 9, 10] [28, 29, 30, 31, 26, 32, 33, 4, 5] (fun l tm w => PHI v5 [0] [] 2 32 16 (some ⟨Ps, 0, none⟩) 32 cas (some ⟨Qs, 0, none⟩) 16 ccs (some tkc) (.agg #[.int .i64 0, .int .u64 0, .int .i64 4]) [.int .i64 0, .int .u64 0, .int .i64 0] false false (fun p q => .agg #[.int .i64 6, flat1 p, flat1 q, .int .i64 0, .int .i64 0, .int .u64 0]) (l 1) (l 2) true true (l 3) (l 4) (l 5) (l 6) (l 7) (l 8) (l 9) (l 10) (tm 28) (tm 29) (.slice none 0 0) (.agg #[(.slice none 0 0)]) (tm 30) (tm 31) (tm 26) (tm 32) (tm 33) (tm 4) (tm 5) w) (by kernel_rfl) (by kernel_rfl) rfl (by decide) (fun l tm w h => h.bb) ?start (AllSteps.cons rfl ?o1 (AllSteps.cons rfl ?o2 (AllSteps.cons rfl ?o3 (AllSteps.cons rfl ?o4 (AllSteps.cons rfl ?o5 (AllSteps.cons rfl ?o6 (AllSteps.cons rfl ?o7 (AllSteps.cons rfl ?o8 (AllSteps.cons rfl ?o9 (AllSteps.cons rfl ?o10 AllSteps.nil)))))))))) ?fin
    case o1 =>
      intro l tm w h hl hd K0 hK
      try dsimp only at h
      rw [hl] at h
      have hh := h.addB1 (below_alloc w (.cells #[.int .i64 0] 3)) (lis_one w 0)
      exact st_run (v := .slice (some ⟨w.heap.size, 0, none⟩) 1 1) (by rfl) (by kernel_rfl) (hK.out _ _ hh)
    case o2 =>
      intro l tm w h hl hd K0 hK
      try dsimp only at h
      rw [hl] at h
      have hs := h.early1.1
      have h0 := h
      rw [hs] at h0
      obtain ⟨⟨B, nB, cB, eB, -⟩, -⟩ := h0.way1 (hd 1 (by kernel_rfl))
      have hc := way17_is (A := B) (n := nB) (cap := cB) w
      rw [← eB] at hc
      refine st_call (f := 11) (args := #[(tm 28)]) (w' := w) (by rfl) (by kernel_rfl) (hc.mono ?_)
      rintro e w1 ⟨rfl, hb⟩
      exact ⟨_, rfl, hK.out _ _ (h.addW1 (hd 1 (by kernel_rfl)) hb rfl)⟩
    case o3 =>
      intro l tm w h hl hd K0 hK
      try dsimp only at h
      rw [hl] at h
      have d1 := hd 2 (by kernel_rfl)
      have d2 : true = true := rfl
      have hs : l 10 = false := by rw [Bool.eq_false_iff]; exact fun e => absurd ((h.o e).2.2.2.2.1 rfl) (by decide)
      have h0 := h
      rw [hs] at h0
      obtain ⟨⟨B1, n1, k1, eB1, eN1, eK1, eI1⟩, eW1⟩ := h0.way1 ((h0.rg rfl).w1 d1).1
      obtain ⟨⟨B2, n2, k2, eB2, eN2, eK2, eI2⟩, eW2⟩ := h0.way2 rfl
      have hW1 := (eW1 d1).trans (by rw [eB1])
      have hW2 := (eW2 d2).trans (by rw [eB2])
      refine st_run (v := (fun p q => .agg #[.int .i64 6, flat1 p, flat1 q, .int .i64 0, .int .i64 0, .int .u64 0]) (tm 29) (.agg #[(.slice none 0 0)])) (w' := w) (by rfl) ?_ (hK.out _ _ (h.addBd d1 d2 rfl))
      simp only [List.getElem_toArray, List.getElem_cons_zero, List.getElem_cons_succ, pmA, List.foldl_cons, List.foldl_nil, Act.put, List.setIfInBounds_toArray, List.set_cons_zero, List.set_cons_succ]
      rw [hW1]
      kernel_rfl
    case o4 =>
      intro l tm w h hl hd K0 hK
      try dsimp only at h
      rw [hl] at h
      have d0 := hd 3 (by kernel_rfl)
      obtain ⟨d1, d2, eBD⟩ := h.e6 d0
      have hs : l 10 = false := h.notS.1
      have h0 := h
      rw [hs] at h0
      obtain ⟨⟨B1, n1, k1, eB1, eN1, eK1, eI1⟩, eW1⟩ := h0.way1 ((h0.rg rfl).w1 d1).1
      obtain ⟨⟨B2, n2, k2, eB2, eN2, eK2, eI2⟩, eW2⟩ := h0.way2 rfl
      have hW1 := (eW1 d1).trans (by rw [eB1])
      have hW2 := (eW2 d2).trans (by rw [eB2])
      rw [hW1, hW2] at eBD
      have hA : #[.agg #[.int .i64 2, .int .i64 32, .int .i64 16, .slice (some ⟨Ps, 0, none⟩) 32 cas, .slice (some ⟨Qs, 0, none⟩) 16 ccs], .int .i64 0, (tm 30)] = #[.agg #[.int .i64 2, .int .i64 32, .int .i64 16, .slice (some ⟨Ps, 0, none⟩) 32 cas, .slice (some ⟨Qs, 0, none⟩) 16 ccs], .int .i64 0, .agg #[.int .i64 6, .slice B1 n1 k1, .slice B2 n2 k2, .int .i64 0, .int .i64 0, .int .u64 0]] := by rw [eBD]; rfl
      refine st_call (f := 10) (args := #[.agg #[.int .i64 2, .int .i64 32, .int .i64 16, .slice (some ⟨Ps, 0, none⟩) 32 cas, .slice (some ⟨Qs, 0, none⟩) 16 ccs], .int .i64 0, (tm 30)]) (w' := w) (by rfl) (by kernel_rfl) ?_
      rw [hA]
      refine (tdo_is (z := 0) (HS1.out.on h.bb) eN1 eK1 eI1 eN2 eK2 eI2 tk_c).mono ?_
      rintro e w1 ⟨A', ca', C', cc', rfl, hb, hm⟩
      obtain ⟨q1, q2⟩ := resD_of (a := 2) (b := 32) (c := 16) (R := (.agg #[.int .i64 0, .int .u64 0, .int .i64 4])) h.bb.size hm HP.out
      exact ⟨_, rfl, hK.out _ _ (h.addD hb q1 q2)⟩
    case o5 =>
      intro l tm w h hl hd K0 hK
      try dsimp only at h
      rw [hl] at h
      exact st_run (v := tm 31) (w' := w) (by rfl) (by kernel_rfl) (hK.out _ _ (h.addMv (hd 4 (by kernel_rfl)) rfl))
    case o6 =>
      intro l tm w h hl hd K0 hK
      try dsimp only at h
      rw [hl] at h
      obtain ⟨A', ca', C', cc', eT, -⟩ := h.tup (hd 5 (by kernel_rfl))
      refine st_run (v := .agg #[.int .i64 2, .int .i64 32, .int .i64 16, .slice A' 32 ca', .slice C' 16 cc']) (w' := w) (by rfl) ?_ (hK.out _ _ (h.addE1 (hd 5 (by kernel_rfl)) eT))
      simp only [List.getElem_toArray, List.getElem_cons_zero, List.getElem_cons_succ, pmA, List.foldl_cons, List.foldl_nil, Act.put, List.setIfInBounds_toArray, List.set_cons_zero, List.set_cons_succ]
      rw [eT]
      kernel_rfl
    case o7 =>
      intro l tm w h hl hd K0 hK
      try dsimp only at h
      rw [hl] at h
      obtain ⟨A', ca', C', cc', eT, -⟩ := h.tup (hd 5 (by kernel_rfl))
      refine st_run (v := (.agg #[.int .i64 0, .int .u64 0, .int .i64 4])) (w' := w) (by rfl) ?_ (hK.out _ _ (h.addE2 (hd 5 (by kernel_rfl)) eT))
      simp only [List.getElem_toArray, List.getElem_cons_zero, List.getElem_cons_succ, pmA, List.foldl_cons, List.foldl_nil, Act.put, List.setIfInBounds_toArray, List.set_cons_zero, List.set_cons_succ]
      rw [eT]
      kernel_rfl
    case o8 =>
      intro l tm w h hl hd K0 hK
      try dsimp only at h
      rw [hl] at h
      have hh := h.addQ HP.out 28
      exact st_run (v := ptr w.heap.size) (by rfl) (by kernel_rfl) (hK.out _ _ hh)
    case o9 =>
      intro l tm w h hl hd K0 hK
      try dsimp only at h
      rw [hl] at h
      have hh := h.addY HP.out 33
      exact st_run (v := ptr w.heap.size) (by rfl) (by kernel_rfl) (hK.out _ _ hh)
    case o10 =>
      intro l tm w h hl hd K0 hK
      try dsimp only at h
      rw [hl] at h
      obtain ⟨x, A', ca', C', cc', ex, e1, ed, hw⟩ := h.atS' (hd 4 (by kernel_rfl)) (hd 5 (by kernel_rfl)) (hd 6 (by kernel_rfl)) (hd 8 (by kernel_rfl))
      have HT : Hid (w.there x 0 (#[.int .i64 2, .int .i64 32, .int .i64 16, .slice A' 32 ca', .slice C' 16 cc'] : Array Value).size) := Lib.hid (hw.there (n := 5) rfl)
      have HO := Lib.hid (state_one 2 32 16 A' 32 ca' C' 16 cc')
      refine st_store (by rfl) 28 (.tmp 4) (.tmp 32) (by rfl) x 0 #[.int .i64 2, .int .i64 32, .int .i64 16, .slice A' 32 ca', .slice C' 16 cc'] ((by kernel_rfl : _ = tm 4).trans ex) ((by kernel_rfl : _ = tm 32).trans e1) HT.out info_state HO.out ?_
      refine hK.out undef (w.setCells x 0 [.int .i64 2, .int .i64 32, .int .i64 16, .slice A' 32 ca', .slice C' 16 cc']) ?_
      exact h.addS' (hd 1 (by kernel_rfl)) (hd 2 (by kernel_rfl)) rfl rfl (fun _ => (hd 3 (by kernel_rfl))) (hd 4 (by kernel_rfl)) (hd 5 (by kernel_rfl)) (hd 6 (by kernel_rfl)) (hd 8 (by kernel_rfl)) (fun _ => (hd 9 (by kernel_rfl))) ex ed
    case start => exact ⟨hH, fun _ => ⟨hH, fun e => ff rfl e, fun e => ff rfl e, fun _ => ⟨none, 0, 0, rfl, rfl, Nat.le_refl _, none_at _⟩, fun _ => ⟨rfl, rfl⟩, fun e => ff rfl e, fun e => ff rfl e, fun e => ff rfl e, fun e => ff rfl e, fun e => ff rfl e, fun e => ff rfl e⟩, fun e => ff rfl e, fun e => ff rfl e, fun e => ff rfl e, fun e => ff rfl e, fun e => ff rfl e, fun e => ff rfl e⟩
    case fin =>
      intro tm u5 h
      try dsimp only at h
      obtain ⟨hbb, hR, hP⟩ := h.fin (by kernel_rfl) (by kernel_rfl)
      obtain ⟨g5, Az, ca5, Cz, cc5, ed, ex, hx, hm, hy⟩ := hP
      obtain ⟨y5, ey, hne, hY, haw⟩ := hy rfl
      simp only [ptr] at ex ey
      obtain ⟨hca, hcc, hF⟩ := hm
      obtain ⟨P5, Q5, rfl, rfl, hO⟩ := hF.ost (by rw [tkc_len.1]; decide) (by rw [tkc_len.2]; decide) hbb
      have hfar := haw _ rfl
      have f1 : P5 ≠ y5 := hfar.1 P5 rfl
      have f2 : Q5 ≠ y5 := hfar.2 Q5 rfl
      have HC_c := Lib.hid (⟨hca, hcc⟩ : 32 ≤ ca5 ∧ 16 ≤ cc5)
      clear h ed hy hF haw hfar hca hcc HP HS1
      simp only [pmA, List.foldl_cons, List.foldl_nil, Act.put, List.setIfInBounds_toArray, List.set_cons_zero, List.set_cons_succ]
      rw [ex, ey, hR]
      clear ex ey hR
      refine wpAnyH_ready (rs := [11]) (by kernel_rfl) (by simp) ?_
      refine AllReadyH.cons rfl (fun K0 hK => ?_) AllReadyH.nil
      have HT : Hid (u5.there y5 0 (#[.int .i64 0, .int .u64 0, .int .i64 4] : Array Value).size) := Lib.hid (hY.there (n := 3) rfl)
      have HO := Lib.hid (reply_one 0 0 4)
      have kY := hY.setCells (vs := [.int .i64 0, .int .u64 0, .int .i64 4]) rfl
      have fY := Fnd.setCells y5 [.int .i64 0, .int .u64 0, .int .i64 4] 0 u5
      have kX := hx.fnd fY hne.symm kY.bx.old
      have oX := hO.step fY f1 f2 kY.bx.old
      refine step_store_mid (by rfl) 33 (.tmp 5) (.tmp 33) (by rfl) y5 0 #[.int .i64 0, .int .u64 0, .int .i64 4] (by rfl) (by rfl) HT.out info_reply HO.out ?_
      change K0 _ (u5.setCells y5 0 [.int .i64 0, .int .u64 0, .int .i64 4])
      clear fY HT hY HO f1 f2 hne hx hO
      generalize u5.setCells y5 0 [.int .i64 0, .int .u64 0, .int .i64 4] = v6 at kY kX oX ⊢
      have hb := kY.bx.old
      refine hK.out _ _ hb (fun hH => ?_)
      clear hK K0
      try simp only [Act.put, List.setIfInBounds_toArray, List.set_cons_zero, List.set_cons_succ, List.getElem_toArray, List.getElem_cons_zero, List.getElem_cons_succ]
      refine wpAnyH_done (by kernel_rfl) ?_ _
      have Y_5 := Lib.hid (kY.rebase HW.out)
      have K_c := Lib.hid (kX.rebase HW.out)
      have O_c := Lib.hid (oX.base HW.out)
      clear kX oX
      clear kY
      replace K_s := Lib.hid (K_s.out.on hb)
      replace Y_4 := Lib.hid (Y_4.out.on hb)
      replace K_a := Lib.hid (K_a.out.on hb)
      replace O_s := Lib.hid (O_s.out.on hb)
      replace O_a := Lib.hid (O_a.out.on hb)
      replace HW := Lib.hid (below_on HW.out hb)
      clear hb hH hbb
      go_upto_region 6 with fail
      have HP : Hid (∀ s', some tke = some s' → 0 < s'.sl.length ∧ 0 < s'.th.length) := Lib.hid fun s' e => by
        injection e with e
        rw [← e, tke_len.1, tke_len.2]
        decide
      have HS1 := Lib.hid (⟨O_s.out.lies, tn_g.2.2.2, tn4_len.1.symm, tn4_len.2.symm, by decide, by decide, HC_s.out.1, HC_s.out.2⟩ : StH _ tn4 2 32 16 (some ⟨Ps, 0, none⟩) 32 cas (some ⟨Qs, 0, none⟩) 16 ccs)
      refine wp_region_held_drew (S := fun w' => Below v6.heap.size v6 w') (by kernel_rfl) (below_self v6).drew (fun hH => ?_)
      refine wpAnyH_take (i := 0) (v := .agg #[.int .i64 2, .int .i64 32, .int .i64 16, .slice (some ⟨Ps, 0, none⟩) 32 cas, .slice (some ⟨Qs, 0, none⟩) 16 ccs]) rfl (by kernel_rfl) (by kernel_rfl) (by kernel_rfl) (fun _ _ _ h => h) (yieldsIf_load_mid (by rfl) 28 (.tmp 1) (by rfl) gs 0 (by rfl) [.int .i64 2, .int .i64 32, .int .i64 16, .slice (some ⟨Ps, 0, none⟩) 32 cas, .slice (some ⟨Qs, 0, none⟩) 16 ccs] _ (fun w hS => ((K_s.out.bx.on hS).range)) Tryz.underlying28 rfl info_state) (by assumption) ?_
      try simp only [Act.put, List.setIfInBounds_toArray, List.set_cons_zero, List.set_cons_succ, List.getElem_toArray, List.getElem_cons_zero, List.getElem_cons_succ]
      refine wpAnyH_inv (f0 := 1) [1, 2, 3, 4, 5, 6, 7, 8, 9, 10] [36, 37, 38, 39, 34, 40, 41, 6, 7] (fun l tm w => PHI v6 [2, 1] [] 2 32 16 (some ⟨Ps, 0, none⟩) 32 cas (some ⟨Qs, 0, none⟩) 16 ccs (some tke) (.agg #[.int .i64 0, .int .u64 0, .int .i64 1]) [.int .i64 0, .int .u64 0, .int .i64 0] false false (fun p q => .agg #[.int .i64 5, flat1 p, flat1 q, .int .i64 0, .int .i64 0, .int .u64 0]) (l 1) (l 2) true true (l 3) (l 4) (l 5) (l 6) (l 7) (l 8) (l 9) (l 10) (tm 36) (tm 37) (.slice none 0 0) (.agg #[(.slice none 0 0)]) (tm 38) (tm 39) (tm 34) (tm 40) (tm 41) (tm 6) (tm 7) w) (by kernel_rfl) (by kernel_rfl) rfl (by decide) (fun l tm w h => h.bb) ?start (AllSteps.cons rfl ?o1 (AllSteps.cons rfl ?o2 (AllSteps.cons rfl ?o3 (AllSteps.cons rfl ?o4 (AllSteps.cons rfl ?o5 (AllSteps.cons rfl ?o6 (AllSteps.cons rfl ?o7 (AllSteps.cons rfl ?o8 (AllSteps.cons rfl ?o9 (AllSteps.cons rfl ?o10 AllSteps.nil)))))))))) ?fin
      case o1 =>
        intro l tm w h hl hd K0 hK
        try dsimp only at h
        rw [hl] at h
        have hh := h.addB1 (below_alloc w (.cells #[.int .i64 2, .int .i64 1] 3)) (lis_two w 2 1)
        exact st_run (v := .slice (some ⟨w.heap.size, 0, none⟩) 2 2) (by rfl) (by kernel_rfl) (hK.out _ _ hh)
      case o2 =>
        intro l tm w h hl hd K0 hK
        try dsimp only at h
        rw [hl] at h
        have hs := h.early1.1
        have h0 := h
        rw [hs] at h0
        obtain ⟨⟨B, nB, cB, eB, -⟩, -⟩ := h0.way1 (hd 1 (by kernel_rfl))
        have hc := way17_is (A := B) (n := nB) (cap := cB) w
        rw [← eB] at hc
        refine st_call (f := 11) (args := #[(tm 36)]) (w' := w) (by rfl) (by kernel_rfl) (hc.mono ?_)
        rintro e w1 ⟨rfl, hb⟩
        exact ⟨_, rfl, hK.out _ _ (h.addW1 (hd 1 (by kernel_rfl)) hb rfl)⟩
      case o3 =>
        intro l tm w h hl hd K0 hK
        try dsimp only at h
        rw [hl] at h
        have d1 := hd 2 (by kernel_rfl)
        have d2 : true = true := rfl
        have hs : l 10 = false := by rw [Bool.eq_false_iff]; exact fun e => absurd ((h.o e).2.2.2.2.1 rfl) (by decide)
        have h0 := h
        rw [hs] at h0
        obtain ⟨⟨B1, n1, k1, eB1, eN1, eK1, eI1⟩, eW1⟩ := h0.way1 ((h0.rg rfl).w1 d1).1
        obtain ⟨⟨B2, n2, k2, eB2, eN2, eK2, eI2⟩, eW2⟩ := h0.way2 rfl
        have hW1 := (eW1 d1).trans (by rw [eB1])
        have hW2 := (eW2 d2).trans (by rw [eB2])
        refine st_run (v := (fun p q => .agg #[.int .i64 5, flat1 p, flat1 q, .int .i64 0, .int .i64 0, .int .u64 0]) (tm 37) (.agg #[(.slice none 0 0)])) (w' := w) (by rfl) ?_ (hK.out _ _ (h.addBd d1 d2 rfl))
        simp only [List.getElem_toArray, List.getElem_cons_zero, List.getElem_cons_succ, pmA, List.foldl_cons, List.foldl_nil, Act.put, List.setIfInBounds_toArray, List.set_cons_zero, List.set_cons_succ]
        rw [hW1]
        kernel_rfl
      case o4 =>
        intro l tm w h hl hd K0 hK
        try dsimp only at h
        rw [hl] at h
        have d0 := hd 3 (by kernel_rfl)
        obtain ⟨d1, d2, eBD⟩ := h.e6 d0
        have hs : l 10 = false := h.notS.1
        have h0 := h
        rw [hs] at h0
        obtain ⟨⟨B1, n1, k1, eB1, eN1, eK1, eI1⟩, eW1⟩ := h0.way1 ((h0.rg rfl).w1 d1).1
        obtain ⟨⟨B2, n2, k2, eB2, eN2, eK2, eI2⟩, eW2⟩ := h0.way2 rfl
        have hW1 := (eW1 d1).trans (by rw [eB1])
        have hW2 := (eW2 d2).trans (by rw [eB2])
        rw [hW1, hW2] at eBD
        have hA : #[.agg #[.int .i64 2, .int .i64 32, .int .i64 16, .slice (some ⟨Ps, 0, none⟩) 32 cas, .slice (some ⟨Qs, 0, none⟩) 16 ccs], .int .i64 0, (tm 38)] = #[.agg #[.int .i64 2, .int .i64 32, .int .i64 16, .slice (some ⟨Ps, 0, none⟩) 32 cas, .slice (some ⟨Qs, 0, none⟩) 16 ccs], .int .i64 0, .agg #[.int .i64 5, .slice B1 n1 k1, .slice B2 n2 k2, .int .i64 0, .int .i64 0, .int .u64 0]] := by rw [eBD]; rfl
        refine st_call (f := 10) (args := #[.agg #[.int .i64 2, .int .i64 32, .int .i64 16, .slice (some ⟨Ps, 0, none⟩) 32 cas, .slice (some ⟨Qs, 0, none⟩) 16 ccs], .int .i64 0, (tm 38)]) (w' := w) (by rfl) (by kernel_rfl) ?_
        rw [hA]
        refine (tdo_is (z := 0) (HS1.out.on h.bb) eN1 eK1 eI1 eN2 eK2 eI2 tk_e).mono ?_
        rintro e w1 ⟨A', ca', C', cc', rfl, hb, hm⟩
        obtain ⟨q1, q2⟩ := resD_of (a := 2) (b := 32) (c := 16) (R := (.agg #[.int .i64 0, .int .u64 0, .int .i64 1])) h.bb.size hm HP.out
        exact ⟨_, rfl, hK.out _ _ (h.addD hb q1 q2)⟩
      case o5 =>
        intro l tm w h hl hd K0 hK
        try dsimp only at h
        rw [hl] at h
        exact st_run (v := tm 39) (w' := w) (by rfl) (by kernel_rfl) (hK.out _ _ (h.addMv (hd 4 (by kernel_rfl)) rfl))
      case o6 =>
        intro l tm w h hl hd K0 hK
        try dsimp only at h
        rw [hl] at h
        obtain ⟨A', ca', C', cc', eT, -⟩ := h.tup (hd 5 (by kernel_rfl))
        refine st_run (v := .agg #[.int .i64 2, .int .i64 32, .int .i64 16, .slice A' 32 ca', .slice C' 16 cc']) (w' := w) (by rfl) ?_ (hK.out _ _ (h.addE1 (hd 5 (by kernel_rfl)) eT))
        simp only [List.getElem_toArray, List.getElem_cons_zero, List.getElem_cons_succ, pmA, List.foldl_cons, List.foldl_nil, Act.put, List.setIfInBounds_toArray, List.set_cons_zero, List.set_cons_succ]
        rw [eT]
        kernel_rfl
      case o7 =>
        intro l tm w h hl hd K0 hK
        try dsimp only at h
        rw [hl] at h
        obtain ⟨A', ca', C', cc', eT, -⟩ := h.tup (hd 5 (by kernel_rfl))
        refine st_run (v := (.agg #[.int .i64 0, .int .u64 0, .int .i64 1])) (w' := w) (by rfl) ?_ (hK.out _ _ (h.addE2 (hd 5 (by kernel_rfl)) eT))
        simp only [List.getElem_toArray, List.getElem_cons_zero, List.getElem_cons_succ, pmA, List.foldl_cons, List.foldl_nil, Act.put, List.setIfInBounds_toArray, List.set_cons_zero, List.set_cons_succ]
        rw [eT]
        kernel_rfl
      case o8 =>
        intro l tm w h hl hd K0 hK
        try dsimp only at h
        rw [hl] at h
        have hh := h.addQ HP.out 28
        exact st_run (v := ptr w.heap.size) (by rfl) (by kernel_rfl) (hK.out _ _ hh)
      case o9 =>
        intro l tm w h hl hd K0 hK
        try dsimp only at h
        rw [hl] at h
        have hh := h.addY HP.out 33
        exact st_run (v := ptr w.heap.size) (by rfl) (by kernel_rfl) (hK.out _ _ hh)
      case o10 =>
        intro l tm w h hl hd K0 hK
        try dsimp only at h
        rw [hl] at h
        obtain ⟨x, A', ca', C', cc', ex, e1, ed, hw⟩ := h.atS' (hd 4 (by kernel_rfl)) (hd 5 (by kernel_rfl)) (hd 6 (by kernel_rfl)) (hd 8 (by kernel_rfl))
        have HT : Hid (w.there x 0 (#[.int .i64 2, .int .i64 32, .int .i64 16, .slice A' 32 ca', .slice C' 16 cc'] : Array Value).size) := Lib.hid (hw.there (n := 5) rfl)
        have HO := Lib.hid (state_one 2 32 16 A' 32 ca' C' 16 cc')
        refine st_store (by rfl) 28 (.tmp 6) (.tmp 40) (by rfl) x 0 #[.int .i64 2, .int .i64 32, .int .i64 16, .slice A' 32 ca', .slice C' 16 cc'] ((by kernel_rfl : _ = tm 6).trans ex) ((by kernel_rfl : _ = tm 40).trans e1) HT.out info_state HO.out ?_
        refine hK.out undef (w.setCells x 0 [.int .i64 2, .int .i64 32, .int .i64 16, .slice A' 32 ca', .slice C' 16 cc']) ?_
        exact h.addS' (hd 1 (by kernel_rfl)) (hd 2 (by kernel_rfl)) rfl rfl (fun _ => (hd 3 (by kernel_rfl))) (hd 4 (by kernel_rfl)) (hd 5 (by kernel_rfl)) (hd 6 (by kernel_rfl)) (hd 8 (by kernel_rfl)) (fun _ => (hd 9 (by kernel_rfl))) ex ed
      case start => exact ⟨hH, fun _ => ⟨hH, fun e => ff rfl e, fun e => ff rfl e, fun _ => ⟨none, 0, 0, rfl, rfl, Nat.le_refl _, none_at _⟩, fun _ => ⟨rfl, rfl⟩, fun e => ff rfl e, fun e => ff rfl e, fun e => ff rfl e, fun e => ff rfl e, fun e => ff rfl e, fun e => ff rfl e⟩, fun e => ff rfl e, fun e => ff rfl e, fun e => ff rfl e, fun e => ff rfl e, fun e => ff rfl e, fun e => ff rfl e⟩
      case fin =>
        intro tm u6 h
        try dsimp only at h
        obtain ⟨hbb, hR, hP⟩ := h.fin (by kernel_rfl) (by kernel_rfl)
        obtain ⟨g6, Az, ca6, Cz, cc6, ed, ex, hx, hm, hy⟩ := hP
        obtain ⟨y6, ey, hne, hY, haw⟩ := hy rfl
        simp only [ptr] at ex ey
        obtain ⟨hca, hcc, hF⟩ := hm
        obtain ⟨P6, Q6, rfl, rfl, hO⟩ := hF.ost (by rw [tke_len.1]; decide) (by rw [tke_len.2]; decide) hbb
        have hfar := haw _ rfl
        have f1 : P6 ≠ y6 := hfar.1 P6 rfl
        have f2 : Q6 ≠ y6 := hfar.2 Q6 rfl
        have HC_e := Lib.hid (⟨hca, hcc⟩ : 32 ≤ ca6 ∧ 16 ≤ cc6)
        clear h ed hy hF haw hfar hca hcc HP HS1
        simp only [pmA, List.foldl_cons, List.foldl_nil, Act.put, List.setIfInBounds_toArray, List.set_cons_zero, List.set_cons_succ]
        rw [ex, ey, hR]
        clear ex ey hR
        refine wpAnyH_ready (rs := [11]) (by kernel_rfl) (by simp) ?_
        refine AllReadyH.cons rfl (fun K0 hK => ?_) AllReadyH.nil
        have HT : Hid (u6.there y6 0 (#[.int .i64 0, .int .u64 0, .int .i64 1] : Array Value).size) := Lib.hid (hY.there (n := 3) rfl)
        have HO := Lib.hid (reply_one 0 0 1)
        have kY := hY.setCells (vs := [.int .i64 0, .int .u64 0, .int .i64 1]) rfl
        have fY := Fnd.setCells y6 [.int .i64 0, .int .u64 0, .int .i64 1] 0 u6
        have kX := hx.fnd fY hne.symm kY.bx.old
        have oX := hO.step fY f1 f2 kY.bx.old
        refine step_store_mid (by rfl) 33 (.tmp 7) (.tmp 41) (by rfl) y6 0 #[.int .i64 0, .int .u64 0, .int .i64 1] (by rfl) (by rfl) HT.out info_reply HO.out ?_
        change K0 _ (u6.setCells y6 0 [.int .i64 0, .int .u64 0, .int .i64 1])
        clear fY HT hY HO f1 f2 hne hx hO
        generalize u6.setCells y6 0 [.int .i64 0, .int .u64 0, .int .i64 1] = v7 at kY kX oX ⊢
        have hb := kY.bx.old
        refine hK.out _ _ hb (fun hH => ?_)
        clear hK K0
        try simp only [Act.put, List.setIfInBounds_toArray, List.set_cons_zero, List.set_cons_succ, List.getElem_toArray, List.getElem_cons_zero, List.getElem_cons_succ]
        refine wpAnyH_done (by kernel_rfl) ?_ _
        have Y_6 := Lib.hid (kY.rebase HW.out)
        have K_e := Lib.hid (kX.rebase HW.out)
        have O_e := Lib.hid (oX.base HW.out)
        clear kX oX
        clear kY
        replace K_s := Lib.hid (K_s.out.on hb)
        replace Y_4 := Lib.hid (Y_4.out.on hb)
        replace K_a := Lib.hid (K_a.out.on hb)
        replace Y_5 := Lib.hid (Y_5.out.on hb)
        replace K_c := Lib.hid (K_c.out.on hb)
        replace O_s := Lib.hid (O_s.out.on hb)
        replace O_a := Lib.hid (O_a.out.on hb)
        replace O_c := Lib.hid (O_c.out.on hb)
        replace HW := Lib.hid (below_on HW.out hb)
        clear hb hH hbb
        go_upto_region 7 with fail
        have HP : Hid (∀ s', (none : Option St) = some s' → 0 < s'.sl.length ∧ 0 < s'.th.length) := Lib.hid fun s' e => by cases e
        have HS1 := Lib.hid (⟨O_s.out.lies, tn_g.2.2.2, tn4_len.1.symm, tn4_len.2.symm, by decide, by decide, HC_s.out.1, HC_s.out.2⟩ : StH _ tn4 2 32 16 (some ⟨Ps, 0, none⟩) 32 cas (some ⟨Qs, 0, none⟩) 16 ccs)
        refine wp_region_held_drew (S := fun w' => Below v7.heap.size v7 w') (by kernel_rfl) (below_self v7).drew (fun hH => ?_)
        refine wpAnyH_take (i := 0) (v := .agg #[.int .i64 2, .int .i64 32, .int .i64 16, .slice (some ⟨Ps, 0, none⟩) 32 cas, .slice (some ⟨Qs, 0, none⟩) 16 ccs]) rfl (by kernel_rfl) (by kernel_rfl) (by kernel_rfl) (fun _ _ _ h => h) (yieldsIf_load_mid (by rfl) 28 (.tmp 1) (by rfl) gs 0 (by rfl) [.int .i64 2, .int .i64 32, .int .i64 16, .slice (some ⟨Ps, 0, none⟩) 32 cas, .slice (some ⟨Qs, 0, none⟩) 16 ccs] _ (fun w hS => ((K_s.out.bx.on hS).range)) Tryz.underlying28 rfl info_state) (by assumption) ?_
        try simp only [Act.put, List.setIfInBounds_toArray, List.set_cons_zero, List.set_cons_succ, List.getElem_toArray, List.getElem_cons_zero, List.getElem_cons_succ]
        refine wpAnyH_inv (f0 := 1) [1, 2, 3, 4, 5, 6, 7, 8, 9, 10] [44, 45, 46, 47, 42, 48, 49, 8, 9] (fun l tm w => PHI v7 [6] [] 2 32 16 (some ⟨Ps, 0, none⟩) 32 cas (some ⟨Qs, 0, none⟩) 16 ccs none (.agg #[.int .i64 4, .int .u64 0, .int .i64 0]) [.int .i64 0, .int .u64 0, .int .i64 0] false false (fun p q => .agg #[.int .i64 5, flat1 p, flat1 q, .int .i64 0, .int .i64 0, .int .u64 0]) (l 1) (l 2) true true (l 3) (l 4) (l 5) (l 6) (l 7) (l 8) (l 9) (l 10) (tm 44) (tm 45) (.slice none 0 0) (.agg #[(.slice none 0 0)]) (tm 46) (tm 47) (tm 42) (tm 48) (tm 49) (tm 8) (tm 9) w) (by kernel_rfl) (by kernel_rfl) rfl (by decide) (fun l tm w h => h.bb) ?start (AllSteps.cons rfl ?o1 (AllSteps.cons rfl ?o2 (AllSteps.cons rfl ?o3 (AllSteps.cons rfl ?o4 (AllSteps.cons rfl ?o5 (AllSteps.cons rfl ?o6 (AllSteps.cons rfl ?o7 (AllSteps.cons rfl ?o8 (AllSteps.cons rfl ?o9 (AllSteps.cons rfl ?o10 AllSteps.nil)))))))))) ?fin
        case o1 =>
          intro l tm w h hl hd K0 hK
          try dsimp only at h
          rw [hl] at h
          have hh := h.addB1 (below_alloc w (.cells #[.int .i64 6] 3)) (lis_one w 6)
          exact st_run (v := .slice (some ⟨w.heap.size, 0, none⟩) 1 1) (by rfl) (by kernel_rfl) (hK.out _ _ hh)
        case o2 =>
          intro l tm w h hl hd K0 hK
          try dsimp only at h
          rw [hl] at h
          have hs := h.early1.1
          have h0 := h
          rw [hs] at h0
          obtain ⟨⟨B, nB, cB, eB, -⟩, -⟩ := h0.way1 (hd 1 (by kernel_rfl))
          have hc := way17_is (A := B) (n := nB) (cap := cB) w
          rw [← eB] at hc
          refine st_call (f := 11) (args := #[(tm 44)]) (w' := w) (by rfl) (by kernel_rfl) (hc.mono ?_)
          rintro e w1 ⟨rfl, hb⟩
          exact ⟨_, rfl, hK.out _ _ (h.addW1 (hd 1 (by kernel_rfl)) hb rfl)⟩
        case o3 =>
          intro l tm w h hl hd K0 hK
          try dsimp only at h
          rw [hl] at h
          have d1 := hd 2 (by kernel_rfl)
          have d2 : true = true := rfl
          have hs : l 10 = false := by rw [Bool.eq_false_iff]; exact fun e => absurd ((h.o e).2.2.2.2.1 rfl) (by decide)
          have h0 := h
          rw [hs] at h0
          obtain ⟨⟨B1, n1, k1, eB1, eN1, eK1, eI1⟩, eW1⟩ := h0.way1 ((h0.rg rfl).w1 d1).1
          obtain ⟨⟨B2, n2, k2, eB2, eN2, eK2, eI2⟩, eW2⟩ := h0.way2 rfl
          have hW1 := (eW1 d1).trans (by rw [eB1])
          have hW2 := (eW2 d2).trans (by rw [eB2])
          refine st_run (v := (fun p q => .agg #[.int .i64 5, flat1 p, flat1 q, .int .i64 0, .int .i64 0, .int .u64 0]) (tm 45) (.agg #[(.slice none 0 0)])) (w' := w) (by rfl) ?_ (hK.out _ _ (h.addBd d1 d2 rfl))
          simp only [List.getElem_toArray, List.getElem_cons_zero, List.getElem_cons_succ, pmA, List.foldl_cons, List.foldl_nil, Act.put, List.setIfInBounds_toArray, List.set_cons_zero, List.set_cons_succ]
          rw [hW1]
          kernel_rfl
        case o4 =>
          intro l tm w h hl hd K0 hK
          try dsimp only at h
          rw [hl] at h
          have d0 := hd 3 (by kernel_rfl)
          obtain ⟨d1, d2, eBD⟩ := h.e6 d0
          have hs : l 10 = false := h.notS.1
          have h0 := h
          rw [hs] at h0
          obtain ⟨⟨B1, n1, k1, eB1, eN1, eK1, eI1⟩, eW1⟩ := h0.way1 ((h0.rg rfl).w1 d1).1
          obtain ⟨⟨B2, n2, k2, eB2, eN2, eK2, eI2⟩, eW2⟩ := h0.way2 rfl
          have hW1 := (eW1 d1).trans (by rw [eB1])
          have hW2 := (eW2 d2).trans (by rw [eB2])
          rw [hW1, hW2] at eBD
          have hA : #[.agg #[.int .i64 2, .int .i64 32, .int .i64 16, .slice (some ⟨Ps, 0, none⟩) 32 cas, .slice (some ⟨Qs, 0, none⟩) 16 ccs], .int .i64 0, (tm 46)] = #[.agg #[.int .i64 2, .int .i64 32, .int .i64 16, .slice (some ⟨Ps, 0, none⟩) 32 cas, .slice (some ⟨Qs, 0, none⟩) 16 ccs], .int .i64 0, .agg #[.int .i64 5, .slice B1 n1 k1, .slice B2 n2 k2, .int .i64 0, .int .i64 0, .int .u64 0]] := by rw [eBD]; rfl
          refine st_call (f := 10) (args := #[.agg #[.int .i64 2, .int .i64 32, .int .i64 16, .slice (some ⟨Ps, 0, none⟩) 32 cas, .slice (some ⟨Qs, 0, none⟩) 16 ccs], .int .i64 0, (tm 46)]) (w' := w) (by rfl) (by kernel_rfl) ?_
          rw [hA]
          refine (tdo_is (z := 0) (HS1.out.on h.bb) eN1 eK1 eI1 eN2 eK2 eI2 tk_g).mono ?_
          rintro e w1 ⟨A', ca', C', cc', rfl, hb, hm⟩
          obtain ⟨q1, q2⟩ := resD_of (a := 2) (b := 32) (c := 16) (R := (.agg #[.int .i64 4, .int .u64 0, .int .i64 0])) h.bb.size hm HP.out
          exact ⟨_, rfl, hK.out _ _ (h.addD hb q1 q2)⟩
        case o5 =>
          intro l tm w h hl hd K0 hK
          try dsimp only at h
          rw [hl] at h
          exact st_run (v := tm 47) (w' := w) (by rfl) (by kernel_rfl) (hK.out _ _ (h.addMv (hd 4 (by kernel_rfl)) rfl))
        case o6 =>
          intro l tm w h hl hd K0 hK
          try dsimp only at h
          rw [hl] at h
          obtain ⟨A', ca', C', cc', eT, -⟩ := h.tup (hd 5 (by kernel_rfl))
          refine st_run (v := .agg #[.int .i64 2, .int .i64 32, .int .i64 16, .slice A' 32 ca', .slice C' 16 cc']) (w' := w) (by rfl) ?_ (hK.out _ _ (h.addE1 (hd 5 (by kernel_rfl)) eT))
          simp only [List.getElem_toArray, List.getElem_cons_zero, List.getElem_cons_succ, pmA, List.foldl_cons, List.foldl_nil, Act.put, List.setIfInBounds_toArray, List.set_cons_zero, List.set_cons_succ]
          rw [eT]
          kernel_rfl
        case o7 =>
          intro l tm w h hl hd K0 hK
          try dsimp only at h
          rw [hl] at h
          obtain ⟨A', ca', C', cc', eT, -⟩ := h.tup (hd 5 (by kernel_rfl))
          refine st_run (v := (.agg #[.int .i64 4, .int .u64 0, .int .i64 0])) (w' := w) (by rfl) ?_ (hK.out _ _ (h.addE2 (hd 5 (by kernel_rfl)) eT))
          simp only [List.getElem_toArray, List.getElem_cons_zero, List.getElem_cons_succ, pmA, List.foldl_cons, List.foldl_nil, Act.put, List.setIfInBounds_toArray, List.set_cons_zero, List.set_cons_succ]
          rw [eT]
          kernel_rfl
        case o8 =>
          intro l tm w h hl hd K0 hK
          try dsimp only at h
          rw [hl] at h
          have hh := h.addQ HP.out 28
          exact st_run (v := ptr w.heap.size) (by rfl) (by kernel_rfl) (hK.out _ _ hh)
        case o9 =>
          intro l tm w h hl hd K0 hK
          try dsimp only at h
          rw [hl] at h
          have hh := h.addY HP.out 33
          exact st_run (v := ptr w.heap.size) (by rfl) (by kernel_rfl) (hK.out _ _ hh)
        case o10 =>
          intro l tm w h hl hd K0 hK
          try dsimp only at h
          rw [hl] at h
          obtain ⟨x, A', ca', C', cc', ex, e1, ed, hw⟩ := h.atS' (hd 4 (by kernel_rfl)) (hd 5 (by kernel_rfl)) (hd 6 (by kernel_rfl)) (hd 8 (by kernel_rfl))
          have HT : Hid (w.there x 0 (#[.int .i64 2, .int .i64 32, .int .i64 16, .slice A' 32 ca', .slice C' 16 cc'] : Array Value).size) := Lib.hid (hw.there (n := 5) rfl)
          have HO := Lib.hid (state_one 2 32 16 A' 32 ca' C' 16 cc')
          refine st_store (by rfl) 28 (.tmp 8) (.tmp 48) (by rfl) x 0 #[.int .i64 2, .int .i64 32, .int .i64 16, .slice A' 32 ca', .slice C' 16 cc'] ((by kernel_rfl : _ = tm 8).trans ex) ((by kernel_rfl : _ = tm 48).trans e1) HT.out info_state HO.out ?_
          refine hK.out undef (w.setCells x 0 [.int .i64 2, .int .i64 32, .int .i64 16, .slice A' 32 ca', .slice C' 16 cc']) ?_
          exact h.addS' (hd 1 (by kernel_rfl)) (hd 2 (by kernel_rfl)) rfl rfl (fun _ => (hd 3 (by kernel_rfl))) (hd 4 (by kernel_rfl)) (hd 5 (by kernel_rfl)) (hd 6 (by kernel_rfl)) (hd 8 (by kernel_rfl)) (fun _ => (hd 9 (by kernel_rfl))) ex ed
        case start => exact ⟨hH, fun _ => ⟨hH, fun e => ff rfl e, fun e => ff rfl e, fun _ => ⟨none, 0, 0, rfl, rfl, Nat.le_refl _, none_at _⟩, fun _ => ⟨rfl, rfl⟩, fun e => ff rfl e, fun e => ff rfl e, fun e => ff rfl e, fun e => ff rfl e, fun e => ff rfl e, fun e => ff rfl e⟩, fun e => ff rfl e, fun e => ff rfl e, fun e => ff rfl e, fun e => ff rfl e, fun e => ff rfl e, fun e => ff rfl e⟩
        case fin =>
          intro tm u7 h
          try dsimp only at h
          obtain ⟨hbb, hR, hP⟩ := h.fin (by kernel_rfl) (by kernel_rfl)
          obtain ⟨g7, Az, ca7, Cz, cc7, ed, ex, hx, hm, hy⟩ := hP
          obtain ⟨y7, ey, hne, hY, haw⟩ := hy rfl
          simp only [ptr] at ex ey
          clear h ed hy hm haw hx hne HP HS1
          simp only [pmA, List.foldl_cons, List.foldl_nil, Act.put, List.setIfInBounds_toArray, List.set_cons_zero, List.set_cons_succ]
          rw [ex, ey, hR]
          clear ex ey hR
          refine wpAnyH_ready (rs := [11]) (by kernel_rfl) (by simp) ?_
          refine AllReadyH.cons rfl (fun K0 hK => ?_) AllReadyH.nil
          have HT : Hid (u7.there y7 0 (#[.int .i64 4, .int .u64 0, .int .i64 0] : Array Value).size) := Lib.hid (hY.there (n := 3) rfl)
          have HO := Lib.hid (reply_one 4 0 0)
          have kY := hY.setCells (vs := [.int .i64 4, .int .u64 0, .int .i64 0]) rfl
          have fY := Fnd.setCells y7 [.int .i64 4, .int .u64 0, .int .i64 0] 0 u7
          refine step_store_mid (by rfl) 33 (.tmp 9) (.tmp 49) (by rfl) y7 0 #[.int .i64 4, .int .u64 0, .int .i64 0] (by rfl) (by rfl) HT.out info_reply HO.out ?_
          change K0 _ (u7.setCells y7 0 [.int .i64 4, .int .u64 0, .int .i64 0])
          clear fY HT hY HO
          generalize u7.setCells y7 0 [.int .i64 4, .int .u64 0, .int .i64 0] = v8 at kY ⊢
          have hb := kY.bx.old
          refine hK.out _ _ hb (fun hH => ?_)
          clear hK K0
          try simp only [Act.put, List.setIfInBounds_toArray, List.set_cons_zero, List.set_cons_succ, List.getElem_toArray, List.getElem_cons_zero, List.getElem_cons_succ]
          refine wpAnyH_done (by kernel_rfl) ?_ _
          have Y_7 := Lib.hid (kY.rebase HW.out)
          clear kY
          replace K_s := Lib.hid (K_s.out.on hb)
          replace Y_4 := Lib.hid (Y_4.out.on hb)
          replace K_a := Lib.hid (K_a.out.on hb)
          replace Y_5 := Lib.hid (Y_5.out.on hb)
          replace K_c := Lib.hid (K_c.out.on hb)
          replace Y_6 := Lib.hid (Y_6.out.on hb)
          replace K_e := Lib.hid (K_e.out.on hb)
          replace O_s := Lib.hid (O_s.out.on hb)
          replace O_a := Lib.hid (O_a.out.on hb)
          replace O_c := Lib.hid (O_c.out.on hb)
          replace O_e := Lib.hid (O_e.out.on hb)
          replace HW := Lib.hid (below_on HW.out hb)
          clear hb hH hbb
          go_upto_region 8 with fail
          have t0 := K_s.out.bx.c 0 _ rfl
          have t1 := K_s.out.bx.c 1 _ rfl
          have t2 := K_s.out.bx.c 2 _ rfl
          have t3 := K_s.out.bx.c 3 _ rfl
          have t4 := K_s.out.bx.c 4 _ rfl
          go_wp2_with fail
          refine (pclone_is (⟨O_s.out.lies, tn_g.2.2.2, tn4_len.1.symm, tn4_len.2.symm, by decide, by decide, HC_s.out.1, HC_s.out.2⟩ : StH _ tn4 2 32 16 (some ⟨Ps, 0, none⟩) 32 cas (some ⟨Qs, 0, none⟩) 16 ccs)).mono ?_
          rintro e u8 ⟨Az, cab, Cz, ccb, rfl, hca, hcc, hF, hb⟩
          obtain ⟨Pb, Qb, rfl, rfl, hO⟩ := hF.ost (by rw [tn4_len.1]; decide) (by rw [tn4_len.2]; decide) hb
          have HC_b := Lib.hid (⟨hca, hcc⟩ : 32 ≤ cab ∧ 16 ≤ ccb)
          have HNB : Hid (gs < Qb ∧ y4 < Qb ∧ g4 < Qb ∧ y5 < Qb ∧ g5 < Qb ∧ y6 < Qb ∧ g6 < Qb ∧ y7 < Qb ∧ Ps < Qb ∧ Qs < Qb ∧ P4 < Qb ∧ Q4 < Qb ∧ P5 < Qb ∧ Q5 < Qb ∧ P6 < Qb ∧ Q6 < Qb) := Lib.hid (by
            have e2 := hO.oQ
            have k0 := K_s.out.bx.lt
            have k1 := Y_4.out.bx.lt
            have k2 := K_a.out.bx.lt
            have k3 := Y_5.out.bx.lt
            have k4 := K_c.out.bx.lt
            have k5 := Y_6.out.bx.lt
            have k6 := K_e.out.bx.lt
            have k7 := Y_7.out.bx.lt
            have o0 := O_s.out.lP
            have o1 := O_a.out.lP
            have o2 := O_c.out.lP
            have o3 := O_e.out.lP
            have p0 := O_s.out.lQ
            have p1 := O_a.out.lQ
            have p2 := O_c.out.lQ
            have p3 := O_e.out.lQ
            omega)
          have O_b := Lib.hid (hO.base HW.out)
          replace K_s := Lib.hid (K_s.out.on hb)
          replace Y_4 := Lib.hid (Y_4.out.on hb)
          replace K_a := Lib.hid (K_a.out.on hb)
          replace Y_5 := Lib.hid (Y_5.out.on hb)
          replace K_c := Lib.hid (K_c.out.on hb)
          replace Y_6 := Lib.hid (Y_6.out.on hb)
          replace K_e := Lib.hid (K_e.out.on hb)
          replace Y_7 := Lib.hid (Y_7.out.on hb)
          replace O_s := Lib.hid (O_s.out.on hb)
          replace O_a := Lib.hid (O_a.out.on hb)
          replace O_c := Lib.hid (O_c.out.on hb)
          replace O_e := Lib.hid (O_e.out.on hb)
          replace HW := Lib.hid (below_on HW.out hb)
          clear hb hca hcc hF hO t0 t1 t2 t3 t4
          go_upto_region 9 with fail
          have HGB : Hid (Qb < u8.heap.size) := Lib.hid O_b.out.lQ
          have N := Wbs.more HW.out [.int .i64 2, .int .i64 32, .int .i64 16, .slice (some ⟨Pb, 0, none⟩) 32 cab, .slice (some ⟨Qb, 0, none⟩) 16 ccb] 28
          have hal := below_alloc u8 (.cells #[.int .i64 2, .int .i64 32, .int .i64 16, .slice (some ⟨Pb, 0, none⟩) 32 cab, .slice (some ⟨Qb, 0, none⟩) 16 ccb] 28)
          have HGB2 : Hid (Qb ≠ u8.heap.size) := Lib.hid (Nat.ne_of_lt HGB.out)
          replace K_s := Lib.hid (K_s.out.on hal)
          replace Y_4 := Lib.hid (Y_4.out.on hal)
          replace K_a := Lib.hid (K_a.out.on hal)
          replace Y_5 := Lib.hid (Y_5.out.on hal)
          replace K_c := Lib.hid (K_c.out.on hal)
          replace Y_6 := Lib.hid (Y_6.out.on hal)
          replace K_e := Lib.hid (K_e.out.on hal)
          replace Y_7 := Lib.hid (Y_7.out.on hal)
          replace O_s := Lib.hid (O_s.out.on hal)
          replace O_a := Lib.hid (O_a.out.on hal)
          replace O_c := Lib.hid (O_c.out.on hal)
          replace O_e := Lib.hid (O_e.out.on hal)
          replace O_b := Lib.hid (O_b.out.on hal)
          replace HW := Lib.hid (below_on HW.out hal)
          clear hal
          obtain ⟨gb, hj⟩ : ∃ j, j = u8.heap.size := ⟨_, rfl⟩
          rw [← hj] at N HGB2 ⊢
          clear hj
          generalize u8.alloc _ = v9 at N HW K_s Y_4 K_a Y_5 K_c Y_6 K_e Y_7 O_s O_a O_c O_e O_b ⊢
          have K_b := Lib.hid N
          clear N
          clear HGB
          have a3 := K_a.out.bx.c 3 _ rfl
          have a4 := K_a.out.bx.c 4 _ rfl
          have c3 := K_c.out.bx.c 3 _ rfl
          have c4 := K_c.out.bx.c 4 _ rfl
          have e3 := K_e.out.bx.c 3 _ rfl
          have b3 := K_b.out.bx.c 3 _ rfl
          have b4 := K_b.out.bx.c 4 _ rfl
          go_upto_region 11 with fail
          clear a3 a4 c3 c4 e3 b3
          have HT : Hid (v9.there Qb 13 (#[.int .i64 3, .int .i64 0, .int .i64 0, .int .i64 0, .int .i64 0, .int .i64 18, .int .i64 0, .bool true, .int .u64 5, .int .u64 0, .int .u64 0, .int .u64 0, .int .u64 0] : Array Value).size) := Lib.hid (O_b.out.thereT (i := 1) (by rw [tn4_len.2]; decide))
          have HO := Lib.hid (thing_one 3 0 0 0 0 18 0 true 5 0 0 0 0)
          have ob := O_b.out.putT (i := 1) (by rw [tn4_len.2]; decide) tbx
          have fq := Fnd.setCells Qb [.int .i64 3, .int .i64 0, .int .i64 0, .int .i64 0, .int .i64 0, .int .i64 18, .int .i64 0, .bool true, .int .u64 5, .int .u64 0, .int .u64 0, .int .u64 0, .int .u64 0] 13 v9
          change Ost w (v9.setCells Qb 13 [.int .i64 3, .int .i64 0, .int .i64 0, .int .i64 0, .int .i64 0, .int .i64 18, .int .i64 0, .bool true, .int .u64 5, .int .u64 0, .int .u64 0, .int .u64 0, .int .u64 0]) tkb Pb Qb at ob
          have nK_s := K_s.out.fnd fq (Nat.ne_of_lt (HNB.out.1)) ob.old
          have nY_4 := Y_4.out.fnd fq (Nat.ne_of_lt (HNB.out.2.1)) ob.old
          have nK_a := K_a.out.fnd fq (Nat.ne_of_lt (HNB.out.2.2.1)) ob.old
          have nY_5 := Y_5.out.fnd fq (Nat.ne_of_lt (HNB.out.2.2.2.1)) ob.old
          have nK_c := K_c.out.fnd fq (Nat.ne_of_lt (HNB.out.2.2.2.2.1)) ob.old
          have nY_6 := Y_6.out.fnd fq (Nat.ne_of_lt (HNB.out.2.2.2.2.2.1)) ob.old
          have nK_e := K_e.out.fnd fq (Nat.ne_of_lt (HNB.out.2.2.2.2.2.2.1)) ob.old
          have nY_7 := Y_7.out.fnd fq (Nat.ne_of_lt (HNB.out.2.2.2.2.2.2.2.1)) ob.old
          have nK_b := K_b.out.fnd fq HGB2.out.symm ob.old
          have nO_s := O_s.out.step fq (Nat.ne_of_lt (HNB.out.2.2.2.2.2.2.2.2.1)) (Nat.ne_of_lt (HNB.out.2.2.2.2.2.2.2.2.2.1)) ob.old
          have nO_a := O_a.out.step fq (Nat.ne_of_lt (HNB.out.2.2.2.2.2.2.2.2.2.2.1)) (Nat.ne_of_lt (HNB.out.2.2.2.2.2.2.2.2.2.2.2.1)) ob.old
          have nO_c := O_c.out.step fq (Nat.ne_of_lt (HNB.out.2.2.2.2.2.2.2.2.2.2.2.2.1)) (Nat.ne_of_lt (HNB.out.2.2.2.2.2.2.2.2.2.2.2.2.2.1)) ob.old
          have nO_e := O_e.out.step fq (Nat.ne_of_lt (HNB.out.2.2.2.2.2.2.2.2.2.2.2.2.2.2.1)) (Nat.ne_of_lt (HNB.out.2.2.2.2.2.2.2.2.2.2.2.2.2.2.2)) ob.old
          clear fq
          go_upto_region 12 with ((with_reducible change wpList _ _ _ _ _ _); refine wpList_store_mid (by rfl) 45 (.tmp 95) (.tmp 94) (by rfl) Qb 13 #[.int .i64 3, .int .i64 0, .int .i64 0, .int .i64 0, .int .i64 0, .int .i64 18, .int .i64 0, .bool true, .int .u64 5, .int .u64 0, .int .u64 0, .int .u64 0, .int .u64 0] (by rfl) (by rfl) HT.out info_thing HO.out ?_; change wpList _ _ _ _ _ (v9.setCells Qb 13 [.int .i64 3, .int .i64 0, .int .i64 0, .int .i64 0, .int .i64 0, .int .i64 18, .int .i64 0, .bool true, .int .u64 5, .int .u64 0, .int .u64 0, .int .u64 0, .int .u64 0]); generalize v9.setCells Qb 13 _ = v12 at ob nK_s nY_4 nK_a nY_5 nK_c nY_6 nK_e nY_7 nK_b nO_s nO_a nO_c nO_e ⊢)
          clear b4 HT HO
          replace K_s := Lib.hid nK_s
          replace Y_4 := Lib.hid nY_4
          replace K_a := Lib.hid nK_a
          replace Y_5 := Lib.hid nY_5
          replace K_c := Lib.hid nK_c
          replace Y_6 := Lib.hid nY_6
          replace K_e := Lib.hid nK_e
          replace Y_7 := Lib.hid nY_7
          replace K_b := Lib.hid nK_b
          replace O_s := Lib.hid nO_s
          replace O_a := Lib.hid nO_a
          replace O_c := Lib.hid nO_c
          replace O_e := Lib.hid nO_e
          replace O_b := Lib.hid ob
          replace HW := Lib.hid ob.old
          clear ob nK_s nY_4 nK_a nY_5 nK_c nY_6 nK_e nY_7 nK_b nO_s nO_a nO_c nO_e HNB HGB2
          have hI := ints_cells v12 [17, 17, -1, 99, 20] [.int .i64 17, .int .i64 17, .int .i64 (-1), .int .i64 99, .int .i64 20] rfl 3
          have hal := below_alloc v12 (.cells #[.int .i64 17, .int .i64 17, .int .i64 (-1), .int .i64 99, .int .i64 20] 3)
          have t0 := K_b.out.bx.c 0 _ rfl
          have t1 := K_b.out.bx.c 1 _ rfl
          have t2 := K_b.out.bx.c 2 _ rfl
          have t3 := K_b.out.bx.c 3 _ rfl
          have t4 := K_b.out.bx.c 4 _ rfl
          go_wp2_with fail
          generalize v12.alloc _ = x12 at hI hal ⊢
          replace K_s := Lib.hid (K_s.out.on hal)
          replace Y_4 := Lib.hid (Y_4.out.on hal)
          replace K_a := Lib.hid (K_a.out.on hal)
          replace Y_5 := Lib.hid (Y_5.out.on hal)
          replace K_c := Lib.hid (K_c.out.on hal)
          replace Y_6 := Lib.hid (Y_6.out.on hal)
          replace K_e := Lib.hid (K_e.out.on hal)
          replace Y_7 := Lib.hid (Y_7.out.on hal)
          replace K_b := Lib.hid (K_b.out.on hal)
          replace O_s := Lib.hid (O_s.out.on hal)
          replace O_a := Lib.hid (O_a.out.on hal)
          replace O_c := Lib.hid (O_c.out.on hal)
          replace O_e := Lib.hid (O_e.out.on hal)
          replace O_b := Lib.hid (O_b.out.on hal)
          replace HW := Lib.hid (below_on HW.out hal)
          have HI := Lib.hid hI
          clear hI hal t0 t1 t2 t3 t4
          refine (tempty_is (⟨O_b.out.lies, tk_g'.2.2.2.1, tkb_len.1.symm, tkb_len.2.symm, by decide, by decide, HC_b.out.1, HC_b.out.2⟩ : StH _ tkb 2 32 16 (some ⟨Pb, 0, none⟩) 32 cab (some ⟨Qb, 0, none⟩) 16 ccb) tkb_good rfl (by decide) (by decide) HI.out).mono ?_
          rintro e u12 ⟨Ph, cah, Qh, cch, rfl, hca, hcc, hO⟩
          rw [tk_h] at hO ⊢
          simp only at hO ⊢
          have hb := hO.old
          have HC_h := Lib.hid (⟨hca, hcc⟩ : 32 ≤ cah ∧ 16 ≤ cch)
          have O_h := Lib.hid (hO.base HW.out)
          replace K_s := Lib.hid (K_s.out.on hb)
          replace Y_4 := Lib.hid (Y_4.out.on hb)
          replace K_a := Lib.hid (K_a.out.on hb)
          replace Y_5 := Lib.hid (Y_5.out.on hb)
          replace K_c := Lib.hid (K_c.out.on hb)
          replace Y_6 := Lib.hid (Y_6.out.on hb)
          replace K_e := Lib.hid (K_e.out.on hb)
          replace Y_7 := Lib.hid (Y_7.out.on hb)
          replace K_b := Lib.hid (K_b.out.on hb)
          replace O_s := Lib.hid (O_s.out.on hb)
          replace O_a := Lib.hid (O_a.out.on hb)
          replace O_c := Lib.hid (O_c.out.on hb)
          replace O_e := Lib.hid (O_e.out.on hb)
          replace O_b := Lib.hid (O_b.out.on hb)
          replace HW := Lib.hid (below_on HW.out hb)
          clear hb hca hcc hO HI
          go_upto_region 13 with fail
          have N := Wbs.more HW.out [.int .i64 2, .int .i64 32, .int .i64 16, .slice (some ⟨Ph, 0, none⟩) 32 cah, .slice (some ⟨Qh, 0, none⟩) 16 cch] 28
          have hal := below_alloc u12 (.cells #[.int .i64 2, .int .i64 32, .int .i64 16, .slice (some ⟨Ph, 0, none⟩) 32 cah, .slice (some ⟨Qh, 0, none⟩) 16 cch] 28)
          replace K_s := Lib.hid (K_s.out.on hal)
          replace Y_4 := Lib.hid (Y_4.out.on hal)
          replace K_a := Lib.hid (K_a.out.on hal)
          replace Y_5 := Lib.hid (Y_5.out.on hal)
          replace K_c := Lib.hid (K_c.out.on hal)
          replace Y_6 := Lib.hid (Y_6.out.on hal)
          replace K_e := Lib.hid (K_e.out.on hal)
          replace Y_7 := Lib.hid (Y_7.out.on hal)
          replace K_b := Lib.hid (K_b.out.on hal)
          replace O_s := Lib.hid (O_s.out.on hal)
          replace O_a := Lib.hid (O_a.out.on hal)
          replace O_c := Lib.hid (O_c.out.on hal)
          replace O_e := Lib.hid (O_e.out.on hal)
          replace O_b := Lib.hid (O_b.out.on hal)
          replace O_h := Lib.hid (O_h.out.on hal)
          replace HW := Lib.hid (below_on HW.out hal)
          clear hal
          obtain ⟨gh, hj⟩ : ∃ j, j = u12.heap.size := ⟨_, rfl⟩
          rw [← hj] at N ⊢
          clear hj
          generalize u12.alloc _ = v13 at N HW K_s Y_4 K_a Y_5 K_c Y_6 K_e Y_7 K_b O_s O_a O_c O_e O_b O_h ⊢
          have K_h := Lib.hid N
          clear N
          have t0 := K_s.out.bx.c 0 _ rfl
          have t1 := K_s.out.bx.c 1 _ rfl
          have t2 := K_s.out.bx.c 2 _ rfl
          have t3 := K_s.out.bx.c 3 _ rfl
          have t4 := K_s.out.bx.c 4 _ rfl
          go_wp2_with fail
          clear t0 t1 t2 t3 t4
          refine (tempty_is (B := none) (q := 0) (cap := 0) (l := []) (⟨O_s.out.lies, tn_g.2.2.2, tn4_len.1.symm, tn4_len.2.symm, by decide, by decide, HC_s.out.1, HC_s.out.2⟩ : StH _ tn4 2 32 16 (some ⟨Ps, 0, none⟩) 32 cas (some ⟨Qs, 0, none⟩) 16 ccs) tn4_good rfl (Nat.le_refl _) (by decide) (none_at _)).mono ?_
          rintro e u13 ⟨Pj, caj, Qj, ccj, rfl, hca, hcc, hO⟩
          rw [tk_j] at hO ⊢
          simp only at hO ⊢
          have hb := hO.old
          have HC_j := Lib.hid (⟨hca, hcc⟩ : 32 ≤ caj ∧ 16 ≤ ccj)
          have O_j := Lib.hid (hO.base HW.out)
          replace K_s := Lib.hid (K_s.out.on hb)
          replace Y_4 := Lib.hid (Y_4.out.on hb)
          replace K_a := Lib.hid (K_a.out.on hb)
          replace Y_5 := Lib.hid (Y_5.out.on hb)
          replace K_c := Lib.hid (K_c.out.on hb)
          replace Y_6 := Lib.hid (Y_6.out.on hb)
          replace K_e := Lib.hid (K_e.out.on hb)
          replace Y_7 := Lib.hid (Y_7.out.on hb)
          replace K_b := Lib.hid (K_b.out.on hb)
          replace K_h := Lib.hid (K_h.out.on hb)
          replace O_s := Lib.hid (O_s.out.on hb)
          replace O_a := Lib.hid (O_a.out.on hb)
          replace O_c := Lib.hid (O_c.out.on hb)
          replace O_e := Lib.hid (O_e.out.on hb)
          replace O_b := Lib.hid (O_b.out.on hb)
          replace O_h := Lib.hid (O_h.out.on hb)
          replace HW := Lib.hid (below_on HW.out hb)
          clear hb hca hcc hO
          go_upto_region 14 with fail
          have N := Wbs.more HW.out [.int .i64 2, .int .i64 32, .int .i64 16, .slice (some ⟨Pj, 0, none⟩) 32 caj, .slice (some ⟨Qj, 0, none⟩) 16 ccj] 28
          have hal := below_alloc u13 (.cells #[.int .i64 2, .int .i64 32, .int .i64 16, .slice (some ⟨Pj, 0, none⟩) 32 caj, .slice (some ⟨Qj, 0, none⟩) 16 ccj] 28)
          replace K_s := Lib.hid (K_s.out.on hal)
          replace Y_4 := Lib.hid (Y_4.out.on hal)
          replace K_a := Lib.hid (K_a.out.on hal)
          replace Y_5 := Lib.hid (Y_5.out.on hal)
          replace K_c := Lib.hid (K_c.out.on hal)
          replace Y_6 := Lib.hid (Y_6.out.on hal)
          replace K_e := Lib.hid (K_e.out.on hal)
          replace Y_7 := Lib.hid (Y_7.out.on hal)
          replace K_b := Lib.hid (K_b.out.on hal)
          replace K_h := Lib.hid (K_h.out.on hal)
          replace O_s := Lib.hid (O_s.out.on hal)
          replace O_a := Lib.hid (O_a.out.on hal)
          replace O_c := Lib.hid (O_c.out.on hal)
          replace O_e := Lib.hid (O_e.out.on hal)
          replace O_b := Lib.hid (O_b.out.on hal)
          replace O_h := Lib.hid (O_h.out.on hal)
          replace O_j := Lib.hid (O_j.out.on hal)
          replace HW := Lib.hid (below_on HW.out hal)
          clear hal
          obtain ⟨gj, hj⟩ : ∃ j, j = u13.heap.size := ⟨_, rfl⟩
          rw [← hj] at N ⊢
          clear hj
          generalize u13.alloc _ = v14 at N HW K_s Y_4 K_a Y_5 K_c Y_6 K_e Y_7 K_b K_h O_s O_a O_c O_e O_b O_h O_j ⊢
          have K_j := Lib.hid N
          clear N
          have h4 := K_h.out.bx.c 4 _ rfl
          go_upto_region 16 with fail
          clear h4
          have t0 := K_s.out.bx.c 0 _ rfl
          have t1 := K_s.out.bx.c 1 _ rfl
          have t2 := K_s.out.bx.c 2 _ rfl
          have t3 := K_s.out.bx.c 3 _ rfl
          have t4 := K_s.out.bx.c 4 _ rfl
          go_wp2_with fail
          clear t0 t1 t2 t3 t4
          refine (sgood_is (⟨O_s.out.lies, tn_g.2.2.2, tn4_len.1.symm, tn4_len.2.symm, by decide, by decide, HC_s.out.1, HC_s.out.2⟩ : StH _ tn4 2 32 16 (some ⟨Ps, 0, none⟩) 32 cas (some ⟨Qs, 0, none⟩) 16 ccs) tn4_good).mono ?_
          rintro e z1 ⟨rfl, hb⟩
          replace K_s := Lib.hid (K_s.out.on hb)
          replace Y_4 := Lib.hid (Y_4.out.on hb)
          replace K_a := Lib.hid (K_a.out.on hb)
          replace Y_5 := Lib.hid (Y_5.out.on hb)
          replace K_c := Lib.hid (K_c.out.on hb)
          replace Y_6 := Lib.hid (Y_6.out.on hb)
          replace K_e := Lib.hid (K_e.out.on hb)
          replace Y_7 := Lib.hid (Y_7.out.on hb)
          replace K_b := Lib.hid (K_b.out.on hb)
          replace K_h := Lib.hid (K_h.out.on hb)
          replace K_j := Lib.hid (K_j.out.on hb)
          replace O_s := Lib.hid (O_s.out.on hb)
          replace O_a := Lib.hid (O_a.out.on hb)
          replace O_c := Lib.hid (O_c.out.on hb)
          replace O_e := Lib.hid (O_e.out.on hb)
          replace O_b := Lib.hid (O_b.out.on hb)
          replace O_h := Lib.hid (O_h.out.on hb)
          replace O_j := Lib.hid (O_j.out.on hb)
          replace HW := Lib.hid (below_on HW.out hb)
          clear hb
          have r40 := Y_4.out.bx.c 0 _ rfl
          have r41 := Y_4.out.bx.c 1 _ rfl
          have r42 := Y_4.out.bx.c 2 _ rfl
          have hq3 : ∀ w, (Op.equalIn 10000 33 (.agg #[.int .i64 0, .int .u64 0, .int .i64 3]) (.agg #[.int .i64 0, .int .u64 0, .int .i64 3])).run Tryz.prog w = .ok true w := fun w => eq_reply 0 0 3 3 0 0 w
          have a3 := K_a.out.bx.c 3 _ rfl
          have a4 := K_a.out.bx.c 4 _ rfl
          have h := O_a.out.thC (j := 4) (by rw [tka_len.2]; decide)
          rw [tka4] at h
          obtain ⟨p0, p1, p2, p3, p4, p5, p6, p7, p8, p9, p10, p11, p12⟩ := h
          simp only [Nat.reduceMul, Nat.reduceAdd, Tng.zero, Tng.of] at p0 p1 p2 p3 p4 p5 p6 p7 p8 p9 p10 p11 p12
          have hqz : ∀ w, (Op.equalIn 10000 45 (.agg #[.int .i64 0, .int .i64 0, .int .i64 0, .int .i64 0, .int .i64 0, .int .i64 0, .int .i64 0, .bool false, .int .u64 0, .int .u64 0, .int .u64 0, .int .u64 0, .int .u64 0]) (.agg #[.int .i64 0, .int .i64 0, .int .i64 0, .int .i64 0, .int .i64 0, .int .i64 0, .int .i64 0, .bool false, .int .u64 0, .int .u64 0, .int .u64 0, .int .u64 0, .int .u64 0])).run Tryz.prog w = .ok true w := fun w => by
            have := teq26 (Tng.zero) (Tng.zero) w
            rw [Tng.eq_self] at this
            exact this
          have q0 := (O_a.out.thC (j := 5) (by rw [tka_len.2]; decide)).c0
          rw [tka5] at q0
          simp only [Nat.reduceMul, Nat.reduceAdd] at q0
          have h := O_a.out.slC (j := 4) (by rw [tka_len.1]; decide)
          rw [tkas4] at h
          obtain ⟨s0, s1, s2, s3, s4⟩ := h
          simp only [Nat.reduceMul, Nat.reduceAdd] at s0 s1 s2 s3 s4
          have hqs : ∀ w, (Op.equalIn 10000 52 (.agg #[.int .i64 4, .int .i64 5, .int .i64 1, .int .i64 0, .int .i64 0]) (.agg #[.int .i64 4, .int .i64 5, .int .i64 1, .int .i64 0, .int .i64 0])).run Tryz.prog w = .ok true w := fun w => by
            have := peqslot ⟨⟨4, 5, 1, 0⟩, 0⟩ ⟨⟨4, 5, 1, 0⟩, 0⟩ w
            rw [Sl.eq_iff.2 rfl] at this
            exact this
          have h := O_a.out.slC (j := 17) (by rw [tka_len.1]; decide)
          rw [tkas17] at h
          obtain ⟨n0, n1, n2, n3, n4⟩ := h
          simp only [Nat.reduceMul, Nat.reduceAdd, Cp.none] at n0 n1 n2 n3
          go_wp2_with fail
          refine (non_at (z := true) (by decide) z1).mono ?_
          rintro e z2 ⟨rfl, hb⟩
          replace K_s := Lib.hid (K_s.out.on hb)
          replace Y_4 := Lib.hid (Y_4.out.on hb)
          replace K_a := Lib.hid (K_a.out.on hb)
          replace Y_5 := Lib.hid (Y_5.out.on hb)
          replace K_c := Lib.hid (K_c.out.on hb)
          replace Y_6 := Lib.hid (Y_6.out.on hb)
          replace K_e := Lib.hid (K_e.out.on hb)
          replace Y_7 := Lib.hid (Y_7.out.on hb)
          replace K_b := Lib.hid (K_b.out.on hb)
          replace K_h := Lib.hid (K_h.out.on hb)
          replace K_j := Lib.hid (K_j.out.on hb)
          replace O_s := Lib.hid (O_s.out.on hb)
          replace O_a := Lib.hid (O_a.out.on hb)
          replace O_c := Lib.hid (O_c.out.on hb)
          replace O_e := Lib.hid (O_e.out.on hb)
          replace O_b := Lib.hid (O_b.out.on hb)
          replace O_h := Lib.hid (O_h.out.on hb)
          replace O_j := Lib.hid (O_j.out.on hb)
          replace HW := Lib.hid (below_on HW.out hb)
          clear hb a3 a4 hq3 hqs q0 r40 r41 r42 s0 s1 s2 s3 s4 n0 n1 n2 n3 n4 p0 p1 p2 p3 p4 p5 p6 p7 p8 p9 p10 p11 p12
          have r50 := Y_5.out.bx.c 0 _ rfl
          have r51 := Y_5.out.bx.c 1 _ rfl
          have r52 := Y_5.out.bx.c 2 _ rfl
          have hq4 : ∀ w, (Op.equalIn 10000 33 (.agg #[.int .i64 0, .int .u64 0, .int .i64 4]) (.agg #[.int .i64 0, .int .u64 0, .int .i64 4])).run Tryz.prog w = .ok true w := fun w => eq_reply 0 0 4 4 0 0 w
          have r60 := Y_6.out.bx.c 0 _ rfl
          have r61 := Y_6.out.bx.c 1 _ rfl
          have r62 := Y_6.out.bx.c 2 _ rfl
          have hq1 : ∀ w, (Op.equalIn 10000 33 (.agg #[.int .i64 0, .int .u64 0, .int .i64 1]) (.agg #[.int .i64 0, .int .u64 0, .int .i64 1])).run Tryz.prog w = .ok true w := fun w => eq_reply 0 0 1 1 0 0 w
          have r70 := Y_7.out.bx.c 0 _ rfl
          have c4 := K_c.out.bx.c 4 _ rfl
          have e3 := K_e.out.bx.c 3 _ rfl
          have h4 := K_h.out.bx.c 4 _ rfl
          have h := O_c.out.thC (j := 4) (by rw [tkc_len.2]; decide)
          rw [tkc4] at h
          obtain ⟨p0, p1, p2, p3, p4, p5, p6, p7, p8, p9, p10, p11, p12⟩ := h
          simp only [Nat.reduceMul, Nat.reduceAdd, Tng.zero, Tng.of] at p0 p1 p2 p3 p4 p5 p6 p7 p8 p9 p10 p11 p12
          have h := O_c.out.thC (j := 5) (by rw [tkc_len.2]; decide)
          rw [tkc5] at h
          obtain ⟨q0, q1, q2, q3, q4, q5, q6, q7, q8, q9, q10, q11, q12⟩ := h
          simp only [Nat.reduceMul, Nat.reduceAdd, Tng.zero, Tng.of] at q0 q1 q2 q3 q4 q5 q6 q7 q8 q9 q10 q11 q12
          have h := O_h.out.thC (j := 1) (by rw [tkh_len.2]; decide)
          rw [tkh1] at h
          obtain ⟨x0, x1, x2, x3, x4, x5, x6, x7, x8, x9, x10, x11, x12⟩ := h
          simp only [Nat.reduceMul, Nat.reduceAdd, Tng.zero, Tng.of] at x0 x1 x2 x3 x4 x5 x6 x7 x8 x9 x10 x11 x12
          have hqh : ∀ w, (Op.equalIn 10000 45 (.agg #[.int .i64 3, .int .i64 0, .int .i64 0, .int .i64 0, .int .i64 0, .int .i64 0, .int .i64 0, .bool true, .int .u64 5, .int .u64 0, .int .u64 0, .int .u64 0, .int .u64 0]) (.agg #[.int .i64 3, .int .i64 0, .int .i64 0, .int .i64 0, .int .i64 0, .int .i64 0, .int .i64 0, .bool true, .int .u64 5, .int .u64 0, .int .u64 0, .int .u64 0, .int .u64 0])).run Tryz.prog w = .ok true w := fun w => by
            have := teq26 (⟨3, 0, 0, 0, 0, 0, 0, true, 5, 0, 0, 0, 0⟩) (⟨3, 0, 0, 0, 0, 0, 0, true, 5, 0, 0, 0, 0⟩) w
            rw [Tng.eq_self] at this
            exact this
          have u0 := (O_e.out.slC (j := 18) (by rw [tke_len.1]; decide)).c4
          rw [tkes18] at u0
          have u1 := (O_e.out.slC (j := 4) (by rw [tke_len.1]; decide)).c4
          rw [tkes4] at u1
          simp only [Nat.reduceMul, Nat.reduceAdd] at u0 u1
          have t0 := K_s.out.bx.c 0 _ rfl
          have t1 := K_s.out.bx.c 1 _ rfl
          have t2 := K_s.out.bx.c 2 _ rfl
          have t3 := K_s.out.bx.c 3 _ rfl
          have t4 := K_s.out.bx.c 4 _ rfl
          have j0 := K_j.out.bx.c 0 _ rfl
          have j1 := K_j.out.bx.c 1 _ rfl
          have j2 := K_j.out.bx.c 2 _ rfl
          have j3 := K_j.out.bx.c 3 _ rfl
          have j4 := K_j.out.bx.c 4 _ rfl
          go_wp2_with fail
          refine (psame_is (⟨O_j.out.lies, tn_g.2.2.2, tn4_len.1.symm, tn4_len.2.symm, by decide, by decide, HC_j.out.1, HC_j.out.2⟩ : StH _ tn4 2 32 16 (some ⟨Pj, 0, none⟩) 32 caj (some ⟨Qj, 0, none⟩) 16 ccj) (⟨O_s.out.lies, tn_g.2.2.2, tn4_len.1.symm, tn4_len.2.symm, by decide, by decide, HC_s.out.1, HC_s.out.2⟩ : StH _ tn4 2 32 16 (some ⟨Ps, 0, none⟩) 32 cas (some ⟨Qs, 0, none⟩) 16 ccs) (St.same_iff.2 rfl)).mono ?_
          rintro e z3 ⟨rfl, hb⟩
          have HE := Lib.hid (below_on HW.out hb)
          clear hb hq4 hq1 hqz hqh c4 e3 h4 r70 r50 r51 r52 r60 r61 r62 u0 u1 t0 t1 t2 t3 t4 j0 j1 j2 j3 j4 p0 p1 p2 p3 p4 p5 p6 p7 p8 p9 p10 p11 p12 q0 q1 q2 q3 q4 q5 q6 q7 q8 q9 q10 q11 q12 x0 x1 x2 x3 x4 x5 x6 x7 x8 x9 x10 x11 x12
          go_wp2
          go_ret
          exact ⟨rfl, HE.out⟩
end Go.Proofs.YtjnohbahjlidoaaGreat
