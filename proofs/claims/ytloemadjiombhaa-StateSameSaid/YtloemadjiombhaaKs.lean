/-
  The walk of the law StateSame, over what the program's calls answer. Condition: both states lie in memory.
-/
import Derived.Test.YtloemadjiombhaaKe
import Derived.Test.YtloemadjiombhaaKi
import Derived.Test.YtloemadjiombhaaJo
import Derived.BigRegion
namespace Go.Proofs.Ytloemadjiombhaa
open Go.RowKit

/-- two states' boxes, and what was there -/
theorem clone_ne {s : St} {i : Nat} (hi : i < s.sl.length) {u : Int} (hu : u ≠ (slAt s.sl i).up) : s.same ⟨s.g, s.sl.set i ⟨(slAt s.sl i).c, u⟩, s.th⟩ = false := Bool.eq_false_iff.2 fun e => by
  have h := St.same_iff.1 e
  have h2 : s.sl = s.sl.set i ⟨(slAt s.sl i).c, u⟩ := congrArg St.sl h
  have h3 : slAt s.sl i = ⟨(slAt s.sl i).c, u⟩ := by
    have : slAt (s.sl.set i ⟨(slAt s.sl i).c, u⟩) i = ⟨(slAt s.sl i).c, u⟩ := slAt_at (by rw [List.getElem?_set_self hi])
    rw [← h2] at this
    exact this
  exact hu (congrArg Sl.up h3).symm
theorem SlotsAt.setUp {w : World} {bb : Nat} {l : List Sl} (h : SlotsAt w w.heap.size (some ⟨bb, 0, none⟩) l) {j : Nat} (hj : j < l.length) (u : Int) : SlotsAt (w.setCell ⟨bb, j * 5 + 4, none⟩ (.int .i64 u)) (w.setCell ⟨bb, j * 5 + 4, none⟩ (.int .i64 u)).heap.size (some ⟨bb, 0, none⟩) (l.set j ⟨(slAt l j).c, u⟩) := fun h0 => by
  have h0' : 0 < l.length := by omega
  obtain ⟨b, o, e, hlt, hc⟩ := h h0'
  injection e with e
  injection e with e1 e2
  subst e1 e2
  refine ⟨bb, 0, rfl, by simpa [World.setCell] using hlt, fun k hk => ?_⟩
  rw [List.length_set] at hk
  have hx := hc k hk
  have ne : ∀ o, o ≠ j * 5 + 4 → (w.setCell ⟨bb, j * 5 + 4, none⟩ (.int .i64 u)).cell? ⟨bb, o, none⟩ = w.cell? ⟨bb, o, none⟩ := fun o ho => World.cell?_setCell_other _ _ _ _ (fun q => by injection q with _ q; exact ho q.symm)
  by_cases hkj : k = j
  · subst hkj
    have e : slAt (l.set k ⟨(slAt l k).c, u⟩) k = ⟨(slAt l k).c, u⟩ := slAt_at (by rw [List.getElem?_set_self hj])
    rw [e]
    refine ⟨(ne _ (by omega)).trans hx.c0, (ne _ (by omega)).trans hx.c1, (ne _ (by omega)).trans hx.c2, (ne _ (by omega)).trans hx.c3, ?_⟩
    have h4 := hx.c4
    rw [Nat.zero_add] at h4 ⊢
    exact World.cell?_setCell_same _ _ _ h4
  · have e : slAt (l.set j ⟨(slAt l j).c, u⟩) k = slAt l k := slAt_at (by rw [List.getElem?_set_ne (fun q => hkj q.symm)]; exact slAt_get hk)
    rw [e]
    exact ⟨(ne _ (by omega)).trans hx.c0, (ne _ (by omega)).trans hx.c1, (ne _ (by omega)).trans hx.c2, (ne _ (by omega)).trans hx.c3, (ne _ (by omega)).trans hx.c4⟩
theorem ThingsAt.other {w w' : World} {A : Option Addr} {l : List Tng} (h : ThingsAt w w.heap.size A l) (hs : w.heap.size ≤ w'.heap.size) (e : 0 < l.length → ∀ b o, A = some ⟨b, o, none⟩ → ∀ k, w'.cell? ⟨b, k, none⟩ = w.cell? ⟨b, k, none⟩) : ThingsAt w' w'.heap.size A l := fun h0 => by
  obtain ⟨b, o, q, hlt, hc⟩ := h h0
  exact ⟨b, o, q, by omega, fun j hj => (hc j hj).same fun k => e h0 b o q k⟩
theorem wrap_ne (u : Int) : wrap64 (u + 1) ≠ u := by unfold wrap64; omega
set_option maxRecDepth 100000 in
set_option maxHeartbeats 8000000 in
theorem ssame_walk (KC : Cos) {s t : St} {a b c a' b' c' i : Int} {A C A' C' : Option Addr} {n ca m cc n' ca' m' cc' : Nat} {w : World} (hS : StAt w s A C) (hg : s.g = ⟨a, b, c⟩) (hn : n = s.sl.length) (hm : m = s.th.length) (hca : n ≤ ca) (hcc : m ≤ cc) (hT : StAt w t A' C') (hg' : t.g = ⟨a', b', c'⟩) (hn' : n' = t.sl.length) (hm' : m' = t.th.length) (hca' : n' ≤ ca') (hcc' : m' ≤ cc') :
    Calls Try.prog 4 #[.agg #[.int .i64 a, .int .i64 b, .int .i64 c, .slice A n ca, .slice C m cc], .agg #[.int .i64 a', .int .i64 b', .int .i64 c', .slice A' n' ca', .slice C' m' cc'], .int .i64 i] w fun e w' => e = .returned (.bool true) ∧ Below w.heap.size w w' := by
  have k1 := Sbx.new w a b c A n ca C m cc 28
  have k2 := Sbx.also k1.old a' b' c' A' n' ca' C' m' cc' 28
  have hK : Two w _ w.heap.size (w.heap.size + 1) a b c A n ca C m cc a' b' c' A' n' ca' C' m' cc' := ⟨k1.on (below_alloc _ _), by simpa using k2⟩
  have HA : Hid (∀ wx, n ≤ 1000 → m ≤ 1000 → Below w.heap.size w wx → StH wx s a b c A n ca C m cc) := Lib.hid fun wx h1 h2 hb => ⟨hS.on hb, hg, hn, hm, h1, h2, hca, hcc⟩
  have HB : Hid (∀ wx, n' ≤ 1000 → m' ≤ 1000 → Below w.heap.size w wx → StH wx t a' b' c' A' n' ca' C' m' cc') := Lib.hid fun wx h1 h2 hb => ⟨hT.on hb, hg', hn', hm', h1, h2, hca', hcc'⟩
  obtain ⟨sm, hsm⟩ : ∃ z, s.same t = z := ⟨_, rfl⟩
  have HSM := Lib.hid hsm
  clear hS hg hn hm hca hcc hT hg' hn' hm' hca' hcc' k1 k2 hsm
  go_enter Try.func4, Try.ntmps4
  go_wp2_with fail
  obtain ⟨g, hg⟩ : ∃ g, g = w.heap.size := ⟨_, rfl⟩
  obtain ⟨h, hh⟩ : ∃ h, h = g + 1 := ⟨_, rfl⟩
  rw [← hg, ← hh] at hK
  rw [← hg]
  try rw [← hh]
  have HHG := Lib.hid hh
  clear hg hh
  generalize (w.alloc _).alloc _ = w1 at hK ⊢
  refine (awake_any KC w1).mono ?_
  rintro e w2 ⟨rfl, hb⟩
  have HK := Lib.hid (hK.on hb)
  clear hK hb
  obtain ⟨⟨b0, b1, b2, c3, c4, -, -, lt⟩, ⟨d0, d1, d2, d3, d4, -, -, lt'⟩⟩ := HK.out
  obtain ⟨hv, hhv⟩ : ∃ z, (decide (100 < n) || decide (50 < m)) = z := ⟨_, rfl⟩
  have HHV := Lib.hid hhv
  obtain ⟨hv', hhv'⟩ : ∃ z, (decide (100 < n') || decide (50 < m')) = z := ⟨_, rfl⟩
  have HHV' := Lib.hid hhv'
  clear hhv hhv'
  go_wp2_with fail
  refine (heavy_is HHV.out w2).mono ?_
  rintro e w3 ⟨rfl, hb⟩
  have HK3 := Lib.hid (HK.out.on hb)
  clear HK hb b0 b1 b2 c3 c4 lt d0 d1 d2 d3 d4 lt'
  rcases hv with _ | _
  rotate_left
  · go_wp2
    go_ret
    exact ⟨rfl, HK3.out.x.old⟩
  obtain ⟨⟨b0, b1, b2, c3, c4, -, -, lt⟩, ⟨d0, d1, d2, d3, d4, -, -, lt'⟩⟩ := HK3.out
  go_wp2_with fail
  refine (heavy_is HHV'.out w3).mono ?_
  rintro e w4 ⟨rfl, hb⟩
  have HK4 := Lib.hid (HK3.out.on hb)
  clear HK3 hb b0 b1 b2 c3 c4 lt d0 d1 d2 d3 d4 lt'
  rcases hv' with _ | _
  rotate_left
  · go_wp2
    go_ret
    exact ⟨rfl, HK4.out.x.old⟩
  have hfew : n ≤ 100 ∧ m ≤ 50 := by
    have := HHV.out
    rw [Bool.or_eq_false_iff, decide_eq_false_iff_not, decide_eq_false_iff_not] at this
    omega
  have hfew' : n' ≤ 100 ∧ m' ≤ 50 := by
    have := HHV'.out
    rw [Bool.or_eq_false_iff, decide_eq_false_iff_not, decide_eq_false_iff_not] at this
    omega
  replace HA := Lib.hid (HA.out w4 (by omega) (by omega) HK4.out.x.old)
  replace HB := Lib.hid (HB.out w4 (by omega) (by omega) HK4.out.x.old)
  have HFEW := Lib.hid hfew
  clear HHV HHV' hfew hfew'
  obtain ⟨⟨b0, b1, b2, c3, c4, -, -, lt⟩, ⟨d0, d1, d2, d3, d4, -, -, lt'⟩⟩ := HK4.out
  have hbb : (sm != sm) = false := bne_self_eq_false sm
  go_wp2_with fail
  refine wp_region_held_drew (S := (fun w' => w'.cell? ⟨g, 0, none⟩ = some (.int .i64 a) ∧ w'.cell? ⟨g, 1, none⟩ = some (.int .i64 b) ∧ w'.cell? ⟨g, 2, none⟩ = some (.int .i64 c) ∧ w'.cell? ⟨g, 3, none⟩ = some (.slice A n ca) ∧ w'.cell? ⟨g, 4, none⟩ = some (.slice C m cc) ∧ w'.cell? ⟨h, 0, none⟩ = some (.int .i64 a') ∧ w'.cell? ⟨h, 1, none⟩ = some (.int .i64 b') ∧ w'.cell? ⟨h, 2, none⟩ = some (.int .i64 c') ∧ w'.cell? ⟨h, 3, none⟩ = some (.slice A' n' ca') ∧ w'.cell? ⟨h, 4, none⟩ = some (.slice C' m' cc') ∧ Below w4.heap.size w4 w')) (by kernel_rfl) ⟨b0, b1, b2, c3, c4, d0, d1, d2, d3, d4, (below_self w4).drew⟩ (fun hHeld => ?_)
  refine wpAnyH_take (i := 0) (v := ?_) rfl (by kernel_rfl) (by kernel_rfl) (by kernel_rfl) (fun _ _ _ h => h) (Or.inl ⟨by rfl, ?_⟩) (by assumption) ?_
  rotate_left
  · intro w hSw; go_split_ands; go_simp; try with_reducible rfl
  simp only [Act.put, List.setIfInBounds_toArray, List.set_cons_zero, List.set_cons_succ, List.getElem_toArray, List.getElem_cons_zero]
  refine wpAnyH_take (i := 1) (v := ?_) rfl (by kernel_rfl) (by kernel_rfl) (by kernel_rfl) (fun _ _ _ h => h) (Or.inl ⟨by rfl, ?_⟩) (by assumption) ?_
  rotate_left
  · intro w hSw; go_split_ands; go_simp; try with_reducible rfl
  simp only [Act.put, List.setIfInBounds_toArray, List.set_cons_zero, List.set_cons_succ, List.getElem_toArray, List.getElem_cons_zero, List.getElem_cons_succ]
  refine wpAnyH_take (i := 3) (v := ?_) rfl (by kernel_rfl) (by kernel_rfl) (by kernel_rfl) (fun _ _ _ h => h) (Or.inl ⟨by rfl, ?_⟩) (by assumption) ?_
  rotate_left
  · intro w hSw; go_split_ands; go_simp; try with_reducible rfl
  simp only [Act.put, List.setIfInBounds_toArray, List.set_cons_zero, List.set_cons_succ, List.getElem_toArray, List.getElem_cons_zero, List.getElem_cons_succ]
  refine wpAnyH_take (i := 5) (v := ?_) rfl (by kernel_rfl) (by kernel_rfl) (by kernel_rfl) (fun _ _ _ h => h) (Or.inl ⟨by rfl, ?_⟩) (by assumption) ?_
  rotate_left
  · intro w hSw; go_split_ands; go_simp; try with_reducible rfl
  simp only [Act.put, List.setIfInBounds_toArray, List.set_cons_zero, List.set_cons_succ, List.getElem_toArray, List.getElem_cons_zero, List.getElem_cons_succ]
  refine wpAnyH_ready (rs := [2]) (by kernel_rfl) (by simp) ?_
  refine AllReadyH.cons rfl (fun K hK => ?_) AllReadyH.nil
  go_simp
  refine (KC.same (HA.out.on (below_self w4).drew) (HB.out.on (below_self w4).drew) HSM.out).mono ?_
  rintro e w' ⟨rfl, hb⟩
  have zb := below_on (below_self w4).drew hb
  refine hK.out _ _ ⟨(zb.cell (p := ⟨g, 0, none⟩) lt).trans b0, (zb.cell (p := ⟨g, 1, none⟩) lt).trans b1, (zb.cell (p := ⟨g, 2, none⟩) lt).trans b2, (zb.cell (p := ⟨g, 3, none⟩) lt).trans c3, (zb.cell (p := ⟨g, 4, none⟩) lt).trans c4, (zb.cell (p := ⟨h, 0, none⟩) lt').trans d0, (zb.cell (p := ⟨h, 1, none⟩) lt').trans d1, (zb.cell (p := ⟨h, 2, none⟩) lt').trans d2, (zb.cell (p := ⟨h, 3, none⟩) lt').trans d3, (zb.cell (p := ⟨h, 4, none⟩) lt').trans d4, zb⟩ (fun hHeld => ?_)
  clear hK K
  try simp only [Act.put, List.setIfInBounds_toArray, List.set_cons_zero, List.set_cons_succ]
  refine wpAnyH_ready (rs := [4]) (by kernel_rfl) (by simp) ?_
  refine AllReadyH.cons rfl (fun K hK => ?_) AllReadyH.nil
  go_simp
  refine (lownof_is (HA.out.on zb).lies HA.out.hn HA.out.hm HA.out.few HA.out.fewm).mono ?_
  rintro e w' ⟨A1, ca1, C1, cc1, rfl, hA1, hb⟩
  replace zb := below_on zb hb
  refine hK.out _ _ ⟨(zb.cell (p := ⟨g, 0, none⟩) lt).trans b0, (zb.cell (p := ⟨g, 1, none⟩) lt).trans b1, (zb.cell (p := ⟨g, 2, none⟩) lt).trans b2, (zb.cell (p := ⟨g, 3, none⟩) lt).trans c3, (zb.cell (p := ⟨g, 4, none⟩) lt).trans c4, (zb.cell (p := ⟨h, 0, none⟩) lt').trans d0, (zb.cell (p := ⟨h, 1, none⟩) lt').trans d1, (zb.cell (p := ⟨h, 2, none⟩) lt').trans d2, (zb.cell (p := ⟨h, 3, none⟩) lt').trans d3, (zb.cell (p := ⟨h, 4, none⟩) lt').trans d4, zb⟩ (fun hHeld => ?_)
  clear hK K
  try simp only [Act.put, List.setIfInBounds_toArray, List.set_cons_zero, List.set_cons_succ]
  refine wpAnyH_ready (rs := [6]) (by kernel_rfl) (by simp) ?_
  refine AllReadyH.cons rfl (fun K hK => ?_) AllReadyH.nil
  go_simp
  refine (lownof_is (HB.out.on zb).lies HB.out.hn HB.out.hm HB.out.few HB.out.fewm).mono ?_
  rintro e w' ⟨A2, ca2, C2, cc2, rfl, hA2, hb⟩
  replace hA1 := hA1.on hb
  replace zb := below_on zb hb
  refine hK.out _ _ ⟨(zb.cell (p := ⟨g, 0, none⟩) lt).trans b0, (zb.cell (p := ⟨g, 1, none⟩) lt).trans b1, (zb.cell (p := ⟨g, 2, none⟩) lt).trans b2, (zb.cell (p := ⟨g, 3, none⟩) lt).trans c3, (zb.cell (p := ⟨g, 4, none⟩) lt).trans c4, (zb.cell (p := ⟨h, 0, none⟩) lt').trans d0, (zb.cell (p := ⟨h, 1, none⟩) lt').trans d1, (zb.cell (p := ⟨h, 2, none⟩) lt').trans d2, (zb.cell (p := ⟨h, 3, none⟩) lt').trans d3, (zb.cell (p := ⟨h, 4, none⟩) lt').trans d4, zb⟩ (fun hHeld => ?_)
  clear hK K
  try simp only [Act.put, List.setIfInBounds_toArray, List.set_cons_zero, List.set_cons_succ]
  refine wpAnyH_ready (rs := [7]) (by kernel_rfl) (by simp) ?_
  refine AllReadyH.cons rfl (fun K hK => ?_) AllReadyH.nil
  go_simp
  refine (rsame_is hA1 hA2 HA.out.hg HB.out.hg HA.out.hn HA.out.hm HB.out.hn HB.out.hm HA.out.few HA.out.fewm HSM.out).mono ?_
  rintro e w' ⟨rfl, hb⟩
  replace zb := below_on zb hb
  refine hK.out _ _ ⟨(zb.cell (p := ⟨g, 0, none⟩) lt).trans b0, (zb.cell (p := ⟨g, 1, none⟩) lt).trans b1, (zb.cell (p := ⟨g, 2, none⟩) lt).trans b2, (zb.cell (p := ⟨g, 3, none⟩) lt).trans c3, (zb.cell (p := ⟨g, 4, none⟩) lt).trans c4, (zb.cell (p := ⟨h, 0, none⟩) lt').trans d0, (zb.cell (p := ⟨h, 1, none⟩) lt').trans d1, (zb.cell (p := ⟨h, 2, none⟩) lt').trans d2, (zb.cell (p := ⟨h, 3, none⟩) lt').trans d3, (zb.cell (p := ⟨h, 4, none⟩) lt').trans d4, zb⟩ (fun hHeld => ?_)
  clear hK K
  try simp only [Act.put, List.setIfInBounds_toArray, List.set_cons_zero, List.set_cons_succ]
  refine wpAnyH_take (i := 8) (v := ?_) rfl (by kernel_rfl) (by kernel_rfl) (by kernel_rfl) (fun _ _ _ h => h) (Or.inl ⟨by rfl, ?_⟩) (by assumption) ?_
  rotate_left
  · intro w hSw; go_split_ands; go_simp; try with_reducible rfl
  simp only [Act.put, List.setIfInBounds_toArray, List.set_cons_zero, List.set_cons_succ, List.getElem_toArray, List.getElem_cons_zero, List.getElem_cons_succ]
  refine wpAnyH_done (by kernel_rfl) ?_ _
  obtain ⟨w5, hw5⟩ : ∃ z, z = w' := ⟨_, rfl⟩
  subst hw5
  have HK5 := Lib.hid (HK4.out.on zb)
  have HA5 := Lib.hid (HA.out.on zb)
  clear zb hb hA1 hA2 b0 b1 b2 c3 c4 lt d0 d1 d2 d3 d4 lt' HK4 HA HB
  obtain ⟨⟨b0, b1, b2, c3, c4, -, -, lt⟩, ⟨d0, d1, d2, d3, d4, -, -, lt'⟩⟩ := HK5.out
  go_wp2_with fail
  refine (KC.clone HA5.out).mono ?_
  rintro e w6 ⟨A2, ca2, C2, cc2, rfl, hca2, hcc2, hF, hb⟩
  have HK6 := Lib.hid (HK5.out.on hb)
  have HA6 := Lib.hid (HA5.out.on hb)
  have HF := Lib.hid hF
  have HCA2 := Lib.hid hca2
  have HCC2 := Lib.hid hcc2
  have HWB := Lib.hid hb
  clear hb hF hca2 hcc2 b0 b1 b2 c3 c4 lt d0 d1 d2 d3 d4 lt'
  have hX := Sbx.new w6 a b c A2 n ca2 C2 m cc2 28
  have hK7 := HK6.out.on (below_alloc w6 (.cells #[.int .i64 a, .int .i64 b, .int .i64 c, .slice A2 n ca2, .slice C2 m cc2] 28))
  obtain ⟨⟨b0, b1, b2, c3, c4, -, -, lt⟩, -⟩ := HK6.out
  by_cases hi0 : i < 0
  · go_wp2_with fail
    clear b0 b1 b2 c3 c4 lt
    generalize w6.alloc _ = w7 at hX hK7 ⊢
    have HC7 : Hid (StH w7 s a b c A2 n ca2 C2 m cc2) := Lib.hid ⟨HF.out.lies.on hX.old, HA6.out.hg, HA6.out.hn, HA6.out.hm, HA6.out.few, HA6.out.fewm, HCA2.out, HCC2.out⟩
    have HA7 := Lib.hid (HA6.out.on hX.old)
    have HK7 := Lib.hid hK7
    clear hX hK7
    refine (KC.same HC7.out HA7.out (St.same_iff.2 rfl)).mono ?_
    rintro e w8 ⟨rfl, hb⟩
    have HK8 := Lib.hid (HK7.out.on hb)
    clear hb
    go_wp2
    go_ret
    exact ⟨rfl, HK8.out.x.old⟩
  have hd0 : decide (i < 0) = false := decide_eq_false hi0
  by_cases hin : (n : Int) ≤ i
  · go_wp2_with fail
    clear b0 b1 b2 c3 c4 lt
    generalize w6.alloc _ = w7 at hX hK7 ⊢
    have HC7 : Hid (StH w7 s a b c A2 n ca2 C2 m cc2) := Lib.hid ⟨HF.out.lies.on hX.old, HA6.out.hg, HA6.out.hn, HA6.out.hm, HA6.out.few, HA6.out.fewm, HCA2.out, HCC2.out⟩
    have HA7 := Lib.hid (HA6.out.on hX.old)
    have HK7 := Lib.hid hK7
    clear hX hK7
    refine (KC.same HC7.out HA7.out (St.same_iff.2 rfl)).mono ?_
    rintro e w8 ⟨rfl, hb⟩
    have HK8 := Lib.hid (HK7.out.on hb)
    clear hb
    go_wp2
    go_ret
    exact ⟨rfl, HK8.out.x.old⟩
  have hdn : decide ((n : Int) ≤ i) = false := decide_eq_false hin
  obtain ⟨j, rfl⟩ : ∃ j : Nat, i = j := ⟨i.toNat, by omega⟩
  have hjn : j < n := by omega
  have hjn2 : (j : Int) < (n : Int) := by omega
  have hjs : j < s.sl.length := by rw [← HA6.out.hn]; exact hjn
  obtain ⟨sb, sp, rfl, hsb, hc⟩ := HA5.out.lies.sl (by omega)
  obtain ⟨bb, hA2, hbb, hbl, hbf⟩ := HF.out.sl (by omega)
  subst hA2
  have hT5 := hc j hjs
  have hT2 : SlC w6 bb (0 + j * 5) (slAt s.sl j) := by
    obtain ⟨b9, o9, e9, _, hc9⟩ := HF.out.lies.sl (by omega)
    injection e9 with e9
    injection e9 with e1 e2
    subst e1 e2
    exact hc9 j hjs
  obtain ⟨x, hx⟩ : ∃ x, slAt s.sl j = x := ⟨_, rfl⟩
  have HX := Lib.hid hx
  rw [hx] at hT5 hT2
  obtain ⟨⟨ty, th, ri, ba⟩, up⟩ := x
  have hT6 := hT5.same (w' := w6) fun k => HWB.out.cell (p := ⟨sb, k, none⟩) hsb
  have heq : ∀ w, (Op.equalIn 10000 37 (.agg #[.int .i64 ty, .int .i64 th, .int .i64 ri, .int .i64 ba, .int .i64 up]) (.agg #[.int .i64 ty, .int .i64 th, .int .i64 ri, .int .i64 ba, .int .i64 up])).run Try.prog w = .ok true w := fun w => by
    have h := peqslot ⟨⟨ty, th, ri, ba⟩, up⟩ ⟨⟨ty, th, ri, ba⟩, up⟩ w
    rw [Sl.eq_iff.2 rfl] at h
    exact h
  have hZ := (Slx.new (w6.alloc (.cells #[.int .i64 a, .int .i64 b, .int .i64 c, .slice (some ⟨bb, 0, none⟩) n ca2, .slice C2 m cc2] 28)) ty th ri ba up 37)
  have hX8 := hX.on (below_alloc _ (.cells #[.int .i64 ty, .int .i64 th, .int .i64 ri, .int .i64 ba, .int .i64 up] 37))
  obtain ⟨r, hr⟩ : ∃ r, r = w6.heap.size := ⟨_, rfl⟩
  rw [show (w6.alloc (.cells #[.int .i64 a, .int .i64 b, .int .i64 c, .slice (some ⟨bb, 0, none⟩) n ca2, .slice C2 m cc2] 28)).heap.size = w6.heap.size + 1 by simp, ← hr] at hZ
  rw [← hr] at hX8
  have hbr : bb < r := by omega
  obtain ⟨s0, s1, s2, s3, s4⟩ := hT6
  simp only at s0 s1 s2 s3 s4
  have hsb6 : sb < w6.heap.size := Nat.lt_of_lt_of_le hsb HWB.out.size
  have HB68 := Lib.hid (below_on (below_alloc w6 (.cells #[.int .i64 a, .int .i64 b, .int .i64 c, .slice (some ⟨bb, 0, none⟩) n ca2, .slice C2 m cc2] 28)) (below_alloc _ (.cells #[.int .i64 ty, .int .i64 th, .int .i64 ri, .int .i64 ba, .int .i64 up] 37)))
  have HT5 := Lib.hid hT5
  have HT2 := Lib.hid hT2
  have HBL := Lib.hid hbl
  have HBB := Lib.hid hbb
  have HBF := Lib.hid hbf
  have HSB := Lib.hid hsb
  have HBR := Lib.hid hbr
  have HR6 := Lib.hid hr
  clear hT5 hT2 hc hx hX hK7 hbl hbb hbf hsb
  go_wp2_with fail
  rw [← hr]
  clear hr
  obtain ⟨p, hp⟩ : ∃ p, p = r + 1 := ⟨_, rfl⟩
  rw [← hp] at hZ
  try rw [← hp]
  have HPR := Lib.hid hp
  clear hp b0 b1 b2 c3 c4 lt s0 s1 s2 s3 s4 hsb6
  generalize (w6.alloc _).alloc _ = w8 at hZ hX8 HB68 ⊢
  have HB58 := Lib.hid (below_on HWB.out HB68.out)
  have HK8 := Lib.hid (HK5.out.on HB58.out)
  have HX8 := Lib.hid hX8
  have HZ8 := Lib.hid hZ
  clear hX8 hZ
  obtain ⟨r0, r1, r2, r3, r4, -, -, rlt⟩ := HX8.out
  have y4 : w8.cell? ⟨bb, j * 5 + 4, none⟩ = some (.int .i64 up) := by
    have h := HT2.out.c4
    rw [Nat.zero_add] at h
    exact (HB68.out.cell (p := ⟨bb, _, none⟩) HBL.out).trans h
  have yf : w8.frozen? ⟨bb, j * 5 + 4, none⟩ = false := by rw [World.frozen?_of_block (w := w6) (a := ⟨bb, j * 5 + 4, none⟩) (HB68.out.block bb HBL.out)]; exact HBF.out _
  have hbl8 : bb < w8.heap.size := Nat.lt_of_lt_of_le HBL.out HB68.out.size
  obtain ⟨U, hU⟩ : ∃ U, wrap64 (up + 1) = U := ⟨_, rfl⟩
  have HNU : Hid (U ≠ up) := Lib.hid (by rw [← hU]; exact wrap_ne up)
  go_region
  rw [hU]
  have hne : ∀ k q, k ≠ bb → (w8.setCell ⟨bb, j * 5 + 4, none⟩ (.int .i64 U)).drew.cell? ⟨k, q, none⟩ = w8.cell? ⟨k, q, none⟩ := fun k q hk => World.cell?_setCell_other w8 _ _ _ (fun e => by injection e with e; exact hk e.symm)
  have HB59 : Hid (Below w5.heap.size w5 (w8.setCell ⟨bb, j * 5 + 4, none⟩ (.int .i64 U)).drew) := Lib.hid ((HB58.out.setCell (p := ⟨bb, j * 5 + 4, none⟩) HBB.out _).drew)
  have hsl : SlotsAt (w8.setCell ⟨bb, j * 5 + 4, none⟩ (.int .i64 U)).drew (w8.setCell ⟨bb, j * 5 + 4, none⟩ (.int .i64 U)).drew.heap.size (some ⟨bb, 0, none⟩) (s.sl.set j ⟨(slAt s.sl j).c, U⟩) := ((HF.out.lies.sl.on HB68.out).setUp hjs U).on (below_self _).drew
  have hth : ThingsAt (w8.setCell ⟨bb, j * 5 + 4, none⟩ (.int .i64 U)).drew (w8.setCell ⟨bb, j * 5 + 4, none⟩ (.int .i64 U)).drew.heap.size C2 s.th := (HF.out.lies.th.on HB68.out).other (by simp [World.setCell, World.drew]) fun h0 b9 o9 e9 k => hne b9 k fun q => by
    obtain ⟨b2, e2, _⟩ := HF.out.th h0
    rw [e9] at e2
    injection e2 with e2
    injection e2 with e21 e22
    subst e22 q
    exact HF.out.ne (by omega) h0 e9.symm
  have HC9 : Hid (StH (w8.setCell ⟨bb, j * 5 + 4, none⟩ (.int .i64 U)).drew ⟨s.g, s.sl.set j ⟨(slAt s.sl j).c, U⟩, s.th⟩ a b c (some ⟨bb, 0, none⟩) n ca2 C2 m cc2) := Lib.hid ⟨⟨hsl, hth⟩, HA5.out.hg, by rw [HA5.out.hn]; exact (List.length_set ..).symm, HA5.out.hm, HA5.out.few, HA5.out.fewm, HCA2.out, HCC2.out⟩
  have HA9 := Lib.hid (HA5.out.on HB59.out)
  have HK9 := Lib.hid (HK5.out.on HB59.out)
  have HNE : Hid (s.same ⟨s.g, s.sl.set j ⟨(slAt s.sl j).c, U⟩, s.th⟩ = false) := Lib.hid (clone_ne hjs (by rw [HX.out]; exact HNU.out))
  have hrb : r ≠ bb := by have := HBR.out; omega
  have hpb : p ≠ bb := by have := HBR.out; have := HPR.out; omega
  have r0' := (hne r 0 hrb).trans r0
  have r1' := (hne r 1 hrb).trans r1
  have r2' := (hne r 2 hrb).trans r2
  have r3' := (hne r 3 hrb).trans r3
  have r4' := (hne r 4 hrb).trans r4
  obtain ⟨z0, z1, z2, z3, z4, zlt⟩ := HZ8.out
  simp only at z0 z1 z2 z3 z4
  have p0 := (hne p 0 hpb).trans z0
  have p1 := (hne p 1 hpb).trans z1
  have p2 := (hne p 2 hpb).trans z2
  have p3 := (hne p 3 hpb).trans z3
  have p4 := (hne p 4 hpb).trans z4
  have hs9 : SlC (w8.setCell ⟨bb, j * 5 + 4, none⟩ (.int .i64 U)).drew sb (sp + j * 5) ⟨⟨ty, th, ri, ba⟩, up⟩ := HT5.out.same fun k => HB59.out.cell (p := ⟨sb, k, none⟩) HSB.out
  have hsb9 : sb < (w8.setCell ⟨bb, j * 5 + 4, none⟩ (.int .i64 U)).drew.heap.size := Nat.lt_of_lt_of_le HSB.out HB59.out.size
  have hsz : (w8.setCell ⟨bb, j * 5 + 4, none⟩ (.int .i64 U)).drew.heap.size = w8.heap.size := by simp [World.setCell, World.drew]
  have rlt' : r < (w8.setCell ⟨bb, j * 5 + 4, none⟩ (.int .i64 U)).drew.heap.size := by rw [hsz]; exact rlt
  have plt : p < (w8.setCell ⟨bb, j * 5 + 4, none⟩ (.int .i64 U)).drew.heap.size := by rw [hsz]; exact zlt
  clear hsl hth hsz hne r0 r1 r2 r3 r4 rlt y4 yf hbl8 z0 z1 z2 z3 z4 zlt hU HK8 HX8 HZ8 HB58
  generalize (w8.setCell ⟨bb, j * 5 + 4, none⟩ (.int .i64 U)).drew = w9 at HB59 HC9 HA9 HK9 r0' r1' r2' r3' r4' p0 p1 p2 p3 p4 hs9 hsb9 rlt' plt ⊢
  have r0 := r0'
  have r1 := r1'
  have r2 := r2'
  have r3 := r3'
  have r4 := r4'
  have rlt := rlt'
  clear r0' r1' r2' r3' r4' rlt'
  obtain ⟨s0, s1, s2, s3, s4⟩ := hs9
  simp only at s0 s1 s2 s3 s4
  obtain ⟨⟨b0, b1, b2, c3, c4, -, -, lt⟩, -⟩ := HK9.out
  go_wp2_with fail
  refine wp_region_held_drew (S := (fun w' => w'.cell? ⟨g, 0, none⟩ = some (.int .i64 a) ∧ w'.cell? ⟨g, 1, none⟩ = some (.int .i64 b) ∧ w'.cell? ⟨g, 2, none⟩ = some (.int .i64 c) ∧ w'.cell? ⟨g, 3, none⟩ = some (.slice (some ⟨sb, sp, none⟩) n ca) ∧ w'.cell? ⟨g, 4, none⟩ = some (.slice C m cc) ∧ w'.cell? ⟨r, 0, none⟩ = some (.int .i64 a) ∧ w'.cell? ⟨r, 1, none⟩ = some (.int .i64 b) ∧ w'.cell? ⟨r, 2, none⟩ = some (.int .i64 c) ∧ w'.cell? ⟨r, 3, none⟩ = some (.slice (some ⟨bb, 0, none⟩) n ca2) ∧ w'.cell? ⟨r, 4, none⟩ = some (.slice C2 m cc2) ∧ w'.cell? ⟨p, 0, none⟩ = some (.int .i64 ty) ∧ w'.cell? ⟨p, 1, none⟩ = some (.int .i64 th) ∧ w'.cell? ⟨p, 2, none⟩ = some (.int .i64 ri) ∧ w'.cell? ⟨p, 3, none⟩ = some (.int .i64 ba) ∧ w'.cell? ⟨p, 4, none⟩ = some (.int .i64 up) ∧ w'.cell? ⟨sb, sp + j * 5, none⟩ = some (.int .i64 ty) ∧ w'.cell? ⟨sb, sp + j * 5 + 1, none⟩ = some (.int .i64 th) ∧ w'.cell? ⟨sb, sp + j * 5 + 2, none⟩ = some (.int .i64 ri) ∧ w'.cell? ⟨sb, sp + j * 5 + 3, none⟩ = some (.int .i64 ba) ∧ w'.cell? ⟨sb, sp + j * 5 + 4, none⟩ = some (.int .i64 up) ∧ Below w9.heap.size w9 w')) (by kernel_rfl) ⟨b0, b1, b2, c3, c4, r0, r1, r2, r3, r4, p0, p1, p2, p3, p4, s0, s1, s2, s3, s4, (below_self w9).drew⟩ (fun hHeld => ?_)
  refine wpAnyH_take (i := 0) (v := ?_) rfl (by kernel_rfl) (by kernel_rfl) (by kernel_rfl) (fun _ _ _ h => h) (Or.inl ⟨by rfl, ?_⟩) (by assumption) ?_
  rotate_left
  · intro w hSw; go_split_ands; go_simp; try with_reducible rfl
  simp only [Act.put, List.setIfInBounds_toArray, List.set_cons_zero, List.set_cons_succ, List.getElem_toArray, List.getElem_cons_zero]
  refine wpAnyH_take (i := 1) (v := ?_) rfl (by kernel_rfl) (by kernel_rfl) (by kernel_rfl) (fun _ _ _ h => h) (Or.inl ⟨by rfl, ?_⟩) (by assumption) ?_
  rotate_left
  · intro w hSw; go_split_ands; go_simp; try with_reducible rfl
  simp only [Act.put, List.setIfInBounds_toArray, List.set_cons_zero, List.set_cons_succ, List.getElem_toArray, List.getElem_cons_zero, List.getElem_cons_succ]
  refine wpAnyH_take (i := 2) (v := ?_) rfl (by kernel_rfl) (by kernel_rfl) (by kernel_rfl) (fun _ _ _ h => h) (Or.inl ⟨by rfl, ?_⟩) (by assumption) ?_
  rotate_left
  · intro w hSw; go_split_ands; go_simp; try with_reducible rfl
  simp only [Act.put, List.setIfInBounds_toArray, List.set_cons_zero, List.set_cons_succ, List.getElem_toArray, List.getElem_cons_zero, List.getElem_cons_succ]
  refine wpAnyH_take (i := 3) (v := ?_) rfl (by kernel_rfl) (by kernel_rfl) (by kernel_rfl) (fun _ _ _ h => h) (Or.inl ⟨by rfl, ?_⟩) (by assumption) ?_
  rotate_left
  · intro w hSw; go_split_ands; go_simp; try with_reducible rfl
  simp only [Act.put, List.setIfInBounds_toArray, List.set_cons_zero, List.set_cons_succ, List.getElem_toArray, List.getElem_cons_zero, List.getElem_cons_succ]
  refine wpAnyH_take (i := 4) (v := ?_) rfl (by kernel_rfl) (by kernel_rfl) (by kernel_rfl) (fun _ _ _ h => h) (Or.inl ⟨by rfl, ?_⟩) (by assumption) ?_
  rotate_left
  · intro w hSw; go_split_ands; go_simp; try with_reducible rfl
  simp only [Act.put, List.setIfInBounds_toArray, List.set_cons_zero, List.set_cons_succ, List.getElem_toArray, List.getElem_cons_zero, List.getElem_cons_succ]
  refine wpAnyH_take (i := 5) (v := ?_) rfl (by kernel_rfl) (by kernel_rfl) (by kernel_rfl) (fun _ _ _ h => h) (Or.inl ⟨by rfl, ?_⟩) (by assumption) ?_
  rotate_left
  · intro w hSw; go_split_ands; go_simp; try with_reducible rfl
  simp only [Act.put, List.setIfInBounds_toArray, List.set_cons_zero, List.set_cons_succ, List.getElem_toArray, List.getElem_cons_zero, List.getElem_cons_succ]
  refine wpAnyH_take (i := 6) (v := ?_) rfl (by kernel_rfl) (by kernel_rfl) (by kernel_rfl) (fun _ _ _ h => h) (Or.inl ⟨by rfl, ?_⟩) (by assumption) ?_
  rotate_left
  · intro w hSw; go_split_ands; go_simp; try with_reducible rfl
  simp only [Act.put, List.setIfInBounds_toArray, List.set_cons_zero, List.set_cons_succ, List.getElem_toArray, List.getElem_cons_zero, List.getElem_cons_succ]
  refine wpAnyH_take (i := 7) (v := ?_) rfl (by kernel_rfl) (by kernel_rfl) (by kernel_rfl) (fun _ _ _ h => h) (Or.inl ⟨by rfl, ?_⟩) (by assumption) ?_
  rotate_left
  · intro w hSw; go_split_ands; go_simp; try with_reducible rfl
  simp only [Act.put, List.setIfInBounds_toArray, List.set_cons_zero, List.set_cons_succ, List.getElem_toArray, List.getElem_cons_zero, List.getElem_cons_succ]
  refine wpAnyH_take (i := 8) (v := ?_) rfl (by kernel_rfl) (by kernel_rfl) (by kernel_rfl) (fun _ _ _ h => h) (Or.inl ⟨by rfl, ?_⟩) (by assumption) ?_
  rotate_left
  · intro w hSw; go_split_ands; go_simp; try with_reducible rfl
  simp only [Act.put, List.setIfInBounds_toArray, List.set_cons_zero, List.set_cons_succ, List.getElem_toArray, List.getElem_cons_zero, List.getElem_cons_succ]
  refine wpAnyH_take (i := 9) (v := ?_) rfl (by kernel_rfl) (by kernel_rfl) (by kernel_rfl) (fun _ _ _ h => h) (Or.inl ⟨by rfl, ?_⟩) (by assumption) ?_
  rotate_left
  · intro w hSw; go_split_ands; go_simp; try with_reducible rfl
  simp only [Act.put, List.setIfInBounds_toArray, List.set_cons_zero, List.set_cons_succ, List.getElem_toArray, List.getElem_cons_zero, List.getElem_cons_succ]
  refine wpAnyH_ready (rs := [10]) (by kernel_rfl) (by simp) ?_
  refine AllReadyH.cons rfl (fun K hK => ?_) AllReadyH.nil
  go_simp
  refine (KC.same (HA9.out.on (below_self w9).drew) (HC9.out.on (below_self w9).drew) HNE.out).mono ?_
  rintro e w' ⟨rfl, hb⟩
  have zb := below_on (below_self w9).drew hb
  refine hK.out _ _ ⟨(zb.cell (p := ⟨g, 0, none⟩) lt).trans b0, (zb.cell (p := ⟨g, 1, none⟩) lt).trans b1, (zb.cell (p := ⟨g, 2, none⟩) lt).trans b2, (zb.cell (p := ⟨g, 3, none⟩) lt).trans c3, (zb.cell (p := ⟨g, 4, none⟩) lt).trans c4, (zb.cell (p := ⟨r, 0, none⟩) rlt).trans r0, (zb.cell (p := ⟨r, 1, none⟩) rlt).trans r1, (zb.cell (p := ⟨r, 2, none⟩) rlt).trans r2, (zb.cell (p := ⟨r, 3, none⟩) rlt).trans r3, (zb.cell (p := ⟨r, 4, none⟩) rlt).trans r4, (zb.cell (p := ⟨p, 0, none⟩) plt).trans p0, (zb.cell (p := ⟨p, 1, none⟩) plt).trans p1, (zb.cell (p := ⟨p, 2, none⟩) plt).trans p2, (zb.cell (p := ⟨p, 3, none⟩) plt).trans p3, (zb.cell (p := ⟨p, 4, none⟩) plt).trans p4, (zb.cell (p := ⟨sb, sp + j * 5, none⟩) hsb9).trans s0, (zb.cell (p := ⟨sb, sp + j * 5 + 1, none⟩) hsb9).trans s1, (zb.cell (p := ⟨sb, sp + j * 5 + 2, none⟩) hsb9).trans s2, (zb.cell (p := ⟨sb, sp + j * 5 + 3, none⟩) hsb9).trans s3, (zb.cell (p := ⟨sb, sp + j * 5 + 4, none⟩) hsb9).trans s4, zb⟩ (fun hHeld => ?_)
  clear hK K
  try simp only [Act.put, List.setIfInBounds_toArray, List.set_cons_zero, List.set_cons_succ]
  refine wpAnyH_take (i := 11) (v := ?_) rfl (by kernel_rfl) (by kernel_rfl) (by kernel_rfl) (fun _ _ _ h => h) (Or.inl ⟨by rfl, ?_⟩) (by assumption) ?_
  rotate_left
  · intro w hSw; go_split_ands; go_simp; try with_reducible rfl
  simp only [Act.put, List.setIfInBounds_toArray, List.set_cons_zero, List.set_cons_succ, List.getElem_toArray, List.getElem_cons_zero, List.getElem_cons_succ]
  refine wpAnyH_take (i := 12) (v := ?_) rfl (by kernel_rfl) (by kernel_rfl) (by kernel_rfl) (fun _ _ _ h => h) (Or.inl ⟨by rfl, ?_⟩) (by assumption) ?_
  rotate_left
  · intro w hSw; go_split_ands; go_simp; try with_reducible rfl
  simp only [Act.put, List.setIfInBounds_toArray, List.set_cons_zero, List.set_cons_succ, List.getElem_toArray, List.getElem_cons_zero, List.getElem_cons_succ]
  refine wpAnyH_take (i := 13) (v := ?_) rfl (by kernel_rfl) (by kernel_rfl) (by kernel_rfl) (fun _ _ _ h => h) (Or.inl ⟨by rfl, ?_⟩) (by assumption) ?_
  rotate_left
  · intro w hSw; go_split_ands; go_simp; try with_reducible rfl
  simp only [Act.put, List.setIfInBounds_toArray, List.set_cons_zero, List.set_cons_succ, List.getElem_toArray, List.getElem_cons_zero, List.getElem_cons_succ]
  refine wpAnyH_done (by kernel_rfl) ?_ _
  go_wp2
  go_ret
  exact ⟨rfl, (HK9.out.on zb).x.old⟩
end Go.Proofs.Ytloemadjiombhaa
