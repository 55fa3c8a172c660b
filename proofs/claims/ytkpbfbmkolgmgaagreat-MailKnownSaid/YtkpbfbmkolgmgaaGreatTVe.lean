/-
  The walk of mail's handOn. Condition: the state and the call's ways lie in memory.
-/
import Derived.Test.YtkpbfbmkolgmgaaGreatTVb
namespace Go.Proofs.YtkpbfbmkolgmgaaGreat
open Go.RowKit
set_option linter.unusedSimpArgs false
set_option linter.unusedVariables false

set_option maxRecDepth 100000 in
set_option maxHeartbeats 16000000 in
theorem handon_is {s : St} {a b c : Int} {A C : Option Addr} {n ca m cc : Nat} {t o x y : Int} {PA PB : Option Addr} {na cpa nb cpb z : Nat} {la lb : List Int} {fr : Int} {r : Option St × Int} {w : World} (hS : StH w s a b c A n ca C m cc) (hnb : nb = lb.length) (hcpb : nb ≤ cpb) (hB : IntsAt w w.heap.size PB lb) (hfr : fr = 0 ∨ (∃ j : Nat, fr = (j : Int) + 1 ∧ j < s.sl.length)) (hr : mhand s t ⟨o, la, lb, x, y, z⟩ fr = r) :
    Calls Tryz.prog 140 #[.agg #[.int .i64 a, .int .i64 b, .int .i64 c, .slice A n ca, .slice C m cc], .int .i64 t, .agg #[.int .i64 o, .slice PA na cpa, .slice PB nb cpb, .int .i64 x, .int .i64 y, .int .u64 (z : Int)], .int .i64 fr] w fun e w' => AnsF w w' e a b c A n ca C m cc r := by
  obtain ⟨T, CK, R8⟩ := boxes3 w [.int .i64 a, .int .i64 b, .int .i64 c, .slice A n ca, .slice C m cc] [.int .i64 o, .slice PA na cpa, .slice PB nb cpb, .int .i64 x, .int .i64 y, .int .u64 (z : Int)] [.int .i64 0, .int .i64 0, .int .i64 0, .slice none 0 0, .slice none 0 0] 27 33 27
  obtain ⟨g5, hg5⟩ : ∃ g5, g5 = w.heap.size + 1 := ⟨_, rfl⟩
  obtain ⟨g6, hg6⟩ : ∃ g6, g6 = w.heap.size + 1 + 1 := ⟨_, rfl⟩
  have HNT : Hid (w.heap.size ≠ g6) := Lib.hid (by omega)
  have HSN := Lib.hid hS.hn
  have HSF := Lib.hid hS.few
  have HS := Lib.hid hS
  have HNB := Lib.hid hnb
  have HCPB := Lib.hid hcpb
  have HB := Lib.hid hB
  have HR := Lib.hid hr
  have HFR := Lib.hid hfr
  clear hS hnb hcpb hB hr hfr
  go_enter Tryz.func140, Tryz.ntmps140
  go_upto_region 1 with fail
  rw [← hg6] at R8 ⊢
  rw [← hg5] at CK ⊢
  clear hg5 hg6
  generalize ((w.alloc _).alloc _).alloc _ = w3 at T CK R8 ⊢
  replace T := Lib.hid T
  replace CK := Lib.hid CK
  replace R8 := Lib.hid R8
  by_cases h0 : fr = 0
  case pos =>
    have HX : Hid (r = (none, 0)) := Lib.hid (by rw [← HR.out, mhand]; exact if_pos (.inl h0))
    have h0' : (fr == 0) = true := by simpa using h0
    clear h0
    have t0 := T.out.bx.c 0 _ rfl
    have t1 := T.out.bx.c 1 _ rfl
    have t2 := T.out.bx.c 2 _ rfl
    have t3 := T.out.bx.c 3 _ rfl
    have t4 := T.out.bx.c 4 _ rfl
    have HT : Hid (w3.there g6 0 (#[.int .i64 a, .int .i64 b, .int .i64 c, .slice A n ca, .slice C m cc] : Array Value).size) := Lib.hid (R8.out.there (n := 5) rfl)
    have HO := Lib.hid (state_one a b c A n ca C m cc)
    have kq := R8.out.setCells (vs := [.int .i64 a, .int .i64 b, .int .i64 c, .slice A n ca, .slice C m cc]) rfl
    go_wp2_with ((with_reducible change wpList _ _ _ _ _ _); refine wpList_store_mid (by rfl) 27 (.tmp 8) (.tmp 19) (by rfl) g6 0 #[.int .i64 a, .int .i64 b, .int .i64 c, .slice A n ca, .slice C m cc] (by rfl) (by rfl) HT.out info_state HO.out ?_; change wpList _ _ _ _ _ (w3.setCells g6 0 [.int .i64 a, .int .i64 b, .int .i64 c, .slice A n ca, .slice C m cc]); generalize w3.setCells g6 0 _ = wq at kq ⊢)
    refine bodyPost_ret (results_ct rfl _ _ _ (b := g6) (by rfl) kq.bx.range Tryz.underlying27 rfl info_state) rfl ?_
    rw [HX.out]
    exact ⟨A, ca, C, cc, rfl, kq.bx.old, rfl, rfl, rfl, rfl⟩
  have h0' : (fr == 0) = false := by simpa using h0
  have H0 := Lib.hid h0
  clear h0
  obtain ⟨z0, hz0⟩ : ∃ z0, decide (0 < nb) = z0 := ⟨_, rfl⟩
  have k0 := CK.out.bx.c 0 _ rfl
  have k1 := CK.out.bx.c 1 _ rfl
  have k2 := CK.out.bx.c 2 _ rfl
  have k3 := CK.out.bx.c 3 _ rfl
  have k4 := CK.out.bx.c 4 _ rfl
  have k5 := CK.out.bx.c 5 _ rfl
  go_wp2_with fail
  refine (hasway_is hz0 w3).mono ?_
  rintro e w4 ⟨rfl, hb⟩
  replace T := Lib.hid (T.out.on hb)
  replace CK := Lib.hid (CK.out.on hb)
  replace R8 := Lib.hid (R8.out.on hb)
  clear hb k0 k1 k2 k3 k4 k5
  cases z0 with
  | false =>
    have HX : Hid (r = (none, 0)) := Lib.hid (by rw [← HR.out, mhand]; exact if_pos (.inr (List.eq_nil_of_length_eq_zero (by rw [decide_eq_false_iff_not] at hz0; have := HNB.out; simp only at this ⊢; omega))))
    clear hz0
    have t0 := T.out.bx.c 0 _ rfl
    have t1 := T.out.bx.c 1 _ rfl
    have t2 := T.out.bx.c 2 _ rfl
    have t3 := T.out.bx.c 3 _ rfl
    have t4 := T.out.bx.c 4 _ rfl
    have HT : Hid (w4.there g6 0 (#[.int .i64 a, .int .i64 b, .int .i64 c, .slice A n ca, .slice C m cc] : Array Value).size) := Lib.hid (R8.out.there (n := 5) rfl)
    have HO := Lib.hid (state_one a b c A n ca C m cc)
    have kq := R8.out.setCells (vs := [.int .i64 a, .int .i64 b, .int .i64 c, .slice A n ca, .slice C m cc]) rfl
    go_wp2_with ((with_reducible change wpList _ _ _ _ _ _); refine wpList_store_mid (by rfl) 27 (.tmp 8) (.tmp 19) (by rfl) g6 0 #[.int .i64 a, .int .i64 b, .int .i64 c, .slice A n ca, .slice C m cc] (by rfl) (by rfl) HT.out info_state HO.out ?_; change wpList _ _ _ _ _ (w4.setCells g6 0 [.int .i64 a, .int .i64 b, .int .i64 c, .slice A n ca, .slice C m cc]); generalize w4.setCells g6 0 _ = wq at kq ⊢)
    refine bodyPost_ret (results_ct rfl _ _ _ (b := g6) (by rfl) kq.bx.range Tryz.underlying27 rfl info_state) rfl ?_
    rw [HX.out]
    exact ⟨A, ca, C, cc, rfl, kq.bx.old, rfl, rfl, rfl, rfl⟩
  | true =>
    have hb0 : ¬ (fr = 0 ∨ lb = []) := fun q => q.elim H0.out (fun q => by rw [decide_eq_true_eq] at hz0; have := HNB.out; rw [q] at this; simp at this; omega)
    have HX1 : Hid (r = if (fempty s t lb).2 = 0 then gput s (fr - 1) (fempty s t lb).1 (slAt s.sl (fr - 1).toNat).c else (none, (fempty s t lb).2)) := Lib.hid (by rw [← HR.out, mhand]; exact if_neg hb0)
    clear hb0 hz0 HR
    obtain ⟨x3, e3, hfe⟩ : ∃ x3 e3, fempty s t lb = (x3, e3) := ⟨_, _, rfl⟩
    have HFE := Lib.hid hfe
    have q := HX1.out
    rw [hfe] at q
    simp only at q
    replace HX1 := Lib.hid q
    clear hfe q
    have t0 := T.out.bx.c 0 _ rfl
    have t1 := T.out.bx.c 1 _ rfl
    have t2 := T.out.bx.c 2 _ rfl
    have t3 := T.out.bx.c 3 _ rfl
    have t4 := T.out.bx.c 4 _ rfl
    have k2 := CK.out.bx.c 2 _ rfl
    go_wp2_with fail
    refine (empty_is (HS.out.on T.out.bx.old) HNB.out HCPB.out (HB.out.on T.out.bx.old) HFE.out).mono ?_
    rintro e w5 ⟨rfl, hb⟩
    replace T := Lib.hid (T.out.on hb)
    replace R8 := Lib.hid (R8.out.on hb)
    clear hb k2 CK
    clear t0 t1 t2 t3 t4
    go_upto_region 4 with fail
    by_cases h5 : e3 = 0
    case neg =>
      have HX := Lib.hid (HX1.out.trans (if_neg h5))
      have h5' : (e3 != 0) = true := by simpa using h5
      clear h5
      have t0 := T.out.bx.c 0 _ rfl
      have t1 := T.out.bx.c 1 _ rfl
      have t2 := T.out.bx.c 2 _ rfl
      have t3 := T.out.bx.c 3 _ rfl
      have t4 := T.out.bx.c 4 _ rfl
      have HT : Hid (w5.there g6 0 (#[.int .i64 a, .int .i64 b, .int .i64 c, .slice A n ca, .slice C m cc] : Array Value).size) := Lib.hid (R8.out.there (n := 5) rfl)
      have HO := Lib.hid (state_one a b c A n ca C m cc)
      have kq := R8.out.setCells (vs := [.int .i64 a, .int .i64 b, .int .i64 c, .slice A n ca, .slice C m cc]) rfl
      go_wp2_with ((with_reducible change wpList _ _ _ _ _ _); refine wpList_store_mid (by rfl) 27 (.tmp 8) (.tmp 30) (by rfl) g6 0 #[.int .i64 a, .int .i64 b, .int .i64 c, .slice A n ca, .slice C m cc] (by rfl) (by rfl) HT.out info_state HO.out ?_; change wpList _ _ _ _ _ (w5.setCells g6 0 [.int .i64 a, .int .i64 b, .int .i64 c, .slice A n ca, .slice C m cc]); generalize w5.setCells g6 0 _ = wq at kq ⊢)
      refine bodyPost_ret (results_ct rfl _ _ _ (b := g6) (by rfl) kq.bx.range Tryz.underlying27 rfl info_state) rfl ?_
      rw [HX.out]
      exact ⟨A, ca, C, cc, rfl, kq.bx.old, rfl, rfl, rfl, rfl⟩
    have h5' : (e3 != 0) = false := by simpa using h5
    obtain ⟨j, hj, hjl⟩ := HFR.out.resolve_left H0.out
    have hfj : fr - 1 = (j : Int) := by omega
    have q := HX1.out.trans (if_pos h5)
    rw [hfj, Int.toNat_natCast] at q
    subst h5
    obtain ⟨sb, sp, hA, hsb, hc⟩ := HS.out.lies.sl (Nat.lt_of_le_of_lt (Nat.zero_le _) hjl)
    subst hA
    obtain ⟨⟨⟨hy, hh, hri, hba⟩, hup⟩, hsl⟩ : ∃ x, slAt s.sl j = x := ⟨_, rfl⟩
    have hX := hc j hjl
    rw [hsl] at hX q
    simp only at q
    have HX := Lib.hid q.symm
    replace hX := hX.same (w' := w5) fun k => T.out.bx.old.cell (p := ⟨sb, k, none⟩) hsb
    have hsb5 := Nat.lt_of_lt_of_le hsb T.out.bx.old.size
    have HRG : Hid (∀ w', Below w5.heap.size w5 w' → w'.rangeAt sb (sp + j * 5) [.int .i64 hy, .int .i64 hh, .int .i64 hri, .int .i64 hba]) := Lib.hid (fun w' hb k u hk => by
      have h := orange_slC (hX.same (w' := w') fun k => hb.cell (p := ⟨sb, k, none⟩) hsb5)
      refine h k u ?_
      rcases k with _ | _ | _ | _ | k
      · exact hk
      · exact hk
      · exact hk
      · exact hk
      · cases hk)
    have hjn : (j : Int) < (n : Int) := by rw [HSN.out]; exact Int.ofNat_lt.2 hjl
    have hw : IntKind.i64.wrap (fr - 1) = (j : Int) := by rw [hfj]; exact wrap_in (by omega) (by have := HSF.out; omega)
    have HJN := Lib.hid hjn
    have HW := Lib.hid hw
    have HSB := Lib.hid hsb
    clear hsb hc hsl q HX1 hj hjl hfj h0' hX hsb5 hjn hw
    go_upto_region 6 with fail
    refine wp_region_held_drew (S := fun w' => Bxs w w' w.heap.size [.int .i64 a, .int .i64 b, .int .i64 c, .slice (some ⟨sb, sp, none⟩) n ca, .slice C m cc] ∧ Hid (w'.rangeAt sb (sp + j * 5) [.int .i64 hy, .int .i64 hh, .int .i64 hri, .int .i64 hba])) (by kernel_rfl) ⟨T.out.bx.drew, Lib.hid (HRG.out _ (below_self w5).drew)⟩ (fun hHeld => ?_)
    have HB5 := Lib.hid (below_self w5).drew
    replace T := Lib.hid (T.out.on HB5.out)
    replace R8 := Lib.hid (R8.out.on HB5.out)
    generalize w5.drew = v at T R8 HB5 hHeld ⊢
    refine wpAnyH_take (i := 0) (v := .agg #[.int .i64 a, .int .i64 b, .int .i64 c, .slice (some ⟨sb, sp, none⟩) n ca, .slice C m cc]) rfl (by kernel_rfl) (by kernel_rfl) (by kernel_rfl) (fun _ _ _ h => h) (yieldsIf_load_mid (by rfl) 27 (.tmp 4) (by rfl) w.heap.size 0 (by rfl) [.int .i64 a, .int .i64 b, .int .i64 c, .slice (some ⟨sb, sp, none⟩) n ca, .slice C m cc] _ (fun w hS => hS.1.range) Tryz.underlying27 rfl info_state) (by assumption) ?_
    try simp only [Act.put, List.setIfInBounds_toArray, List.set_cons_zero, List.set_cons_succ, List.getElem_toArray, List.getElem_cons_zero, List.getElem_cons_succ]
    refine wpAnyH_take (i := 1) (v := ?_) rfl (by kernel_rfl) (by kernel_rfl) (by kernel_rfl) (fun _ _ _ h => h) (Or.inl ⟨by rfl, ?_⟩) (by assumption) ?_
    rotate_left
    · intro w hSw; go_simp; try with_reducible rfl
    try simp only [Act.put, List.setIfInBounds_toArray, List.set_cons_zero, List.set_cons_succ, List.getElem_toArray, List.getElem_cons_zero, List.getElem_cons_succ]
    refine wpAnyH_take (i := 2) (v := ?_) rfl (by kernel_rfl) (by kernel_rfl) (by kernel_rfl) (fun _ _ _ h => h) (Or.inl ⟨by rfl, ?_⟩) (by assumption) ?_
    rotate_left
    · intro w hSw; have hx := HW.out; go_simp; try with_reducible rfl
    try simp only [Act.put, List.setIfInBounds_toArray, List.set_cons_zero, List.set_cons_succ, List.getElem_toArray, List.getElem_cons_zero, List.getElem_cons_succ]
    refine wpAnyH_take (i := 3) (v := ?_) rfl (by kernel_rfl) (by kernel_rfl) (by kernel_rfl) (fun _ _ _ h => h) (Or.inl ⟨by rfl, ?_⟩) (by assumption) ?_
    rotate_left
    · intro w hSw; go_simp; try with_reducible rfl
    try simp only [Act.put, List.setIfInBounds_toArray, List.set_cons_zero, List.set_cons_succ, List.getElem_toArray, List.getElem_cons_zero, List.getElem_cons_succ]
    refine wpAnyH_take (i := 4) (v := ?_) rfl (by kernel_rfl) (by kernel_rfl) (by kernel_rfl) (fun _ _ _ h => h) (Or.inl ⟨by rfl, ?_⟩) (by assumption) ?_
    rotate_left
    · intro w hSw; go_simp; try with_reducible rfl
    try simp only [Act.put, List.setIfInBounds_toArray, List.set_cons_zero, List.set_cons_succ, List.getElem_toArray, List.getElem_cons_zero, List.getElem_cons_succ]
    refine wpAnyH_take (i := 5) (v := ?_) rfl (by kernel_rfl) (by kernel_rfl) (by kernel_rfl) (fun _ _ _ h => h) (Or.inl ⟨by rfl, ?_⟩) (by assumption) ?_
    rotate_left
    · intro w hSw; have h3 := hSw.1.c 3 _ rfl; go_simp; try with_reducible rfl
    try simp only [Act.put, List.setIfInBounds_toArray, List.set_cons_zero, List.set_cons_succ, List.getElem_toArray, List.getElem_cons_zero, List.getElem_cons_succ]
    refine wpAnyH_take (i := 6) (v := ?_) rfl (by kernel_rfl) (by kernel_rfl) (by kernel_rfl) (fun _ _ _ h => h) (Or.inl ⟨by rfl, ?_⟩) (by assumption) ?_
    rotate_left
    · intro w hSw; go_simp; try with_reducible rfl
    try simp only [Act.put, List.setIfInBounds_toArray, List.set_cons_zero, List.set_cons_succ, List.getElem_toArray, List.getElem_cons_zero, List.getElem_cons_succ]
    refine wpAnyH_take (i := 7) (v := ?_) rfl (by kernel_rfl) (by kernel_rfl) (by kernel_rfl) (fun _ _ _ h => h) (Or.inl ⟨by rfl, ?_⟩) (by assumption) ?_
    rotate_left
    · intro w hSw; have hx := HW.out; go_simp; try with_reducible rfl
    try simp only [Act.put, List.setIfInBounds_toArray, List.set_cons_zero, List.set_cons_succ, List.getElem_toArray, List.getElem_cons_zero, List.getElem_cons_succ]
    refine wpAnyH_take (i := 8) (v := ?_) rfl (by kernel_rfl) (by kernel_rfl) (by kernel_rfl) (fun _ _ _ h => h) (Or.inl ⟨by rfl, ?_⟩) (by assumption) ?_
    rotate_left
    · intro w hSw; have hx := HJN.out; go_simp; try with_reducible rfl
    try simp only [Act.put, List.setIfInBounds_toArray, List.set_cons_zero, List.set_cons_succ, List.getElem_toArray, List.getElem_cons_zero, List.getElem_cons_succ]
    refine wpAnyH_take (i := 9) (v := ?_) rfl (by kernel_rfl) (by kernel_rfl) (by kernel_rfl) (fun _ _ _ h => h) (Or.inl ⟨by rfl, ?_⟩) (by assumption) ?_
    rotate_left
    · intro w hSw; go_simp; try with_reducible rfl
    try simp only [Act.put, List.setIfInBounds_toArray, List.set_cons_zero, List.set_cons_succ, List.getElem_toArray, List.getElem_cons_zero, List.getElem_cons_succ]
    refine wpAnyH_take (i := 10) (v := .agg #[.int .i64 hy, .int .i64 hh, .int .i64 hri, .int .i64 hba]) rfl (by kernel_rfl) (by kernel_rfl) (by kernel_rfl) (fun _ _ _ h => h) (yieldsIf_load_mid (by rfl) 62 (.tmp 41) (by rfl) sb (sp + j * 5) (by rfl) [.int .i64 hy, .int .i64 hh, .int .i64 hri, .int .i64 hba] _ (fun w hS => hS.2.out) Tryz.underlying62 rfl info_cap) (by assumption) ?_
    try simp only [Act.put, List.setIfInBounds_toArray, List.set_cons_zero, List.set_cons_succ, List.getElem_toArray, List.getElem_cons_zero, List.getElem_cons_succ]
    refine wpAnyH_ready (rs := [11]) (by kernel_rfl) (by simp) ?_
    refine AllReadyH.cons rfl (fun K hK => ?_) AllReadyH.nil
    go_simp
    refine (gput_is (HS.out.on T.out.bx.old) HX.out).mono ?_
    rintro e w10 ⟨A', ca', C', cc', rfl, hb, hm⟩
    have HMM := Lib.hid hm
    have HLT : Hid (g6 < v.heap.size ∧ w.heap.size ≤ v.heap.size) := Lib.hid ⟨R8.out.bx.lt, T.out.bx.old.size⟩
    replace T := Lib.hid (T.out.on hb)
    replace R8 := Lib.hid (R8.out.on hb)
    replace HB5 := Lib.hid (below_on HB5.out hb)
    clear hb hm
    refine hK.out _ _ ⟨T.out.bx, Lib.hid (HRG.out _ HB5.out)⟩ (fun hHeld => ?_)
    clear hK K
    try simp only [Act.put, List.setIfInBounds_toArray, List.set_cons_zero, List.set_cons_succ, List.getElem_toArray, List.getElem_cons_zero, List.getElem_cons_succ]
    refine wpAnyH_take (i := 12) (v := ?_) rfl (by kernel_rfl) (by kernel_rfl) (by kernel_rfl) (fun _ _ _ h => h) (Or.inl ⟨by rfl, ?_⟩) (by assumption) ?_
    rotate_left
    · intro w hSw; go_simp; try with_reducible rfl
    try simp only [Act.put, List.setIfInBounds_toArray, List.set_cons_zero, List.set_cons_succ, List.getElem_toArray, List.getElem_cons_zero, List.getElem_cons_succ]
    refine wpAnyH_take (i := 13) (v := ?_) rfl (by kernel_rfl) (by kernel_rfl) (by kernel_rfl) (fun _ _ _ h => h) (Or.inl ⟨by rfl, ?_⟩) (by assumption) ?_
    rotate_left
    · intro w hSw; go_simp; try with_reducible rfl
    try simp only [Act.put, List.setIfInBounds_toArray, List.set_cons_zero, List.set_cons_succ, List.getElem_toArray, List.getElem_cons_zero, List.getElem_cons_succ]
    refine wpAnyH_ready (rs := [14]) (by kernel_rfl) (by simp) ?_
    refine AllReadyH.cons rfl (fun K hK => ?_) AllReadyH.nil
    have HT := Lib.hid (R8.out.there (n := 5) rfl)
    have HO := Lib.hid (state_one a b c A' n ca' C' m cc')
    have kq := R8.out.setCells (vs := [.int .i64 a, .int .i64 b, .int .i64 c, .slice A' n ca', .slice C' m cc']) rfl
    have kt := T.out.fnd (Fnd.setCells g6 [.int .i64 a, .int .i64 b, .int .i64 c, .slice A' n ca', .slice C' m cc'] 0 w10) HNT.out kq.bx.old
    have ka := Fsh.ansm (a := a) (b := b) (c := c) HMM.out (Fnd.setCells g6 [.int .i64 a, .int .i64 b, .int .i64 c, .slice A' n ca', .slice C' m cc'] 0 w10) HLT.out.1 HLT.out.2 kq.bx.old
    have k5 := Lib.hid ((Fnd.setCells g6 [.int .i64 a, .int .i64 b, .int .i64 c, .slice A' n ca', .slice C' m cc'] 0 w10).range (Nat.lt_of_lt_of_le HSB.out T.out.bx.old.size) (show sb ≠ g6 by have := HSB.out; have := R8.out.bx.base; omega) (HRG.out _ HB5.out))
    refine step_store_mid (by rfl) 27 (.tmp 8) (.tmp 44) (by rfl) g6 0 #[.int .i64 a, .int .i64 b, .int .i64 c, .slice A' n ca', .slice C' m cc'] (by rfl) (by rfl) HT.out info_state HO.out ?_
    change K _ (w10.setCells g6 0 [.int .i64 a, .int .i64 b, .int .i64 c, .slice A' n ca', .slice C' m cc'])
    clear HT HO R8 T HB5
    generalize w10.setCells g6 0 [.int .i64 a, .int .i64 b, .int .i64 c, .slice A' n ca', .slice C' m cc'] = wq at kq kt ka k5 ⊢
    have KQ := Lib.hid kq
    have KA := Lib.hid ka
    refine hK.out _ _ ⟨kt.bx, k5⟩ (fun hHeld => ?_)
    clear kq kt ka k5
    clear hK K
    try simp only [Act.put, List.setIfInBounds_toArray, List.set_cons_zero, List.set_cons_succ, List.getElem_toArray, List.getElem_cons_zero, List.getElem_cons_succ]
    refine wpAnyH_take (i := 15) (v := ?_) rfl (by kernel_rfl) (by kernel_rfl) (by kernel_rfl) (fun _ _ _ h => h) (Or.inl ⟨by rfl, ?_⟩) (by assumption) ?_
    rotate_left
    · intro w hSw; go_simp; try with_reducible rfl
    try simp only [Act.put, List.setIfInBounds_toArray, List.set_cons_zero, List.set_cons_succ, List.getElem_toArray, List.getElem_cons_zero, List.getElem_cons_succ]
    refine wpAnyH_done (by kernel_rfl) ?_ _
    clear hHeld
    go_wp2_with fail
    refine bodyPost_ret (results_ct rfl _ _ _ (b := g6) (by rfl) KQ.out.bx.range Tryz.underlying27 rfl info_state) rfl ?_
    exact KA.out
end Go.Proofs.YtkpbfbmkolgmgaaGreat
