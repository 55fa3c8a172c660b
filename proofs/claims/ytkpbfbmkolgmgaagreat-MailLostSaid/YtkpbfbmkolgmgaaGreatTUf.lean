/-
  The walk of take's Do. Condition: the state and the call's ways lie in memory.
-/
import Derived.Test.YtkpbfbmkolgmgaaGreatTUe
namespace Go.Proofs.YtkpbfbmkolgmgaaGreat
open Go.RowKit
set_option linter.unusedSimpArgs false
set_option linter.unusedVariables false

theorem tslots_len {s : St} (G : Gst s) (k op : Int) : (tslots s k op).length ≤ 1000000 := by
  have h := G.few.1
  unfold tslots
  by_cases e : op = 6
  · rw [if_pos e, fbelow]
    by_cases q : there (upsOf s.sl) k = true
    · rw [if_pos q, toInts_length]
      have := List.length_filter_le (fun j => (above (upsOf s.sl) j).contains k.toNat) (List.range (upsOf s.sl).length)
      rw [List.length_range, upsOf_length] at this
      show (belowN (upsOf s.sl) k.toNat).length ≤ _
      rw [belowN, upsOf_length]
      omega
    · rw [if_neg q]
      decide
  · rw [if_neg e]
    show 1 ≤ 1000000
    omega
set_option maxRecDepth 100000 in
set_option maxHeartbeats 4000000 in
theorem tdo_is {s : St} {a b c : Int} {A C : Option Addr} {n ca m cc : Nat} {t o x y : Int} {PA PB : Option Addr} {na cpa nb cpb z : Nat} {la lb : List Int} {r : Option St × Rep} {w : World} (hS : StH w s a b c A n ca C m cc)
    (hna : na = la.length) (hcpa : na ≤ cpa) (hA : IntsAt w w.heap.size PA la) (hnb : nb = lb.length) (hcpb : nb ≤ cpb) (hB : IntsAt w w.heap.size PB lb) (hr : tdo s t ⟨o, la, lb, x, y, z⟩ = r) :
    Calls Tryz.prog 33 #[.agg #[.int .i64 a, .int .i64 b, .int .i64 c, .slice A n ca, .slice C m cc], .int .i64 t, .agg #[.int .i64 o, .slice PA na cpa, .slice PB nb cpb, .int .i64 x, .int .i64 y, .int .u64 (z : Int)]] w fun e w' => DoF w w' e a b c A n ca C m cc r := by
  obtain ⟨T, CK, R6, R7⟩ := boxes4 w [.int .i64 a, .int .i64 b, .int .i64 c, .slice A n ca, .slice C m cc] [.int .i64 o, .slice PA na cpa, .slice PB nb cpb, .int .i64 x, .int .i64 y, .int .u64 (z : Int)] [.int .i64 0, .int .i64 0, .int .i64 0, .slice none 0 0, .slice none 0 0] [.int .i64 0, .int .u64 0, .int .i64 0] 27 33 27 40
  obtain ⟨g5, hg5⟩ : ∃ g5, g5 = w.heap.size + 1 := ⟨_, rfl⟩
  obtain ⟨g6, hg6⟩ : ∃ g6, g6 = w.heap.size + 1 + 1 := ⟨_, rfl⟩
  obtain ⟨g7, hg7⟩ : ∃ g7, g7 = w.heap.size + 1 + 1 + 1 := ⟨_, rfl⟩
  have HNE : Hid (w.heap.size ≠ g6 ∧ w.heap.size ≠ g7 ∧ g5 ≠ g6 ∧ g5 ≠ g7 ∧ g6 ≠ g7) := Lib.hid (by omega)
  obtain ⟨gd, hgd⟩ : ∃ gd, cgood ⟨o, la, lb, x, y, z⟩ = gd := ⟨_, rfl⟩
  have HS := Lib.hid hS
  have HNA := Lib.hid hna
  have HNB := Lib.hid hnb
  have HCPA := Lib.hid hcpa
  have HCPB := Lib.hid hcpb
  have HA := Lib.hid hA
  have HB := Lib.hid hB
  have HR := Lib.hid hr
  have HCG := Lib.hid hgd
  clear hS hna hnb hcpa hcpb hA hB hr hgd
  go_enter Tryz.func33, Tryz.ntmps33
  go_upto_region 1 with fail
  rw [← hg7] at R7 ⊢
  rw [← hg6] at R6 ⊢
  rw [← hg5] at CK ⊢
  clear hg5 hg6 hg7
  generalize (((w.alloc _).alloc _).alloc _).alloc _ = w4 at T CK R6 R7 ⊢
  replace T := Lib.hid T
  replace CK := Lib.hid CK
  replace R6 := Lib.hid R6
  replace R7 := Lib.hid R7
  have t0 := T.out.bx.c 0 _ rfl
  have t1 := T.out.bx.c 1 _ rfl
  have t2 := T.out.bx.c 2 _ rfl
  have t3 := T.out.bx.c 3 _ rfl
  have t4 := T.out.bx.c 4 _ rfl
  have k0 := CK.out.bx.c 0 _ rfl
  have k1 := CK.out.bx.c 1 _ rfl
  have k2 := CK.out.bx.c 2 _ rfl
  have k3 := CK.out.bx.c 3 _ rfl
  have k4 := CK.out.bx.c 4 _ rfl
  have k5 := CK.out.bx.c 5 _ rfl
  by_cases h5 : o = 5
  · subst h5
    go_wp2_with fail
    refine (clcgood_at HNA.out (HA.out.on T.out.bx.old) HNB.out (HB.out.on T.out.bx.old) HCG.out).mono ?_
    rintro e w5 ⟨rfl, hb⟩
    replace T := Lib.hid (T.out.on hb)
    replace CK := Lib.hid (CK.out.on hb)
    replace R6 := Lib.hid (R6.out.on hb)
    replace R7 := Lib.hid (R7.out.on hb)
    clear hb
    clear t0 t1 t2 t3 t4 k0 k1 k2 k3 k4 k5
    rcases gd with _ | _
    · have HRES : Hid (r = (none, ⟨1, 0, 0⟩)) := Lib.hid (by rw [← HR.out, tdo, if_neg (by rw [HCG.out]; simp)])
      have t0 := T.out.bx.c 0 _ rfl
      have t1 := T.out.bx.c 1 _ rfl
      have t2 := T.out.bx.c 2 _ rfl
      have t3 := T.out.bx.c 3 _ rfl
      have t4 := T.out.bx.c 4 _ rfl
      have HT6 : Hid (w5.there g6 0 (#[.int .i64 a, .int .i64 b, .int .i64 c, .slice A n ca, .slice C m cc] : Array Value).size) := Lib.hid (R6.out.there (n := 5) rfl)
      have HO6 := Lib.hid (state_one a b c A n ca C m cc)
      have Q6 := Lib.hid (R6.out.setCells (vs := [.int .i64 a, .int .i64 b, .int .i64 c, .slice A n ca, .slice C m cc]) rfl)
      have Q7 := Lib.hid (R7.out.fnd (Fnd.setCells g6 [.int .i64 a, .int .i64 b, .int .i64 c, .slice A n ca, .slice C m cc] 0 w5) HNE.out.2.2.2.2.symm Q6.out.bx.old)
      clear R6 R7
      go_wp2_with (first
        | ((with_reducible change wpList _ _ _ _ _ _); refine wpList_store_mid (by rfl) 27 (.tmp 6) (.tmp 26) (by rfl) g6 0 #[.int .i64 a, .int .i64 b, .int .i64 c, .slice A n ca, .slice C m cc] (by rfl) (by rfl) HT6.out info_state HO6.out ?_; change wpList _ _ _ _ _ (w5.setCells g6 0 [.int .i64 a, .int .i64 b, .int .i64 c, .slice A n ca, .slice C m cc]); generalize w5.setCells g6 0 [.int .i64 a, .int .i64 b, .int .i64 c, .slice A n ca, .slice C m cc] = wq at Q6 Q7 ⊢; have HT7 : Hid (wq.there g7 0 (#[.int .i64 1, .int .u64 0, .int .i64 0] : Array Value).size) := Lib.hid (Q7.out.there (n := 3) rfl); have HO7 := Lib.hid (reply_one 1 0 0); have Q8 := Lib.hid (Q7.out.setCells (vs := [.int .i64 1, .int .u64 0, .int .i64 0]) rfl); have Q9 := Lib.hid (Q6.out.fnd (Fnd.setCells g7 [.int .i64 1, .int .u64 0, .int .i64 0] 0 wq) HNE.out.2.2.2.2 Q8.out.bx.old))
        | ((with_reducible change wpList _ _ _ _ _ _); refine wpList_store_mid (by rfl) 40 (.tmp 7) (.tmp 27) (by rfl) g7 0 #[.int .i64 1, .int .u64 0, .int .i64 0] (by rfl) (by rfl) HT7.out info_reply HO7.out ?_; change wpList _ _ _ _ _ (wq.setCells g7 0 [.int .i64 1, .int .u64 0, .int .i64 0]); generalize wq.setCells g7 0 [.int .i64 1, .int .u64 0, .int .i64 0] = wz at Q8 Q9 ⊢))
      refine bodyPost_ret (results_cc rfl _ _ _ (b := g6) (b' := g7) (by rfl) Q9.out.bx.range Tryz.underlying27 rfl info_state (by rfl) Q8.out.bx.range Tryz.underlying40 rfl info_reply) rfl ?_
      rw [HRES.out]
      exact ⟨A, ca, C, cc, rfl, Q8.out.bx.old, rfl, rfl, rfl, rfl⟩
    · obtain ⟨⟨X0, cpp, e0⟩, hfc⟩ : ∃ q, fcap s t la = q := ⟨_, rfl⟩
      have HFC := Lib.hid hfc
      clear hfc
      have t0 := T.out.bx.c 0 _ rfl
      have t1 := T.out.bx.c 1 _ rfl
      have t2 := T.out.bx.c 2 _ rfl
      have t3 := T.out.bx.c 3 _ rfl
      have t4 := T.out.bx.c 4 _ rfl
      have k1 := CK.out.bx.c 1 _ rfl
      go_wp2_with fail
      refine (fcap_is (HS.out.on T.out.bx.old) HNA.out HCPA.out (HA.out.on T.out.bx.old) HFC.out).mono ?_
      rintro e w6 ⟨rfl, hb⟩
      replace T := Lib.hid (T.out.on hb)
      replace CK := Lib.hid (CK.out.on hb)
      replace R6 := Lib.hid (R6.out.on hb)
      replace R7 := Lib.hid (R7.out.on hb)
      clear hb
      clear t0 t1 t2 t3 t4 k1
      obtain ⟨hy, hh, hri, hba⟩ := cpp
      simp only [Cp.val]
      go_upto_region 4 with fail
      have hb := below_alloc w6 (.cells #[.int .i64 hy, .int .i64 hh, .int .i64 hri, .int .i64 hba] 62)
      replace T := Lib.hid (T.out.on hb)
      replace CK := Lib.hid (CK.out.on hb)
      replace R6 := Lib.hid (R6.out.on hb)
      replace R7 := Lib.hid (R7.out.on hb)
      clear hb
      generalize w6.alloc _ = w7 at T CK R6 R7 ⊢
      by_cases he : e0 = 0
      case neg =>
        have he' : (e0 != 0) = true := by simpa using he
        have HRES : Hid (r = (none, ⟨e0, 0, 0⟩)) := Lib.hid (by rw [← HR.out, tdo, if_pos ⟨.inl rfl, HCG.out⟩]; simp only [HFC.out]; rw [if_neg he])
        clear he
        have t0 := T.out.bx.c 0 _ rfl
        have t1 := T.out.bx.c 1 _ rfl
        have t2 := T.out.bx.c 2 _ rfl
        have t3 := T.out.bx.c 3 _ rfl
        have t4 := T.out.bx.c 4 _ rfl
        have HT6 : Hid (w7.there g6 0 (#[.int .i64 a, .int .i64 b, .int .i64 c, .slice A n ca, .slice C m cc] : Array Value).size) := Lib.hid (R6.out.there (n := 5) rfl)
        have HO6 := Lib.hid (state_one a b c A n ca C m cc)
        have Q6 := Lib.hid (R6.out.setCells (vs := [.int .i64 a, .int .i64 b, .int .i64 c, .slice A n ca, .slice C m cc]) rfl)
        have Q7 := Lib.hid (R7.out.fnd (Fnd.setCells g6 [.int .i64 a, .int .i64 b, .int .i64 c, .slice A n ca, .slice C m cc] 0 w7) HNE.out.2.2.2.2.symm Q6.out.bx.old)
        clear R6 R7
        go_wp2_with (first
          | ((with_reducible change wpList _ _ _ _ _ _); refine wpList_store_mid (by rfl) 27 (.tmp 6) (.tmp 39) (by rfl) g6 0 #[.int .i64 a, .int .i64 b, .int .i64 c, .slice A n ca, .slice C m cc] (by rfl) (by rfl) HT6.out info_state HO6.out ?_; change wpList _ _ _ _ _ (w7.setCells g6 0 [.int .i64 a, .int .i64 b, .int .i64 c, .slice A n ca, .slice C m cc]); generalize w7.setCells g6 0 [.int .i64 a, .int .i64 b, .int .i64 c, .slice A n ca, .slice C m cc] = wq at Q6 Q7 ⊢; have HT7 : Hid (wq.there g7 0 (#[.int .i64 e0, .int .u64 0, .int .i64 0] : Array Value).size) := Lib.hid (Q7.out.there (n := 3) rfl); have HO7 := Lib.hid (reply_one e0 0 0); have Q8 := Lib.hid (Q7.out.setCells (vs := [.int .i64 e0, .int .u64 0, .int .i64 0]) rfl); have Q9 := Lib.hid (Q6.out.fnd (Fnd.setCells g7 [.int .i64 e0, .int .u64 0, .int .i64 0] 0 wq) HNE.out.2.2.2.2 Q8.out.bx.old))
          | ((with_reducible change wpList _ _ _ _ _ _); refine wpList_store_mid (by rfl) 40 (.tmp 7) (.tmp 41) (by rfl) g7 0 #[.int .i64 e0, .int .u64 0, .int .i64 0] (by rfl) (by rfl) HT7.out info_reply HO7.out ?_; change wpList _ _ _ _ _ (wq.setCells g7 0 [.int .i64 e0, .int .u64 0, .int .i64 0]); generalize wq.setCells g7 0 [.int .i64 e0, .int .u64 0, .int .i64 0] = wz at Q8 Q9 ⊢))
        refine bodyPost_ret (results_cc rfl _ _ _ (b := g6) (b' := g7) (by rfl) Q9.out.bx.range Tryz.underlying27 rfl info_state (by rfl) Q8.out.bx.range Tryz.underlying40 rfl info_reply) rfl ?_
        rw [HRES.out]
        exact ⟨A, ca, C, cc, rfl, Q8.out.bx.old, rfl, rfl, rfl, rfl⟩
      subst he
      obtain ⟨kk, rfl, hkk, hgd, -, -⟩ := fcap_yes HFC.out
      have HGD := Lib.hid hgd
      have HRES : Hid (r = (some (empAll s (tslots s (kk : Int) 5)).1, ⟨0, 0, (empAll s (tslots s (kk : Int) 5)).2⟩)) := Lib.hid (by rw [← HR.out, tdo, if_pos ⟨.inl rfl, HCG.out⟩]; simp only [HFC.out, if_true])
      have HLEN : Hid ((tslots s (kk : Int) 5).length ≤ 1000000) := Lib.hid (tslots_len (sgood_iff.1 hgd) _ _)
      clear hkk hgd
      go_upto_region 6 with fail
      refine wp_region_held_drew (S := fun w' => Bxs w w' w.heap.size [.int .i64 a, .int .i64 b, .int .i64 c, .slice A n ca, .slice C m cc] ∧ Bxs w w' g5 [.int .i64 5, .slice PA na cpa, .slice PB nb cpb, .int .i64 x, .int .i64 y, .int .u64 (z : Int)]) (by kernel_rfl) ⟨T.out.bx.drew, CK.out.bx.drew⟩ (fun hHeld => ?_)
      have hb := (below_self w7).drew
      replace T := Lib.hid (T.out.on hb)
      replace CK := Lib.hid (CK.out.on hb)
      replace R6 := Lib.hid (R6.out.on hb)
      replace R7 := Lib.hid (R7.out.on hb)
      clear hb
      generalize w7.drew = v0 at T CK R6 R7 hHeld ⊢
      refine wpAnyH_take (i := 0) (v := .agg #[.int .i64 a, .int .i64 b, .int .i64 c, .slice A n ca, .slice C m cc]) rfl (by kernel_rfl) (by kernel_rfl) (by kernel_rfl) (fun _ _ _ h => h) (yieldsIf_load_mid (by rfl) 27 (.tmp 3) (by rfl) w.heap.size 0 (by rfl) [.int .i64 a, .int .i64 b, .int .i64 c, .slice A n ca, .slice C m cc] _ (fun w hS => hS.1.range) Tryz.underlying27 rfl info_state) (by assumption) ?_
      try simp only [Act.put, List.setIfInBounds_toArray, List.set_cons_zero, List.set_cons_succ, List.getElem_toArray, List.getElem_cons_zero, List.getElem_cons_succ]
      refine wpAnyH_take (i := 1) (v := .agg #[.int .i64 a, .int .i64 b, .int .i64 c, .slice A n ca, .slice C m cc]) rfl (by kernel_rfl) (by kernel_rfl) (by kernel_rfl) (fun _ _ _ h => h) (yieldsIf_load_mid (by rfl) 27 (.tmp 3) (by rfl) w.heap.size 0 (by rfl) [.int .i64 a, .int .i64 b, .int .i64 c, .slice A n ca, .slice C m cc] _ (fun w hS => hS.1.range) Tryz.underlying27 rfl info_state) (by assumption) ?_
      try simp only [Act.put, List.setIfInBounds_toArray, List.set_cons_zero, List.set_cons_succ, List.getElem_toArray, List.getElem_cons_zero, List.getElem_cons_succ]
      refine wpAnyH_take (i := 2) (v := ?_) rfl (by kernel_rfl) (by kernel_rfl) (by kernel_rfl) (fun _ _ _ h => h) (Or.inl ⟨by rfl, ?_⟩) (by assumption) ?_
      rotate_left
      · intro w hSw; go_simp; try with_reducible rfl
      try simp only [Act.put, List.setIfInBounds_toArray, List.set_cons_zero, List.set_cons_succ, List.getElem_toArray, List.getElem_cons_zero, List.getElem_cons_succ]
      refine wpAnyH_take (i := 3) (v := ?_) rfl (by kernel_rfl) (by kernel_rfl) (by kernel_rfl) (fun _ _ _ h => h) (Or.inl ⟨by rfl, ?_⟩) (by assumption) ?_
      rotate_left
      · intro w hSw; go_simp; try with_reducible rfl
      try simp only [Act.put, List.setIfInBounds_toArray, List.set_cons_zero, List.set_cons_succ, List.getElem_toArray, List.getElem_cons_zero, List.getElem_cons_succ]
      refine wpAnyH_take (i := 4) (v := ?_) rfl (by kernel_rfl) (by kernel_rfl) (by kernel_rfl) (fun _ _ _ h => h) (Or.inl ⟨by rfl, ?_⟩) (by assumption) ?_
      rotate_left
      · intro w hSw; have h0 := hSw.2.c 0 _ rfl; go_simp; try with_reducible rfl
      try simp only [Act.put, List.setIfInBounds_toArray, List.set_cons_zero, List.set_cons_succ, List.getElem_toArray, List.getElem_cons_zero, List.getElem_cons_succ]
      refine wpAnyH_ready (rs := [5, 10]) (by kernel_rfl) (by simp) ?_
      refine AllReadyH.cons rfl (fun K hK => ?_) (AllReadyH.cons rfl (fun K hK => ?_) AllReadyH.nil)
      · go_simp
        refine (toempty_is (HS.out.on T.out.bx.old) rfl).mono ?_
        rintro e v1 ⟨D, cd, rfl, hcd, hD, hb⟩
        have HD := Lib.hid hD
        have HCD := Lib.hid hcd
        clear hcd hD
        replace T := Lib.hid (T.out.on hb)
        replace CK := Lib.hid (CK.out.on hb)
        replace R6 := Lib.hid (R6.out.on hb)
        replace R7 := Lib.hid (R7.out.on hb)
        clear hb
        refine hK.out _ _ ⟨T.out.bx, CK.out.bx⟩ (fun hHeld => ?_)
        clear hK K
        try simp only [Act.put, List.setIfInBounds_toArray, List.set_cons_zero, List.set_cons_succ, List.getElem_toArray, List.getElem_cons_zero, List.getElem_cons_succ]
        refine wpAnyH_ready (rs := [6, 10]) (by kernel_rfl) (by simp) ?_
        refine AllReadyH.cons rfl (fun K hK => ?_) (AllReadyH.cons rfl (fun K hK => ?_) AllReadyH.nil)
        · go_simp
          refine (tempty_is (HS.out.on T.out.bx.old) HGD.out rfl HCD.out HLEN.out HD.out).mono ?_
          rintro e v2 ⟨P, cp, Q, cq, rfl, hcp, hcq, hO⟩
          have HCP := Lib.hid hcp
          have HCQ := Lib.hid hcq
          have NPQ : Hid (g6 ≠ P ∧ g6 ≠ Q ∧ g7 ≠ P ∧ g7 ≠ Q) := Lib.hid ⟨by have := hO.oP; have := R6.out.bx.lt; omega, by have := hO.oQ; have := R6.out.bx.lt; omega, by have := hO.oP; have := R7.out.bx.lt; omega, by have := hO.oQ; have := R7.out.bx.lt; omega⟩
          have hb := hO.old
          have O := Lib.hid (hO.base T.out.bx.old)
          clear hcp hcq hO
          replace T := Lib.hid (T.out.on hb)
          replace CK := Lib.hid (CK.out.on hb)
          replace R6 := Lib.hid (R6.out.on hb)
          replace R7 := Lib.hid (R7.out.on hb)
          clear hb
          refine hK.out _ _ ⟨T.out.bx, CK.out.bx⟩ (fun hHeld => ?_)
          clear hK K
          try simp only [Act.put, List.setIfInBounds_toArray, List.set_cons_zero, List.set_cons_succ, List.getElem_toArray, List.getElem_cons_zero, List.getElem_cons_succ]
          refine wpAnyH_take (i := 7) (v := ?_) rfl (by kernel_rfl) (by kernel_rfl) (by kernel_rfl) (fun _ _ _ h => h) (Or.inl ⟨by rfl, ?_⟩) (by assumption) ?_
          rotate_left
          · intro w hSw; go_simp; try with_reducible rfl
          try simp only [Act.put, List.setIfInBounds_toArray, List.set_cons_zero, List.set_cons_succ, List.getElem_toArray, List.getElem_cons_zero, List.getElem_cons_succ]
          refine wpAnyH_take (i := 8) (v := ?_) rfl (by kernel_rfl) (by kernel_rfl) (by kernel_rfl) (fun _ _ _ h => h) (Or.inl ⟨by rfl, ?_⟩) (by assumption) ?_
          rotate_left
          · intro w hSw; go_simp; try with_reducible rfl
          try simp only [Act.put, List.setIfInBounds_toArray, List.set_cons_zero, List.set_cons_succ, List.getElem_toArray, List.getElem_cons_zero, List.getElem_cons_succ]
          refine wpAnyH_take (i := 9) (v := ?_) rfl (by kernel_rfl) (by kernel_rfl) (by kernel_rfl) (fun _ _ _ h => h) (Or.inl ⟨by rfl, ?_⟩) (by assumption) ?_
          rotate_left
          · intro w hSw; go_simp; try with_reducible rfl
          try simp only [Act.put, List.setIfInBounds_toArray, List.set_cons_zero, List.set_cons_succ, List.getElem_toArray, List.getElem_cons_zero, List.getElem_cons_succ]
          refine wpAnyH_ready (rs := [10]) (by kernel_rfl) (by simp) ?_
          refine AllReadyH.cons rfl (fun K hK => ?_) AllReadyH.nil
          have hR := Wbs.more T.out.bx.old [.int .i64 0, .int .i64 0, .int .i64 0, .slice none 0 0, .slice none 0 0] 27
          have hb := below_alloc v2 (.cells #[.int .i64 0, .int .i64 0, .int .i64 0, .slice none 0 0, .slice none 0 0] 27)
          go_simp
          obtain ⟨g11, hx⟩ : ∃ x, x = v2.heap.size := ⟨_, rfl⟩
          have NE11 : Hid (w.heap.size ≠ g11 ∧ g5 ≠ g11 ∧ g6 ≠ g11 ∧ g7 ≠ g11) := Lib.hid ⟨by have := T.out.bx.lt; omega, by have := CK.out.bx.lt; omega, by have := R6.out.bx.lt; omega, by have := R7.out.bx.lt; omega⟩
          have NX : Hid (g11 ≠ P ∧ g11 ≠ Q) := Lib.hid ⟨by have := O.out.lP; omega, by have := O.out.lQ; omega⟩
          rw [← hx] at hR ⊢
          have hR2 : Wbs w (v2.alloc (.cells #[.int .i64 0, .int .i64 0, .int .i64 0, .slice none 0 0, .slice none 0 0] 27)) g11 [.int .i64 0, .int .i64 0, .int .i64 0, .slice none 0 0, .slice none 0 0] := hR
          generalize v2.alloc (.cells #[.int .i64 0, .int .i64 0, .int .i64 0, .slice none 0 0, .slice none 0 0] 27) = v3 at hR2 hb ⊢
          clear hR hx
          have N := Lib.hid hR2
          clear hR2
          replace T := Lib.hid (T.out.on hb)
          replace CK := Lib.hid (CK.out.on hb)
          replace R6 := Lib.hid (R6.out.on hb)
          replace R7 := Lib.hid (R7.out.on hb)
          replace O := Lib.hid (O.out.on hb)
          clear hb
          refine hK.out _ _ ⟨T.out.bx, CK.out.bx⟩ (fun hHeld => ?_)
          clear hK K
          try simp only [Act.put, List.setIfInBounds_toArray, List.set_cons_zero, List.set_cons_succ, List.getElem_toArray, List.getElem_cons_zero, List.getElem_cons_succ]
          refine wpAnyH_ready (rs := [11]) (by kernel_rfl) (by simp) ?_
          refine AllReadyH.cons rfl (fun K hK => ?_) AllReadyH.nil
          have HT11 : Hid (v3.there g11 0 (#[.int .i64 a, .int .i64 b, .int .i64 c, .slice (some ⟨P, 0, none⟩) n cp, .slice (some ⟨Q, 0, none⟩) m cq] : Array Value).size) := Lib.hid (N.out.there (n := 5) rfl)
          have HO11 := Lib.hid (state_one a b c (some ⟨P, 0, none⟩) n cp (some ⟨Q, 0, none⟩) m cq)
          replace N := Lib.hid (N.out.setCells (vs := [.int .i64 a, .int .i64 b, .int .i64 c, .slice (some ⟨P, 0, none⟩) n cp, .slice (some ⟨Q, 0, none⟩) m cq]) rfl)
          have fq := Fnd.setCells g11 [.int .i64 a, .int .i64 b, .int .i64 c, .slice (some ⟨P, 0, none⟩) n cp, .slice (some ⟨Q, 0, none⟩) m cq] 0 v3
          replace T := Lib.hid (T.out.fnd fq NE11.out.1 N.out.bx.old)
          replace CK := Lib.hid (CK.out.fnd fq NE11.out.2.1 N.out.bx.old)
          replace R6 := Lib.hid (R6.out.fnd fq NE11.out.2.2.1 N.out.bx.old)
          replace R7 := Lib.hid (R7.out.fnd fq NE11.out.2.2.2 N.out.bx.old)
          replace O := Lib.hid (O.out.step fq NX.out.1.symm NX.out.2.symm N.out.bx.old)
          clear fq
          refine step_store_mid (by rfl) 27 (.tmp 11) (.tmp 50) (by rfl) g11 0 #[.int .i64 a, .int .i64 b, .int .i64 c, .slice (some ⟨P, 0, none⟩) n cp, .slice (some ⟨Q, 0, none⟩) m cq] (by rfl) (by rfl) HT11.out info_state HO11.out ?_
          change K _ (v3.setCells g11 0 [.int .i64 a, .int .i64 b, .int .i64 c, .slice (some ⟨P, 0, none⟩) n cp, .slice (some ⟨Q, 0, none⟩) m cq])
          clear HT11
          generalize v3.setCells g11 0 [.int .i64 a, .int .i64 b, .int .i64 c, .slice (some ⟨P, 0, none⟩) n cp, .slice (some ⟨Q, 0, none⟩) m cq] = v4 at T CK R6 R7 N O ⊢
          refine hK.out _ _ ⟨T.out.bx, CK.out.bx⟩ (fun hHeld => ?_)
          clear hK K
          try simp only [Act.put, List.setIfInBounds_toArray, List.set_cons_zero, List.set_cons_succ, List.getElem_toArray, List.getElem_cons_zero, List.getElem_cons_succ]
          refine wpAnyH_take (i := 12) (v := ?_) rfl (by kernel_rfl) (by kernel_rfl) (by kernel_rfl) (fun _ _ _ h => h) (Or.inl ⟨by rfl, ?_⟩) (by assumption) ?_
          rotate_left
          · intro w hSw; go_simp; try with_reducible rfl
          try simp only [Act.put, List.setIfInBounds_toArray, List.set_cons_zero, List.set_cons_succ, List.getElem_toArray, List.getElem_cons_zero, List.getElem_cons_succ]
          refine wpAnyH_done (by kernel_rfl) ?_ _
          clear hHeld
          have n0 := N.out.bx.c 0 _ rfl
          have n1 := N.out.bx.c 1 _ rfl
          have n2 := N.out.bx.c 2 _ rfl
          have n3 := N.out.bx.c 3 _ rfl
          have n4 := N.out.bx.c 4 _ rfl
          have HT6 : Hid (v4.there g6 0 (#[.int .i64 a, .int .i64 b, .int .i64 c, .slice (some ⟨P, 0, none⟩) n cp, .slice (some ⟨Q, 0, none⟩) m cq] : Array Value).size) := Lib.hid (R6.out.there (n := 5) rfl)
          have HO6 := Lib.hid (state_one a b c (some ⟨P, 0, none⟩) n cp (some ⟨Q, 0, none⟩) m cq)
          have Q6 := Lib.hid (R6.out.setCells (vs := [.int .i64 a, .int .i64 b, .int .i64 c, .slice (some ⟨P, 0, none⟩) n cp, .slice (some ⟨Q, 0, none⟩) m cq]) rfl)
          have Q7 := Lib.hid (R7.out.fnd (Fnd.setCells g6 [.int .i64 a, .int .i64 b, .int .i64 c, .slice (some ⟨P, 0, none⟩) n cp, .slice (some ⟨Q, 0, none⟩) m cq] 0 v4) HNE.out.2.2.2.2.symm Q6.out.bx.old)
          have HQ := Lib.hid (O.out.step (Fnd.setCells g6 [.int .i64 a, .int .i64 b, .int .i64 c, .slice (some ⟨P, 0, none⟩) n cp, .slice (some ⟨Q, 0, none⟩) m cq] 0 v4) NPQ.out.1.symm NPQ.out.2.1.symm Q6.out.bx.old)
          clear R6 R7
          go_wp2_with (first
            | ((with_reducible change wpList _ _ _ _ _ _); refine wpList_store_mid (by rfl) 27 (.tmp 6) (.tmp 52) (by rfl) g6 0 #[.int .i64 a, .int .i64 b, .int .i64 c, .slice (some ⟨P, 0, none⟩) n cp, .slice (some ⟨Q, 0, none⟩) m cq] (by rfl) (by rfl) HT6.out info_state HO6.out ?_; change wpList _ _ _ _ _ (v4.setCells g6 0 [.int .i64 a, .int .i64 b, .int .i64 c, .slice (some ⟨P, 0, none⟩) n cp, .slice (some ⟨Q, 0, none⟩) m cq]); generalize v4.setCells g6 0 [.int .i64 a, .int .i64 b, .int .i64 c, .slice (some ⟨P, 0, none⟩) n cp, .slice (some ⟨Q, 0, none⟩) m cq] = wq at Q6 Q7 HQ ⊢; have HT7 : Hid (wq.there g7 0 (#[.int .i64 0, .int .u64 0, .int .i64 ((empAll s (tslots s (kk : Int) 5)).2 : Int)] : Array Value).size) := Lib.hid (Q7.out.there (n := 3) rfl); have HO7 := Lib.hid (reply_one 0 0 ((empAll s (tslots s (kk : Int) 5)).2 : Int)); have Q8 := Lib.hid (Q7.out.setCells (vs := [.int .i64 0, .int .u64 0, .int .i64 ((empAll s (tslots s (kk : Int) 5)).2 : Int)]) rfl); have Q9 := Lib.hid (Q6.out.fnd (Fnd.setCells g7 [.int .i64 0, .int .u64 0, .int .i64 ((empAll s (tslots s (kk : Int) 5)).2 : Int)] 0 wq) HNE.out.2.2.2.2 Q8.out.bx.old); replace HQ := Lib.hid (HQ.out.step (Fnd.setCells g7 [.int .i64 0, .int .u64 0, .int .i64 ((empAll s (tslots s (kk : Int) 5)).2 : Int)] 0 wq) NPQ.out.2.2.1.symm NPQ.out.2.2.2.symm Q8.out.bx.old))
            | ((with_reducible change wpList _ _ _ _ _ _); refine wpList_store_mid (by rfl) 40 (.tmp 7) (.tmp 54) (by rfl) g7 0 #[.int .i64 0, .int .u64 0, .int .i64 ((empAll s (tslots s (kk : Int) 5)).2 : Int)] (by rfl) (by rfl) HT7.out info_reply HO7.out ?_; change wpList _ _ _ _ _ (wq.setCells g7 0 [.int .i64 0, .int .u64 0, .int .i64 ((empAll s (tslots s (kk : Int) 5)).2 : Int)]); generalize wq.setCells g7 0 [.int .i64 0, .int .u64 0, .int .i64 ((empAll s (tslots s (kk : Int) 5)).2 : Int)] = wz at Q8 Q9 HQ ⊢))
          refine bodyPost_ret (results_cc rfl _ _ _ (b := g6) (b' := g7) (by rfl) Q9.out.bx.range Tryz.underlying27 rfl info_state (by rfl) Q8.out.bx.range Tryz.underlying40 rfl info_reply) rfl ?_
          rw [HRES.out]
          exact ⟨some ⟨P, 0, none⟩, cp, some ⟨Q, 0, none⟩, cq, rfl, Q8.out.bx.old, HCP.out, HCQ.out, HQ.out.fsh⟩
        · have hR := Wbs.more T.out.bx.old [.int .i64 0, .int .i64 0, .int .i64 0, .slice none 0 0, .slice none 0 0] 27
          have hb := below_alloc v1 (.cells #[.int .i64 0, .int .i64 0, .int .i64 0, .slice none 0 0, .slice none 0 0] 27)
          go_simp
          obtain ⟨g11, hx⟩ : ∃ x, x = v1.heap.size := ⟨_, rfl⟩
          have NE11 : Hid (w.heap.size ≠ g11 ∧ g5 ≠ g11 ∧ g6 ≠ g11 ∧ g7 ≠ g11) := Lib.hid ⟨by have := T.out.bx.lt; omega, by have := CK.out.bx.lt; omega, by have := R6.out.bx.lt; omega, by have := R7.out.bx.lt; omega⟩
          have HD2 := Lib.hid (HD.out.on hb)
          clear HD
          rw [← hx] at hR ⊢
          have hR2 : Wbs w (v1.alloc (.cells #[.int .i64 0, .int .i64 0, .int .i64 0, .slice none 0 0, .slice none 0 0] 27)) g11 [.int .i64 0, .int .i64 0, .int .i64 0, .slice none 0 0, .slice none 0 0] := hR
          generalize v1.alloc (.cells #[.int .i64 0, .int .i64 0, .int .i64 0, .slice none 0 0, .slice none 0 0] 27) = v2 at hR2 hb HD2 ⊢
          clear hR hx
          have HD := HD2
          have N := Lib.hid hR2
          clear hR2
          replace T := Lib.hid (T.out.on hb)
          replace CK := Lib.hid (CK.out.on hb)
          replace R6 := Lib.hid (R6.out.on hb)
          replace R7 := Lib.hid (R7.out.on hb)
          clear hb
          refine hK.out _ _ ⟨T.out.bx, CK.out.bx⟩ (fun hHeld => ?_)
          clear hK K
          try simp only [Act.put, List.setIfInBounds_toArray, List.set_cons_zero, List.set_cons_succ, List.getElem_toArray, List.getElem_cons_zero, List.getElem_cons_succ]
          refine wpAnyH_ready (rs := [6]) (by kernel_rfl) (by simp) ?_
          refine AllReadyH.cons rfl (fun K hK => ?_) AllReadyH.nil
          go_simp
          refine (tempty_is (HS.out.on T.out.bx.old) HGD.out rfl HCD.out HLEN.out HD.out).mono ?_
          rintro e v3 ⟨P, cp, Q, cq, rfl, hcp, hcq, hO⟩
          have HCP := Lib.hid hcp
          have HCQ := Lib.hid hcq
          have NPQ : Hid (g6 ≠ P ∧ g6 ≠ Q ∧ g7 ≠ P ∧ g7 ≠ Q) := Lib.hid ⟨by have := hO.oP; have := R6.out.bx.lt; omega, by have := hO.oQ; have := R6.out.bx.lt; omega, by have := hO.oP; have := R7.out.bx.lt; omega, by have := hO.oQ; have := R7.out.bx.lt; omega⟩
          have NX : Hid (g11 ≠ P ∧ g11 ≠ Q) := Lib.hid ⟨by have := hO.oP; have := N.out.bx.lt; omega, by have := hO.oQ; have := N.out.bx.lt; omega⟩
          have hb := hO.old
          have O := Lib.hid (hO.base T.out.bx.old)
          clear hcp hcq hO
          replace T := Lib.hid (T.out.on hb)
          replace CK := Lib.hid (CK.out.on hb)
          replace R6 := Lib.hid (R6.out.on hb)
          replace R7 := Lib.hid (R7.out.on hb)
          replace N := Lib.hid (N.out.on hb)
          clear hb
          refine hK.out _ _ ⟨T.out.bx, CK.out.bx⟩ (fun hHeld => ?_)
          clear hK K
          try simp only [Act.put, List.setIfInBounds_toArray, List.set_cons_zero, List.set_cons_succ, List.getElem_toArray, List.getElem_cons_zero, List.getElem_cons_succ]
          refine wpAnyH_take (i := 7) (v := ?_) rfl (by kernel_rfl) (by kernel_rfl) (by kernel_rfl) (fun _ _ _ h => h) (Or.inl ⟨by rfl, ?_⟩) (by assumption) ?_
          rotate_left
          · intro w hSw; go_simp; try with_reducible rfl
          try simp only [Act.put, List.setIfInBounds_toArray, List.set_cons_zero, List.set_cons_succ, List.getElem_toArray, List.getElem_cons_zero, List.getElem_cons_succ]
          refine wpAnyH_take (i := 8) (v := ?_) rfl (by kernel_rfl) (by kernel_rfl) (by kernel_rfl) (fun _ _ _ h => h) (Or.inl ⟨by rfl, ?_⟩) (by assumption) ?_
          rotate_left
          · intro w hSw; go_simp; try with_reducible rfl
          try simp only [Act.put, List.setIfInBounds_toArray, List.set_cons_zero, List.set_cons_succ, List.getElem_toArray, List.getElem_cons_zero, List.getElem_cons_succ]
          refine wpAnyH_take (i := 9) (v := ?_) rfl (by kernel_rfl) (by kernel_rfl) (by kernel_rfl) (fun _ _ _ h => h) (Or.inl ⟨by rfl, ?_⟩) (by assumption) ?_
          rotate_left
          · intro w hSw; go_simp; try with_reducible rfl
          try simp only [Act.put, List.setIfInBounds_toArray, List.set_cons_zero, List.set_cons_succ, List.getElem_toArray, List.getElem_cons_zero, List.getElem_cons_succ]
          refine wpAnyH_ready (rs := [11]) (by kernel_rfl) (by simp) ?_
          refine AllReadyH.cons rfl (fun K hK => ?_) AllReadyH.nil
          have HT11 : Hid (v3.there g11 0 (#[.int .i64 a, .int .i64 b, .int .i64 c, .slice (some ⟨P, 0, none⟩) n cp, .slice (some ⟨Q, 0, none⟩) m cq] : Array Value).size) := Lib.hid (N.out.there (n := 5) rfl)
          have HO11 := Lib.hid (state_one a b c (some ⟨P, 0, none⟩) n cp (some ⟨Q, 0, none⟩) m cq)
          replace N := Lib.hid (N.out.setCells (vs := [.int .i64 a, .int .i64 b, .int .i64 c, .slice (some ⟨P, 0, none⟩) n cp, .slice (some ⟨Q, 0, none⟩) m cq]) rfl)
          have fq := Fnd.setCells g11 [.int .i64 a, .int .i64 b, .int .i64 c, .slice (some ⟨P, 0, none⟩) n cp, .slice (some ⟨Q, 0, none⟩) m cq] 0 v3
          replace T := Lib.hid (T.out.fnd fq NE11.out.1 N.out.bx.old)
          replace CK := Lib.hid (CK.out.fnd fq NE11.out.2.1 N.out.bx.old)
          replace R6 := Lib.hid (R6.out.fnd fq NE11.out.2.2.1 N.out.bx.old)
          replace R7 := Lib.hid (R7.out.fnd fq NE11.out.2.2.2 N.out.bx.old)
          replace O := Lib.hid (O.out.step fq NX.out.1.symm NX.out.2.symm N.out.bx.old)
          clear fq
          refine step_store_mid (by rfl) 27 (.tmp 11) (.tmp 50) (by rfl) g11 0 #[.int .i64 a, .int .i64 b, .int .i64 c, .slice (some ⟨P, 0, none⟩) n cp, .slice (some ⟨Q, 0, none⟩) m cq] (by rfl) (by rfl) HT11.out info_state HO11.out ?_
          change K _ (v3.setCells g11 0 [.int .i64 a, .int .i64 b, .int .i64 c, .slice (some ⟨P, 0, none⟩) n cp, .slice (some ⟨Q, 0, none⟩) m cq])
          clear HT11
          generalize v3.setCells g11 0 [.int .i64 a, .int .i64 b, .int .i64 c, .slice (some ⟨P, 0, none⟩) n cp, .slice (some ⟨Q, 0, none⟩) m cq] = v4 at T CK R6 R7 N O ⊢
          refine hK.out _ _ ⟨T.out.bx, CK.out.bx⟩ (fun hHeld => ?_)
          clear hK K
          try simp only [Act.put, List.setIfInBounds_toArray, List.set_cons_zero, List.set_cons_succ, List.getElem_toArray, List.getElem_cons_zero, List.getElem_cons_succ]
          refine wpAnyH_take (i := 12) (v := ?_) rfl (by kernel_rfl) (by kernel_rfl) (by kernel_rfl) (fun _ _ _ h => h) (Or.inl ⟨by rfl, ?_⟩) (by assumption) ?_
          rotate_left
          · intro w hSw; go_simp; try with_reducible rfl
          try simp only [Act.put, List.setIfInBounds_toArray, List.set_cons_zero, List.set_cons_succ, List.getElem_toArray, List.getElem_cons_zero, List.getElem_cons_succ]
          refine wpAnyH_done (by kernel_rfl) ?_ _
          clear hHeld
          have n0 := N.out.bx.c 0 _ rfl
          have n1 := N.out.bx.c 1 _ rfl
          have n2 := N.out.bx.c 2 _ rfl
          have n3 := N.out.bx.c 3 _ rfl
          have n4 := N.out.bx.c 4 _ rfl
          have HT6 : Hid (v4.there g6 0 (#[.int .i64 a, .int .i64 b, .int .i64 c, .slice (some ⟨P, 0, none⟩) n cp, .slice (some ⟨Q, 0, none⟩) m cq] : Array Value).size) := Lib.hid (R6.out.there (n := 5) rfl)
          have HO6 := Lib.hid (state_one a b c (some ⟨P, 0, none⟩) n cp (some ⟨Q, 0, none⟩) m cq)
          have Q6 := Lib.hid (R6.out.setCells (vs := [.int .i64 a, .int .i64 b, .int .i64 c, .slice (some ⟨P, 0, none⟩) n cp, .slice (some ⟨Q, 0, none⟩) m cq]) rfl)
          have Q7 := Lib.hid (R7.out.fnd (Fnd.setCells g6 [.int .i64 a, .int .i64 b, .int .i64 c, .slice (some ⟨P, 0, none⟩) n cp, .slice (some ⟨Q, 0, none⟩) m cq] 0 v4) HNE.out.2.2.2.2.symm Q6.out.bx.old)
          have HQ := Lib.hid (O.out.step (Fnd.setCells g6 [.int .i64 a, .int .i64 b, .int .i64 c, .slice (some ⟨P, 0, none⟩) n cp, .slice (some ⟨Q, 0, none⟩) m cq] 0 v4) NPQ.out.1.symm NPQ.out.2.1.symm Q6.out.bx.old)
          clear R6 R7
          go_wp2_with (first
            | ((with_reducible change wpList _ _ _ _ _ _); refine wpList_store_mid (by rfl) 27 (.tmp 6) (.tmp 52) (by rfl) g6 0 #[.int .i64 a, .int .i64 b, .int .i64 c, .slice (some ⟨P, 0, none⟩) n cp, .slice (some ⟨Q, 0, none⟩) m cq] (by rfl) (by rfl) HT6.out info_state HO6.out ?_; change wpList _ _ _ _ _ (v4.setCells g6 0 [.int .i64 a, .int .i64 b, .int .i64 c, .slice (some ⟨P, 0, none⟩) n cp, .slice (some ⟨Q, 0, none⟩) m cq]); generalize v4.setCells g6 0 [.int .i64 a, .int .i64 b, .int .i64 c, .slice (some ⟨P, 0, none⟩) n cp, .slice (some ⟨Q, 0, none⟩) m cq] = wq at Q6 Q7 HQ ⊢; have HT7 : Hid (wq.there g7 0 (#[.int .i64 0, .int .u64 0, .int .i64 ((empAll s (tslots s (kk : Int) 5)).2 : Int)] : Array Value).size) := Lib.hid (Q7.out.there (n := 3) rfl); have HO7 := Lib.hid (reply_one 0 0 ((empAll s (tslots s (kk : Int) 5)).2 : Int)); have Q8 := Lib.hid (Q7.out.setCells (vs := [.int .i64 0, .int .u64 0, .int .i64 ((empAll s (tslots s (kk : Int) 5)).2 : Int)]) rfl); have Q9 := Lib.hid (Q6.out.fnd (Fnd.setCells g7 [.int .i64 0, .int .u64 0, .int .i64 ((empAll s (tslots s (kk : Int) 5)).2 : Int)] 0 wq) HNE.out.2.2.2.2 Q8.out.bx.old); replace HQ := Lib.hid (HQ.out.step (Fnd.setCells g7 [.int .i64 0, .int .u64 0, .int .i64 ((empAll s (tslots s (kk : Int) 5)).2 : Int)] 0 wq) NPQ.out.2.2.1.symm NPQ.out.2.2.2.symm Q8.out.bx.old))
            | ((with_reducible change wpList _ _ _ _ _ _); refine wpList_store_mid (by rfl) 40 (.tmp 7) (.tmp 54) (by rfl) g7 0 #[.int .i64 0, .int .u64 0, .int .i64 ((empAll s (tslots s (kk : Int) 5)).2 : Int)] (by rfl) (by rfl) HT7.out info_reply HO7.out ?_; change wpList _ _ _ _ _ (wq.setCells g7 0 [.int .i64 0, .int .u64 0, .int .i64 ((empAll s (tslots s (kk : Int) 5)).2 : Int)]); generalize wq.setCells g7 0 [.int .i64 0, .int .u64 0, .int .i64 ((empAll s (tslots s (kk : Int) 5)).2 : Int)] = wz at Q8 Q9 HQ ⊢))
          refine bodyPost_ret (results_cc rfl _ _ _ (b := g6) (b' := g7) (by rfl) Q9.out.bx.range Tryz.underlying27 rfl info_state (by rfl) Q8.out.bx.range Tryz.underlying40 rfl info_reply) rfl ?_
          rw [HRES.out]
          exact ⟨some ⟨P, 0, none⟩, cp, some ⟨Q, 0, none⟩, cq, rfl, Q8.out.bx.old, HCP.out, HCQ.out, HQ.out.fsh⟩
      · have hR := Wbs.more T.out.bx.old [.int .i64 0, .int .i64 0, .int .i64 0, .slice none 0 0, .slice none 0 0] 27
        have hb := below_alloc v0 (.cells #[.int .i64 0, .int .i64 0, .int .i64 0, .slice none 0 0, .slice none 0 0] 27)
        go_simp
        obtain ⟨g11, hx⟩ : ∃ x, x = v0.heap.size := ⟨_, rfl⟩
        have NE11 : Hid (w.heap.size ≠ g11 ∧ g5 ≠ g11 ∧ g6 ≠ g11 ∧ g7 ≠ g11) := Lib.hid ⟨by have := T.out.bx.lt; omega, by have := CK.out.bx.lt; omega, by have := R6.out.bx.lt; omega, by have := R7.out.bx.lt; omega⟩
        rw [← hx] at hR ⊢
        have hR2 : Wbs w (v0.alloc (.cells #[.int .i64 0, .int .i64 0, .int .i64 0, .slice none 0 0, .slice none 0 0] 27)) g11 [.int .i64 0, .int .i64 0, .int .i64 0, .slice none 0 0, .slice none 0 0] := hR
        generalize v0.alloc (.cells #[.int .i64 0, .int .i64 0, .int .i64 0, .slice none 0 0, .slice none 0 0] 27) = v1 at hR2 hb ⊢
        clear hR hx
        have N := Lib.hid hR2
        clear hR2
        replace T := Lib.hid (T.out.on hb)
        replace CK := Lib.hid (CK.out.on hb)
        replace R6 := Lib.hid (R6.out.on hb)
        replace R7 := Lib.hid (R7.out.on hb)
        clear hb
        refine hK.out _ _ ⟨T.out.bx, CK.out.bx⟩ (fun hHeld => ?_)
        clear hK K
        try simp only [Act.put, List.setIfInBounds_toArray, List.set_cons_zero, List.set_cons_succ, List.getElem_toArray, List.getElem_cons_zero, List.getElem_cons_succ]
        refine wpAnyH_ready (rs := [5]) (by kernel_rfl) (by simp) ?_
        refine AllReadyH.cons rfl (fun K hK => ?_) AllReadyH.nil
        go_simp
        refine (toempty_is (HS.out.on T.out.bx.old) rfl).mono ?_
        rintro e v2 ⟨D, cd, rfl, hcd, hD, hb⟩
        have HD := Lib.hid hD
        have HCD := Lib.hid hcd
        clear hcd hD
        replace T := Lib.hid (T.out.on hb)
        replace CK := Lib.hid (CK.out.on hb)
        replace R6 := Lib.hid (R6.out.on hb)
        replace R7 := Lib.hid (R7.out.on hb)
        replace N := Lib.hid (N.out.on hb)
        clear hb
        refine hK.out _ _ ⟨T.out.bx, CK.out.bx⟩ (fun hHeld => ?_)
        clear hK K
        try simp only [Act.put, List.setIfInBounds_toArray, List.set_cons_zero, List.set_cons_succ, List.getElem_toArray, List.getElem_cons_zero, List.getElem_cons_succ]
        refine wpAnyH_ready (rs := [6]) (by kernel_rfl) (by simp) ?_
        refine AllReadyH.cons rfl (fun K hK => ?_) AllReadyH.nil
        go_simp
        refine (tempty_is (HS.out.on T.out.bx.old) HGD.out rfl HCD.out HLEN.out HD.out).mono ?_
        rintro e v3 ⟨P, cp, Q, cq, rfl, hcp, hcq, hO⟩
        have HCP := Lib.hid hcp
        have HCQ := Lib.hid hcq
        have NPQ : Hid (g6 ≠ P ∧ g6 ≠ Q ∧ g7 ≠ P ∧ g7 ≠ Q) := Lib.hid ⟨by have := hO.oP; have := R6.out.bx.lt; omega, by have := hO.oQ; have := R6.out.bx.lt; omega, by have := hO.oP; have := R7.out.bx.lt; omega, by have := hO.oQ; have := R7.out.bx.lt; omega⟩
        have NX : Hid (g11 ≠ P ∧ g11 ≠ Q) := Lib.hid ⟨by have := hO.oP; have := N.out.bx.lt; omega, by have := hO.oQ; have := N.out.bx.lt; omega⟩
        have hb := hO.old
        have O := Lib.hid (hO.base T.out.bx.old)
        clear hcp hcq hO
        replace T := Lib.hid (T.out.on hb)
        replace CK := Lib.hid (CK.out.on hb)
        replace R6 := Lib.hid (R6.out.on hb)
        replace R7 := Lib.hid (R7.out.on hb)
        replace N := Lib.hid (N.out.on hb)
        clear hb
        refine hK.out _ _ ⟨T.out.bx, CK.out.bx⟩ (fun hHeld => ?_)
        clear hK K
        try simp only [Act.put, List.setIfInBounds_toArray, List.set_cons_zero, List.set_cons_succ, List.getElem_toArray, List.getElem_cons_zero, List.getElem_cons_succ]
        refine wpAnyH_take (i := 7) (v := ?_) rfl (by kernel_rfl) (by kernel_rfl) (by kernel_rfl) (fun _ _ _ h => h) (Or.inl ⟨by rfl, ?_⟩) (by assumption) ?_
        rotate_left
        · intro w hSw; go_simp; try with_reducible rfl
        try simp only [Act.put, List.setIfInBounds_toArray, List.set_cons_zero, List.set_cons_succ, List.getElem_toArray, List.getElem_cons_zero, List.getElem_cons_succ]
        refine wpAnyH_take (i := 8) (v := ?_) rfl (by kernel_rfl) (by kernel_rfl) (by kernel_rfl) (fun _ _ _ h => h) (Or.inl ⟨by rfl, ?_⟩) (by assumption) ?_
        rotate_left
        · intro w hSw; go_simp; try with_reducible rfl
        try simp only [Act.put, List.setIfInBounds_toArray, List.set_cons_zero, List.set_cons_succ, List.getElem_toArray, List.getElem_cons_zero, List.getElem_cons_succ]
        refine wpAnyH_take (i := 9) (v := ?_) rfl (by kernel_rfl) (by kernel_rfl) (by kernel_rfl) (fun _ _ _ h => h) (Or.inl ⟨by rfl, ?_⟩) (by assumption) ?_
        rotate_left
        · intro w hSw; go_simp; try with_reducible rfl
        try simp only [Act.put, List.setIfInBounds_toArray, List.set_cons_zero, List.set_cons_succ, List.getElem_toArray, List.getElem_cons_zero, List.getElem_cons_succ]
        refine wpAnyH_ready (rs := [11]) (by kernel_rfl) (by simp) ?_
        refine AllReadyH.cons rfl (fun K hK => ?_) AllReadyH.nil
        have HT11 : Hid (v3.there g11 0 (#[.int .i64 a, .int .i64 b, .int .i64 c, .slice (some ⟨P, 0, none⟩) n cp, .slice (some ⟨Q, 0, none⟩) m cq] : Array Value).size) := Lib.hid (N.out.there (n := 5) rfl)
        have HO11 := Lib.hid (state_one a b c (some ⟨P, 0, none⟩) n cp (some ⟨Q, 0, none⟩) m cq)
        replace N := Lib.hid (N.out.setCells (vs := [.int .i64 a, .int .i64 b, .int .i64 c, .slice (some ⟨P, 0, none⟩) n cp, .slice (some ⟨Q, 0, none⟩) m cq]) rfl)
        have fq := Fnd.setCells g11 [.int .i64 a, .int .i64 b, .int .i64 c, .slice (some ⟨P, 0, none⟩) n cp, .slice (some ⟨Q, 0, none⟩) m cq] 0 v3
        replace T := Lib.hid (T.out.fnd fq NE11.out.1 N.out.bx.old)
        replace CK := Lib.hid (CK.out.fnd fq NE11.out.2.1 N.out.bx.old)
        replace R6 := Lib.hid (R6.out.fnd fq NE11.out.2.2.1 N.out.bx.old)
        replace R7 := Lib.hid (R7.out.fnd fq NE11.out.2.2.2 N.out.bx.old)
        replace O := Lib.hid (O.out.step fq NX.out.1.symm NX.out.2.symm N.out.bx.old)
        clear fq
        refine step_store_mid (by rfl) 27 (.tmp 11) (.tmp 50) (by rfl) g11 0 #[.int .i64 a, .int .i64 b, .int .i64 c, .slice (some ⟨P, 0, none⟩) n cp, .slice (some ⟨Q, 0, none⟩) m cq] (by rfl) (by rfl) HT11.out info_state HO11.out ?_
        change K _ (v3.setCells g11 0 [.int .i64 a, .int .i64 b, .int .i64 c, .slice (some ⟨P, 0, none⟩) n cp, .slice (some ⟨Q, 0, none⟩) m cq])
        clear HT11
        generalize v3.setCells g11 0 [.int .i64 a, .int .i64 b, .int .i64 c, .slice (some ⟨P, 0, none⟩) n cp, .slice (some ⟨Q, 0, none⟩) m cq] = v4 at T CK R6 R7 N O ⊢
        refine hK.out _ _ ⟨T.out.bx, CK.out.bx⟩ (fun hHeld => ?_)
        clear hK K
        try simp only [Act.put, List.setIfInBounds_toArray, List.set_cons_zero, List.set_cons_succ, List.getElem_toArray, List.getElem_cons_zero, List.getElem_cons_succ]
        refine wpAnyH_take (i := 12) (v := ?_) rfl (by kernel_rfl) (by kernel_rfl) (by kernel_rfl) (fun _ _ _ h => h) (Or.inl ⟨by rfl, ?_⟩) (by assumption) ?_
        rotate_left
        · intro w hSw; go_simp; try with_reducible rfl
        try simp only [Act.put, List.setIfInBounds_toArray, List.set_cons_zero, List.set_cons_succ, List.getElem_toArray, List.getElem_cons_zero, List.getElem_cons_succ]
        refine wpAnyH_done (by kernel_rfl) ?_ _
        clear hHeld
        have n0 := N.out.bx.c 0 _ rfl
        have n1 := N.out.bx.c 1 _ rfl
        have n2 := N.out.bx.c 2 _ rfl
        have n3 := N.out.bx.c 3 _ rfl
        have n4 := N.out.bx.c 4 _ rfl
        have HT6 : Hid (v4.there g6 0 (#[.int .i64 a, .int .i64 b, .int .i64 c, .slice (some ⟨P, 0, none⟩) n cp, .slice (some ⟨Q, 0, none⟩) m cq] : Array Value).size) := Lib.hid (R6.out.there (n := 5) rfl)
        have HO6 := Lib.hid (state_one a b c (some ⟨P, 0, none⟩) n cp (some ⟨Q, 0, none⟩) m cq)
        have Q6 := Lib.hid (R6.out.setCells (vs := [.int .i64 a, .int .i64 b, .int .i64 c, .slice (some ⟨P, 0, none⟩) n cp, .slice (some ⟨Q, 0, none⟩) m cq]) rfl)
        have Q7 := Lib.hid (R7.out.fnd (Fnd.setCells g6 [.int .i64 a, .int .i64 b, .int .i64 c, .slice (some ⟨P, 0, none⟩) n cp, .slice (some ⟨Q, 0, none⟩) m cq] 0 v4) HNE.out.2.2.2.2.symm Q6.out.bx.old)
        have HQ := Lib.hid (O.out.step (Fnd.setCells g6 [.int .i64 a, .int .i64 b, .int .i64 c, .slice (some ⟨P, 0, none⟩) n cp, .slice (some ⟨Q, 0, none⟩) m cq] 0 v4) NPQ.out.1.symm NPQ.out.2.1.symm Q6.out.bx.old)
        clear R6 R7
        go_wp2_with (first
          | ((with_reducible change wpList _ _ _ _ _ _); refine wpList_store_mid (by rfl) 27 (.tmp 6) (.tmp 52) (by rfl) g6 0 #[.int .i64 a, .int .i64 b, .int .i64 c, .slice (some ⟨P, 0, none⟩) n cp, .slice (some ⟨Q, 0, none⟩) m cq] (by rfl) (by rfl) HT6.out info_state HO6.out ?_; change wpList _ _ _ _ _ (v4.setCells g6 0 [.int .i64 a, .int .i64 b, .int .i64 c, .slice (some ⟨P, 0, none⟩) n cp, .slice (some ⟨Q, 0, none⟩) m cq]); generalize v4.setCells g6 0 [.int .i64 a, .int .i64 b, .int .i64 c, .slice (some ⟨P, 0, none⟩) n cp, .slice (some ⟨Q, 0, none⟩) m cq] = wq at Q6 Q7 HQ ⊢; have HT7 : Hid (wq.there g7 0 (#[.int .i64 0, .int .u64 0, .int .i64 ((empAll s (tslots s (kk : Int) 5)).2 : Int)] : Array Value).size) := Lib.hid (Q7.out.there (n := 3) rfl); have HO7 := Lib.hid (reply_one 0 0 ((empAll s (tslots s (kk : Int) 5)).2 : Int)); have Q8 := Lib.hid (Q7.out.setCells (vs := [.int .i64 0, .int .u64 0, .int .i64 ((empAll s (tslots s (kk : Int) 5)).2 : Int)]) rfl); have Q9 := Lib.hid (Q6.out.fnd (Fnd.setCells g7 [.int .i64 0, .int .u64 0, .int .i64 ((empAll s (tslots s (kk : Int) 5)).2 : Int)] 0 wq) HNE.out.2.2.2.2 Q8.out.bx.old); replace HQ := Lib.hid (HQ.out.step (Fnd.setCells g7 [.int .i64 0, .int .u64 0, .int .i64 ((empAll s (tslots s (kk : Int) 5)).2 : Int)] 0 wq) NPQ.out.2.2.1.symm NPQ.out.2.2.2.symm Q8.out.bx.old))
          | ((with_reducible change wpList _ _ _ _ _ _); refine wpList_store_mid (by rfl) 40 (.tmp 7) (.tmp 54) (by rfl) g7 0 #[.int .i64 0, .int .u64 0, .int .i64 ((empAll s (tslots s (kk : Int) 5)).2 : Int)] (by rfl) (by rfl) HT7.out info_reply HO7.out ?_; change wpList _ _ _ _ _ (wq.setCells g7 0 [.int .i64 0, .int .u64 0, .int .i64 ((empAll s (tslots s (kk : Int) 5)).2 : Int)]); generalize wq.setCells g7 0 [.int .i64 0, .int .u64 0, .int .i64 ((empAll s (tslots s (kk : Int) 5)).2 : Int)] = wz at Q8 Q9 HQ ⊢))
        refine bodyPost_ret (results_cc rfl _ _ _ (b := g6) (b' := g7) (by rfl) Q9.out.bx.range Tryz.underlying27 rfl info_state (by rfl) Q8.out.bx.range Tryz.underlying40 rfl info_reply) rfl ?_
        rw [HRES.out]
        exact ⟨some ⟨P, 0, none⟩, cp, some ⟨Q, 0, none⟩, cq, rfl, Q8.out.bx.old, HCP.out, HCQ.out, HQ.out.fsh⟩
  by_cases h6 : o = 6
  · subst h6
    go_wp2_with fail
    refine (clcgood_at HNA.out (HA.out.on T.out.bx.old) HNB.out (HB.out.on T.out.bx.old) HCG.out).mono ?_
    rintro e w5 ⟨rfl, hb⟩
    replace T := Lib.hid (T.out.on hb)
    replace CK := Lib.hid (CK.out.on hb)
    replace R6 := Lib.hid (R6.out.on hb)
    replace R7 := Lib.hid (R7.out.on hb)
    clear hb
    clear t0 t1 t2 t3 t4 k0 k1 k2 k3 k4 k5
    rcases gd with _ | _
    · have HRES : Hid (r = (none, ⟨1, 0, 0⟩)) := Lib.hid (by rw [← HR.out, tdo, if_neg (by rw [HCG.out]; simp)])
      have t0 := T.out.bx.c 0 _ rfl
      have t1 := T.out.bx.c 1 _ rfl
      have t2 := T.out.bx.c 2 _ rfl
      have t3 := T.out.bx.c 3 _ rfl
      have t4 := T.out.bx.c 4 _ rfl
      have HT6 : Hid (w5.there g6 0 (#[.int .i64 a, .int .i64 b, .int .i64 c, .slice A n ca, .slice C m cc] : Array Value).size) := Lib.hid (R6.out.there (n := 5) rfl)
      have HO6 := Lib.hid (state_one a b c A n ca C m cc)
      have Q6 := Lib.hid (R6.out.setCells (vs := [.int .i64 a, .int .i64 b, .int .i64 c, .slice A n ca, .slice C m cc]) rfl)
      have Q7 := Lib.hid (R7.out.fnd (Fnd.setCells g6 [.int .i64 a, .int .i64 b, .int .i64 c, .slice A n ca, .slice C m cc] 0 w5) HNE.out.2.2.2.2.symm Q6.out.bx.old)
      clear R6 R7
      go_wp2_with (first
        | ((with_reducible change wpList _ _ _ _ _ _); refine wpList_store_mid (by rfl) 27 (.tmp 6) (.tmp 26) (by rfl) g6 0 #[.int .i64 a, .int .i64 b, .int .i64 c, .slice A n ca, .slice C m cc] (by rfl) (by rfl) HT6.out info_state HO6.out ?_; change wpList _ _ _ _ _ (w5.setCells g6 0 [.int .i64 a, .int .i64 b, .int .i64 c, .slice A n ca, .slice C m cc]); generalize w5.setCells g6 0 [.int .i64 a, .int .i64 b, .int .i64 c, .slice A n ca, .slice C m cc] = wq at Q6 Q7 ⊢; have HT7 : Hid (wq.there g7 0 (#[.int .i64 1, .int .u64 0, .int .i64 0] : Array Value).size) := Lib.hid (Q7.out.there (n := 3) rfl); have HO7 := Lib.hid (reply_one 1 0 0); have Q8 := Lib.hid (Q7.out.setCells (vs := [.int .i64 1, .int .u64 0, .int .i64 0]) rfl); have Q9 := Lib.hid (Q6.out.fnd (Fnd.setCells g7 [.int .i64 1, .int .u64 0, .int .i64 0] 0 wq) HNE.out.2.2.2.2 Q8.out.bx.old))
        | ((with_reducible change wpList _ _ _ _ _ _); refine wpList_store_mid (by rfl) 40 (.tmp 7) (.tmp 27) (by rfl) g7 0 #[.int .i64 1, .int .u64 0, .int .i64 0] (by rfl) (by rfl) HT7.out info_reply HO7.out ?_; change wpList _ _ _ _ _ (wq.setCells g7 0 [.int .i64 1, .int .u64 0, .int .i64 0]); generalize wq.setCells g7 0 [.int .i64 1, .int .u64 0, .int .i64 0] = wz at Q8 Q9 ⊢))
      refine bodyPost_ret (results_cc rfl _ _ _ (b := g6) (b' := g7) (by rfl) Q9.out.bx.range Tryz.underlying27 rfl info_state (by rfl) Q8.out.bx.range Tryz.underlying40 rfl info_reply) rfl ?_
      rw [HRES.out]
      exact ⟨A, ca, C, cc, rfl, Q8.out.bx.old, rfl, rfl, rfl, rfl⟩
    · obtain ⟨⟨X0, cpp, e0⟩, hfc⟩ : ∃ q, fcap s t la = q := ⟨_, rfl⟩
      have HFC := Lib.hid hfc
      clear hfc
      have t0 := T.out.bx.c 0 _ rfl
      have t1 := T.out.bx.c 1 _ rfl
      have t2 := T.out.bx.c 2 _ rfl
      have t3 := T.out.bx.c 3 _ rfl
      have t4 := T.out.bx.c 4 _ rfl
      have k1 := CK.out.bx.c 1 _ rfl
      go_wp2_with fail
      refine (fcap_is (HS.out.on T.out.bx.old) HNA.out HCPA.out (HA.out.on T.out.bx.old) HFC.out).mono ?_
      rintro e w6 ⟨rfl, hb⟩
      replace T := Lib.hid (T.out.on hb)
      replace CK := Lib.hid (CK.out.on hb)
      replace R6 := Lib.hid (R6.out.on hb)
      replace R7 := Lib.hid (R7.out.on hb)
      clear hb
      clear t0 t1 t2 t3 t4 k1
      obtain ⟨hy, hh, hri, hba⟩ := cpp
      simp only [Cp.val]
      go_upto_region 4 with fail
      have hb := below_alloc w6 (.cells #[.int .i64 hy, .int .i64 hh, .int .i64 hri, .int .i64 hba] 62)
      replace T := Lib.hid (T.out.on hb)
      replace CK := Lib.hid (CK.out.on hb)
      replace R6 := Lib.hid (R6.out.on hb)
      replace R7 := Lib.hid (R7.out.on hb)
      clear hb
      generalize w6.alloc _ = w7 at T CK R6 R7 ⊢
      by_cases he : e0 = 0
      case neg =>
        have he' : (e0 != 0) = true := by simpa using he
        have HRES : Hid (r = (none, ⟨e0, 0, 0⟩)) := Lib.hid (by rw [← HR.out, tdo, if_pos ⟨.inr rfl, HCG.out⟩]; simp only [HFC.out]; rw [if_neg he])
        clear he
        have t0 := T.out.bx.c 0 _ rfl
        have t1 := T.out.bx.c 1 _ rfl
        have t2 := T.out.bx.c 2 _ rfl
        have t3 := T.out.bx.c 3 _ rfl
        have t4 := T.out.bx.c 4 _ rfl
        have HT6 : Hid (w7.there g6 0 (#[.int .i64 a, .int .i64 b, .int .i64 c, .slice A n ca, .slice C m cc] : Array Value).size) := Lib.hid (R6.out.there (n := 5) rfl)
        have HO6 := Lib.hid (state_one a b c A n ca C m cc)
        have Q6 := Lib.hid (R6.out.setCells (vs := [.int .i64 a, .int .i64 b, .int .i64 c, .slice A n ca, .slice C m cc]) rfl)
        have Q7 := Lib.hid (R7.out.fnd (Fnd.setCells g6 [.int .i64 a, .int .i64 b, .int .i64 c, .slice A n ca, .slice C m cc] 0 w7) HNE.out.2.2.2.2.symm Q6.out.bx.old)
        clear R6 R7
        go_wp2_with (first
          | ((with_reducible change wpList _ _ _ _ _ _); refine wpList_store_mid (by rfl) 27 (.tmp 6) (.tmp 39) (by rfl) g6 0 #[.int .i64 a, .int .i64 b, .int .i64 c, .slice A n ca, .slice C m cc] (by rfl) (by rfl) HT6.out info_state HO6.out ?_; change wpList _ _ _ _ _ (w7.setCells g6 0 [.int .i64 a, .int .i64 b, .int .i64 c, .slice A n ca, .slice C m cc]); generalize w7.setCells g6 0 [.int .i64 a, .int .i64 b, .int .i64 c, .slice A n ca, .slice C m cc] = wq at Q6 Q7 ⊢; have HT7 : Hid (wq.there g7 0 (#[.int .i64 e0, .int .u64 0, .int .i64 0] : Array Value).size) := Lib.hid (Q7.out.there (n := 3) rfl); have HO7 := Lib.hid (reply_one e0 0 0); have Q8 := Lib.hid (Q7.out.setCells (vs := [.int .i64 e0, .int .u64 0, .int .i64 0]) rfl); have Q9 := Lib.hid (Q6.out.fnd (Fnd.setCells g7 [.int .i64 e0, .int .u64 0, .int .i64 0] 0 wq) HNE.out.2.2.2.2 Q8.out.bx.old))
          | ((with_reducible change wpList _ _ _ _ _ _); refine wpList_store_mid (by rfl) 40 (.tmp 7) (.tmp 41) (by rfl) g7 0 #[.int .i64 e0, .int .u64 0, .int .i64 0] (by rfl) (by rfl) HT7.out info_reply HO7.out ?_; change wpList _ _ _ _ _ (wq.setCells g7 0 [.int .i64 e0, .int .u64 0, .int .i64 0]); generalize wq.setCells g7 0 [.int .i64 e0, .int .u64 0, .int .i64 0] = wz at Q8 Q9 ⊢))
        refine bodyPost_ret (results_cc rfl _ _ _ (b := g6) (b' := g7) (by rfl) Q9.out.bx.range Tryz.underlying27 rfl info_state (by rfl) Q8.out.bx.range Tryz.underlying40 rfl info_reply) rfl ?_
        rw [HRES.out]
        exact ⟨A, ca, C, cc, rfl, Q8.out.bx.old, rfl, rfl, rfl, rfl⟩
      subst he
      obtain ⟨kk, rfl, hkk, hgd, -, -⟩ := fcap_yes HFC.out
      have HGD := Lib.hid hgd
      have HRES : Hid (r = (some (empAll s (tslots s (kk : Int) 6)).1, ⟨0, 0, (empAll s (tslots s (kk : Int) 6)).2⟩)) := Lib.hid (by rw [← HR.out, tdo, if_pos ⟨.inr rfl, HCG.out⟩]; simp only [HFC.out, if_true])
      have HLEN : Hid ((tslots s (kk : Int) 6).length ≤ 1000000) := Lib.hid (tslots_len (sgood_iff.1 hgd) _ _)
      clear hkk hgd
      go_upto_region 6 with fail
      refine wp_region_held_drew (S := fun w' => Bxs w w' w.heap.size [.int .i64 a, .int .i64 b, .int .i64 c, .slice A n ca, .slice C m cc] ∧ Bxs w w' g5 [.int .i64 6, .slice PA na cpa, .slice PB nb cpb, .int .i64 x, .int .i64 y, .int .u64 (z : Int)]) (by kernel_rfl) ⟨T.out.bx.drew, CK.out.bx.drew⟩ (fun hHeld => ?_)
      have hb := (below_self w7).drew
      replace T := Lib.hid (T.out.on hb)
      replace CK := Lib.hid (CK.out.on hb)
      replace R6 := Lib.hid (R6.out.on hb)
      replace R7 := Lib.hid (R7.out.on hb)
      clear hb
      generalize w7.drew = v0 at T CK R6 R7 hHeld ⊢
      refine wpAnyH_take (i := 0) (v := .agg #[.int .i64 a, .int .i64 b, .int .i64 c, .slice A n ca, .slice C m cc]) rfl (by kernel_rfl) (by kernel_rfl) (by kernel_rfl) (fun _ _ _ h => h) (yieldsIf_load_mid (by rfl) 27 (.tmp 3) (by rfl) w.heap.size 0 (by rfl) [.int .i64 a, .int .i64 b, .int .i64 c, .slice A n ca, .slice C m cc] _ (fun w hS => hS.1.range) Tryz.underlying27 rfl info_state) (by assumption) ?_
      try simp only [Act.put, List.setIfInBounds_toArray, List.set_cons_zero, List.set_cons_succ, List.getElem_toArray, List.getElem_cons_zero, List.getElem_cons_succ]
      refine wpAnyH_take (i := 1) (v := .agg #[.int .i64 a, .int .i64 b, .int .i64 c, .slice A n ca, .slice C m cc]) rfl (by kernel_rfl) (by kernel_rfl) (by kernel_rfl) (fun _ _ _ h => h) (yieldsIf_load_mid (by rfl) 27 (.tmp 3) (by rfl) w.heap.size 0 (by rfl) [.int .i64 a, .int .i64 b, .int .i64 c, .slice A n ca, .slice C m cc] _ (fun w hS => hS.1.range) Tryz.underlying27 rfl info_state) (by assumption) ?_
      try simp only [Act.put, List.setIfInBounds_toArray, List.set_cons_zero, List.set_cons_succ, List.getElem_toArray, List.getElem_cons_zero, List.getElem_cons_succ]
      refine wpAnyH_take (i := 2) (v := ?_) rfl (by kernel_rfl) (by kernel_rfl) (by kernel_rfl) (fun _ _ _ h => h) (Or.inl ⟨by rfl, ?_⟩) (by assumption) ?_
      rotate_left
      · intro w hSw; go_simp; try with_reducible rfl
      try simp only [Act.put, List.setIfInBounds_toArray, List.set_cons_zero, List.set_cons_succ, List.getElem_toArray, List.getElem_cons_zero, List.getElem_cons_succ]
      refine wpAnyH_take (i := 3) (v := ?_) rfl (by kernel_rfl) (by kernel_rfl) (by kernel_rfl) (fun _ _ _ h => h) (Or.inl ⟨by rfl, ?_⟩) (by assumption) ?_
      rotate_left
      · intro w hSw; go_simp; try with_reducible rfl
      try simp only [Act.put, List.setIfInBounds_toArray, List.set_cons_zero, List.set_cons_succ, List.getElem_toArray, List.getElem_cons_zero, List.getElem_cons_succ]
      refine wpAnyH_take (i := 4) (v := ?_) rfl (by kernel_rfl) (by kernel_rfl) (by kernel_rfl) (fun _ _ _ h => h) (Or.inl ⟨by rfl, ?_⟩) (by assumption) ?_
      rotate_left
      · intro w hSw; have h0 := hSw.2.c 0 _ rfl; go_simp; try with_reducible rfl
      try simp only [Act.put, List.setIfInBounds_toArray, List.set_cons_zero, List.set_cons_succ, List.getElem_toArray, List.getElem_cons_zero, List.getElem_cons_succ]
      refine wpAnyH_ready (rs := [5, 10]) (by kernel_rfl) (by simp) ?_
      refine AllReadyH.cons rfl (fun K hK => ?_) (AllReadyH.cons rfl (fun K hK => ?_) AllReadyH.nil)
      · go_simp
        refine (toempty_is (HS.out.on T.out.bx.old) rfl).mono ?_
        rintro e v1 ⟨D, cd, rfl, hcd, hD, hb⟩
        have HD := Lib.hid hD
        have HCD := Lib.hid hcd
        clear hcd hD
        replace T := Lib.hid (T.out.on hb)
        replace CK := Lib.hid (CK.out.on hb)
        replace R6 := Lib.hid (R6.out.on hb)
        replace R7 := Lib.hid (R7.out.on hb)
        clear hb
        refine hK.out _ _ ⟨T.out.bx, CK.out.bx⟩ (fun hHeld => ?_)
        clear hK K
        try simp only [Act.put, List.setIfInBounds_toArray, List.set_cons_zero, List.set_cons_succ, List.getElem_toArray, List.getElem_cons_zero, List.getElem_cons_succ]
        refine wpAnyH_ready (rs := [6, 10]) (by kernel_rfl) (by simp) ?_
        refine AllReadyH.cons rfl (fun K hK => ?_) (AllReadyH.cons rfl (fun K hK => ?_) AllReadyH.nil)
        · go_simp
          refine (tempty_is (HS.out.on T.out.bx.old) HGD.out rfl HCD.out HLEN.out HD.out).mono ?_
          rintro e v2 ⟨P, cp, Q, cq, rfl, hcp, hcq, hO⟩
          have HCP := Lib.hid hcp
          have HCQ := Lib.hid hcq
          have NPQ : Hid (g6 ≠ P ∧ g6 ≠ Q ∧ g7 ≠ P ∧ g7 ≠ Q) := Lib.hid ⟨by have := hO.oP; have := R6.out.bx.lt; omega, by have := hO.oQ; have := R6.out.bx.lt; omega, by have := hO.oP; have := R7.out.bx.lt; omega, by have := hO.oQ; have := R7.out.bx.lt; omega⟩
          have hb := hO.old
          have O := Lib.hid (hO.base T.out.bx.old)
          clear hcp hcq hO
          replace T := Lib.hid (T.out.on hb)
          replace CK := Lib.hid (CK.out.on hb)
          replace R6 := Lib.hid (R6.out.on hb)
          replace R7 := Lib.hid (R7.out.on hb)
          clear hb
          refine hK.out _ _ ⟨T.out.bx, CK.out.bx⟩ (fun hHeld => ?_)
          clear hK K
          try simp only [Act.put, List.setIfInBounds_toArray, List.set_cons_zero, List.set_cons_succ, List.getElem_toArray, List.getElem_cons_zero, List.getElem_cons_succ]
          refine wpAnyH_take (i := 7) (v := ?_) rfl (by kernel_rfl) (by kernel_rfl) (by kernel_rfl) (fun _ _ _ h => h) (Or.inl ⟨by rfl, ?_⟩) (by assumption) ?_
          rotate_left
          · intro w hSw; go_simp; try with_reducible rfl
          try simp only [Act.put, List.setIfInBounds_toArray, List.set_cons_zero, List.set_cons_succ, List.getElem_toArray, List.getElem_cons_zero, List.getElem_cons_succ]
          refine wpAnyH_take (i := 8) (v := ?_) rfl (by kernel_rfl) (by kernel_rfl) (by kernel_rfl) (fun _ _ _ h => h) (Or.inl ⟨by rfl, ?_⟩) (by assumption) ?_
          rotate_left
          · intro w hSw; go_simp; try with_reducible rfl
          try simp only [Act.put, List.setIfInBounds_toArray, List.set_cons_zero, List.set_cons_succ, List.getElem_toArray, List.getElem_cons_zero, List.getElem_cons_succ]
          refine wpAnyH_take (i := 9) (v := ?_) rfl (by kernel_rfl) (by kernel_rfl) (by kernel_rfl) (fun _ _ _ h => h) (Or.inl ⟨by rfl, ?_⟩) (by assumption) ?_
          rotate_left
          · intro w hSw; go_simp; try with_reducible rfl
          try simp only [Act.put, List.setIfInBounds_toArray, List.set_cons_zero, List.set_cons_succ, List.getElem_toArray, List.getElem_cons_zero, List.getElem_cons_succ]
          refine wpAnyH_ready (rs := [10]) (by kernel_rfl) (by simp) ?_
          refine AllReadyH.cons rfl (fun K hK => ?_) AllReadyH.nil
          have hR := Wbs.more T.out.bx.old [.int .i64 0, .int .i64 0, .int .i64 0, .slice none 0 0, .slice none 0 0] 27
          have hb := below_alloc v2 (.cells #[.int .i64 0, .int .i64 0, .int .i64 0, .slice none 0 0, .slice none 0 0] 27)
          go_simp
          obtain ⟨g11, hx⟩ : ∃ x, x = v2.heap.size := ⟨_, rfl⟩
          have NE11 : Hid (w.heap.size ≠ g11 ∧ g5 ≠ g11 ∧ g6 ≠ g11 ∧ g7 ≠ g11) := Lib.hid ⟨by have := T.out.bx.lt; omega, by have := CK.out.bx.lt; omega, by have := R6.out.bx.lt; omega, by have := R7.out.bx.lt; omega⟩
          have NX : Hid (g11 ≠ P ∧ g11 ≠ Q) := Lib.hid ⟨by have := O.out.lP; omega, by have := O.out.lQ; omega⟩
          rw [← hx] at hR ⊢
          have hR2 : Wbs w (v2.alloc (.cells #[.int .i64 0, .int .i64 0, .int .i64 0, .slice none 0 0, .slice none 0 0] 27)) g11 [.int .i64 0, .int .i64 0, .int .i64 0, .slice none 0 0, .slice none 0 0] := hR
          generalize v2.alloc (.cells #[.int .i64 0, .int .i64 0, .int .i64 0, .slice none 0 0, .slice none 0 0] 27) = v3 at hR2 hb ⊢
          clear hR hx
          have N := Lib.hid hR2
          clear hR2
          replace T := Lib.hid (T.out.on hb)
          replace CK := Lib.hid (CK.out.on hb)
          replace R6 := Lib.hid (R6.out.on hb)
          replace R7 := Lib.hid (R7.out.on hb)
          replace O := Lib.hid (O.out.on hb)
          clear hb
          refine hK.out _ _ ⟨T.out.bx, CK.out.bx⟩ (fun hHeld => ?_)
          clear hK K
          try simp only [Act.put, List.setIfInBounds_toArray, List.set_cons_zero, List.set_cons_succ, List.getElem_toArray, List.getElem_cons_zero, List.getElem_cons_succ]
          refine wpAnyH_ready (rs := [11]) (by kernel_rfl) (by simp) ?_
          refine AllReadyH.cons rfl (fun K hK => ?_) AllReadyH.nil
          have HT11 : Hid (v3.there g11 0 (#[.int .i64 a, .int .i64 b, .int .i64 c, .slice (some ⟨P, 0, none⟩) n cp, .slice (some ⟨Q, 0, none⟩) m cq] : Array Value).size) := Lib.hid (N.out.there (n := 5) rfl)
          have HO11 := Lib.hid (state_one a b c (some ⟨P, 0, none⟩) n cp (some ⟨Q, 0, none⟩) m cq)
          replace N := Lib.hid (N.out.setCells (vs := [.int .i64 a, .int .i64 b, .int .i64 c, .slice (some ⟨P, 0, none⟩) n cp, .slice (some ⟨Q, 0, none⟩) m cq]) rfl)
          have fq := Fnd.setCells g11 [.int .i64 a, .int .i64 b, .int .i64 c, .slice (some ⟨P, 0, none⟩) n cp, .slice (some ⟨Q, 0, none⟩) m cq] 0 v3
          replace T := Lib.hid (T.out.fnd fq NE11.out.1 N.out.bx.old)
          replace CK := Lib.hid (CK.out.fnd fq NE11.out.2.1 N.out.bx.old)
          replace R6 := Lib.hid (R6.out.fnd fq NE11.out.2.2.1 N.out.bx.old)
          replace R7 := Lib.hid (R7.out.fnd fq NE11.out.2.2.2 N.out.bx.old)
          replace O := Lib.hid (O.out.step fq NX.out.1.symm NX.out.2.symm N.out.bx.old)
          clear fq
          refine step_store_mid (by rfl) 27 (.tmp 11) (.tmp 50) (by rfl) g11 0 #[.int .i64 a, .int .i64 b, .int .i64 c, .slice (some ⟨P, 0, none⟩) n cp, .slice (some ⟨Q, 0, none⟩) m cq] (by rfl) (by rfl) HT11.out info_state HO11.out ?_
          change K _ (v3.setCells g11 0 [.int .i64 a, .int .i64 b, .int .i64 c, .slice (some ⟨P, 0, none⟩) n cp, .slice (some ⟨Q, 0, none⟩) m cq])
          clear HT11
          generalize v3.setCells g11 0 [.int .i64 a, .int .i64 b, .int .i64 c, .slice (some ⟨P, 0, none⟩) n cp, .slice (some ⟨Q, 0, none⟩) m cq] = v4 at T CK R6 R7 N O ⊢
          refine hK.out _ _ ⟨T.out.bx, CK.out.bx⟩ (fun hHeld => ?_)
          clear hK K
          try simp only [Act.put, List.setIfInBounds_toArray, List.set_cons_zero, List.set_cons_succ, List.getElem_toArray, List.getElem_cons_zero, List.getElem_cons_succ]
          refine wpAnyH_take (i := 12) (v := ?_) rfl (by kernel_rfl) (by kernel_rfl) (by kernel_rfl) (fun _ _ _ h => h) (Or.inl ⟨by rfl, ?_⟩) (by assumption) ?_
          rotate_left
          · intro w hSw; go_simp; try with_reducible rfl
          try simp only [Act.put, List.setIfInBounds_toArray, List.set_cons_zero, List.set_cons_succ, List.getElem_toArray, List.getElem_cons_zero, List.getElem_cons_succ]
          refine wpAnyH_done (by kernel_rfl) ?_ _
          clear hHeld
          have n0 := N.out.bx.c 0 _ rfl
          have n1 := N.out.bx.c 1 _ rfl
          have n2 := N.out.bx.c 2 _ rfl
          have n3 := N.out.bx.c 3 _ rfl
          have n4 := N.out.bx.c 4 _ rfl
          have HT6 : Hid (v4.there g6 0 (#[.int .i64 a, .int .i64 b, .int .i64 c, .slice (some ⟨P, 0, none⟩) n cp, .slice (some ⟨Q, 0, none⟩) m cq] : Array Value).size) := Lib.hid (R6.out.there (n := 5) rfl)
          have HO6 := Lib.hid (state_one a b c (some ⟨P, 0, none⟩) n cp (some ⟨Q, 0, none⟩) m cq)
          have Q6 := Lib.hid (R6.out.setCells (vs := [.int .i64 a, .int .i64 b, .int .i64 c, .slice (some ⟨P, 0, none⟩) n cp, .slice (some ⟨Q, 0, none⟩) m cq]) rfl)
          have Q7 := Lib.hid (R7.out.fnd (Fnd.setCells g6 [.int .i64 a, .int .i64 b, .int .i64 c, .slice (some ⟨P, 0, none⟩) n cp, .slice (some ⟨Q, 0, none⟩) m cq] 0 v4) HNE.out.2.2.2.2.symm Q6.out.bx.old)
          have HQ := Lib.hid (O.out.step (Fnd.setCells g6 [.int .i64 a, .int .i64 b, .int .i64 c, .slice (some ⟨P, 0, none⟩) n cp, .slice (some ⟨Q, 0, none⟩) m cq] 0 v4) NPQ.out.1.symm NPQ.out.2.1.symm Q6.out.bx.old)
          clear R6 R7
          go_wp2_with (first
            | ((with_reducible change wpList _ _ _ _ _ _); refine wpList_store_mid (by rfl) 27 (.tmp 6) (.tmp 52) (by rfl) g6 0 #[.int .i64 a, .int .i64 b, .int .i64 c, .slice (some ⟨P, 0, none⟩) n cp, .slice (some ⟨Q, 0, none⟩) m cq] (by rfl) (by rfl) HT6.out info_state HO6.out ?_; change wpList _ _ _ _ _ (v4.setCells g6 0 [.int .i64 a, .int .i64 b, .int .i64 c, .slice (some ⟨P, 0, none⟩) n cp, .slice (some ⟨Q, 0, none⟩) m cq]); generalize v4.setCells g6 0 [.int .i64 a, .int .i64 b, .int .i64 c, .slice (some ⟨P, 0, none⟩) n cp, .slice (some ⟨Q, 0, none⟩) m cq] = wq at Q6 Q7 HQ ⊢; have HT7 : Hid (wq.there g7 0 (#[.int .i64 0, .int .u64 0, .int .i64 ((empAll s (tslots s (kk : Int) 6)).2 : Int)] : Array Value).size) := Lib.hid (Q7.out.there (n := 3) rfl); have HO7 := Lib.hid (reply_one 0 0 ((empAll s (tslots s (kk : Int) 6)).2 : Int)); have Q8 := Lib.hid (Q7.out.setCells (vs := [.int .i64 0, .int .u64 0, .int .i64 ((empAll s (tslots s (kk : Int) 6)).2 : Int)]) rfl); have Q9 := Lib.hid (Q6.out.fnd (Fnd.setCells g7 [.int .i64 0, .int .u64 0, .int .i64 ((empAll s (tslots s (kk : Int) 6)).2 : Int)] 0 wq) HNE.out.2.2.2.2 Q8.out.bx.old); replace HQ := Lib.hid (HQ.out.step (Fnd.setCells g7 [.int .i64 0, .int .u64 0, .int .i64 ((empAll s (tslots s (kk : Int) 6)).2 : Int)] 0 wq) NPQ.out.2.2.1.symm NPQ.out.2.2.2.symm Q8.out.bx.old))
            | ((with_reducible change wpList _ _ _ _ _ _); refine wpList_store_mid (by rfl) 40 (.tmp 7) (.tmp 54) (by rfl) g7 0 #[.int .i64 0, .int .u64 0, .int .i64 ((empAll s (tslots s (kk : Int) 6)).2 : Int)] (by rfl) (by rfl) HT7.out info_reply HO7.out ?_; change wpList _ _ _ _ _ (wq.setCells g7 0 [.int .i64 0, .int .u64 0, .int .i64 ((empAll s (tslots s (kk : Int) 6)).2 : Int)]); generalize wq.setCells g7 0 [.int .i64 0, .int .u64 0, .int .i64 ((empAll s (tslots s (kk : Int) 6)).2 : Int)] = wz at Q8 Q9 HQ ⊢))
          refine bodyPost_ret (results_cc rfl _ _ _ (b := g6) (b' := g7) (by rfl) Q9.out.bx.range Tryz.underlying27 rfl info_state (by rfl) Q8.out.bx.range Tryz.underlying40 rfl info_reply) rfl ?_
          rw [HRES.out]
          exact ⟨some ⟨P, 0, none⟩, cp, some ⟨Q, 0, none⟩, cq, rfl, Q8.out.bx.old, HCP.out, HCQ.out, HQ.out.fsh⟩
        · have hR := Wbs.more T.out.bx.old [.int .i64 0, .int .i64 0, .int .i64 0, .slice none 0 0, .slice none 0 0] 27
          have hb := below_alloc v1 (.cells #[.int .i64 0, .int .i64 0, .int .i64 0, .slice none 0 0, .slice none 0 0] 27)
          go_simp
          obtain ⟨g11, hx⟩ : ∃ x, x = v1.heap.size := ⟨_, rfl⟩
          have NE11 : Hid (w.heap.size ≠ g11 ∧ g5 ≠ g11 ∧ g6 ≠ g11 ∧ g7 ≠ g11) := Lib.hid ⟨by have := T.out.bx.lt; omega, by have := CK.out.bx.lt; omega, by have := R6.out.bx.lt; omega, by have := R7.out.bx.lt; omega⟩
          have HD2 := Lib.hid (HD.out.on hb)
          clear HD
          rw [← hx] at hR ⊢
          have hR2 : Wbs w (v1.alloc (.cells #[.int .i64 0, .int .i64 0, .int .i64 0, .slice none 0 0, .slice none 0 0] 27)) g11 [.int .i64 0, .int .i64 0, .int .i64 0, .slice none 0 0, .slice none 0 0] := hR
          generalize v1.alloc (.cells #[.int .i64 0, .int .i64 0, .int .i64 0, .slice none 0 0, .slice none 0 0] 27) = v2 at hR2 hb HD2 ⊢
          clear hR hx
          have HD := HD2
          have N := Lib.hid hR2
          clear hR2
          replace T := Lib.hid (T.out.on hb)
          replace CK := Lib.hid (CK.out.on hb)
          replace R6 := Lib.hid (R6.out.on hb)
          replace R7 := Lib.hid (R7.out.on hb)
          clear hb
          refine hK.out _ _ ⟨T.out.bx, CK.out.bx⟩ (fun hHeld => ?_)
          clear hK K
          try simp only [Act.put, List.setIfInBounds_toArray, List.set_cons_zero, List.set_cons_succ, List.getElem_toArray, List.getElem_cons_zero, List.getElem_cons_succ]
          refine wpAnyH_ready (rs := [6]) (by kernel_rfl) (by simp) ?_
          refine AllReadyH.cons rfl (fun K hK => ?_) AllReadyH.nil
          go_simp
          refine (tempty_is (HS.out.on T.out.bx.old) HGD.out rfl HCD.out HLEN.out HD.out).mono ?_
          rintro e v3 ⟨P, cp, Q, cq, rfl, hcp, hcq, hO⟩
          have HCP := Lib.hid hcp
          have HCQ := Lib.hid hcq
          have NPQ : Hid (g6 ≠ P ∧ g6 ≠ Q ∧ g7 ≠ P ∧ g7 ≠ Q) := Lib.hid ⟨by have := hO.oP; have := R6.out.bx.lt; omega, by have := hO.oQ; have := R6.out.bx.lt; omega, by have := hO.oP; have := R7.out.bx.lt; omega, by have := hO.oQ; have := R7.out.bx.lt; omega⟩
          have NX : Hid (g11 ≠ P ∧ g11 ≠ Q) := Lib.hid ⟨by have := hO.oP; have := N.out.bx.lt; omega, by have := hO.oQ; have := N.out.bx.lt; omega⟩
          have hb := hO.old
          have O := Lib.hid (hO.base T.out.bx.old)
          clear hcp hcq hO
          replace T := Lib.hid (T.out.on hb)
          replace CK := Lib.hid (CK.out.on hb)
          replace R6 := Lib.hid (R6.out.on hb)
          replace R7 := Lib.hid (R7.out.on hb)
          replace N := Lib.hid (N.out.on hb)
          clear hb
          refine hK.out _ _ ⟨T.out.bx, CK.out.bx⟩ (fun hHeld => ?_)
          clear hK K
          try simp only [Act.put, List.setIfInBounds_toArray, List.set_cons_zero, List.set_cons_succ, List.getElem_toArray, List.getElem_cons_zero, List.getElem_cons_succ]
          refine wpAnyH_take (i := 7) (v := ?_) rfl (by kernel_rfl) (by kernel_rfl) (by kernel_rfl) (fun _ _ _ h => h) (Or.inl ⟨by rfl, ?_⟩) (by assumption) ?_
          rotate_left
          · intro w hSw; go_simp; try with_reducible rfl
          try simp only [Act.put, List.setIfInBounds_toArray, List.set_cons_zero, List.set_cons_succ, List.getElem_toArray, List.getElem_cons_zero, List.getElem_cons_succ]
          refine wpAnyH_take (i := 8) (v := ?_) rfl (by kernel_rfl) (by kernel_rfl) (by kernel_rfl) (fun _ _ _ h => h) (Or.inl ⟨by rfl, ?_⟩) (by assumption) ?_
          rotate_left
          · intro w hSw; go_simp; try with_reducible rfl
          try simp only [Act.put, List.setIfInBounds_toArray, List.set_cons_zero, List.set_cons_succ, List.getElem_toArray, List.getElem_cons_zero, List.getElem_cons_succ]
          refine wpAnyH_take (i := 9) (v := ?_) rfl (by kernel_rfl) (by kernel_rfl) (by kernel_rfl) (fun _ _ _ h => h) (Or.inl ⟨by rfl, ?_⟩) (by assumption) ?_
          rotate_left
          · intro w hSw; go_simp; try with_reducible rfl
          try simp only [Act.put, List.setIfInBounds_toArray, List.set_cons_zero, List.set_cons_succ, List.getElem_toArray, List.getElem_cons_zero, List.getElem_cons_succ]
          refine wpAnyH_ready (rs := [11]) (by kernel_rfl) (by simp) ?_
          refine AllReadyH.cons rfl (fun K hK => ?_) AllReadyH.nil
          have HT11 : Hid (v3.there g11 0 (#[.int .i64 a, .int .i64 b, .int .i64 c, .slice (some ⟨P, 0, none⟩) n cp, .slice (some ⟨Q, 0, none⟩) m cq] : Array Value).size) := Lib.hid (N.out.there (n := 5) rfl)
          have HO11 := Lib.hid (state_one a b c (some ⟨P, 0, none⟩) n cp (some ⟨Q, 0, none⟩) m cq)
          replace N := Lib.hid (N.out.setCells (vs := [.int .i64 a, .int .i64 b, .int .i64 c, .slice (some ⟨P, 0, none⟩) n cp, .slice (some ⟨Q, 0, none⟩) m cq]) rfl)
          have fq := Fnd.setCells g11 [.int .i64 a, .int .i64 b, .int .i64 c, .slice (some ⟨P, 0, none⟩) n cp, .slice (some ⟨Q, 0, none⟩) m cq] 0 v3
          replace T := Lib.hid (T.out.fnd fq NE11.out.1 N.out.bx.old)
          replace CK := Lib.hid (CK.out.fnd fq NE11.out.2.1 N.out.bx.old)
          replace R6 := Lib.hid (R6.out.fnd fq NE11.out.2.2.1 N.out.bx.old)
          replace R7 := Lib.hid (R7.out.fnd fq NE11.out.2.2.2 N.out.bx.old)
          replace O := Lib.hid (O.out.step fq NX.out.1.symm NX.out.2.symm N.out.bx.old)
          clear fq
          refine step_store_mid (by rfl) 27 (.tmp 11) (.tmp 50) (by rfl) g11 0 #[.int .i64 a, .int .i64 b, .int .i64 c, .slice (some ⟨P, 0, none⟩) n cp, .slice (some ⟨Q, 0, none⟩) m cq] (by rfl) (by rfl) HT11.out info_state HO11.out ?_
          change K _ (v3.setCells g11 0 [.int .i64 a, .int .i64 b, .int .i64 c, .slice (some ⟨P, 0, none⟩) n cp, .slice (some ⟨Q, 0, none⟩) m cq])
          clear HT11
          generalize v3.setCells g11 0 [.int .i64 a, .int .i64 b, .int .i64 c, .slice (some ⟨P, 0, none⟩) n cp, .slice (some ⟨Q, 0, none⟩) m cq] = v4 at T CK R6 R7 N O ⊢
          refine hK.out _ _ ⟨T.out.bx, CK.out.bx⟩ (fun hHeld => ?_)
          clear hK K
          try simp only [Act.put, List.setIfInBounds_toArray, List.set_cons_zero, List.set_cons_succ, List.getElem_toArray, List.getElem_cons_zero, List.getElem_cons_succ]
          refine wpAnyH_take (i := 12) (v := ?_) rfl (by kernel_rfl) (by kernel_rfl) (by kernel_rfl) (fun _ _ _ h => h) (Or.inl ⟨by rfl, ?_⟩) (by assumption) ?_
          rotate_left
          · intro w hSw; go_simp; try with_reducible rfl
          try simp only [Act.put, List.setIfInBounds_toArray, List.set_cons_zero, List.set_cons_succ, List.getElem_toArray, List.getElem_cons_zero, List.getElem_cons_succ]
          refine wpAnyH_done (by kernel_rfl) ?_ _
          clear hHeld
          have n0 := N.out.bx.c 0 _ rfl
          have n1 := N.out.bx.c 1 _ rfl
          have n2 := N.out.bx.c 2 _ rfl
          have n3 := N.out.bx.c 3 _ rfl
          have n4 := N.out.bx.c 4 _ rfl
          have HT6 : Hid (v4.there g6 0 (#[.int .i64 a, .int .i64 b, .int .i64 c, .slice (some ⟨P, 0, none⟩) n cp, .slice (some ⟨Q, 0, none⟩) m cq] : Array Value).size) := Lib.hid (R6.out.there (n := 5) rfl)
          have HO6 := Lib.hid (state_one a b c (some ⟨P, 0, none⟩) n cp (some ⟨Q, 0, none⟩) m cq)
          have Q6 := Lib.hid (R6.out.setCells (vs := [.int .i64 a, .int .i64 b, .int .i64 c, .slice (some ⟨P, 0, none⟩) n cp, .slice (some ⟨Q, 0, none⟩) m cq]) rfl)
          have Q7 := Lib.hid (R7.out.fnd (Fnd.setCells g6 [.int .i64 a, .int .i64 b, .int .i64 c, .slice (some ⟨P, 0, none⟩) n cp, .slice (some ⟨Q, 0, none⟩) m cq] 0 v4) HNE.out.2.2.2.2.symm Q6.out.bx.old)
          have HQ := Lib.hid (O.out.step (Fnd.setCells g6 [.int .i64 a, .int .i64 b, .int .i64 c, .slice (some ⟨P, 0, none⟩) n cp, .slice (some ⟨Q, 0, none⟩) m cq] 0 v4) NPQ.out.1.symm NPQ.out.2.1.symm Q6.out.bx.old)
          clear R6 R7
          go_wp2_with (first
            | ((with_reducible change wpList _ _ _ _ _ _); refine wpList_store_mid (by rfl) 27 (.tmp 6) (.tmp 52) (by rfl) g6 0 #[.int .i64 a, .int .i64 b, .int .i64 c, .slice (some ⟨P, 0, none⟩) n cp, .slice (some ⟨Q, 0, none⟩) m cq] (by rfl) (by rfl) HT6.out info_state HO6.out ?_; change wpList _ _ _ _ _ (v4.setCells g6 0 [.int .i64 a, .int .i64 b, .int .i64 c, .slice (some ⟨P, 0, none⟩) n cp, .slice (some ⟨Q, 0, none⟩) m cq]); generalize v4.setCells g6 0 [.int .i64 a, .int .i64 b, .int .i64 c, .slice (some ⟨P, 0, none⟩) n cp, .slice (some ⟨Q, 0, none⟩) m cq] = wq at Q6 Q7 HQ ⊢; have HT7 : Hid (wq.there g7 0 (#[.int .i64 0, .int .u64 0, .int .i64 ((empAll s (tslots s (kk : Int) 6)).2 : Int)] : Array Value).size) := Lib.hid (Q7.out.there (n := 3) rfl); have HO7 := Lib.hid (reply_one 0 0 ((empAll s (tslots s (kk : Int) 6)).2 : Int)); have Q8 := Lib.hid (Q7.out.setCells (vs := [.int .i64 0, .int .u64 0, .int .i64 ((empAll s (tslots s (kk : Int) 6)).2 : Int)]) rfl); have Q9 := Lib.hid (Q6.out.fnd (Fnd.setCells g7 [.int .i64 0, .int .u64 0, .int .i64 ((empAll s (tslots s (kk : Int) 6)).2 : Int)] 0 wq) HNE.out.2.2.2.2 Q8.out.bx.old); replace HQ := Lib.hid (HQ.out.step (Fnd.setCells g7 [.int .i64 0, .int .u64 0, .int .i64 ((empAll s (tslots s (kk : Int) 6)).2 : Int)] 0 wq) NPQ.out.2.2.1.symm NPQ.out.2.2.2.symm Q8.out.bx.old))
            | ((with_reducible change wpList _ _ _ _ _ _); refine wpList_store_mid (by rfl) 40 (.tmp 7) (.tmp 54) (by rfl) g7 0 #[.int .i64 0, .int .u64 0, .int .i64 ((empAll s (tslots s (kk : Int) 6)).2 : Int)] (by rfl) (by rfl) HT7.out info_reply HO7.out ?_; change wpList _ _ _ _ _ (wq.setCells g7 0 [.int .i64 0, .int .u64 0, .int .i64 ((empAll s (tslots s (kk : Int) 6)).2 : Int)]); generalize wq.setCells g7 0 [.int .i64 0, .int .u64 0, .int .i64 ((empAll s (tslots s (kk : Int) 6)).2 : Int)] = wz at Q8 Q9 HQ ⊢))
          refine bodyPost_ret (results_cc rfl _ _ _ (b := g6) (b' := g7) (by rfl) Q9.out.bx.range Tryz.underlying27 rfl info_state (by rfl) Q8.out.bx.range Tryz.underlying40 rfl info_reply) rfl ?_
          rw [HRES.out]
          exact ⟨some ⟨P, 0, none⟩, cp, some ⟨Q, 0, none⟩, cq, rfl, Q8.out.bx.old, HCP.out, HCQ.out, HQ.out.fsh⟩
      · have hR := Wbs.more T.out.bx.old [.int .i64 0, .int .i64 0, .int .i64 0, .slice none 0 0, .slice none 0 0] 27
        have hb := below_alloc v0 (.cells #[.int .i64 0, .int .i64 0, .int .i64 0, .slice none 0 0, .slice none 0 0] 27)
        go_simp
        obtain ⟨g11, hx⟩ : ∃ x, x = v0.heap.size := ⟨_, rfl⟩
        have NE11 : Hid (w.heap.size ≠ g11 ∧ g5 ≠ g11 ∧ g6 ≠ g11 ∧ g7 ≠ g11) := Lib.hid ⟨by have := T.out.bx.lt; omega, by have := CK.out.bx.lt; omega, by have := R6.out.bx.lt; omega, by have := R7.out.bx.lt; omega⟩
        rw [← hx] at hR ⊢
        have hR2 : Wbs w (v0.alloc (.cells #[.int .i64 0, .int .i64 0, .int .i64 0, .slice none 0 0, .slice none 0 0] 27)) g11 [.int .i64 0, .int .i64 0, .int .i64 0, .slice none 0 0, .slice none 0 0] := hR
        generalize v0.alloc (.cells #[.int .i64 0, .int .i64 0, .int .i64 0, .slice none 0 0, .slice none 0 0] 27) = v1 at hR2 hb ⊢
        clear hR hx
        have N := Lib.hid hR2
        clear hR2
        replace T := Lib.hid (T.out.on hb)
        replace CK := Lib.hid (CK.out.on hb)
        replace R6 := Lib.hid (R6.out.on hb)
        replace R7 := Lib.hid (R7.out.on hb)
        clear hb
        refine hK.out _ _ ⟨T.out.bx, CK.out.bx⟩ (fun hHeld => ?_)
        clear hK K
        try simp only [Act.put, List.setIfInBounds_toArray, List.set_cons_zero, List.set_cons_succ, List.getElem_toArray, List.getElem_cons_zero, List.getElem_cons_succ]
        refine wpAnyH_ready (rs := [5]) (by kernel_rfl) (by simp) ?_
        refine AllReadyH.cons rfl (fun K hK => ?_) AllReadyH.nil
        go_simp
        refine (toempty_is (HS.out.on T.out.bx.old) rfl).mono ?_
        rintro e v2 ⟨D, cd, rfl, hcd, hD, hb⟩
        have HD := Lib.hid hD
        have HCD := Lib.hid hcd
        clear hcd hD
        replace T := Lib.hid (T.out.on hb)
        replace CK := Lib.hid (CK.out.on hb)
        replace R6 := Lib.hid (R6.out.on hb)
        replace R7 := Lib.hid (R7.out.on hb)
        replace N := Lib.hid (N.out.on hb)
        clear hb
        refine hK.out _ _ ⟨T.out.bx, CK.out.bx⟩ (fun hHeld => ?_)
        clear hK K
        try simp only [Act.put, List.setIfInBounds_toArray, List.set_cons_zero, List.set_cons_succ, List.getElem_toArray, List.getElem_cons_zero, List.getElem_cons_succ]
        refine wpAnyH_ready (rs := [6]) (by kernel_rfl) (by simp) ?_
        refine AllReadyH.cons rfl (fun K hK => ?_) AllReadyH.nil
        go_simp
        refine (tempty_is (HS.out.on T.out.bx.old) HGD.out rfl HCD.out HLEN.out HD.out).mono ?_
        rintro e v3 ⟨P, cp, Q, cq, rfl, hcp, hcq, hO⟩
        have HCP := Lib.hid hcp
        have HCQ := Lib.hid hcq
        have NPQ : Hid (g6 ≠ P ∧ g6 ≠ Q ∧ g7 ≠ P ∧ g7 ≠ Q) := Lib.hid ⟨by have := hO.oP; have := R6.out.bx.lt; omega, by have := hO.oQ; have := R6.out.bx.lt; omega, by have := hO.oP; have := R7.out.bx.lt; omega, by have := hO.oQ; have := R7.out.bx.lt; omega⟩
        have NX : Hid (g11 ≠ P ∧ g11 ≠ Q) := Lib.hid ⟨by have := hO.oP; have := N.out.bx.lt; omega, by have := hO.oQ; have := N.out.bx.lt; omega⟩
        have hb := hO.old
        have O := Lib.hid (hO.base T.out.bx.old)
        clear hcp hcq hO
        replace T := Lib.hid (T.out.on hb)
        replace CK := Lib.hid (CK.out.on hb)
        replace R6 := Lib.hid (R6.out.on hb)
        replace R7 := Lib.hid (R7.out.on hb)
        replace N := Lib.hid (N.out.on hb)
        clear hb
        refine hK.out _ _ ⟨T.out.bx, CK.out.bx⟩ (fun hHeld => ?_)
        clear hK K
        try simp only [Act.put, List.setIfInBounds_toArray, List.set_cons_zero, List.set_cons_succ, List.getElem_toArray, List.getElem_cons_zero, List.getElem_cons_succ]
        refine wpAnyH_take (i := 7) (v := ?_) rfl (by kernel_rfl) (by kernel_rfl) (by kernel_rfl) (fun _ _ _ h => h) (Or.inl ⟨by rfl, ?_⟩) (by assumption) ?_
        rotate_left
        · intro w hSw; go_simp; try with_reducible rfl
        try simp only [Act.put, List.setIfInBounds_toArray, List.set_cons_zero, List.set_cons_succ, List.getElem_toArray, List.getElem_cons_zero, List.getElem_cons_succ]
        refine wpAnyH_take (i := 8) (v := ?_) rfl (by kernel_rfl) (by kernel_rfl) (by kernel_rfl) (fun _ _ _ h => h) (Or.inl ⟨by rfl, ?_⟩) (by assumption) ?_
        rotate_left
        · intro w hSw; go_simp; try with_reducible rfl
        try simp only [Act.put, List.setIfInBounds_toArray, List.set_cons_zero, List.set_cons_succ, List.getElem_toArray, List.getElem_cons_zero, List.getElem_cons_succ]
        refine wpAnyH_take (i := 9) (v := ?_) rfl (by kernel_rfl) (by kernel_rfl) (by kernel_rfl) (fun _ _ _ h => h) (Or.inl ⟨by rfl, ?_⟩) (by assumption) ?_
        rotate_left
        · intro w hSw; go_simp; try with_reducible rfl
        try simp only [Act.put, List.setIfInBounds_toArray, List.set_cons_zero, List.set_cons_succ, List.getElem_toArray, List.getElem_cons_zero, List.getElem_cons_succ]
        refine wpAnyH_ready (rs := [11]) (by kernel_rfl) (by simp) ?_
        refine AllReadyH.cons rfl (fun K hK => ?_) AllReadyH.nil
        have HT11 : Hid (v3.there g11 0 (#[.int .i64 a, .int .i64 b, .int .i64 c, .slice (some ⟨P, 0, none⟩) n cp, .slice (some ⟨Q, 0, none⟩) m cq] : Array Value).size) := Lib.hid (N.out.there (n := 5) rfl)
        have HO11 := Lib.hid (state_one a b c (some ⟨P, 0, none⟩) n cp (some ⟨Q, 0, none⟩) m cq)
        replace N := Lib.hid (N.out.setCells (vs := [.int .i64 a, .int .i64 b, .int .i64 c, .slice (some ⟨P, 0, none⟩) n cp, .slice (some ⟨Q, 0, none⟩) m cq]) rfl)
        have fq := Fnd.setCells g11 [.int .i64 a, .int .i64 b, .int .i64 c, .slice (some ⟨P, 0, none⟩) n cp, .slice (some ⟨Q, 0, none⟩) m cq] 0 v3
        replace T := Lib.hid (T.out.fnd fq NE11.out.1 N.out.bx.old)
        replace CK := Lib.hid (CK.out.fnd fq NE11.out.2.1 N.out.bx.old)
        replace R6 := Lib.hid (R6.out.fnd fq NE11.out.2.2.1 N.out.bx.old)
        replace R7 := Lib.hid (R7.out.fnd fq NE11.out.2.2.2 N.out.bx.old)
        replace O := Lib.hid (O.out.step fq NX.out.1.symm NX.out.2.symm N.out.bx.old)
        clear fq
        refine step_store_mid (by rfl) 27 (.tmp 11) (.tmp 50) (by rfl) g11 0 #[.int .i64 a, .int .i64 b, .int .i64 c, .slice (some ⟨P, 0, none⟩) n cp, .slice (some ⟨Q, 0, none⟩) m cq] (by rfl) (by rfl) HT11.out info_state HO11.out ?_
        change K _ (v3.setCells g11 0 [.int .i64 a, .int .i64 b, .int .i64 c, .slice (some ⟨P, 0, none⟩) n cp, .slice (some ⟨Q, 0, none⟩) m cq])
        clear HT11
        generalize v3.setCells g11 0 [.int .i64 a, .int .i64 b, .int .i64 c, .slice (some ⟨P, 0, none⟩) n cp, .slice (some ⟨Q, 0, none⟩) m cq] = v4 at T CK R6 R7 N O ⊢
        refine hK.out _ _ ⟨T.out.bx, CK.out.bx⟩ (fun hHeld => ?_)
        clear hK K
        try simp only [Act.put, List.setIfInBounds_toArray, List.set_cons_zero, List.set_cons_succ, List.getElem_toArray, List.getElem_cons_zero, List.getElem_cons_succ]
        refine wpAnyH_take (i := 12) (v := ?_) rfl (by kernel_rfl) (by kernel_rfl) (by kernel_rfl) (fun _ _ _ h => h) (Or.inl ⟨by rfl, ?_⟩) (by assumption) ?_
        rotate_left
        · intro w hSw; go_simp; try with_reducible rfl
        try simp only [Act.put, List.setIfInBounds_toArray, List.set_cons_zero, List.set_cons_succ, List.getElem_toArray, List.getElem_cons_zero, List.getElem_cons_succ]
        refine wpAnyH_done (by kernel_rfl) ?_ _
        clear hHeld
        have n0 := N.out.bx.c 0 _ rfl
        have n1 := N.out.bx.c 1 _ rfl
        have n2 := N.out.bx.c 2 _ rfl
        have n3 := N.out.bx.c 3 _ rfl
        have n4 := N.out.bx.c 4 _ rfl
        have HT6 : Hid (v4.there g6 0 (#[.int .i64 a, .int .i64 b, .int .i64 c, .slice (some ⟨P, 0, none⟩) n cp, .slice (some ⟨Q, 0, none⟩) m cq] : Array Value).size) := Lib.hid (R6.out.there (n := 5) rfl)
        have HO6 := Lib.hid (state_one a b c (some ⟨P, 0, none⟩) n cp (some ⟨Q, 0, none⟩) m cq)
        have Q6 := Lib.hid (R6.out.setCells (vs := [.int .i64 a, .int .i64 b, .int .i64 c, .slice (some ⟨P, 0, none⟩) n cp, .slice (some ⟨Q, 0, none⟩) m cq]) rfl)
        have Q7 := Lib.hid (R7.out.fnd (Fnd.setCells g6 [.int .i64 a, .int .i64 b, .int .i64 c, .slice (some ⟨P, 0, none⟩) n cp, .slice (some ⟨Q, 0, none⟩) m cq] 0 v4) HNE.out.2.2.2.2.symm Q6.out.bx.old)
        have HQ := Lib.hid (O.out.step (Fnd.setCells g6 [.int .i64 a, .int .i64 b, .int .i64 c, .slice (some ⟨P, 0, none⟩) n cp, .slice (some ⟨Q, 0, none⟩) m cq] 0 v4) NPQ.out.1.symm NPQ.out.2.1.symm Q6.out.bx.old)
        clear R6 R7
        go_wp2_with (first
          | ((with_reducible change wpList _ _ _ _ _ _); refine wpList_store_mid (by rfl) 27 (.tmp 6) (.tmp 52) (by rfl) g6 0 #[.int .i64 a, .int .i64 b, .int .i64 c, .slice (some ⟨P, 0, none⟩) n cp, .slice (some ⟨Q, 0, none⟩) m cq] (by rfl) (by rfl) HT6.out info_state HO6.out ?_; change wpList _ _ _ _ _ (v4.setCells g6 0 [.int .i64 a, .int .i64 b, .int .i64 c, .slice (some ⟨P, 0, none⟩) n cp, .slice (some ⟨Q, 0, none⟩) m cq]); generalize v4.setCells g6 0 [.int .i64 a, .int .i64 b, .int .i64 c, .slice (some ⟨P, 0, none⟩) n cp, .slice (some ⟨Q, 0, none⟩) m cq] = wq at Q6 Q7 HQ ⊢; have HT7 : Hid (wq.there g7 0 (#[.int .i64 0, .int .u64 0, .int .i64 ((empAll s (tslots s (kk : Int) 6)).2 : Int)] : Array Value).size) := Lib.hid (Q7.out.there (n := 3) rfl); have HO7 := Lib.hid (reply_one 0 0 ((empAll s (tslots s (kk : Int) 6)).2 : Int)); have Q8 := Lib.hid (Q7.out.setCells (vs := [.int .i64 0, .int .u64 0, .int .i64 ((empAll s (tslots s (kk : Int) 6)).2 : Int)]) rfl); have Q9 := Lib.hid (Q6.out.fnd (Fnd.setCells g7 [.int .i64 0, .int .u64 0, .int .i64 ((empAll s (tslots s (kk : Int) 6)).2 : Int)] 0 wq) HNE.out.2.2.2.2 Q8.out.bx.old); replace HQ := Lib.hid (HQ.out.step (Fnd.setCells g7 [.int .i64 0, .int .u64 0, .int .i64 ((empAll s (tslots s (kk : Int) 6)).2 : Int)] 0 wq) NPQ.out.2.2.1.symm NPQ.out.2.2.2.symm Q8.out.bx.old))
          | ((with_reducible change wpList _ _ _ _ _ _); refine wpList_store_mid (by rfl) 40 (.tmp 7) (.tmp 54) (by rfl) g7 0 #[.int .i64 0, .int .u64 0, .int .i64 ((empAll s (tslots s (kk : Int) 6)).2 : Int)] (by rfl) (by rfl) HT7.out info_reply HO7.out ?_; change wpList _ _ _ _ _ (wq.setCells g7 0 [.int .i64 0, .int .u64 0, .int .i64 ((empAll s (tslots s (kk : Int) 6)).2 : Int)]); generalize wq.setCells g7 0 [.int .i64 0, .int .u64 0, .int .i64 ((empAll s (tslots s (kk : Int) 6)).2 : Int)] = wz at Q8 Q9 HQ ⊢))
        refine bodyPost_ret (results_cc rfl _ _ _ (b := g6) (b' := g7) (by rfl) Q9.out.bx.range Tryz.underlying27 rfl info_state (by rfl) Q8.out.bx.range Tryz.underlying40 rfl info_reply) rfl ?_
        rw [HRES.out]
        exact ⟨some ⟨P, 0, none⟩, cp, some ⟨Q, 0, none⟩, cq, rfl, Q8.out.bx.old, HCP.out, HCQ.out, HQ.out.fsh⟩
  · have h5' : (o != 5) = true := by rw [bne_iff_ne]; exact h5
    have h6' : (o != 6) = true := by rw [bne_iff_ne]; exact h6
    have HRES : Hid (r = (none, ⟨1, 0, 0⟩)) := Lib.hid (by rw [← HR.out, tdo, if_neg (fun e => e.1.elim h5 h6)])
    clear h5 h6 t0 t1 t2 t3 t4
    have t0 := T.out.bx.c 0 _ rfl
    have t1 := T.out.bx.c 1 _ rfl
    have t2 := T.out.bx.c 2 _ rfl
    have t3 := T.out.bx.c 3 _ rfl
    have t4 := T.out.bx.c 4 _ rfl
    have HT6 : Hid (w4.there g6 0 (#[.int .i64 a, .int .i64 b, .int .i64 c, .slice A n ca, .slice C m cc] : Array Value).size) := Lib.hid (R6.out.there (n := 5) rfl)
    have HO6 := Lib.hid (state_one a b c A n ca C m cc)
    have Q6 := Lib.hid (R6.out.setCells (vs := [.int .i64 a, .int .i64 b, .int .i64 c, .slice A n ca, .slice C m cc]) rfl)
    have Q7 := Lib.hid (R7.out.fnd (Fnd.setCells g6 [.int .i64 a, .int .i64 b, .int .i64 c, .slice A n ca, .slice C m cc] 0 w4) HNE.out.2.2.2.2.symm Q6.out.bx.old)
    clear R6 R7
    go_wp2_with (first
      | ((with_reducible change wpList _ _ _ _ _ _); refine wpList_store_mid (by rfl) 27 (.tmp 6) (.tmp 26) (by rfl) g6 0 #[.int .i64 a, .int .i64 b, .int .i64 c, .slice A n ca, .slice C m cc] (by rfl) (by rfl) HT6.out info_state HO6.out ?_; change wpList _ _ _ _ _ (w4.setCells g6 0 [.int .i64 a, .int .i64 b, .int .i64 c, .slice A n ca, .slice C m cc]); generalize w4.setCells g6 0 [.int .i64 a, .int .i64 b, .int .i64 c, .slice A n ca, .slice C m cc] = wq at Q6 Q7 ⊢; have HT7 : Hid (wq.there g7 0 (#[.int .i64 1, .int .u64 0, .int .i64 0] : Array Value).size) := Lib.hid (Q7.out.there (n := 3) rfl); have HO7 := Lib.hid (reply_one 1 0 0); have Q8 := Lib.hid (Q7.out.setCells (vs := [.int .i64 1, .int .u64 0, .int .i64 0]) rfl); have Q9 := Lib.hid (Q6.out.fnd (Fnd.setCells g7 [.int .i64 1, .int .u64 0, .int .i64 0] 0 wq) HNE.out.2.2.2.2 Q8.out.bx.old))
      | ((with_reducible change wpList _ _ _ _ _ _); refine wpList_store_mid (by rfl) 40 (.tmp 7) (.tmp 27) (by rfl) g7 0 #[.int .i64 1, .int .u64 0, .int .i64 0] (by rfl) (by rfl) HT7.out info_reply HO7.out ?_; change wpList _ _ _ _ _ (wq.setCells g7 0 [.int .i64 1, .int .u64 0, .int .i64 0]); generalize wq.setCells g7 0 [.int .i64 1, .int .u64 0, .int .i64 0] = wz at Q8 Q9 ⊢))
    refine bodyPost_ret (results_cc rfl _ _ _ (b := g6) (b' := g7) (by rfl) Q9.out.bx.range Tryz.underlying27 rfl info_state (by rfl) Q8.out.bx.range Tryz.underlying40 rfl info_reply) rfl ?_
    rw [HRES.out]
    exact ⟨A, ca, C, cc, rfl, Q8.out.bx.old, rfl, rfl, rfl, rfl⟩
end Go.Proofs.YtkpbfbmkolgmgaaGreat
