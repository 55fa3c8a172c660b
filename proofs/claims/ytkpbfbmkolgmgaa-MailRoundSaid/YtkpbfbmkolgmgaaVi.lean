/-
  The walk of the law MailRound. Condition: the state and the way lie in memory.
-/
import Derived.Test.YtkpbfbmkolgmgaaVg
import Derived.Test.YtkpbfbmkolgmgaaVh
namespace Go.Proofs.Ytkpbfbmkolgmgaa
open Go.RowKit
set_option linter.unusedSimpArgs false
set_option linter.unusedVariables false

set_option maxRecDepth 100000 in
set_option maxHeartbeats 40000000 in
theorem mail_round_law {s : St} {a b c : Int} {A C : Option Addr} {n ca m cc : Nat} {t : Int} {PA : Option Addr} {na cpa z : Nat} {la : List Int} {w : World} (hS : StAt w s A C) (hsg : s.g = ⟨a, b, c⟩) (hsn : n = s.sl.length) (hsm : m = s.th.length) (hsca : n ≤ ca) (hscc : m ≤ cc)
    (hna : na = la.length) (hcpa : na ≤ cpa) (hA : IntsAt w w.heap.size PA la) :
    Calls Try.prog 3 #[.agg #[.int .i64 a, .int .i64 b, .int .i64 c, .slice A n ca, .slice C m cc], .int .i64 t, .slice PA na cpa, .int .u64 (z : Int)] w fun e w' => e = .returned (.bool true) ∧ Below w.heap.size w w' := by
  have HSA := Lib.hid hS
  have HSG := Lib.hid hsg
  have HSN := Lib.hid hsn
  have HSM := Lib.hid hsm
  have HSCA := Lib.hid hsca
  have HSCC := Lib.hid hscc
  have HNA := Lib.hid hna
  have HCPA := Lib.hid hcpa
  have HA := Lib.hid hA
  clear hS hsg hsn hsm hsca hscc hna hcpa hA
  have k1 := Wbs.more (below_self w) [.int .i64 a, .int .i64 b, .int .i64 c, .slice A n ca, .slice C m cc] 27
  go_enter Try.func3, Try.ntmps3
  go_upto_region 1 with fail
  generalize w.alloc _ = w1 at k1 ⊢
  have K1 := Lib.hid k1
  clear k1
  go_wp2_with fail
  refine (awake18_is w1).mono ?_
  rintro e w2 ⟨rfl, hb⟩
  replace K1 := Lib.hid (K1.out.on hb)
  clear hb
  go_wp2_with fail
  refine (way18_is w2).mono ?_
  rintro e w3 ⟨rfl, hb⟩
  replace K1 := Lib.hid (K1.out.on hb)
  clear hb
  go_upto_region 4 with fail
  have N := Wbs.more K1.out.bx.old [.int .i64 7, .slice PA na cpa, .slice none 0 0, .int .i64 0, .int .i64 0, .int .u64 (z : Int)] 35
  have hal := below_alloc w3 (.cells #[.int .i64 7, .slice PA na cpa, .slice none 0 0, .int .i64 0, .int .i64 0, .int .u64 (z : Int)] 35)
  replace K1 := Lib.hid (K1.out.on hal)
  clear hal
  obtain ⟨g9, hg9⟩ : ∃ g9, g9 = w3.heap.size := ⟨_, rfl⟩
  rw [← hg9] at N ⊢
  clear hg9
  generalize w3.alloc _ = w5 at N K1 ⊢
  have K9 := Lib.hid N
  clear N
  obtain ⟨hv, hhv⟩ : ∃ hv, (decide (100 < n) || (decide (50 < m) || (decide (10 < na) || decide (10 < 0)))) = hv := ⟨_, rfl⟩
  have HHV := Lib.hid hhv
  clear hhv
  have t0 := K1.out.bx.c 0 _ rfl
  have t1 := K1.out.bx.c 1 _ rfl
  have t2 := K1.out.bx.c 2 _ rfl
  have t3 := K1.out.bx.c 3 _ rfl
  have t4 := K1.out.bx.c 4 _ rfl
  have k0 := K9.out.bx.c 0 _ rfl
  have k1 := K9.out.bx.c 1 _ rfl
  have k2 := K9.out.bx.c 2 _ rfl
  have k3 := K9.out.bx.c 3 _ rfl
  have k4 := K9.out.bx.c 4 _ rfl
  have k5 := K9.out.bx.c 5 _ rfl
  go_wp2_with fail
  refine (heavy18_is (z := z) HHV.out w5).mono ?_
  rintro e w6 ⟨rfl, hb⟩
  replace K1 := Lib.hid (K1.out.on hb)
  replace K9 := Lib.hid (K9.out.on hb)
  clear hb t0 t1 t2 t3 t4 k0 k1 k2 k3 k4 k5
  cases hv with
  | true =>
    go_wp2
    go_ret
    exact ⟨rfl, K1.out.bx.old⟩
  | false =>
  have HS : Hid (StH w s a b c A n ca C m cc) := Lib.hid (by
    have h := HHV.out
    simp only [Bool.or_eq_false_iff, decide_eq_false_iff_not] at h
    exact ⟨HSA.out, HSG.out, HSN.out, HSM.out, by omega, by omega, HSCA.out, HSCC.out⟩)
  clear HSA HSG HSN HSM HSCA HSCC HHV
  obtain ⟨gd, hgd⟩ : ∃ gd, sgood s = gd := ⟨_, rfl⟩
  have HGD := Lib.hid hgd
  clear hgd
  have t0 := K1.out.bx.c 0 _ rfl
  have t1 := K1.out.bx.c 1 _ rfl
  have t2 := K1.out.bx.c 2 _ rfl
  have t3 := K1.out.bx.c 3 _ rfl
  have t4 := K1.out.bx.c 4 _ rfl
  go_wp2_with fail
  refine (sgood_is (HS.out.on K1.out.bx.old) HGD.out).mono ?_
  rintro e w7 ⟨rfl, hb⟩
  replace K1 := Lib.hid (K1.out.on hb)
  replace K9 := Lib.hid (K9.out.on hb)
  clear hb t0 t1 t2 t3 t4
  cases gd with
  | false =>
    go_wp2
    go_ret
    exact ⟨rfl, K1.out.bx.old⟩
  | true =>
    obtain ⟨r, hr⟩ : ∃ r, mdo s t ⟨7, la, [], 0, 0, z⟩ = r := ⟨_, rfl⟩
    have HR := Lib.hid hr
    clear hr
    have t0 := K1.out.bx.c 0 _ rfl
    have t1 := K1.out.bx.c 1 _ rfl
    have t2 := K1.out.bx.c 2 _ rfl
    have t3 := K1.out.bx.c 3 _ rfl
    have t4 := K1.out.bx.c 4 _ rfl
    have k0 := K9.out.bx.c 0 _ rfl
    have k1 := K9.out.bx.c 1 _ rfl
    have k2 := K9.out.bx.c 2 _ rfl
    have k3 := K9.out.bx.c 3 _ rfl
    have k4 := K9.out.bx.c 4 _ rfl
    have k5 := K9.out.bx.c 5 _ rfl
    go_wp2_with fail
    refine (mdo_is (z := z) (HS.out.on K1.out.bx.old) HNA.out HCPA.out (HA.out.on K1.out.bx.old) rfl (by simp) (none_at _) HR.out).mono ?_
    rintro e w8 ⟨A2, ca2, C2, cc2, rfl, hb, hm⟩
    have HBB := Lib.hid K1.out.bx.old
    replace K1 := Lib.hid (K1.out.on hb)
    replace K9 := Lib.hid (K9.out.on hb)
    clear t0 t1 t2 t3 t4 k0 k1 k2 k3 k4 k5
    obtain ⟨r1, q⟩ := r
    cases r1 with
    | none =>
      obtain ⟨e1, e2, e3, e4⟩ := hm
      have e1 := e1.symm
      have e2 := e2.symm
      have e3 := e3.symm
      have e4 := e4.symm
      subst e1 e2 e3 e4
      have hq : ¬ q.err = 0 := (mdo_none HR.out).1
      have hq2 : (q.err != 0) = true := by simpa using hq
      simp only [Rep.val]
      obtain ⟨n2, n3⟩ := boxes2 w8 [.int .i64 a, .int .i64 b, .int .i64 c, .slice A n ca, .slice C m cc] [.int .i64 q.err, .int .u64 (q.w : Int), .int .i64 q.n] 27 40
      have T7 := (K1.out.on (below_alloc w8 (.cells #[.int .i64 a, .int .i64 b, .int .i64 c, .slice A n ca, .slice C m cc] 27))).on (below_alloc _ (.cells #[.int .i64 q.err, .int .u64 (q.w : Int), .int .i64 q.n] 40))
      go_upto_region 7 with fail
      obtain ⟨j1, hj1⟩ : ∃ j1, j1 = w8.heap.size + 1 := ⟨_, rfl⟩
      rw [← hj1] at n3 ⊢
      clear hj1
      obtain ⟨j0, hj0⟩ : ∃ j0, j0 = w8.heap.size := ⟨_, rfl⟩
      rw [← hj0] at n2 ⊢
      clear hj0
      generalize (w8.alloc _).alloc _ = w10 at n2 n3 T7 ⊢
      have TT := Lib.hid T7
      have m0 := n3.bx.c 0 _ rfl
      have a0 := n2.bx.c 0 _ rfl
      have a1 := n2.bx.c 1 _ rfl
      have a2 := n2.bx.c 2 _ rfl
      have a3 := n2.bx.c 3 _ rfl
      have a4 := n2.bx.c 4 _ rfl
      have t0 := TT.out.bx.c 0 _ rfl
      have t1 := TT.out.bx.c 1 _ rfl
      have t2 := TT.out.bx.c 2 _ rfl
      have t3 := TT.out.bx.c 3 _ rfl
      have t4 := TT.out.bx.c 4 _ rfl
      clear n2 n3 T7 hb K1 K9
      go_wp2_with fail
      refine (psame_is (HS.out.on TT.out.bx.old) (HS.out.on TT.out.bx.old) (St.same_iff.2 rfl)).mono ?_
      rintro e w11 ⟨rfl, hb8⟩
      have HO := Lib.hid (below_on TT.out.bx.old hb8)
      clear m0 a0 a1 a2 a3 a4 t0 t1 t2 t3 t4 hb8
      go_wp2
      go_ret
      exact ⟨rfl, HO.out⟩
    | some s' =>
      obtain ⟨hca, hcc, hF⟩ := hm
      obtain ⟨hq, hfull, hrec⟩ := mail_round HR.out
      obtain ⟨hG, hG', hl3, hl1, hl2⟩ := mdo_good HR.out
      subst hq
      have HPS := Lib.hid hG.posm
      have HFULL := Lib.hid hfull
      have HREC := Lib.hid hrec
      have HPOS : Hid (∀ s'', some s = some s'' → 0 < s''.sl.length ∧ 0 < s''.th.length) := Lib.hid fun s'' e => by injection e with e; rw [← e]; exact HPS.out
      obtain ⟨P, Q, rfl, rfl, hO⟩ := hF.ost (by rw [hl1]; exact HPS.out.1) (by rw [hl2]; exact HPS.out.2) hb
      simp only [Rep.val]
      have h2 : StH w8 s' a b c (some ⟨P, 0, none⟩) n ca2 (some ⟨Q, 0, none⟩) m cc2 := ⟨hO.lies, by rw [hl3]; exact HS.out.hg, by rw [hl1]; exact HS.out.hn, by rw [hl2]; exact HS.out.hm, HS.out.few, HS.out.fewm, hca, hcc⟩
      obtain ⟨n2, n3⟩ := boxes2 w8 [.int .i64 a, .int .i64 b, .int .i64 c, .slice (some ⟨P, 0, none⟩) n ca2, .slice (some ⟨Q, 0, none⟩) m cc2] [.int .i64 0, .int .u64 ((0 : Nat) : Int), .int .i64 0] 27 40
      have hal0 := below_alloc w8 (.cells #[.int .i64 a, .int .i64 b, .int .i64 c, .slice (some ⟨P, 0, none⟩) n ca2, .slice (some ⟨Q, 0, none⟩) m cc2] 27)
      have hal := below_alloc (w8.alloc (.cells #[.int .i64 a, .int .i64 b, .int .i64 c, .slice (some ⟨P, 0, none⟩) n ca2, .slice (some ⟨Q, 0, none⟩) m cc2] 27)) (.cells #[.int .i64 0, .int .u64 ((0 : Nat) : Int), .int .i64 0] 40)
      have T7 := Lib.hid ((K1.out.on hal0).on hal)
      have C9 := Lib.hid ((K9.out.on hal0).on hal)
      have H2 := Lib.hid ((h2.on hal0).on hal)
      clear hb hal hal0 hO hF hca hcc K1 K9 h2 hfull hrec hG hG' hl1 hl2 hl3
      go_upto_region 7 with fail
      obtain ⟨j1, hj1⟩ : ∃ j1, j1 = w8.heap.size + 1 := ⟨_, rfl⟩
      rw [← hj1] at n3 ⊢
      clear hj1
      obtain ⟨j0, hj0⟩ : ∃ j0, j0 = w8.heap.size := ⟨_, rfl⟩
      rw [← hj0] at n2 ⊢
      clear hj0
      generalize (w8.alloc _).alloc _ = v0 at n2 n3 T7 C9 H2 ⊢
      have m0 := n3.bx.c 0 _ rfl
      have N2 := Lib.hid n2
      clear n2 n3
      go_upto_region 9 with fail
      clear m0
      have a0 := N2.out.bx.c 0 _ rfl
      have a1 := N2.out.bx.c 1 _ rfl
      have a2 := N2.out.bx.c 2 _ rfl
      have a3 := N2.out.bx.c 3 _ rfl
      have a4 := N2.out.bx.c 4 _ rfl
      have k0 := C9.out.bx.c 0 _ rfl
      have k1 := C9.out.bx.c 1 _ rfl
      have k2 := C9.out.bx.c 2 _ rfl
      have k3 := C9.out.bx.c 3 _ rfl
      have k4 := C9.out.bx.c 4 _ rfl
      have k5 := C9.out.bx.c 5 _ rfl
      go_wp2_with fail
      refine (mdo_is (z := z) H2.out HNA.out HCPA.out (HA.out.on T7.out.bx.old) rfl (by simp) (none_at _) HFULL.out).mono ?_
      rintro e w9 ⟨A3, ca3, C3, cc3, rfl, hb, e1, e2, e3, e4⟩
      have e1 := e1.symm
      have e2 := e2.symm
      have e3 := e3.symm
      have e4 := e4.symm
      subst e1 e2 e3 e4
      simp only [Rep.val]
      clear a0 a1 a2 a3 a4 k0 k1 k2 k3 k4 k5
      obtain ⟨n4, n5⟩ := boxes2 w9 [.int .i64 a, .int .i64 b, .int .i64 c, .slice (some ⟨P, 0, none⟩) n ca2, .slice (some ⟨Q, 0, none⟩) m cc2] [.int .i64 13, .int .u64 ((0 : Nat) : Int), .int .i64 0] 27 40
      have hal0 := below_alloc w9 (.cells #[.int .i64 a, .int .i64 b, .int .i64 c, .slice (some ⟨P, 0, none⟩) n ca2, .slice (some ⟨Q, 0, none⟩) m cc2] 27)
      have hal := below_alloc (w9.alloc (.cells #[.int .i64 a, .int .i64 b, .int .i64 c, .slice (some ⟨P, 0, none⟩) n ca2, .slice (some ⟨Q, 0, none⟩) m cc2] 27)) (.cells #[.int .i64 13, .int .u64 ((0 : Nat) : Int), .int .i64 0] 40)
      replace T7 := Lib.hid (((T7.out.on hb).on hal0).on hal)
      replace N2 := Lib.hid (((N2.out.on hb).on hal0).on hal)
      replace H2 := Lib.hid (((H2.out.on hb).on hal0).on hal)
      clear hb hal0 hal n4 C9
      go_upto_region 10 with fail
      obtain ⟨j3, hj3⟩ : ∃ j, j = w9.heap.size + 1 := ⟨_, rfl⟩
      rw [← hj3] at n5 ⊢
      clear hj3
      obtain ⟨j2, hj2⟩ : ∃ j, j = w9.heap.size := ⟨_, rfl⟩
      try rw [← hj2]
      clear hj2
      generalize (w9.alloc _).alloc _ = v1 at n5 T7 N2 H2 ⊢
      have N5 := Lib.hid n5
      clear n5
      have HPA : Hid (LisAt v1 (.slice PA na cpa) la) := Lib.hid ⟨PA, na, cpa, rfl, HNA.out, HCPA.out, HA.out.on T7.out.bx.old⟩
      rcases HREC.out with h6 | ⟨ba, h0, h14⟩
      · skip
        have H6 := Lib.hid h6
        have HPN : Hid (∀ s'', (none : Option St) = some s'' → 0 < s''.sl.length ∧ 0 < s''.th.length) := Lib.hid (fun s'' e => by cases e)
        clear h6
        refine wp_region_held_drew (S := fun w' => Below v1.heap.size v1 w') (by kernel_rfl) (below_self v1).drew (fun hH => ?_)
        refine wpAnyH_take (i := 0) (v := .agg #[.int .i64 a, .int .i64 b, .int .i64 c, .slice (some ⟨P, 0, none⟩) n ca2, .slice (some ⟨Q, 0, none⟩) m cc2]) rfl (by kernel_rfl) (by kernel_rfl) (by kernel_rfl) (fun _ _ _ h => h) (yieldsIf_load_mid (by rfl) 27 (.tmp 10) (by rfl) j0 0 (by rfl) [.int .i64 a, .int .i64 b, .int .i64 c, .slice (some ⟨P, 0, none⟩) n ca2, .slice (some ⟨Q, 0, none⟩) m cc2] _ (fun w hS => ((N2.out.bx.on hS).range)) Try.underlying27 rfl info_state) (by assumption) ?_
        try simp only [Act.put, List.setIfInBounds_toArray, List.set_cons_zero, List.set_cons_succ, List.getElem_toArray, List.getElem_cons_zero, List.getElem_cons_succ]
        refine wpAnyH_take (i := 1) (v := ?_) rfl (by kernel_rfl) (by kernel_rfl) (by kernel_rfl) (fun _ _ _ h => h) (Or.inl ⟨by rfl, ?_⟩) (by assumption) ?_
        rotate_left
        · intro w hSw; go_simp; try with_reducible rfl
        try simp only [Act.put, List.setIfInBounds_toArray, List.set_cons_zero, List.set_cons_succ, List.getElem_toArray, List.getElem_cons_zero, List.getElem_cons_succ]
        refine wpAnyH_take (i := 2) (v := ?_) rfl (by kernel_rfl) (by kernel_rfl) (by kernel_rfl) (fun _ _ _ h => h) (Or.inl ⟨by rfl, ?_⟩) (by assumption) ?_
        rotate_left
        · intro w hSw; go_simp; try with_reducible rfl
        try simp only [Act.put, List.setIfInBounds_toArray, List.set_cons_zero, List.set_cons_succ, List.getElem_toArray, List.getElem_cons_zero, List.getElem_cons_succ]
        refine wpAnyH_inv (f0 := 1) [3, 4, 5, 6, 7, 8, 9, 10, 11] [56, 57, 58, 52, 59, 60, 14, 15] (fun l tm w => PHI v1 la [] a b c (some ⟨P, 0, none⟩) n ca2 (some ⟨Q, 0, none⟩) m cc2 none (.agg #[.int .i64 6, .int .u64 0, .int .i64 0]) [.int .i64 0, .int .u64 0, .int .i64 0] false false (fun p q => .agg #[.int .i64 8, flat1 p, flat1 q, .int .i64 0, .int .i64 0, .int .u64 0]) true (l 3) true true (l 4) (l 5) (l 6) (l 7) (l 8) (l 9) (l 10) (l 11) (.slice PA na cpa) (tm 56) (.slice none 0 0) (.agg #[(.slice none 0 0)]) (tm 57) (tm 58) (tm 52) (tm 59) (tm 60) (tm 14) (tm 15) w) (by kernel_rfl) (by kernel_rfl) rfl (by decide) (fun l tm w h => h.bb) ?start (AllSteps.cons rfl ?o3 (AllSteps.cons rfl ?o4 (AllSteps.cons rfl ?o5 (AllSteps.cons rfl ?o6 (AllSteps.cons rfl ?o7 (AllSteps.cons rfl ?o8 (AllSteps.cons rfl ?o9 (AllSteps.cons rfl ?o10 (AllSteps.cons rfl ?o11 AllSteps.nil))))))))) ?fin
        case o3 =>
          intro l tm w h hl hd K0 hK
          try dsimp only at h
          rw [hl] at h
          have hs := h.early1.1
          have h0 := h
          rw [hs] at h0
          obtain ⟨⟨B, nB, cB, eB, -⟩, -⟩ := h0.way1 rfl
          have hc := way18_is (A := B) (n := nB) (cap := cB) w
          rw [← eB] at hc
          refine st_call (f := 6) (args := #[(.slice PA na cpa)]) (w' := w) (by rfl) (by kernel_rfl) (hc.mono ?_)
          rintro e w1 ⟨rfl, hb⟩
          exact ⟨_, rfl, hK.out _ _ (h.addW1 rfl hb rfl)⟩
        case o4 =>
          intro l tm w h hl hd K0 hK
          try dsimp only at h
          rw [hl] at h
          have d1 := hd 3 (by kernel_rfl)
          have d2 : true = true := rfl
          have hs : l 11 = false := by rw [Bool.eq_false_iff]; exact fun e => absurd ((h.o e).2.2.2.2.1 rfl) (by decide)
          have h0 := h
          rw [hs] at h0
          obtain ⟨⟨B1, n1, k1, eB1, eN1, eK1, eI1⟩, eW1⟩ := h0.way1 rfl
          obtain ⟨⟨B2, n2, k2, eB2, eN2, eK2, eI2⟩, eW2⟩ := h0.way2 rfl
          have hW1 := (eW1 d1).trans (by rw [eB1])
          have hW2 := (eW2 d2).trans (by rw [eB2])
          refine st_run (v := (fun p q => .agg #[.int .i64 8, flat1 p, flat1 q, .int .i64 0, .int .i64 0, .int .u64 0]) (tm 56) (.agg #[(.slice none 0 0)])) (w' := w) (by rfl) ?_ (hK.out _ _ (h.addBd d1 d2 rfl))
          simp only [List.getElem_toArray, List.getElem_cons_zero, List.getElem_cons_succ, pmA, List.foldl_cons, List.foldl_nil, Act.put, List.setIfInBounds_toArray, List.set_cons_zero, List.set_cons_succ]
          rw [hW1]
          kernel_rfl
        case o5 =>
          intro l tm w h hl hd K0 hK
          try dsimp only at h
          rw [hl] at h
          have d0 := hd 4 (by kernel_rfl)
          obtain ⟨d1, d2, eBD⟩ := h.e6 d0
          have hs : l 11 = false := h.notS.1
          have h0 := h
          rw [hs] at h0
          obtain ⟨⟨B1, n1, k1, eB1, eN1, eK1, eI1⟩, eW1⟩ := h0.way1 rfl
          obtain ⟨⟨B2, n2, k2, eB2, eN2, eK2, eI2⟩, eW2⟩ := h0.way2 rfl
          have hW1 := (eW1 d1).trans (by rw [eB1])
          have hW2 := (eW2 d2).trans (by rw [eB2])
          rw [hW1, hW2] at eBD
          have hA : #[.agg #[.int .i64 a, .int .i64 b, .int .i64 c, .slice (some ⟨P, 0, none⟩) n ca2, .slice (some ⟨Q, 0, none⟩) m cc2], .int .i64 t, (tm 57)] = #[.agg #[.int .i64 a, .int .i64 b, .int .i64 c, .slice (some ⟨P, 0, none⟩) n ca2, .slice (some ⟨Q, 0, none⟩) m cc2], .int .i64 t, .agg #[.int .i64 8, .slice B1 n1 k1, .slice B2 n2 k2, .int .i64 0, .int .i64 0, .int .u64 0]] := by rw [eBD]; rfl
          refine st_call (f := 9) (args := #[.agg #[.int .i64 a, .int .i64 b, .int .i64 c, .slice (some ⟨P, 0, none⟩) n ca2, .slice (some ⟨Q, 0, none⟩) m cc2], .int .i64 t, (tm 57)]) (w' := w) (by rfl) (by kernel_rfl) ?_
          rw [hA]
          refine (mdo_is (z := 0) (H2.out.on h.bb) eN1 eK1 eI1 eN2 eK2 eI2 H6.out).mono ?_
          rintro e w1 ⟨A', ca', C', cc', rfl, hb, hm⟩
          obtain ⟨q1, q2⟩ := resD_of (a := a) (b := b) (c := c) (R := (.agg #[.int .i64 6, .int .u64 0, .int .i64 0])) h.bb.size hm HPN.out
          exact ⟨_, rfl, hK.out _ _ (h.addD hb q1 q2)⟩
        case o6 =>
          intro l tm w h hl hd K0 hK
          try dsimp only at h
          rw [hl] at h
          exact st_run (v := tm 58) (w' := w) (by rfl) (by kernel_rfl) (hK.out _ _ (h.addMv (hd 5 (by kernel_rfl)) rfl))
        case o7 =>
          intro l tm w h hl hd K0 hK
          try dsimp only at h
          rw [hl] at h
          obtain ⟨A', ca', C', cc', eT, -⟩ := h.tup (hd 6 (by kernel_rfl))
          refine st_run (v := .agg #[.int .i64 a, .int .i64 b, .int .i64 c, .slice A' n ca', .slice C' m cc']) (w' := w) (by rfl) ?_ (hK.out _ _ (h.addE1 (hd 6 (by kernel_rfl)) eT))
          simp only [List.getElem_toArray, List.getElem_cons_zero, List.getElem_cons_succ, pmA, List.foldl_cons, List.foldl_nil, Act.put, List.setIfInBounds_toArray, List.set_cons_zero, List.set_cons_succ]
          rw [eT]
          kernel_rfl
        case o8 =>
          intro l tm w h hl hd K0 hK
          try dsimp only at h
          rw [hl] at h
          obtain ⟨A', ca', C', cc', eT, -⟩ := h.tup (hd 6 (by kernel_rfl))
          refine st_run (v := (.agg #[.int .i64 6, .int .u64 0, .int .i64 0])) (w' := w) (by rfl) ?_ (hK.out _ _ (h.addE2 (hd 6 (by kernel_rfl)) eT))
          simp only [List.getElem_toArray, List.getElem_cons_zero, List.getElem_cons_succ, pmA, List.foldl_cons, List.foldl_nil, Act.put, List.setIfInBounds_toArray, List.set_cons_zero, List.set_cons_succ]
          rw [eT]
          kernel_rfl
        case o9 =>
          intro l tm w h hl hd K0 hK
          try dsimp only at h
          rw [hl] at h
          have hh := h.addQ HPN.out 27
          exact st_run (v := ptr w.heap.size) (by rfl) (by kernel_rfl) (hK.out _ _ hh)
        case o10 =>
          intro l tm w h hl hd K0 hK
          try dsimp only at h
          rw [hl] at h
          have hh := h.addY HPN.out 40
          exact st_run (v := ptr w.heap.size) (by rfl) (by kernel_rfl) (hK.out _ _ hh)
        case o11 =>
          intro l tm w h hl hd K0 hK
          try dsimp only at h
          rw [hl] at h
          obtain ⟨x, A', ca', C', cc', ex, e1, ed, hw⟩ := h.atS' (hd 5 (by kernel_rfl)) (hd 6 (by kernel_rfl)) (hd 7 (by kernel_rfl)) (hd 9 (by kernel_rfl))
          have HT : Hid (w.there x 0 (#[.int .i64 a, .int .i64 b, .int .i64 c, .slice A' n ca', .slice C' m cc'] : Array Value).size) := Lib.hid (hw.there (n := 5) rfl)
          have HO := Lib.hid (state_one a b c A' n ca' C' m cc')
          refine st_store (by rfl) 27 (.tmp 14) (.tmp 59) (by rfl) x 0 #[.int .i64 a, .int .i64 b, .int .i64 c, .slice A' n ca', .slice C' m cc'] ((by kernel_rfl : _ = tm 14).trans ex) ((by kernel_rfl : _ = tm 59).trans e1) HT.out info_state HO.out ?_
          refine hK.out undef (w.setCells x 0 [.int .i64 a, .int .i64 b, .int .i64 c, .slice A' n ca', .slice C' m cc']) ?_
          exact h.addS' rfl (hd 3 (by kernel_rfl)) rfl rfl (fun _ => (hd 4 (by kernel_rfl))) (hd 5 (by kernel_rfl)) (hd 6 (by kernel_rfl)) (hd 7 (by kernel_rfl)) (hd 9 (by kernel_rfl)) (fun _ => (hd 10 (by kernel_rfl))) ex ed
        case start => exact ⟨hH, fun _ => ⟨hH, fun _ => HPA.out.on hH, fun e => ff rfl e, fun _ => ⟨none, 0, 0, rfl, rfl, Nat.le_refl _, none_at _⟩, fun _ => ⟨rfl, rfl⟩, fun e => ff rfl e, fun e => ff rfl e, fun e => ff rfl e, fun e => ff rfl e, fun e => ff rfl e, fun e => ff rfl e⟩, fun e => ff rfl e, fun e => ff rfl e, fun e => ff rfl e, fun e => ff rfl e, fun e => ff rfl e, fun e => ff rfl e⟩
        case fin =>
          intro tm u7 h
          try dsimp only at h
          obtain ⟨hbb, hR, hP⟩ := h.fin (by kernel_rfl) (by kernel_rfl)
          obtain ⟨g3, A9, ca9, C9, cc9, ed, ex, hx, hm, hy⟩ := hP
          obtain ⟨g4, ey, hne, hY, haw⟩ := hy rfl
          simp only [ptr] at ex ey
          obtain ⟨e1, e2, e3, e4⟩ := hm
          have e1 := e1.symm
          have e2 := e2.symm
          have e3 := e3.symm
          have e4 := e4.symm
          subst e1 e2 e3 e4
          clear h ed hy haw
          simp only [pmA, List.foldl_cons, List.foldl_nil, Act.put, List.setIfInBounds_toArray, List.set_cons_zero, List.set_cons_succ]
          rw [ex, ey, hR]
          clear ex ey hR
          refine wpAnyH_ready (rs := [12]) (by kernel_rfl) (by simp) ?_
          refine AllReadyH.cons rfl (fun K0 hK => ?_) AllReadyH.nil
          have HT : Hid (u7.there g4 0 (#[.int .i64 6, .int .u64 0, .int .i64 0] : Array Value).size) := Lib.hid (hY.there (n := 3) rfl)
          have HO := Lib.hid (reply_one 6 0 0)
          have kY := hY.setCells (vs := [.int .i64 6, .int .u64 0, .int .i64 0]) rfl
          have fY := Fnd.setCells g4 [.int .i64 6, .int .u64 0, .int .i64 0] 0 u7
          have kX := hx.fnd fY hne.symm kY.bx.old
          refine step_store_mid (by rfl) 40 (.tmp 15) (.tmp 60) (by rfl) g4 0 #[.int .i64 6, .int .u64 0, .int .i64 0] (by rfl) (by rfl) HT.out info_reply HO.out ?_
          change K0 _ (u7.setCells g4 0 [.int .i64 6, .int .u64 0, .int .i64 0])
          clear fY HT hne hY hx
          generalize u7.setCells g4 0 [.int .i64 6, .int .u64 0, .int .i64 0] = v2 at kX kY ⊢
          have hb := kY.bx.old
          have KX := Lib.hid kX
          have KY := Lib.hid kY
          clear kX kY
          refine hK.out _ _ hb (fun hH => ?_)
          clear hK K0
          try simp only [Act.put, List.setIfInBounds_toArray, List.set_cons_zero, List.set_cons_succ, List.getElem_toArray, List.getElem_cons_zero, List.getElem_cons_succ]
          refine wpAnyH_done (by kernel_rfl) ?_ _
          clear hH hbb
          replace T7 := Lib.hid (T7.out.on hb)
          replace N5 := Lib.hid (N5.out.on hb)
          replace N2 := Lib.hid (N2.out.on hb)
          replace H2 := Lib.hid (H2.out.on hb)
          clear hb
          have m0 := N5.out.bx.c 0 _ rfl
          have y0 := KY.out.bx.c 0 _ rfl
          have a0 := KX.out.bx.c 0 _ rfl
          have a1 := KX.out.bx.c 1 _ rfl
          have a2 := KX.out.bx.c 2 _ rfl
          have a3 := KX.out.bx.c 3 _ rfl
          have a4 := KX.out.bx.c 4 _ rfl
          have b0 := N2.out.bx.c 0 _ rfl
          have b1 := N2.out.bx.c 1 _ rfl
          have b2 := N2.out.bx.c 2 _ rfl
          have b3 := N2.out.bx.c 3 _ rfl
          have b4 := N2.out.bx.c 4 _ rfl
          go_wp2_with fail
          refine (psame_is H2.out H2.out (St.same_iff.2 rfl)).mono ?_
          rintro e w11 ⟨rfl, hb8⟩
          have HO := Lib.hid (below_on T7.out.bx.old hb8)
          clear m0 y0 a0 a1 a2 a3 a4 b0 b1 b2 b3 b4 hb8
          go_wp2
          go_ret
          exact ⟨rfl, HO.out⟩
      · skip
        have H0 := Lib.hid h0
        have H14 := Lib.hid h14
        clear h0 h14
        refine wp_region_held_drew (S := fun w' => Below v1.heap.size v1 w') (by kernel_rfl) (below_self v1).drew (fun hH => ?_)
        refine wpAnyH_take (i := 0) (v := .agg #[.int .i64 a, .int .i64 b, .int .i64 c, .slice (some ⟨P, 0, none⟩) n ca2, .slice (some ⟨Q, 0, none⟩) m cc2]) rfl (by kernel_rfl) (by kernel_rfl) (by kernel_rfl) (fun _ _ _ h => h) (yieldsIf_load_mid (by rfl) 27 (.tmp 10) (by rfl) j0 0 (by rfl) [.int .i64 a, .int .i64 b, .int .i64 c, .slice (some ⟨P, 0, none⟩) n ca2, .slice (some ⟨Q, 0, none⟩) m cc2] _ (fun w hS => ((N2.out.bx.on hS).range)) Try.underlying27 rfl info_state) (by assumption) ?_
        try simp only [Act.put, List.setIfInBounds_toArray, List.set_cons_zero, List.set_cons_succ, List.getElem_toArray, List.getElem_cons_zero, List.getElem_cons_succ]
        refine wpAnyH_take (i := 1) (v := ?_) rfl (by kernel_rfl) (by kernel_rfl) (by kernel_rfl) (fun _ _ _ h => h) (Or.inl ⟨by rfl, ?_⟩) (by assumption) ?_
        rotate_left
        · intro w hSw; go_simp; try with_reducible rfl
        try simp only [Act.put, List.setIfInBounds_toArray, List.set_cons_zero, List.set_cons_succ, List.getElem_toArray, List.getElem_cons_zero, List.getElem_cons_succ]
        refine wpAnyH_take (i := 2) (v := ?_) rfl (by kernel_rfl) (by kernel_rfl) (by kernel_rfl) (fun _ _ _ h => h) (Or.inl ⟨by rfl, ?_⟩) (by assumption) ?_
        rotate_left
        · intro w hSw; go_simp; try with_reducible rfl
        try simp only [Act.put, List.setIfInBounds_toArray, List.set_cons_zero, List.set_cons_succ, List.getElem_toArray, List.getElem_cons_zero, List.getElem_cons_succ]
        refine wpAnyH_inv (f0 := 1) [3, 4, 5, 6, 7, 8, 9, 10, 11] [56, 57, 58, 52, 59, 60, 14, 15] (fun l tm w => PHI v1 la [] a b c (some ⟨P, 0, none⟩) n ca2 (some ⟨Q, 0, none⟩) m cc2 (some s) (.agg #[.int .i64 0, .int .u64 (z : Int), .int .i64 ba]) [.int .i64 0, .int .u64 0, .int .i64 0] false false (fun p q => .agg #[.int .i64 8, flat1 p, flat1 q, .int .i64 0, .int .i64 0, .int .u64 0]) true (l 3) true true (l 4) (l 5) (l 6) (l 7) (l 8) (l 9) (l 10) (l 11) (.slice PA na cpa) (tm 56) (.slice none 0 0) (.agg #[(.slice none 0 0)]) (tm 57) (tm 58) (tm 52) (tm 59) (tm 60) (tm 14) (tm 15) w) (by kernel_rfl) (by kernel_rfl) rfl (by decide) (fun l tm w h => h.bb) ?start (AllSteps.cons rfl ?o3 (AllSteps.cons rfl ?o4 (AllSteps.cons rfl ?o5 (AllSteps.cons rfl ?o6 (AllSteps.cons rfl ?o7 (AllSteps.cons rfl ?o8 (AllSteps.cons rfl ?o9 (AllSteps.cons rfl ?o10 (AllSteps.cons rfl ?o11 AllSteps.nil))))))))) ?fin
        case o3 =>
          intro l tm w h hl hd K0 hK
          try dsimp only at h
          rw [hl] at h
          have hs := h.early1.1
          have h0 := h
          rw [hs] at h0
          obtain ⟨⟨B, nB, cB, eB, -⟩, -⟩ := h0.way1 rfl
          have hc := way18_is (A := B) (n := nB) (cap := cB) w
          rw [← eB] at hc
          refine st_call (f := 6) (args := #[(.slice PA na cpa)]) (w' := w) (by rfl) (by kernel_rfl) (hc.mono ?_)
          rintro e w1 ⟨rfl, hb⟩
          exact ⟨_, rfl, hK.out _ _ (h.addW1 rfl hb rfl)⟩
        case o4 =>
          intro l tm w h hl hd K0 hK
          try dsimp only at h
          rw [hl] at h
          have d1 := hd 3 (by kernel_rfl)
          have d2 : true = true := rfl
          have hs : l 11 = false := by rw [Bool.eq_false_iff]; exact fun e => absurd ((h.o e).2.2.2.2.1 rfl) (by decide)
          have h0 := h
          rw [hs] at h0
          obtain ⟨⟨B1, n1, k1, eB1, eN1, eK1, eI1⟩, eW1⟩ := h0.way1 rfl
          obtain ⟨⟨B2, n2, k2, eB2, eN2, eK2, eI2⟩, eW2⟩ := h0.way2 rfl
          have hW1 := (eW1 d1).trans (by rw [eB1])
          have hW2 := (eW2 d2).trans (by rw [eB2])
          refine st_run (v := (fun p q => .agg #[.int .i64 8, flat1 p, flat1 q, .int .i64 0, .int .i64 0, .int .u64 0]) (tm 56) (.agg #[(.slice none 0 0)])) (w' := w) (by rfl) ?_ (hK.out _ _ (h.addBd d1 d2 rfl))
          simp only [List.getElem_toArray, List.getElem_cons_zero, List.getElem_cons_succ, pmA, List.foldl_cons, List.foldl_nil, Act.put, List.setIfInBounds_toArray, List.set_cons_zero, List.set_cons_succ]
          rw [hW1]
          kernel_rfl
        case o5 =>
          intro l tm w h hl hd K0 hK
          try dsimp only at h
          rw [hl] at h
          have d0 := hd 4 (by kernel_rfl)
          obtain ⟨d1, d2, eBD⟩ := h.e6 d0
          have hs : l 11 = false := h.notS.1
          have h0 := h
          rw [hs] at h0
          obtain ⟨⟨B1, n1, k1, eB1, eN1, eK1, eI1⟩, eW1⟩ := h0.way1 rfl
          obtain ⟨⟨B2, n2, k2, eB2, eN2, eK2, eI2⟩, eW2⟩ := h0.way2 rfl
          have hW1 := (eW1 d1).trans (by rw [eB1])
          have hW2 := (eW2 d2).trans (by rw [eB2])
          rw [hW1, hW2] at eBD
          have hA : #[.agg #[.int .i64 a, .int .i64 b, .int .i64 c, .slice (some ⟨P, 0, none⟩) n ca2, .slice (some ⟨Q, 0, none⟩) m cc2], .int .i64 t, (tm 57)] = #[.agg #[.int .i64 a, .int .i64 b, .int .i64 c, .slice (some ⟨P, 0, none⟩) n ca2, .slice (some ⟨Q, 0, none⟩) m cc2], .int .i64 t, .agg #[.int .i64 8, .slice B1 n1 k1, .slice B2 n2 k2, .int .i64 0, .int .i64 0, .int .u64 0]] := by rw [eBD]; rfl
          refine st_call (f := 9) (args := #[.agg #[.int .i64 a, .int .i64 b, .int .i64 c, .slice (some ⟨P, 0, none⟩) n ca2, .slice (some ⟨Q, 0, none⟩) m cc2], .int .i64 t, (tm 57)]) (w' := w) (by rfl) (by kernel_rfl) ?_
          rw [hA]
          refine (mdo_is (z := 0) (H2.out.on h.bb) eN1 eK1 eI1 eN2 eK2 eI2 H0.out).mono ?_
          rintro e w1 ⟨A', ca', C', cc', rfl, hb, hm⟩
          obtain ⟨q1, q2⟩ := resD_of (a := a) (b := b) (c := c) (R := (.agg #[.int .i64 0, .int .u64 (z : Int), .int .i64 ba])) h.bb.size hm HPOS.out
          exact ⟨_, rfl, hK.out _ _ (h.addD hb q1 q2)⟩
        case o6 =>
          intro l tm w h hl hd K0 hK
          try dsimp only at h
          rw [hl] at h
          exact st_run (v := tm 58) (w' := w) (by rfl) (by kernel_rfl) (hK.out _ _ (h.addMv (hd 5 (by kernel_rfl)) rfl))
        case o7 =>
          intro l tm w h hl hd K0 hK
          try dsimp only at h
          rw [hl] at h
          obtain ⟨A', ca', C', cc', eT, -⟩ := h.tup (hd 6 (by kernel_rfl))
          refine st_run (v := .agg #[.int .i64 a, .int .i64 b, .int .i64 c, .slice A' n ca', .slice C' m cc']) (w' := w) (by rfl) ?_ (hK.out _ _ (h.addE1 (hd 6 (by kernel_rfl)) eT))
          simp only [List.getElem_toArray, List.getElem_cons_zero, List.getElem_cons_succ, pmA, List.foldl_cons, List.foldl_nil, Act.put, List.setIfInBounds_toArray, List.set_cons_zero, List.set_cons_succ]
          rw [eT]
          kernel_rfl
        case o8 =>
          intro l tm w h hl hd K0 hK
          try dsimp only at h
          rw [hl] at h
          obtain ⟨A', ca', C', cc', eT, -⟩ := h.tup (hd 6 (by kernel_rfl))
          refine st_run (v := (.agg #[.int .i64 0, .int .u64 (z : Int), .int .i64 ba])) (w' := w) (by rfl) ?_ (hK.out _ _ (h.addE2 (hd 6 (by kernel_rfl)) eT))
          simp only [List.getElem_toArray, List.getElem_cons_zero, List.getElem_cons_succ, pmA, List.foldl_cons, List.foldl_nil, Act.put, List.setIfInBounds_toArray, List.set_cons_zero, List.set_cons_succ]
          rw [eT]
          kernel_rfl
        case o9 =>
          intro l tm w h hl hd K0 hK
          try dsimp only at h
          rw [hl] at h
          have hh := h.addQ HPOS.out 27
          exact st_run (v := ptr w.heap.size) (by rfl) (by kernel_rfl) (hK.out _ _ hh)
        case o10 =>
          intro l tm w h hl hd K0 hK
          try dsimp only at h
          rw [hl] at h
          have hh := h.addY HPOS.out 40
          exact st_run (v := ptr w.heap.size) (by rfl) (by kernel_rfl) (hK.out _ _ hh)
        case o11 =>
          intro l tm w h hl hd K0 hK
          try dsimp only at h
          rw [hl] at h
          obtain ⟨x, A', ca', C', cc', ex, e1, ed, hw⟩ := h.atS' (hd 5 (by kernel_rfl)) (hd 6 (by kernel_rfl)) (hd 7 (by kernel_rfl)) (hd 9 (by kernel_rfl))
          have HT : Hid (w.there x 0 (#[.int .i64 a, .int .i64 b, .int .i64 c, .slice A' n ca', .slice C' m cc'] : Array Value).size) := Lib.hid (hw.there (n := 5) rfl)
          have HO := Lib.hid (state_one a b c A' n ca' C' m cc')
          refine st_store (by rfl) 27 (.tmp 14) (.tmp 59) (by rfl) x 0 #[.int .i64 a, .int .i64 b, .int .i64 c, .slice A' n ca', .slice C' m cc'] ((by kernel_rfl : _ = tm 14).trans ex) ((by kernel_rfl : _ = tm 59).trans e1) HT.out info_state HO.out ?_
          refine hK.out undef (w.setCells x 0 [.int .i64 a, .int .i64 b, .int .i64 c, .slice A' n ca', .slice C' m cc']) ?_
          exact h.addS' rfl (hd 3 (by kernel_rfl)) rfl rfl (fun _ => (hd 4 (by kernel_rfl))) (hd 5 (by kernel_rfl)) (hd 6 (by kernel_rfl)) (hd 7 (by kernel_rfl)) (hd 9 (by kernel_rfl)) (fun _ => (hd 10 (by kernel_rfl))) ex ed
        case start => exact ⟨hH, fun _ => ⟨hH, fun _ => HPA.out.on hH, fun e => ff rfl e, fun _ => ⟨none, 0, 0, rfl, rfl, Nat.le_refl _, none_at _⟩, fun _ => ⟨rfl, rfl⟩, fun e => ff rfl e, fun e => ff rfl e, fun e => ff rfl e, fun e => ff rfl e, fun e => ff rfl e, fun e => ff rfl e⟩, fun e => ff rfl e, fun e => ff rfl e, fun e => ff rfl e, fun e => ff rfl e, fun e => ff rfl e, fun e => ff rfl e⟩
        case fin =>
          intro tm u7 h
          try dsimp only at h
          obtain ⟨hbb, hR, hP⟩ := h.fin (by kernel_rfl) (by kernel_rfl)
          obtain ⟨g3, A9, ca9, C9, cc9, ed, ex, hx, hm, hy⟩ := hP
          obtain ⟨g4, ey, hne, hY, haw⟩ := hy rfl
          simp only [ptr] at ex ey
          obtain ⟨hca, hcc, hF⟩ := hm
          obtain ⟨P9, Q9, rfl, rfl, hO⟩ := hF.ost HPS.out.1 HPS.out.2 hbb
          have hfar := haw _ rfl
          have f1 : P9 ≠ g4 := hfar.1 P9 rfl
          have f2 : Q9 ≠ g4 := hfar.2 Q9 rfl
          have HC := Lib.hid (⟨hca, hcc⟩ : n ≤ ca9 ∧ m ≤ cc9)
          clear h ed hy hF haw hfar hca hcc
          simp only [pmA, List.foldl_cons, List.foldl_nil, Act.put, List.setIfInBounds_toArray, List.set_cons_zero, List.set_cons_succ]
          rw [ex, ey, hR]
          clear ex ey hR
          refine wpAnyH_ready (rs := [12]) (by kernel_rfl) (by simp) ?_
          refine AllReadyH.cons rfl (fun K0 hK => ?_) AllReadyH.nil
          have HT : Hid (u7.there g4 0 (#[.int .i64 0, .int .u64 (z : Int), .int .i64 ba] : Array Value).size) := Lib.hid (hY.there (n := 3) rfl)
          have HO := Lib.hid (reply_one 0 (z : Int) ba)
          have kY := hY.setCells (vs := [.int .i64 0, .int .u64 (z : Int), .int .i64 ba]) rfl
          have fY := Fnd.setCells g4 [.int .i64 0, .int .u64 (z : Int), .int .i64 ba] 0 u7
          have kX := hx.fnd fY hne.symm kY.bx.old
          have oX := hO.step fY f1 f2 kY.bx.old
          refine step_store_mid (by rfl) 40 (.tmp 15) (.tmp 60) (by rfl) g4 0 #[.int .i64 0, .int .u64 (z : Int), .int .i64 ba] (by rfl) (by rfl) HT.out info_reply HO.out ?_
          change K0 _ (u7.setCells g4 0 [.int .i64 0, .int .u64 (z : Int), .int .i64 ba])
          clear fY HT hne hY hx f1 f2 hO
          generalize u7.setCells g4 0 [.int .i64 0, .int .u64 (z : Int), .int .i64 ba] = v2 at kX kY oX ⊢
          have hb := kY.bx.old
          have KX := Lib.hid kX
          have KY := Lib.hid kY
          have O := Lib.hid oX
          clear oX
          clear kX kY
          refine hK.out _ _ hb (fun hH => ?_)
          clear hK K0
          try simp only [Act.put, List.setIfInBounds_toArray, List.set_cons_zero, List.set_cons_succ, List.getElem_toArray, List.getElem_cons_zero, List.getElem_cons_succ]
          refine wpAnyH_done (by kernel_rfl) ?_ _
          clear hH hbb
          replace T7 := Lib.hid (T7.out.on hb)
          replace N5 := Lib.hid (N5.out.on hb)
          clear hb N2 H2
          have H9 : Hid (StH v2 s a b c (some ⟨P9, 0, none⟩) n ca9 (some ⟨Q9, 0, none⟩) m cc9) := Lib.hid ⟨O.out.lies, HS.out.hg, HS.out.hn, HS.out.hm, HS.out.few, HS.out.fewm, HC.out.1, HC.out.2⟩
          have m0 := N5.out.bx.c 0 _ rfl
          have y0 := KY.out.bx.c 0 _ rfl
          go_upto_region 15 with fail
          clear m0 y0
          replace HPA : Hid (LisAt v2 (.slice PA na cpa) la) := Lib.hid ⟨PA, na, cpa, rfl, HNA.out, HCPA.out, HA.out.on T7.out.bx.old⟩
          have HPN : Hid (∀ s'', (none : Option St) = some s'' → 0 < s''.sl.length ∧ 0 < s''.th.length) := Lib.hid (fun s'' e => by cases e)
          have KXX := KX
          have KYY := KY
          clear KX KY
          refine wp_region_held_drew (S := fun w' => Below v2.heap.size v2 w') (by kernel_rfl) (below_self v2).drew (fun hH => ?_)
          refine wpAnyH_take (i := 0) (v := .agg #[.int .i64 a, .int .i64 b, .int .i64 c, .slice (some ⟨P9, 0, none⟩) n ca9, .slice (some ⟨Q9, 0, none⟩) m cc9]) rfl (by kernel_rfl) (by kernel_rfl) (by kernel_rfl) (fun _ _ _ h => h) (yieldsIf_load_mid (by rfl) 27 (.tmp 14) (by rfl) g3 0 (by rfl) [.int .i64 a, .int .i64 b, .int .i64 c, .slice (some ⟨P9, 0, none⟩) n ca9, .slice (some ⟨Q9, 0, none⟩) m cc9] _ (fun w hS => ((KXX.out.bx.on hS).range)) Try.underlying27 rfl info_state) (by assumption) ?_
          try simp only [Act.put, List.setIfInBounds_toArray, List.set_cons_zero, List.set_cons_succ, List.getElem_toArray, List.getElem_cons_zero, List.getElem_cons_succ]
          refine wpAnyH_take (i := 1) (v := ?_) rfl (by kernel_rfl) (by kernel_rfl) (by kernel_rfl) (fun _ _ _ h => h) (Or.inl ⟨by rfl, ?_⟩) (by assumption) ?_
          rotate_left
          · intro w hSw; go_simp; try with_reducible rfl
          try simp only [Act.put, List.setIfInBounds_toArray, List.set_cons_zero, List.set_cons_succ, List.getElem_toArray, List.getElem_cons_zero, List.getElem_cons_succ]
          refine wpAnyH_take (i := 2) (v := ?_) rfl (by kernel_rfl) (by kernel_rfl) (by kernel_rfl) (fun _ _ _ h => h) (Or.inl ⟨by rfl, ?_⟩) (by assumption) ?_
          rotate_left
          · intro w hSw; go_simp; try with_reducible rfl
          try simp only [Act.put, List.setIfInBounds_toArray, List.set_cons_zero, List.set_cons_succ, List.getElem_toArray, List.getElem_cons_zero, List.getElem_cons_succ]
          refine wpAnyH_inv (f0 := 1) [3, 4, 5, 6, 7, 8, 9, 10, 11] [79, 80, 81, 75, 82, 83, 16, 17] (fun l tm w => PHI v2 la [] a b c (some ⟨P9, 0, none⟩) n ca9 (some ⟨Q9, 0, none⟩) m cc9 none (.agg #[.int .i64 14, .int .u64 0, .int .i64 0]) [.int .i64 0, .int .u64 0, .int .i64 0] false false (fun p q => .agg #[.int .i64 8, flat1 p, flat1 q, .int .i64 0, .int .i64 0, .int .u64 0]) true (l 3) true true (l 4) (l 5) (l 6) (l 7) (l 8) (l 9) (l 10) (l 11) (.slice PA na cpa) (tm 79) (.slice none 0 0) (.agg #[(.slice none 0 0)]) (tm 80) (tm 81) (tm 75) (tm 82) (tm 83) (tm 16) (tm 17) w) (by kernel_rfl) (by kernel_rfl) rfl (by decide) (fun l tm w h => h.bb) ?start (AllSteps.cons rfl ?o3 (AllSteps.cons rfl ?o4 (AllSteps.cons rfl ?o5 (AllSteps.cons rfl ?o6 (AllSteps.cons rfl ?o7 (AllSteps.cons rfl ?o8 (AllSteps.cons rfl ?o9 (AllSteps.cons rfl ?o10 (AllSteps.cons rfl ?o11 AllSteps.nil))))))))) ?fin
          case o3 =>
            intro l tm w h hl hd K0 hK
            try dsimp only at h
            rw [hl] at h
            have hs := h.early1.1
            have h0 := h
            rw [hs] at h0
            obtain ⟨⟨B, nB, cB, eB, -⟩, -⟩ := h0.way1 rfl
            have hc := way18_is (A := B) (n := nB) (cap := cB) w
            rw [← eB] at hc
            refine st_call (f := 6) (args := #[(.slice PA na cpa)]) (w' := w) (by rfl) (by kernel_rfl) (hc.mono ?_)
            rintro e w1 ⟨rfl, hb⟩
            exact ⟨_, rfl, hK.out _ _ (h.addW1 rfl hb rfl)⟩
          case o4 =>
            intro l tm w h hl hd K0 hK
            try dsimp only at h
            rw [hl] at h
            have d1 := hd 3 (by kernel_rfl)
            have d2 : true = true := rfl
            have hs : l 11 = false := by rw [Bool.eq_false_iff]; exact fun e => absurd ((h.o e).2.2.2.2.1 rfl) (by decide)
            have h0 := h
            rw [hs] at h0
            obtain ⟨⟨B1, n1, k1, eB1, eN1, eK1, eI1⟩, eW1⟩ := h0.way1 rfl
            obtain ⟨⟨B2, n2, k2, eB2, eN2, eK2, eI2⟩, eW2⟩ := h0.way2 rfl
            have hW1 := (eW1 d1).trans (by rw [eB1])
            have hW2 := (eW2 d2).trans (by rw [eB2])
            refine st_run (v := (fun p q => .agg #[.int .i64 8, flat1 p, flat1 q, .int .i64 0, .int .i64 0, .int .u64 0]) (tm 79) (.agg #[(.slice none 0 0)])) (w' := w) (by rfl) ?_ (hK.out _ _ (h.addBd d1 d2 rfl))
            simp only [List.getElem_toArray, List.getElem_cons_zero, List.getElem_cons_succ, pmA, List.foldl_cons, List.foldl_nil, Act.put, List.setIfInBounds_toArray, List.set_cons_zero, List.set_cons_succ]
            rw [hW1]
            kernel_rfl
          case o5 =>
            intro l tm w h hl hd K0 hK
            try dsimp only at h
            rw [hl] at h
            have d0 := hd 4 (by kernel_rfl)
            obtain ⟨d1, d2, eBD⟩ := h.e6 d0
            have hs : l 11 = false := h.notS.1
            have h0 := h
            rw [hs] at h0
            obtain ⟨⟨B1, n1, k1, eB1, eN1, eK1, eI1⟩, eW1⟩ := h0.way1 rfl
            obtain ⟨⟨B2, n2, k2, eB2, eN2, eK2, eI2⟩, eW2⟩ := h0.way2 rfl
            have hW1 := (eW1 d1).trans (by rw [eB1])
            have hW2 := (eW2 d2).trans (by rw [eB2])
            rw [hW1, hW2] at eBD
            have hA : #[.agg #[.int .i64 a, .int .i64 b, .int .i64 c, .slice (some ⟨P9, 0, none⟩) n ca9, .slice (some ⟨Q9, 0, none⟩) m cc9], .int .i64 t, (tm 80)] = #[.agg #[.int .i64 a, .int .i64 b, .int .i64 c, .slice (some ⟨P9, 0, none⟩) n ca9, .slice (some ⟨Q9, 0, none⟩) m cc9], .int .i64 t, .agg #[.int .i64 8, .slice B1 n1 k1, .slice B2 n2 k2, .int .i64 0, .int .i64 0, .int .u64 0]] := by rw [eBD]; rfl
            refine st_call (f := 9) (args := #[.agg #[.int .i64 a, .int .i64 b, .int .i64 c, .slice (some ⟨P9, 0, none⟩) n ca9, .slice (some ⟨Q9, 0, none⟩) m cc9], .int .i64 t, (tm 80)]) (w' := w) (by rfl) (by kernel_rfl) ?_
            rw [hA]
            refine (mdo_is (z := 0) (H9.out.on h.bb) eN1 eK1 eI1 eN2 eK2 eI2 H14.out).mono ?_
            rintro e w1 ⟨A', ca', C', cc', rfl, hb, hm⟩
            obtain ⟨q1, q2⟩ := resD_of (a := a) (b := b) (c := c) (R := (.agg #[.int .i64 14, .int .u64 0, .int .i64 0])) h.bb.size hm HPN.out
            exact ⟨_, rfl, hK.out _ _ (h.addD hb q1 q2)⟩
          case o6 =>
            intro l tm w h hl hd K0 hK
            try dsimp only at h
            rw [hl] at h
            exact st_run (v := tm 81) (w' := w) (by rfl) (by kernel_rfl) (hK.out _ _ (h.addMv (hd 5 (by kernel_rfl)) rfl))
          case o7 =>
            intro l tm w h hl hd K0 hK
            try dsimp only at h
            rw [hl] at h
            obtain ⟨A', ca', C', cc', eT, -⟩ := h.tup (hd 6 (by kernel_rfl))
            refine st_run (v := .agg #[.int .i64 a, .int .i64 b, .int .i64 c, .slice A' n ca', .slice C' m cc']) (w' := w) (by rfl) ?_ (hK.out _ _ (h.addE1 (hd 6 (by kernel_rfl)) eT))
            simp only [List.getElem_toArray, List.getElem_cons_zero, List.getElem_cons_succ, pmA, List.foldl_cons, List.foldl_nil, Act.put, List.setIfInBounds_toArray, List.set_cons_zero, List.set_cons_succ]
            rw [eT]
            kernel_rfl
          case o8 =>
            intro l tm w h hl hd K0 hK
            try dsimp only at h
            rw [hl] at h
            obtain ⟨A', ca', C', cc', eT, -⟩ := h.tup (hd 6 (by kernel_rfl))
            refine st_run (v := (.agg #[.int .i64 14, .int .u64 0, .int .i64 0])) (w' := w) (by rfl) ?_ (hK.out _ _ (h.addE2 (hd 6 (by kernel_rfl)) eT))
            simp only [List.getElem_toArray, List.getElem_cons_zero, List.getElem_cons_succ, pmA, List.foldl_cons, List.foldl_nil, Act.put, List.setIfInBounds_toArray, List.set_cons_zero, List.set_cons_succ]
            rw [eT]
            kernel_rfl
          case o9 =>
            intro l tm w h hl hd K0 hK
            try dsimp only at h
            rw [hl] at h
            have hh := h.addQ HPN.out 27
            exact st_run (v := ptr w.heap.size) (by rfl) (by kernel_rfl) (hK.out _ _ hh)
          case o10 =>
            intro l tm w h hl hd K0 hK
            try dsimp only at h
            rw [hl] at h
            have hh := h.addY HPN.out 40
            exact st_run (v := ptr w.heap.size) (by rfl) (by kernel_rfl) (hK.out _ _ hh)
          case o11 =>
            intro l tm w h hl hd K0 hK
            try dsimp only at h
            rw [hl] at h
            obtain ⟨x, A', ca', C', cc', ex, e1, ed, hw⟩ := h.atS' (hd 5 (by kernel_rfl)) (hd 6 (by kernel_rfl)) (hd 7 (by kernel_rfl)) (hd 9 (by kernel_rfl))
            have HT : Hid (w.there x 0 (#[.int .i64 a, .int .i64 b, .int .i64 c, .slice A' n ca', .slice C' m cc'] : Array Value).size) := Lib.hid (hw.there (n := 5) rfl)
            have HO := Lib.hid (state_one a b c A' n ca' C' m cc')
            refine st_store (by rfl) 27 (.tmp 16) (.tmp 82) (by rfl) x 0 #[.int .i64 a, .int .i64 b, .int .i64 c, .slice A' n ca', .slice C' m cc'] ((by kernel_rfl : _ = tm 16).trans ex) ((by kernel_rfl : _ = tm 82).trans e1) HT.out info_state HO.out ?_
            refine hK.out undef (w.setCells x 0 [.int .i64 a, .int .i64 b, .int .i64 c, .slice A' n ca', .slice C' m cc']) ?_
            exact h.addS' rfl (hd 3 (by kernel_rfl)) rfl rfl (fun _ => (hd 4 (by kernel_rfl))) (hd 5 (by kernel_rfl)) (hd 6 (by kernel_rfl)) (hd 7 (by kernel_rfl)) (hd 9 (by kernel_rfl)) (fun _ => (hd 10 (by kernel_rfl))) ex ed
          case start => exact ⟨hH, fun _ => ⟨hH, fun _ => HPA.out.on hH, fun e => ff rfl e, fun _ => ⟨none, 0, 0, rfl, rfl, Nat.le_refl _, none_at _⟩, fun _ => ⟨rfl, rfl⟩, fun e => ff rfl e, fun e => ff rfl e, fun e => ff rfl e, fun e => ff rfl e, fun e => ff rfl e, fun e => ff rfl e⟩, fun e => ff rfl e, fun e => ff rfl e, fun e => ff rfl e, fun e => ff rfl e, fun e => ff rfl e, fun e => ff rfl e⟩
          case fin =>
            intro tm u8 h
            try dsimp only at h
            obtain ⟨hbb, hR, hP⟩ := h.fin (by kernel_rfl) (by kernel_rfl)
            obtain ⟨g5, A9, ca9, C9, cc9, ed, ex, hx, hm, hy⟩ := hP
            obtain ⟨g6, ey, hne, hY, haw⟩ := hy rfl
            simp only [ptr] at ex ey
            obtain ⟨e1, e2, e3, e4⟩ := hm
            have e1 := e1.symm
            have e2 := e2.symm
            have e3 := e3.symm
            have e4 := e4.symm
            subst e1 e2 e3 e4
            clear h ed hy haw
            simp only [pmA, List.foldl_cons, List.foldl_nil, Act.put, List.setIfInBounds_toArray, List.set_cons_zero, List.set_cons_succ]
            rw [ex, ey, hR]
            clear ex ey hR
            refine wpAnyH_ready (rs := [12]) (by kernel_rfl) (by simp) ?_
            refine AllReadyH.cons rfl (fun K0 hK => ?_) AllReadyH.nil
            have HT : Hid (u8.there g6 0 (#[.int .i64 14, .int .u64 0, .int .i64 0] : Array Value).size) := Lib.hid (hY.there (n := 3) rfl)
            have HO := Lib.hid (reply_one 14 0 0)
            have kY := hY.setCells (vs := [.int .i64 14, .int .u64 0, .int .i64 0]) rfl
            have fY := Fnd.setCells g6 [.int .i64 14, .int .u64 0, .int .i64 0] 0 u8
            have kX := hx.fnd fY hne.symm kY.bx.old
            refine step_store_mid (by rfl) 40 (.tmp 17) (.tmp 83) (by rfl) g6 0 #[.int .i64 14, .int .u64 0, .int .i64 0] (by rfl) (by rfl) HT.out info_reply HO.out ?_
            change K0 _ (u8.setCells g6 0 [.int .i64 14, .int .u64 0, .int .i64 0])
            clear fY HT hne hY hx
            generalize u8.setCells g6 0 [.int .i64 14, .int .u64 0, .int .i64 0] = v3 at kX kY ⊢
            have hb := kY.bx.old
            have KX := Lib.hid kX
            have KY := Lib.hid kY
            clear kX kY
            refine hK.out _ _ hb (fun hH => ?_)
            clear hK K0
            try simp only [Act.put, List.setIfInBounds_toArray, List.set_cons_zero, List.set_cons_succ, List.getElem_toArray, List.getElem_cons_zero, List.getElem_cons_succ]
            refine wpAnyH_done (by kernel_rfl) ?_ _
            clear hH hbb
            replace T7 := Lib.hid (T7.out.on hb)
            replace KXX := Lib.hid (KXX.out.on hb)
            replace KYY := Lib.hid (KYY.out.on hb)
            replace H9 := Lib.hid (H9.out.on hb)
            clear hb
            have y1 := KYY.out.bx.c 1 _ rfl
            have y0 := KY.out.bx.c 0 _ rfl
            have a0 := KXX.out.bx.c 0 _ rfl
            have a1 := KXX.out.bx.c 1 _ rfl
            have a2 := KXX.out.bx.c 2 _ rfl
            have a3 := KXX.out.bx.c 3 _ rfl
            have a4 := KXX.out.bx.c 4 _ rfl
            have t0 := T7.out.bx.c 0 _ rfl
            have t1 := T7.out.bx.c 1 _ rfl
            have t2 := T7.out.bx.c 2 _ rfl
            have t3 := T7.out.bx.c 3 _ rfl
            have t4 := T7.out.bx.c 4 _ rfl
            go_wp2_with fail
            refine (psame_is H9.out (HS.out.on T7.out.bx.old) (St.same_iff.2 rfl)).mono ?_
            rintro e w11 ⟨rfl, hb8⟩
            have HO := Lib.hid (below_on T7.out.bx.old hb8)
            clear y1 y0 a0 a1 a2 a3 a4 t0 t1 t2 t3 t4 hb8
            go_wp2
            go_ret
            exact ⟨rfl, HO.out⟩
end Go.Proofs.Ytkpbfbmkolgmgaa
