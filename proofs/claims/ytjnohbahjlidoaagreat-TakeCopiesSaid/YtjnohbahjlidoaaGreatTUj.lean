/-
  The walk of the law TakeCopies. Condition: the state and the ways lie in memory.
-/
import Derived.Test.YtjnohbahjlidoaaGreatTUi
import Derived.Test.YtjnohbahjlidoaaGreatTUj0
namespace Go.Proofs.YtjnohbahjlidoaaGreat
open Go.RowKit
set_option linter.unusedSimpArgs false
set_option linter.unusedVariables false

set_option maxRecDepth 100000 in
set_option maxHeartbeats 16000000 in
theorem take_copies {s : St} {a b c : Int} {A C : Option Addr} {n ca m cc : Nat} {t x : Int} {PA PB : Option Addr} {na cpa nb cpb : Nat} {la lb : List Int} {w : World} (hS : StAt w s A C) (hsg : s.g = ⟨a, b, c⟩) (hsn : n = s.sl.length) (hsm : m = s.th.length) (hsca : n ≤ ca) (hscc : m ≤ cc)
    (hna : na = la.length) (hcpa : na ≤ cpa) (hA : IntsAt w w.heap.size PA la) (hnb : nb = lb.length) (hcpb : nb ≤ cpb) (hB : IntsAt w w.heap.size PB lb) :
    Calls Tryz.prog 4 #[.agg #[.int .i64 a, .int .i64 b, .int .i64 c, .slice A n ca, .slice C m cc], .int .i64 t, .slice PA na cpa, .slice PB nb cpb, .int .i64 x] w fun e w' => e = .returned (.bool true) ∧ Below w.heap.size w w' := by
  have HSA := Lib.hid hS
  have HSG := Lib.hid hsg
  have HSN := Lib.hid hsn
  have HSM := Lib.hid hsm
  have HSCA := Lib.hid hsca
  have HSCC := Lib.hid hscc
  have HNA := Lib.hid hna
  have HNB := Lib.hid hnb
  have HCPA := Lib.hid hcpa
  have HCPB := Lib.hid hcpb
  have HA := Lib.hid hA
  have HB := Lib.hid hB
  clear hS hsg hsn hsm hsca hscc hna hnb hcpa hcpb hA hB
  have k1 := Wbs.more (below_self w) [.int .i64 a, .int .i64 b, .int .i64 c, .slice A n ca, .slice C m cc] 28
  go_enter Tryz.func4, Tryz.ntmps4
  go_upto_region 1 with fail
  generalize w.alloc _ = w1 at k1 ⊢
  have K1 := Lib.hid k1
  clear k1
  go_wp2_with fail
  refine (awake17_is w1).mono ?_
  rintro e w2 ⟨rfl, hb⟩
  replace K1 := Lib.hid (K1.out.on hb)
  clear hb
  go_wp2_with fail
  refine (way17_is w2).mono ?_
  rintro e w3 ⟨rfl, hb⟩
  replace K1 := Lib.hid (K1.out.on hb)
  clear hb
  go_wp2_with fail
  refine (way17_is w3).mono ?_
  rintro e w4 ⟨rfl, hb⟩
  replace K1 := Lib.hid (K1.out.on hb)
  clear hb
  go_upto_region 4 with fail
  have N := Wbs.more K1.out.bx.old [.int .i64 2, .slice PA na cpa, .slice PB nb cpb, .int .i64 x, .int .i64 0, .int .u64 0] 41
  have hal := below_alloc w4 (.cells #[.int .i64 2, .slice PA na cpa, .slice PB nb cpb, .int .i64 x, .int .i64 0, .int .u64 0] 41)
  replace K1 := Lib.hid (K1.out.on hal)
  clear hal
  obtain ⟨g9, hg9⟩ : ∃ g9, g9 = w4.heap.size := ⟨_, rfl⟩
  rw [← hg9] at N ⊢
  clear hg9
  generalize w4.alloc _ = w5 at N K1 ⊢
  have K9 := Lib.hid N
  clear N
  obtain ⟨hv, hhv⟩ : ∃ hv, (decide (100 < n) || (decide (50 < m) || (decide (10 < na) || decide (10 < nb)))) = hv := ⟨_, rfl⟩
  have HHV := Lib.hid hhv
  clear hhv
  have t0 := K1.out.bx.c 0 _ rfl
  have t1 := K1.out.bx.c 1 _ rfl
  have t2 := K1.out.bx.c 2 _ rfl
  have t3 := K1.out.bx.c 3 _ rfl
  have t4 := K1.out.bx.c 4 _ rfl
  have k0 := K9.out.bx.c 0 _ rfl
  have k1 := K9.out.bx.c 1 _ rfl
  have k2 := K9.out.bx.c 2 _ rfl
  have k3 := K9.out.bx.c 3 _ rfl
  have k4 := K9.out.bx.c 4 _ rfl
  have k5 := K9.out.bx.c 5 _ rfl
  go_wp2_with fail
  refine (heavy17_is (z := 0) HHV.out w5).mono ?_
  rintro e w6 ⟨rfl, hb⟩
  replace K1 := Lib.hid (K1.out.on hb)
  replace K9 := Lib.hid (K9.out.on hb)
  clear hb t0 t1 t2 t3 t4 k0 k1 k2 k3 k4 k5
  cases hv with
  | true =>
    go_wp2
    go_ret
    exact ⟨rfl, K1.out.bx.old⟩
  | false =>
  have HS : Hid (StH w s a b c A n ca C m cc) := Lib.hid (by
    have h := HHV.out
    simp only [Bool.or_eq_false_iff, decide_eq_false_iff_not] at h
    exact ⟨HSA.out, HSG.out, HSN.out, HSM.out, by omega, by omega, HSCA.out, HSCC.out⟩)
  clear HSA HSG HSN HSM HSCA HSCC HHV
  obtain ⟨gd, hgd⟩ : ∃ gd, sgood s = gd := ⟨_, rfl⟩
  have HGD := Lib.hid hgd
  clear hgd
  have t0 := K1.out.bx.c 0 _ rfl
  have t1 := K1.out.bx.c 1 _ rfl
  have t2 := K1.out.bx.c 2 _ rfl
  have t3 := K1.out.bx.c 3 _ rfl
  have t4 := K1.out.bx.c 4 _ rfl
  go_wp2_with fail
  refine (sgood_is (HS.out.on K1.out.bx.old) HGD.out).mono ?_
  rintro e w7 ⟨rfl, hb⟩
  replace K1 := Lib.hid (K1.out.on hb)
  replace K9 := Lib.hid (K9.out.on hb)
  clear hb t0 t1 t2 t3 t4
  cases gd with
  | false =>
    go_wp2
    go_ret
    exact ⟨rfl, K1.out.bx.old⟩
  | true =>
  by_cases hb1 : nb = 1
  case neg =>
    have ha2 : ((nb : Int) != 1) = true := by simp only [bne_iff_ne]; omega
    have ha3 : (nb != 1) = true := by simpa using hb1
    go_wp2
    go_ret
    exact ⟨rfl, K1.out.bx.old⟩
  subst hb1
  obtain ⟨y0, rfl⟩ : ∃ y0, lb = [y0] := List.length_eq_one_iff.1 HNB.out.symm
  obtain ⟨r, hr⟩ : ∃ r, gdo s t ⟨2, la, [y0], x, 0, 0⟩ = r := ⟨_, rfl⟩
  have HR := Lib.hid hr
  clear hr
  have t0 := K1.out.bx.c 0 _ rfl
  have t1 := K1.out.bx.c 1 _ rfl
  have t2 := K1.out.bx.c 2 _ rfl
  have t3 := K1.out.bx.c 3 _ rfl
  have t4 := K1.out.bx.c 4 _ rfl
  have k0 := K9.out.bx.c 0 _ rfl
  have k1 := K9.out.bx.c 1 _ rfl
  have k2 := K9.out.bx.c 2 _ rfl
  have k3 := K9.out.bx.c 3 _ rfl
  have k4 := K9.out.bx.c 4 _ rfl
  have k5 := K9.out.bx.c 5 _ rfl
  go_wp2_with fail
  refine (gdo_is (z := 0) (HS.out.on K1.out.bx.old) HNA.out HCPA.out (HA.out.on K1.out.bx.old) HNB.out HCPB.out (HB.out.on K1.out.bx.old) HR.out).mono ?_
  rintro e w8 ⟨A2, ca2, C2, cc2, rfl, hb, hm⟩
  have HBB := Lib.hid K1.out.bx.old
  replace K1 := Lib.hid (K1.out.on hb)
  replace K9 := Lib.hid (K9.out.on hb)
  clear t0 t1 t2 t3 t4 k0 k1 k2 k3 k4 k5
  obtain ⟨r1, q⟩ := r
  cases r1 with
  | none =>
    obtain ⟨e1, e2, e3, e4⟩ := hm
    have e1 := e1.symm
    have e2 := e2.symm
    have e3 := e3.symm
    have e4 := e4.symm
    subst e1 e2 e3 e4
    have hq : ¬ q.err = 0 := gdo_none HR.out
    have hq2 : (q.err != 0) = true := by simpa using hq
    simp only [Rep.val]
    obtain ⟨n2, n3⟩ := boxes2 w8 [.int .i64 a, .int .i64 b, .int .i64 c, .slice A n ca, .slice C m cc] [.int .i64 q.err, .int .u64 (q.w : Int), .int .i64 q.n] 28 33
    have T7 := (K1.out.on (below_alloc w8 (.cells #[.int .i64 a, .int .i64 b, .int .i64 c, .slice A n ca, .slice C m cc] 28))).on (below_alloc _ (.cells #[.int .i64 q.err, .int .u64 (q.w : Int), .int .i64 q.n] 33))
    go_upto_region 7 with fail
    obtain ⟨j1, hj1⟩ : ∃ j1, j1 = w8.heap.size + 1 := ⟨_, rfl⟩
    rw [← hj1] at n3 ⊢
    clear hj1
    obtain ⟨j0, hj0⟩ : ∃ j0, j0 = w8.heap.size := ⟨_, rfl⟩
    rw [← hj0] at n2 ⊢
    clear hj0
    generalize (w8.alloc _).alloc _ = w10 at n2 n3 T7 ⊢
    have TT := Lib.hid T7
    have m0 := n3.bx.c 0 _ rfl
    have a0 := n2.bx.c 0 _ rfl
    have a1 := n2.bx.c 1 _ rfl
    have a2 := n2.bx.c 2 _ rfl
    have a3 := n2.bx.c 3 _ rfl
    have a4 := n2.bx.c 4 _ rfl
    have t0 := TT.out.bx.c 0 _ rfl
    have t1 := TT.out.bx.c 1 _ rfl
    have t2 := TT.out.bx.c 2 _ rfl
    have t3 := TT.out.bx.c 3 _ rfl
    have t4 := TT.out.bx.c 4 _ rfl
    clear n2 n3 T7 hb K1 K9
    go_wp2
    go_ret
    exact ⟨rfl, TT.out.bx.old⟩
  | some s' =>
    obtain ⟨hca, hcc, hF⟩ := hm
    obtain ⟨hG', hl1, hl2, hl3, hp1, hp2, hq, hbk⟩ := copy_back HR.out
    subst hq
    have HBK := Lib.hid hbk
    have HPOS : Hid (∀ s'', some s = some s'' → 0 < s''.sl.length ∧ 0 < s''.th.length) := Lib.hid fun s'' e => by injection e with e; rw [← e]; exact ⟨hp1, hp2⟩
    obtain ⟨P, Q, rfl, rfl, hO⟩ := hF.ost (by rw [hl1]; exact hp1) (by rw [hl2]; exact hp2) hb
    simp only [Rep.val]
    have h2 : StH w8 s' a b c (some ⟨P, 0, none⟩) n ca2 (some ⟨Q, 0, none⟩) m cc2 := ⟨hO.lies, by rw [hl3]; exact HS.out.hg, by rw [hl1]; exact HS.out.hn, by rw [hl2]; exact HS.out.hm, HS.out.few, HS.out.fewm, hca, hcc⟩
    obtain ⟨n2, n3⟩ := boxes2 w8 [.int .i64 a, .int .i64 b, .int .i64 c, .slice (some ⟨P, 0, none⟩) n ca2, .slice (some ⟨Q, 0, none⟩) m cc2] [.int .i64 0, .int .u64 ((0 : Nat) : Int), .int .i64 0] 28 33
    have hal0 := below_alloc w8 (.cells #[.int .i64 a, .int .i64 b, .int .i64 c, .slice (some ⟨P, 0, none⟩) n ca2, .slice (some ⟨Q, 0, none⟩) m cc2] 28)
    have hal := below_alloc (w8.alloc (.cells #[.int .i64 a, .int .i64 b, .int .i64 c, .slice (some ⟨P, 0, none⟩) n ca2, .slice (some ⟨Q, 0, none⟩) m cc2] 28)) (.cells #[.int .i64 0, .int .u64 ((0 : Nat) : Int), .int .i64 0] 33)
    have T7 := Lib.hid ((K1.out.on hal0).on hal)
    have H2 := Lib.hid ((h2.on hal0).on hal)
    clear hb hal hal0 hO hF hca hcc K1 K9 h2 hbk hG' hl1 hl2 hl3 hp1 hp2
    go_upto_region 7 with fail
    obtain ⟨j1, hj1⟩ : ∃ j1, j1 = w8.heap.size + 1 := ⟨_, rfl⟩
    rw [← hj1] at n3 ⊢
    clear hj1
    obtain ⟨j0, hj0⟩ : ∃ j0, j0 = w8.heap.size := ⟨_, rfl⟩
    rw [← hj0] at n2 ⊢
    clear hj0
    generalize (w8.alloc _).alloc _ = v0 at n2 n3 T7 H2 ⊢
    have m0 := n3.bx.c 0 _ rfl
    have N2 := Lib.hid n2
    clear n2 n3
    go_upto_region 9 with fail
    clear m0
    have HPB : Hid (LisAt v0 (.slice PB 1 cpb) [y0]) := Lib.hid ⟨PB, 1, cpb, rfl, rfl, HCPB.out, HB.out.on T7.out.bx.old⟩
    refine wp_region_held_drew (S := fun w' => Below v0.heap.size v0 w') (by kernel_rfl) (below_self v0).drew (fun hH => ?_)
    refine wpAnyH_take (i := 0) (v := .agg #[.int .i64 a, .int .i64 b, .int .i64 c, .slice (some ⟨P, 0, none⟩) n ca2, .slice (some ⟨Q, 0, none⟩) m cc2]) rfl (by kernel_rfl) (by kernel_rfl) (by kernel_rfl) (fun _ _ _ h => h) (yieldsIf_load_mid (by rfl) 28 (.tmp 12) (by rfl) j0 0 (by rfl) [.int .i64 a, .int .i64 b, .int .i64 c, .slice (some ⟨P, 0, none⟩) n ca2, .slice (some ⟨Q, 0, none⟩) m cc2] _ (fun w hS => ((N2.out.bx.on hS).range)) Tryz.underlying28 rfl info_state) (by assumption) ?_
    try simp only [Act.put, List.setIfInBounds_toArray, List.set_cons_zero, List.set_cons_succ, List.getElem_toArray, List.getElem_cons_zero, List.getElem_cons_succ]
    refine wpAnyH_take (i := 1) (v := ?_) rfl (by kernel_rfl) (by kernel_rfl) (by kernel_rfl) (fun _ _ _ h => h) (Or.inl ⟨by rfl, ?_⟩) (by assumption) ?_
    rotate_left
    · intro w hSw; go_simp; try with_reducible rfl
    try simp only [Act.put, List.setIfInBounds_toArray, List.set_cons_zero, List.set_cons_succ, List.getElem_toArray, List.getElem_cons_zero, List.getElem_cons_succ]
    refine wpAnyH_take (i := 2) (v := ?_) rfl (by kernel_rfl) (by kernel_rfl) (by kernel_rfl) (fun _ _ _ h => h) (Or.inl ⟨by rfl, ?_⟩) (by assumption) ?_
    rotate_left
    · intro w hSw; go_simp; try with_reducible rfl
    try simp only [Act.put, List.setIfInBounds_toArray, List.set_cons_zero, List.set_cons_succ, List.getElem_toArray, List.getElem_cons_zero, List.getElem_cons_succ]
    refine wpAnyH_inv (f0 := 1) [3, 4, 5, 6, 7, 8, 9, 10, 11] [51, 52, 53, 47, 54, 55, 14, 15] (fun l tm w => PHI v0 [y0] [] a b c (some ⟨P, 0, none⟩) n ca2 (some ⟨Q, 0, none⟩) m cc2 (some s) (.agg #[.int .i64 0, .int .u64 0, .int .i64 1]) [.int .i64 0, .int .u64 0, .int .i64 0] false false (fun x y => .agg #[.int .i64 5, flat1 x, flat1 y, .int .i64 0, .int .i64 0, .int .u64 0]) true (l 3) true true (l 4) (l 5) (l 6) (l 7) (l 8) (l 9) (l 10) (l 11) (.slice PB 1 cpb) (tm 51) (.slice none 0 0) (.agg #[(.slice none 0 0)]) (tm 52) (tm 53) (tm 47) (tm 54) (tm 55) (tm 14) (tm 15) w) (by kernel_rfl) (by kernel_rfl) rfl (by decide) (fun l tm w h => h.bb) ?start (AllSteps.cons rfl ?o3 (AllSteps.cons rfl ?o4 (AllSteps.cons rfl ?o5 (AllSteps.cons rfl ?o6 (AllSteps.cons rfl ?o7 (AllSteps.cons rfl ?o8 (AllSteps.cons rfl ?o9 (AllSteps.cons rfl ?o10 (AllSteps.cons rfl ?o11 AllSteps.nil))))))))) ?fin
    case o3 =>
      intro l tm w h hl hd K hK
      try dsimp only at h
      rw [hl] at h
      have hs := h.early1.1
      have h0 := h
      rw [hs] at h0
      obtain ⟨⟨B, nB, cB, eB, -⟩, -⟩ := h0.way1 rfl
      have hc := way17_is (A := B) (n := nB) (cap := cB) w
      rw [← eB] at hc
      refine st_call (f := 11) (args := #[(.slice PB 1 cpb)]) (w' := w) (by rfl) (by kernel_rfl) (hc.mono ?_)
      rintro e w1 ⟨rfl, hb⟩
      exact ⟨_, rfl, hK.out _ _ (h.addW1 rfl hb rfl)⟩
    case o4 =>
      intro l tm w h hl hd K hK
      try dsimp only at h
      rw [hl] at h
      have d1 := hd 3 (by kernel_rfl)
      have d2 : true = true := rfl
      have hs : l 11 = false := by rw [Bool.eq_false_iff]; exact fun e => absurd ((h.o e).2.2.2.2.1 rfl) (by decide)
      have h0 := h
      rw [hs] at h0
      obtain ⟨⟨B1, n1, k1, eB1, eN1, eK1, eI1⟩, eW1⟩ := h0.way1 rfl
      obtain ⟨⟨B2, n2, k2, eB2, eN2, eK2, eI2⟩, eW2⟩ := h0.way2 rfl
      have hW1 := (eW1 d1).trans (by rw [eB1])
      have hW2 := (eW2 d2).trans (by rw [eB2])
      refine st_run (v := (fun x y => .agg #[.int .i64 5, flat1 x, flat1 y, .int .i64 0, .int .i64 0, .int .u64 0]) (tm 51) (.agg #[(.slice none 0 0)])) (w' := w) (by rfl) ?_ (hK.out _ _ (h.addBd d1 d2 rfl))
      simp only [List.getElem_toArray, List.getElem_cons_zero, List.getElem_cons_succ, pmA, List.foldl_cons, List.foldl_nil, Act.put, List.setIfInBounds_toArray, List.set_cons_zero, List.set_cons_succ]
      rw [hW1]
      kernel_rfl
    case o5 =>
      intro l tm w h hl hd K hK
      try dsimp only at h
      rw [hl] at h
      have d0 := hd 4 (by kernel_rfl)
      obtain ⟨d1, d2, eBD⟩ := h.e6 d0
      have hs : l 11 = false := h.notS.1
      have h0 := h
      rw [hs] at h0
      obtain ⟨⟨B1, n1, k1, eB1, eN1, eK1, eI1⟩, eW1⟩ := h0.way1 rfl
      obtain ⟨⟨B2, n2, k2, eB2, eN2, eK2, eI2⟩, eW2⟩ := h0.way2 rfl
      have hW1 := (eW1 d1).trans (by rw [eB1])
      have hW2 := (eW2 d2).trans (by rw [eB2])
      rw [hW1, hW2] at eBD
      have hA : #[.agg #[.int .i64 a, .int .i64 b, .int .i64 c, .slice (some ⟨P, 0, none⟩) n ca2, .slice (some ⟨Q, 0, none⟩) m cc2], .int .i64 t, (tm 52)] = #[.agg #[.int .i64 a, .int .i64 b, .int .i64 c, .slice (some ⟨P, 0, none⟩) n ca2, .slice (some ⟨Q, 0, none⟩) m cc2], .int .i64 t, .agg #[.int .i64 5, .slice B1 n1 k1, .slice B2 n2 k2, .int .i64 0, .int .i64 0, .int .u64 0]] := by rw [eBD]; rfl
      refine st_call (f := 10) (args := #[.agg #[.int .i64 a, .int .i64 b, .int .i64 c, .slice (some ⟨P, 0, none⟩) n ca2, .slice (some ⟨Q, 0, none⟩) m cc2], .int .i64 t, (tm 52)]) (w' := w) (by rfl) (by kernel_rfl) ?_
      rw [hA]
      refine (tdo_is (z := 0) (H2.out.on h.bb) eN1 eK1 eI1 eN2 eK2 eI2 HBK.out).mono ?_
      rintro e w1 ⟨A', ca', C', cc', rfl, hb, hm⟩
      obtain ⟨q1, q2⟩ := resD_of (a := a) (b := b) (c := c) (R := (.agg #[.int .i64 0, .int .u64 0, .int .i64 1])) h.bb.size hm HPOS.out
      exact ⟨_, rfl, hK.out _ _ (h.addD hb q1 q2)⟩
    case o6 =>
      intro l tm w h hl hd K hK
      try dsimp only at h
      rw [hl] at h
      exact st_run (v := tm 53) (w' := w) (by rfl) (by kernel_rfl) (hK.out _ _ (h.addMv (hd 5 (by kernel_rfl)) rfl))
    case o7 =>
      intro l tm w h hl hd K hK
      try dsimp only at h
      rw [hl] at h
      obtain ⟨A', ca', C', cc', eT, -⟩ := h.tup (hd 6 (by kernel_rfl))
      refine st_run (v := .agg #[.int .i64 a, .int .i64 b, .int .i64 c, .slice A' n ca', .slice C' m cc']) (w' := w) (by rfl) ?_ (hK.out _ _ (h.addE1 (hd 6 (by kernel_rfl)) eT))
      simp only [List.getElem_toArray, List.getElem_cons_zero, List.getElem_cons_succ, pmA, List.foldl_cons, List.foldl_nil, Act.put, List.setIfInBounds_toArray, List.set_cons_zero, List.set_cons_succ]
      rw [eT]
      kernel_rfl
    case o8 =>
      intro l tm w h hl hd K hK
      try dsimp only at h
      rw [hl] at h
      obtain ⟨A', ca', C', cc', eT, -⟩ := h.tup (hd 6 (by kernel_rfl))
      refine st_run (v := (.agg #[.int .i64 0, .int .u64 0, .int .i64 1])) (w' := w) (by rfl) ?_ (hK.out _ _ (h.addE2 (hd 6 (by kernel_rfl)) eT))
      simp only [List.getElem_toArray, List.getElem_cons_zero, List.getElem_cons_succ, pmA, List.foldl_cons, List.foldl_nil, Act.put, List.setIfInBounds_toArray, List.set_cons_zero, List.set_cons_succ]
      rw [eT]
      kernel_rfl
    case o9 =>
      intro l tm w h hl hd K hK
      try dsimp only at h
      rw [hl] at h
      have hh := h.addQ HPOS.out 28
      exact st_run (v := ptr w.heap.size) (by rfl) (by kernel_rfl) (hK.out _ _ hh)
    case o10 =>
      intro l tm w h hl hd K hK
      try dsimp only at h
      rw [hl] at h
      have hh := h.addY HPOS.out 33
      exact st_run (v := ptr w.heap.size) (by rfl) (by kernel_rfl) (hK.out _ _ hh)
    case o11 =>
      intro l tm w h hl hd K hK
      try dsimp only at h
      rw [hl] at h
      obtain ⟨x, A', ca', C', cc', ex, e1, ed, hw⟩ := h.atS' (hd 5 (by kernel_rfl)) (hd 6 (by kernel_rfl)) (hd 7 (by kernel_rfl)) (hd 9 (by kernel_rfl))
      have HT : Hid (w.there x 0 (#[.int .i64 a, .int .i64 b, .int .i64 c, .slice A' n ca', .slice C' m cc'] : Array Value).size) := Lib.hid (hw.there (n := 5) rfl)
      have HO := Lib.hid (state_one a b c A' n ca' C' m cc')
      refine st_store (by rfl) 28 (.tmp 14) (.tmp 54) (by rfl) x 0 #[.int .i64 a, .int .i64 b, .int .i64 c, .slice A' n ca', .slice C' m cc'] ((by kernel_rfl : _ = tm 14).trans ex) ((by kernel_rfl : _ = tm 54).trans e1) HT.out info_state HO.out ?_
      refine hK.out undef (w.setCells x 0 [.int .i64 a, .int .i64 b, .int .i64 c, .slice A' n ca', .slice C' m cc']) ?_
      exact h.addS' rfl (hd 3 (by kernel_rfl)) rfl rfl (fun _ => (hd 4 (by kernel_rfl))) (hd 5 (by kernel_rfl)) (hd 6 (by kernel_rfl)) (hd 7 (by kernel_rfl)) (hd 9 (by kernel_rfl)) (fun _ => (hd 10 (by kernel_rfl))) ex ed
    case start =>
      exact ⟨hH, fun _ => ⟨hH, fun _ => HPB.out.on hH, fun e => ff rfl e, fun _ => ⟨none, 0, 0, rfl, rfl, Nat.le_refl _, none_at _⟩, fun _ => ⟨rfl, rfl⟩, fun e => ff rfl e, fun e => ff rfl e, fun e => ff rfl e, fun e => ff rfl e, fun e => ff rfl e, fun e => ff rfl e⟩, fun e => ff rfl e, fun e => ff rfl e, fun e => ff rfl e, fun e => ff rfl e, fun e => ff rfl e, fun e => ff rfl e⟩
    case fin =>
      intro tm w9 h
      try dsimp only at h
      obtain ⟨hbb, hR, hP⟩ := h.fin (by kernel_rfl) (by kernel_rfl)
      obtain ⟨x, A', ca', C', cc', ed, ex, hx, hm, hy⟩ := hP
      obtain ⟨y, ey, hne, hY, haw⟩ := hy rfl
      obtain ⟨hca', hcc', hF'⟩ := hm
      simp only [ptr] at ex ey
      have HF' := Lib.hid hF'
      have HX := Lib.hid hx
      have HY := Lib.hid hY
      have HBB9 := Lib.hid hbb
      have HCA' := Lib.hid hca'
      have HCC' := Lib.hid hcc'
      have HNE := Lib.hid hne
      clear h hy hF' hx hY hca' hcc' hne ed
      simp only [pmA, List.foldl_cons, List.foldl_nil, Act.put, List.setIfInBounds_toArray, List.set_cons_zero, List.set_cons_succ]
      rw [ex, ey, hR]
      refine wpAnyH_ready (rs := [12]) (by kernel_rfl) (by simp) ?_
      refine AllReadyH.cons rfl (fun K hK => ?_) AllReadyH.nil
      have HT : Hid (w9.there y 0 (#[.int .i64 0, .int .u64 0, .int .i64 1] : Array Value).size) := Lib.hid (HY.out.there (n := 3) rfl)
      have HO := Lib.hid (reply_one 0 0 1)
      have kY := HY.out.setCells (vs := [.int .i64 0, .int .u64 0, .int .i64 1]) rfl
      have fY := Fnd.setCells y [.int .i64 0, .int .u64 0, .int .i64 1] 0 w9
      have kX := HX.out.fnd fY HNE.out.symm kY.bx.old
      refine step_store_mid (by rfl) 33 (.tmp 15) (.tmp 55) (by rfl) y 0 #[.int .i64 0, .int .u64 0, .int .i64 1] (by rfl) (by rfl) HT.out info_reply HO.out ?_
      have HF'' := Lib.hid (HF'.out.far fY (haw s rfl).1 (haw s rfl).2)
      change K _ (w9.setCells y 0 [.int .i64 0, .int .u64 0, .int .i64 1])
      clear fY HT
      generalize w9.setCells y 0 [.int .i64 0, .int .u64 0, .int .i64 1] = w10 at kX kY HF'' ⊢
      have KX := Lib.hid kX
      have KY := Lib.hid kY
      clear kX kY
      refine hK.out _ _ KY.out.bx.old (fun hH => ?_)
      clear hK K
      try simp only [Act.put, List.setIfInBounds_toArray, List.set_cons_zero, List.set_cons_succ, List.getElem_toArray, List.getElem_cons_zero, List.getElem_cons_succ]
      refine wpAnyH_done (by kernel_rfl) ?_ _
      clear hH HX HY
      have h3 : Hid (StH w10 s a b c A' n ca' C' m cc') := Lib.hid ⟨HF''.out.lies, HS.out.hg, HS.out.hn, HS.out.hm, HS.out.few, HS.out.fewm, HCA'.out, HCC'.out⟩
      have T8 := Lib.hid (T7.out.on KY.out.bx.old)
      have y0' := KY.out.bx.c 0 _ rfl
      have y1' := KY.out.bx.c 1 _ rfl
      have y2' := KY.out.bx.c 2 _ rfl
      have heq1 : ∀ w, (Op.equalIn 10000 33 (.agg #[.int .i64 0, .int .u64 0, .int .i64 1]) (.agg #[.int .i64 0, .int .u64 0, .int .i64 1])).run Tryz.prog w = .ok true w := fun w => eq_reply 0 0 1 1 0 0 w
      have a0 := KX.out.bx.c 0 _ rfl
      have a1 := KX.out.bx.c 1 _ rfl
      have a2 := KX.out.bx.c 2 _ rfl
      have a3 := KX.out.bx.c 3 _ rfl
      have a4 := KX.out.bx.c 4 _ rfl
      have t0 := T8.out.bx.c 0 _ rfl
      have t1 := T8.out.bx.c 1 _ rfl
      have t2 := T8.out.bx.c 2 _ rfl
      have t3 := T8.out.bx.c 3 _ rfl
      have t4 := T8.out.bx.c 4 _ rfl
      go_wp2_with fail
      refine (psame_is h3.out (HS.out.on T8.out.bx.old) (St.same_iff.2 rfl)).mono ?_
      rintro e w11 ⟨rfl, hb8⟩
      have HO := Lib.hid (below_on T8.out.bx.old hb8)
      clear y0' y1' y2' heq1 a0 a1 a2 a3 a4 t0 t1 t2 t3 t4 hb8
      go_wp2
      go_ret
      exact ⟨rfl, HO.out⟩
end Go.Proofs.YtjnohbahjlidoaaGreat
