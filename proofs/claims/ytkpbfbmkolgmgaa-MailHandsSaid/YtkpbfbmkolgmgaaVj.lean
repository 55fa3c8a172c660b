/-
  The walk of the law MailHands. Condition: the state and the ways lie in memory.
-/
import Derived.Test.YtkpbfbmkolgmgaaVg
import Derived.Test.YtkpbfbmkolgmgaaVh
namespace Go.Proofs.Ytkpbfbmkolgmgaa
open Go.RowKit
set_option linter.unusedSimpArgs false
set_option linter.unusedVariables false

def MhRel (W : World) (n T d : Nat) (p q : Value) (wr : World) : Prop := ∃ i k : Nat, d + i = n ∧ q = .int .i64 (i : Int) ∧ p = .int .i64 (k : Int) ∧ (k = 0 ∨ (k = 1 ∧ T < i)) ∧ Below W.heap.size W wr

set_option maxRecDepth 100000 in
set_option maxHeartbeats 40000000 in
theorem mail_hands_law {s : St} {a b c : Int} {A C : Option Addr} {n ca m cc : Nat} {t t2 : Int} {PA PB PC PD : Option Addr} {na cpa nb cpb nc cpc nd cpd : Nat} {la lb lc ld : List Int} {w : World} (hS : StAt w s A C) (hsg : s.g = ⟨a, b, c⟩) (hsn : n = s.sl.length) (hsm : m = s.th.length) (hsca : n ≤ ca) (hscc : m ≤ cc)
    (hna : na = la.length) (hcpa : na ≤ cpa) (hA : IntsAt w w.heap.size PA la) (hnb : nb = lb.length) (hcpb : nb ≤ cpb) (hB : IntsAt w w.heap.size PB lb) (hnc : nc = lc.length) (hcpc : nc ≤ cpc) (hC : IntsAt w w.heap.size PC lc) (hnd : nd = ld.length) (hcpd : nd ≤ cpd) (hD : IntsAt w w.heap.size PD ld) :
    Calls Try.prog 4 #[.agg #[.int .i64 a, .int .i64 b, .int .i64 c, .slice A n ca, .slice C m cc], .int .i64 t, .int .i64 t2, .slice PA na cpa, .slice PB nb cpb, .slice PC nc cpc, .slice PD nd cpd] w fun e w' => e = .returned (.bool true) ∧ Below w.heap.size w w' := by
  have HSA := Lib.hid hS
  have HSG := Lib.hid hsg
  have HSN := Lib.hid hsn
  have HSM := Lib.hid hsm
  have HSCA := Lib.hid hsca
  have HSCC := Lib.hid hscc
  have HNA := Lib.hid hna
  have HCPA := Lib.hid hcpa
  have HA := Lib.hid hA
  have HNB := Lib.hid hnb
  have HCPB := Lib.hid hcpb
  have HB := Lib.hid hB
  have HNC := Lib.hid hnc
  have HCPC := Lib.hid hcpc
  have HC := Lib.hid hC
  have HND := Lib.hid hnd
  have HCPD := Lib.hid hcpd
  have HD := Lib.hid hD
  clear hS hsg hsn hsm hsca hscc hna hcpa hA hnb hcpb hB hnc hcpc hC hnd hcpd hD
  have k1 := Wbs.more (below_self w) [.int .i64 a, .int .i64 b, .int .i64 c, .slice A n ca, .slice C m cc] 27
  go_enter Try.func4, Try.ntmps4
  go_upto_region 1 with fail
  generalize w.alloc _ = w1 at k1 ⊢
  have K1 := Lib.hid k1
  clear k1
  go_wp2_with fail
  refine (awake18_is w1).mono ?_
  rintro e w2 ⟨rfl, hb⟩
  replace K1 := Lib.hid (K1.out.on hb)
  clear hb
  go_wp2_with fail
  refine (way18_is w2).mono ?_
  rintro e w3 ⟨rfl, hb⟩
  replace K1 := Lib.hid (K1.out.on hb)
  clear hb
  go_wp2_with fail
  refine (way18_is w3).mono ?_
  rintro e w4 ⟨rfl, hb⟩
  replace K1 := Lib.hid (K1.out.on hb)
  clear hb
  go_wp2_with fail
  refine (way18_is w4).mono ?_
  rintro e w5 ⟨rfl, hb⟩
  replace K1 := Lib.hid (K1.out.on hb)
  clear hb
  go_wp2_with fail
  refine (way18_is w5).mono ?_
  rintro e w6 ⟨rfl, hb⟩
  replace K1 := Lib.hid (K1.out.on hb)
  clear hb
  go_upto_region 4 with fail
  obtain ⟨n1, n2⟩ := boxes2 w6 [.int .i64 7, .slice PA na cpa, .slice PB nb cpb, .int .i64 0, .int .i64 0, .int .u64 1] [.int .i64 8, .slice PC nc cpc, .slice PD nd cpd, .int .i64 0, .int .i64 0, .int .u64 0] 35 35
  have hal0 := below_alloc w6 (.cells #[.int .i64 7, .slice PA na cpa, .slice PB nb cpb, .int .i64 0, .int .i64 0, .int .u64 1] 35)
  have hal := below_alloc (w6.alloc (.cells #[.int .i64 7, .slice PA na cpa, .slice PB nb cpb, .int .i64 0, .int .i64 0, .int .u64 1] 35)) (.cells #[.int .i64 8, .slice PC nc cpc, .slice PD nd cpd, .int .i64 0, .int .i64 0, .int .u64 0] 35)
  replace K1 := Lib.hid ((K1.out.on hal0).on hal)
  clear hal hal0
  obtain ⟨g2, hg2⟩ : ∃ g, g = w6.heap.size + 1 := ⟨_, rfl⟩
  rw [← hg2] at n2 ⊢
  clear hg2
  obtain ⟨g1, hg1⟩ : ∃ g, g = w6.heap.size := ⟨_, rfl⟩
  rw [← hg1] at n1 ⊢
  clear hg1
  generalize (w6.alloc _).alloc _ = w7 at n1 n2 K1 ⊢
  have K7 := Lib.hid n1
  have K8 := Lib.hid n2
  clear n1 n2
  obtain ⟨hv, hhv⟩ : ∃ hv, (decide (100 < n) || (decide (50 < m) || (decide (10 < na) || decide (10 < nb)))) = hv := ⟨_, rfl⟩
  have H_hv := Lib.hid hhv
  clear hhv
  have t0 := K1.out.bx.c 0 _ rfl
  have t1 := K1.out.bx.c 1 _ rfl
  have t2 := K1.out.bx.c 2 _ rfl
  have t3 := K1.out.bx.c 3 _ rfl
  have t4 := K1.out.bx.c 4 _ rfl
  have k0 := K7.out.bx.c 0 _ rfl
  have k1 := K7.out.bx.c 1 _ rfl
  have k2 := K7.out.bx.c 2 _ rfl
  have k3 := K7.out.bx.c 3 _ rfl
  have k4 := K7.out.bx.c 4 _ rfl
  have k5 := K7.out.bx.c 5 _ rfl
  go_wp2_with fail
  refine (heavy18_is (z := 1) H_hv.out w7).mono ?_
  rintro e w8 ⟨rfl, hb⟩
  replace K1 := Lib.hid (K1.out.on hb)
  replace K7 := Lib.hid (K7.out.on hb)
  replace K8 := Lib.hid (K8.out.on hb)
  clear hb t0 t1 t2 t3 t4 k0 k1 k2 k3 k4 k5
  cases hv with
  | true =>
    go_wp2
    go_ret
    exact ⟨rfl, K1.out.bx.old⟩
  | false =>
  obtain ⟨hu, hhu⟩ : ∃ hv, (decide (100 < n) || (decide (50 < m) || (decide (10 < nc) || decide (10 < nd)))) = hv := ⟨_, rfl⟩
  have H_hu := Lib.hid hhu
  clear hhu
  have t0 := K1.out.bx.c 0 _ rfl
  have t1 := K1.out.bx.c 1 _ rfl
  have t2 := K1.out.bx.c 2 _ rfl
  have t3 := K1.out.bx.c 3 _ rfl
  have t4 := K1.out.bx.c 4 _ rfl
  have k0 := K8.out.bx.c 0 _ rfl
  have k1 := K8.out.bx.c 1 _ rfl
  have k2 := K8.out.bx.c 2 _ rfl
  have k3 := K8.out.bx.c 3 _ rfl
  have k4 := K8.out.bx.c 4 _ rfl
  have k5 := K8.out.bx.c 5 _ rfl
  go_wp2_with fail
  refine (heavy18_is (z := 0) H_hu.out w8).mono ?_
  rintro e w9 ⟨rfl, hb⟩
  replace K1 := Lib.hid (K1.out.on hb)
  replace K7 := Lib.hid (K7.out.on hb)
  replace K8 := Lib.hid (K8.out.on hb)
  clear hb t0 t1 t2 t3 t4 k0 k1 k2 k3 k4 k5
  cases hu with
  | true =>
    go_wp2
    go_ret
    exact ⟨rfl, K1.out.bx.old⟩
  | false =>
  have HS : Hid (StH w s a b c A n ca C m cc) := Lib.hid (by
    have h := H_hv.out
    simp only [Bool.or_eq_false_iff, decide_eq_false_iff_not] at h
    exact ⟨HSA.out, HSG.out, HSN.out, HSM.out, by omega, by omega, HSCA.out, HSCC.out⟩)
  clear HSA HSG HSN HSM HSCA HSCC H_hv H_hu
  obtain ⟨gd, hgd⟩ : ∃ gd, sgood s = gd := ⟨_, rfl⟩
  have HGD := Lib.hid hgd
  clear hgd
  have t0 := K1.out.bx.c 0 _ rfl
  have t1 := K1.out.bx.c 1 _ rfl
  have t2 := K1.out.bx.c 2 _ rfl
  have t3 := K1.out.bx.c 3 _ rfl
  have t4 := K1.out.bx.c 4 _ rfl
  go_wp2_with fail
  refine (sgood_is (HS.out.on K1.out.bx.old) HGD.out).mono ?_
  rintro e w10 ⟨rfl, hb⟩
  replace K1 := Lib.hid (K1.out.on hb)
  replace K7 := Lib.hid (K7.out.on hb)
  replace K8 := Lib.hid (K8.out.on hb)
  clear hb t0 t1 t2 t3 t4
  cases gd with
  | false =>
    go_wp2
    go_ret
    exact ⟨rfl, K1.out.bx.old⟩
  | true =>
    by_cases hb1 : nb = 0
    case pos =>
      have hb1' : ((nb : Int) == 0) = true := by rw [beq_iff_eq]; omega
      have hb1'' : (nb == 0) = true := by rw [beq_iff_eq]; exact hb1
      clear hb1
      go_wp2
      go_ret
      exact ⟨rfl, K1.out.bx.old⟩
    have hb1' : ((nb : Int) == 0) = false := by rw [beq_eq_false_iff_ne]; omega
    have hb1'' : (nb == 0) = false := by rw [beq_eq_false_iff_ne]; exact hb1
    by_cases hd1 : nd = 0
    case pos =>
      have hd1' : ((nd : Int) == 0) = true := by rw [beq_iff_eq]; omega
      have hd1'' : (nd == 0) = true := by rw [beq_iff_eq]; exact hd1
      clear hd1
      go_wp2
      go_ret
      exact ⟨rfl, K1.out.bx.old⟩
    have hd1' : ((nd : Int) == 0) = false := by rw [beq_eq_false_iff_ne]; omega
    have hd1'' : (nd == 0) = false := by rw [beq_eq_false_iff_ne]; exact hd1
    clear hb1 hd1
    obtain ⟨r, hr⟩ : ∃ r, mdo s t ⟨7, la, lb, 0, 0, 1⟩ = r := ⟨_, rfl⟩
    have HR := Lib.hid hr
    clear hr
    have t0 := K1.out.bx.c 0 _ rfl
    have t1 := K1.out.bx.c 1 _ rfl
    have t2 := K1.out.bx.c 2 _ rfl
    have t3 := K1.out.bx.c 3 _ rfl
    have t4 := K1.out.bx.c 4 _ rfl
    have k0 := K7.out.bx.c 0 _ rfl
    have k1 := K7.out.bx.c 1 _ rfl
    have k2 := K7.out.bx.c 2 _ rfl
    have k3 := K7.out.bx.c 3 _ rfl
    have k4 := K7.out.bx.c 4 _ rfl
    have k5 := K7.out.bx.c 5 _ rfl
    go_wp2_with fail
    refine (mdo_is (z := 1) (HS.out.on K1.out.bx.old) HNA.out HCPA.out (HA.out.on K1.out.bx.old) HNB.out HCPB.out (HB.out.on K1.out.bx.old) HR.out).mono ?_
    rintro e w11 ⟨A2, ca2, C2, cc2, rfl, hb, hm⟩
    replace K1 := Lib.hid (K1.out.on hb)
    replace K7 := Lib.hid (K7.out.on hb)
    replace K8 := Lib.hid (K8.out.on hb)
    clear t0 t1 t2 t3 t4 k0 k1 k2 k3 k4 k5 hb1' hb1'' hd1' hd1''
    obtain ⟨r1, q⟩ := r
    cases r1 with
    | none =>
      obtain ⟨e1, e2, e3, e4⟩ := hm
      have e1 := e1.symm
      have e2 := e2.symm
      have e3 := e3.symm
      have e4 := e4.symm
      subst e1 e2 e3 e4
      have hq : ¬ q.err = 0 := (mdo_none HR.out).1
      have hq2 : (q.err != 0) = true := by simpa using hq
      simp only [Rep.val]
      obtain ⟨n2, n3⟩ := boxes2 w11 [.int .i64 a, .int .i64 b, .int .i64 c, .slice A n ca, .slice C m cc] [.int .i64 q.err, .int .u64 (q.w : Int), .int .i64 q.n] 27 40
      have T7 := (K1.out.on (below_alloc w11 (.cells #[.int .i64 a, .int .i64 b, .int .i64 c, .slice A n ca, .slice C m cc] 27))).on (below_alloc _ (.cells #[.int .i64 q.err, .int .u64 (q.w : Int), .int .i64 q.n] 40))
      go_upto_region 7 with fail
      obtain ⟨j1, hj1⟩ : ∃ j1, j1 = w11.heap.size + 1 := ⟨_, rfl⟩
      rw [← hj1] at n3 ⊢
      clear hj1
      obtain ⟨j0, hj0⟩ : ∃ j0, j0 = w11.heap.size := ⟨_, rfl⟩
      rw [← hj0] at n2 ⊢
      clear hj0
      generalize (w11.alloc _).alloc _ = wa at n2 n3 T7 ⊢
      have TT := Lib.hid T7
      have m0 := n3.bx.c 0 _ rfl
      have a0 := n2.bx.c 0 _ rfl
      have a1 := n2.bx.c 1 _ rfl
      have a2 := n2.bx.c 2 _ rfl
      have a3 := n2.bx.c 3 _ rfl
      have a4 := n2.bx.c 4 _ rfl
      have t0 := TT.out.bx.c 0 _ rfl
      have t1 := TT.out.bx.c 1 _ rfl
      have t2 := TT.out.bx.c 2 _ rfl
      have t3 := TT.out.bx.c 3 _ rfl
      have t4 := TT.out.bx.c 4 _ rfl
      clear n2 n3 T7
      go_wp2_with fail
      refine (psame_is (HS.out.on TT.out.bx.old) (HS.out.on TT.out.bx.old) (St.same_iff.2 rfl)).mono ?_
      rintro e wb ⟨rfl, hb8⟩
      have HO := Lib.hid (below_on TT.out.bx.old hb8)
      clear m0 a0 a1 a2 a3 a4 t0 t1 t2 t3 t4 hb8
      go_wp2
      go_ret
      exact ⟨rfl, HO.out⟩
    | some s' =>
      obtain ⟨hca, hcc, hF⟩ := hm
      obtain ⟨hG, hG', hl3, hl1, hl2⟩ := mdo_good HR.out
      have hq : q = ⟨0, 0, 0⟩ := by
        obtain ⟨-, -, k, f, i, -, -, ⟨-, fr, -, -, -, h⟩ | ⟨h8, -⟩⟩ := mdo_some HR.out
        · exact h
        · exact absurd (show (7 : Int) = 8 from h8) (by decide)
      subst hq
      have HPS := Lib.hid hG.posm
      have HFW := Lib.hid hG.few
      have HL1 := Lib.hid hl1
      have HG' := Lib.hid hG'
      obtain ⟨P, Q, rfl, rfl, hO⟩ := hF.ost (by rw [hl1]; exact HPS.out.1) (by rw [hl2]; exact HPS.out.2) hb
      simp only [Rep.val]
      have h2 : StH w11 s' a b c (some ⟨P, 0, none⟩) n ca2 (some ⟨Q, 0, none⟩) m cc2 := ⟨hO.lies, by rw [hl3]; exact HS.out.hg, by rw [hl1]; exact HS.out.hn, by rw [hl2]; exact HS.out.hm, HS.out.few, HS.out.fewm, hca, hcc⟩
      obtain ⟨n2, n3⟩ := boxes2 w11 [.int .i64 a, .int .i64 b, .int .i64 c, .slice (some ⟨P, 0, none⟩) n ca2, .slice (some ⟨Q, 0, none⟩) m cc2] [.int .i64 0, .int .u64 ((0 : Nat) : Int), .int .i64 0] 27 40
      have hal0 := below_alloc w11 (.cells #[.int .i64 a, .int .i64 b, .int .i64 c, .slice (some ⟨P, 0, none⟩) n ca2, .slice (some ⟨Q, 0, none⟩) m cc2] 27)
      have hal := below_alloc (w11.alloc (.cells #[.int .i64 a, .int .i64 b, .int .i64 c, .slice (some ⟨P, 0, none⟩) n ca2, .slice (some ⟨Q, 0, none⟩) m cc2] 27)) (.cells #[.int .i64 0, .int .u64 ((0 : Nat) : Int), .int .i64 0] 40)
      have T7 := Lib.hid ((K1.out.on hal0).on hal)
      have C8 := Lib.hid ((K8.out.on hal0).on hal)
      have H2 := Lib.hid ((h2.on hal0).on hal)
      have O2 := Lib.hid ((hO.on hal0).on hal)
      have HW11 : Hid (w.heap.size ≤ w11.heap.size) := Lib.hid K1.out.bx.old.size
      clear hb hal hal0 hO hF hca hcc K1 K7 K8 h2 hG hG' hl1 hl2 hl3
      go_upto_region 7 with fail
      obtain ⟨j1, hj1⟩ : ∃ j1, j1 = w11.heap.size + 1 := ⟨_, rfl⟩
      rw [← hj1] at n3 ⊢
      clear hj1
      obtain ⟨j0, hj0⟩ : ∃ j0, j0 = w11.heap.size := ⟨_, rfl⟩
      rw [← hj0] at n2 ⊢
      clear hj0
      generalize (w11.alloc _).alloc _ = v0 at n2 n3 T7 C8 H2 O2 ⊢
      have m0 := n3.bx.c 0 _ rfl
      have N2 := Lib.hid n2
      clear n2 n3
      go_upto_region 9 with fail
      clear m0
      obtain ⟨r', hr'⟩ : ∃ r, mdo s' t2 ⟨8, lc, ld, 0, 0, 0⟩ = r := ⟨_, rfl⟩
      have HR2 := Lib.hid hr'
      clear hr'
      have a0 := N2.out.bx.c 0 _ rfl
      have a1 := N2.out.bx.c 1 _ rfl
      have a2 := N2.out.bx.c 2 _ rfl
      have a3 := N2.out.bx.c 3 _ rfl
      have a4 := N2.out.bx.c 4 _ rfl
      have k0 := C8.out.bx.c 0 _ rfl
      have k1 := C8.out.bx.c 1 _ rfl
      have k2 := C8.out.bx.c 2 _ rfl
      have k3 := C8.out.bx.c 3 _ rfl
      have k4 := C8.out.bx.c 4 _ rfl
      have k5 := C8.out.bx.c 5 _ rfl
      go_wp2_with fail
      refine (mdo_is (z := 0) H2.out HNC.out HCPC.out (HC.out.on T7.out.bx.old) HND.out HCPD.out (HD.out.on T7.out.bx.old) HR2.out).mono ?_
      rintro e w12 ⟨A3, ca3, C3, cc3, rfl, hb, hm⟩
      have HT12 := Lib.hid T7.out.bx.old
      replace T7 := Lib.hid (T7.out.on hb)
      replace N2 := Lib.hid (N2.out.on hb)
      replace H2 := Lib.hid (H2.out.on hb)
      replace O2 := Lib.hid (O2.out.on hb)
      clear a0 a1 a2 a3 a4 k0 k1 k2 k3 k4 k5 C8
      obtain ⟨r1, q⟩ := r'
      cases r1 with
      | none =>
        obtain ⟨e1, e2, e3, e4⟩ := hm
        have e1 := e1.symm
        have e2 := e2.symm
        have e3 := e3.symm
        have e4 := e4.symm
        subst e1 e2 e3 e4
        have hq : ¬ q.err = 0 := (mdo_none HR2.out).1
        have hq2 : (q.err != 0) = true := by simpa using hq
        simp only [Rep.val]
        obtain ⟨n2, n3⟩ := boxes2 w12 [.int .i64 a, .int .i64 b, .int .i64 c, .slice (some ⟨P, 0, none⟩) n ca2, .slice (some ⟨Q, 0, none⟩) m cc2] [.int .i64 q.err, .int .u64 (q.w : Int), .int .i64 q.n] 27 40
        have T8 := (N2.out.on (below_alloc w12 (.cells #[.int .i64 a, .int .i64 b, .int .i64 c, .slice (some ⟨P, 0, none⟩) n ca2, .slice (some ⟨Q, 0, none⟩) m cc2] 27))).on (below_alloc _ (.cells #[.int .i64 q.err, .int .u64 (q.w : Int), .int .i64 q.n] 40))
        have hbx := (below_on (below_alloc w12 (.cells #[.int .i64 a, .int .i64 b, .int .i64 c, .slice (some ⟨P, 0, none⟩) n ca2, .slice (some ⟨Q, 0, none⟩) m cc2] 27)) (below_alloc _ (.cells #[.int .i64 q.err, .int .u64 (q.w : Int), .int .i64 q.n] 40)))
        go_upto_region 10 with fail
        obtain ⟨j1, hj1⟩ : ∃ j1, j1 = w12.heap.size + 1 := ⟨_, rfl⟩
        rw [← hj1] at n3 ⊢
        clear hj1
        obtain ⟨j0, hj0⟩ : ∃ j0, j0 = w12.heap.size := ⟨_, rfl⟩
        rw [← hj0] at n2 ⊢
        clear hj0
        generalize (w12.alloc _).alloc _ = wa at n2 n3 T8 hbx ⊢
        have TT := Lib.hid T8
        have m0 := n3.bx.c 0 _ rfl
        have a0 := n2.bx.c 0 _ rfl
        have a1 := n2.bx.c 1 _ rfl
        have a2 := n2.bx.c 2 _ rfl
        have a3 := n2.bx.c 3 _ rfl
        have a4 := n2.bx.c 4 _ rfl
        have t0 := TT.out.bx.c 0 _ rfl
        have t1 := TT.out.bx.c 1 _ rfl
        have t2 := TT.out.bx.c 2 _ rfl
        have t3 := TT.out.bx.c 3 _ rfl
        have t4 := TT.out.bx.c 4 _ rfl
        have HBX := Lib.hid hbx
        clear n2 n3 T8 hbx
        go_wp2_with fail
        refine (psame_is (H2.out.on HBX.out) (H2.out.on HBX.out) (St.same_iff.2 rfl)).mono ?_
        rintro e wb ⟨rfl, hb8⟩
        have HO := Lib.hid (below_on (below_on T7.out.bx.old HBX.out) hb8)
        clear m0 a0 a1 a2 a3 a4 t0 t1 t2 t3 t4 hb8
        go_wp2
        go_ret
        exact ⟨rfl, HO.out⟩
      | some y =>
        obtain ⟨hca, hcc, hF⟩ := hm
        obtain ⟨-, hG', hl3, hl1, hl2⟩ := mdo_good HR2.out
        obtain ⟨F, Y, hFl, hYl, hat, hne⟩ := mail_slots HR2.out rfl
        have hq : q.err = 0 := (mdo_some HR2.out).2.1
        obtain ⟨qe, qw, qn⟩ := q
        simp only at hq
        subst hq
        have HPS2 : Hid (0 < y.sl.length ∧ 0 < y.th.length) := Lib.hid hG'.posm
        obtain ⟨P3, Q3, rfl, rfl, hO⟩ := hF.ost HPS2.out.1 HPS2.out.2 hb
        simp only [Rep.val]
        have h3 : StH w12 y a b c (some ⟨P3, 0, none⟩) n ca3 (some ⟨Q3, 0, none⟩) m cc3 := ⟨hO.lies, by rw [hl3]; exact H2.out.hg, by rw [hl1]; exact H2.out.hn, by rw [hl2]; exact H2.out.hm, HS.out.few, HS.out.fewm, hca, hcc⟩
        obtain ⟨n2, n3⟩ := boxes2 w12 [.int .i64 a, .int .i64 b, .int .i64 c, .slice (some ⟨P3, 0, none⟩) n ca3, .slice (some ⟨Q3, 0, none⟩) m cc3] [.int .i64 0, .int .u64 (qw : Int), .int .i64 qn] 27 40
        have hal0 := below_alloc w12 (.cells #[.int .i64 a, .int .i64 b, .int .i64 c, .slice (some ⟨P3, 0, none⟩) n ca3, .slice (some ⟨Q3, 0, none⟩) m cc3] 27)
        have hal := below_alloc (w12.alloc (.cells #[.int .i64 a, .int .i64 b, .int .i64 c, .slice (some ⟨P3, 0, none⟩) n ca3, .slice (some ⟨Q3, 0, none⟩) m cc3] 27)) (.cells #[.int .i64 0, .int .u64 (qw : Int), .int .i64 qn] 40)
        have HFL : Hid (F < n) := Lib.hid (by rw [H2.out.hn]; exact hFl)
        have HYL : Hid (Y < n) := Lib.hid (by rw [H2.out.hn]; exact hYl)
        have HAT := Lib.hid hat
        have HNE := Lib.hid hne
        have HGY := Lib.hid (sgood_iff.2 hG')
        have HNY : Hid (n = y.sl.length) := Lib.hid (by rw [hl1]; exact H2.out.hn)
        have HNX : Hid (n = s'.sl.length) := Lib.hid H2.out.hn
        have HN96 : Hid (n ≤ 96) := Lib.hid (by rw [HS.out.hn]; exact HFW.out.1)
        replace T7 := Lib.hid ((T7.out.on hal0).on hal)
        replace N2 := Lib.hid ((N2.out.on hal0).on hal)
        replace O2 := Lib.hid ((O2.out.on hal0).on hal)
        have H3 := Lib.hid ((h3.on hal0).on hal)
        have O3 := Lib.hid ((hO.on hal0).on hal)
        clear hb hal hal0 hO hF hca hcc h3 hG' hl1 hl2 hl3 hat hne hFl hYl H2
        go_upto_region 10 with fail
        obtain ⟨j3, hj3⟩ : ∃ j1, j1 = w12.heap.size + 1 := ⟨_, rfl⟩
        rw [← hj3] at n3 ⊢
        clear hj3
        obtain ⟨j2, hj2⟩ : ∃ j0, j0 = w12.heap.size := ⟨_, rfl⟩
        rw [← hj2] at n2 ⊢
        clear hj2
        generalize (w12.alloc _).alloc _ = v1 at n2 n3 T7 N2 O2 H3 O3 ⊢
        have m0 := n3.bx.c 0 _ rfl
        have N3 := Lib.hid n2
        clear n2 n3
        go_wp2_with fail
        clear m0
        have HTO := Lib.hid T7.out.bx.old
        go_loopg [21, 22, 23] n (fun d p q u wr => MhRel v1 n Y d p q wr)
        case atStart => exact ⟨0, 0, by omega, rfl, rfl, .inl rfl, below_self v1⟩
        case round =>
          obtain ⟨i, k, hk, rfl, rfl, hc, hb⟩ := hrel
          have HK := Lib.hid hk
          have HC := Lib.hid hc
          have HB := Lib.hid hb
          have NN := Lib.hid (N3.out.on hb)
          have XX := Lib.hid (N2.out.on hb)
          clear hk hc hb
          have n3 := NN.out.bx.c 3 _ rfl
          have x3 := XX.out.bx.c 3 _ rfl
          by_cases hlt : i < n
          case pos =>
            have hlt2 : (i : Int) < (n : Int) := by omega
            have hlt3 : decide ((i : Int) < (n : Int)) = true := decide_eq_true hlt2
            have HLT := Lib.hid hlt
            have hOS := (O3.out.on HB.out).sl i (by rw [← HNY.out]; exact hlt)
            have hXS := (O2.out.on HB.out).sl i (by rw [← HNX.out]; exact hlt)
            have heq := fun w => peqslot (slAt y.sl i) (slAt s'.sl i) w
            obtain ⟨ze, hze⟩ : ∃ ze, (slAt y.sl i).eq (slAt s'.sl i) = ze := ⟨_, rfl⟩
            have HZE := Lib.hid hze
            rw [hze] at heq
            obtain ⟨u, hu⟩ : ∃ u, slAt y.sl i = u := ⟨_, rfl⟩
            obtain ⟨v, hv⟩ : ∃ v, slAt s'.sl i = v := ⟨_, rfl⟩
            have HU := Lib.hid hu
            have HV := Lib.hid hv
            rw [hu] at hOS heq
            rw [hv] at hXS heq
            obtain ⟨⟨uy, uh, ur, ub⟩, uu⟩ := u
            obtain ⟨⟨vy, vh, vr, vb⟩, vu⟩ := v
            have y0 := hOS 0 _ rfl
            have y1 := hOS 1 _ rfl
            have y2 := hOS 2 _ rfl
            have y3 := hOS 3 _ rfl
            have y4 := hOS 4 _ rfl
            have z0 := hXS 0 _ rfl
            have z1 := hXS 1 _ rfl
            have z2 := hXS 2 _ rfl
            have z3 := hXS 3 _ rfl
            have z4 := hXS 4 _ rfl
            simp only [Sl.val, Nat.add_zero] at y0 y1 y2 y3 y4 z0 z1 z2 z3 z4 heq
            have HWI : Hid (wrap64 ((i : Int) + 1) = ((i + 1 : Nat) : Int)) := Lib.hid (by rw [w64_in (by omega) (by have := HN96.out; omega)]; omega)
            have HSP : Hid (P < wr.heap.size ∧ P3 < wr.heap.size) := Lib.hid ⟨(O2.out.on HB.out).lP, (O3.out.on HB.out).lP⟩
            clear hOS hXS hze hu hv hlt
            go_wp2_with fail
            go_big_quiet (fail)
            have hq := below_draws (below_self wr) nq
            have HB3 := Lib.hid (below_on HB.out hq)
            replace NN := Lib.hid (NN.out.on hq)
            replace XX := Lib.hid (XX.out.on hq)
            replace y0 := (hq.cell (p := ⟨P3, _, none⟩) HSP.out.2).trans y0
            replace y1 := (hq.cell (p := ⟨P3, _, none⟩) HSP.out.2).trans y1
            replace y2 := (hq.cell (p := ⟨P3, _, none⟩) HSP.out.2).trans y2
            replace y3 := (hq.cell (p := ⟨P3, _, none⟩) HSP.out.2).trans y3
            replace y4 := (hq.cell (p := ⟨P3, _, none⟩) HSP.out.2).trans y4
            replace z0 := (hq.cell (p := ⟨P, _, none⟩) HSP.out.1).trans z0
            replace z1 := (hq.cell (p := ⟨P, _, none⟩) HSP.out.1).trans z1
            replace z2 := (hq.cell (p := ⟨P, _, none⟩) HSP.out.1).trans z2
            replace z3 := (hq.cell (p := ⟨P, _, none⟩) HSP.out.1).trans z3
            replace z4 := (hq.cell (p := ⟨P, _, none⟩) HSP.out.1).trans z4
            clear hq heq n3 x3 HB
            generalize wr.drewN nq = wq at NN XX HB3 y0 y1 y2 y3 y4 z0 z1 z2 z3 z4 ⊢
            cases ze with
            | true =>
              clear y0 y1 y2 y3 y4 z0 z1 z2 z3 z4
              go_wp2
              go_roundg (n - (i + 1))
              case measure => have := HK.out; have := HLT.out; omega
              case rel => exact ⟨i + 1, k, by have := HK.out; have := HLT.out; omega, by first | go_num | exact congrArg _ HWI.out, rfl, HC.out.imp id (fun q => ⟨q.1, by omega⟩), HB3.out⟩
            | false =>
              have hiy : i = Y := Decidable.byContradiction fun e => by
                have h := HNE.out i e
                have h2 := HZE.out
                rw [h, Sl.eq_iff.2 rfl] at h2
                cases h2
              subst hiy
              have hu := HAT.out.resolve_left (fun e => by
                have h2 := HZE.out
                rw [e, Sl.eq_iff.2 rfl] at h2
                cases h2)
              rw [HU.out] at hu
              injection hu with hu1 hu2
              subst hu2
              have hk0 : k = 0 := by have h := HC.out; omega
              subst hk0
              obtain ⟨⟨⟨fy, fh, fr, fb⟩, fu'⟩, hf⟩ : ∃ x, slAt s'.sl F = x := ⟨_, rfl⟩
              rw [hf] at hu1
              simp only at hu1
              injection hu1 with e1 e2 e3 e4
              subst e1 e2 e3 e4
              have hXF := (O2.out.on HB3.out).sl F (by rw [← HNX.out]; exact HFL.out)
              rw [hf] at hXF
              have f0 := hXF 0 _ rfl
              have f1 := hXF 1 _ rfl
              have f2 := hXF 2 _ rfl
              have f3 := hXF 3 _ rfl
              simp only [Nat.add_zero] at f0 f1 f2 f3
              have hF1 : (F : Int) < (n : Int) := by have := HFL.out; omega
              have hF2 : decide ((F : Int) < 0) = false := decide_eq_false (by omega)
              have hF3 : decide ((n : Int) ≤ (F : Int)) = false := decide_eq_false (by omega)
              have hF4 : decide (n ≤ F) = false := decide_eq_false (by omega)
              have heq := fun w => eq24 ⟨uy, uh, ur, ub⟩ ⟨uy, uh, ur, ub⟩ w
              rw [show Cp.eq ⟨uy, uh, ur, ub⟩ ⟨uy, uh, ur, ub⟩ = true from Cp.eq_iff.2 rfl] at heq
              simp only [Cp.val] at heq
              have n3 := NN.out.bx.c 3 _ rfl
              have x3 := XX.out.bx.c 3 _ rfl
              have HSP2 : Hid (P < wq.heap.size ∧ P3 < wq.heap.size) := Lib.hid ⟨(O2.out.on HB3.out).lP, (O3.out.on HB3.out).lP⟩
              clear hf hXF z0 z1 z2 z3 z4
              go_wp2_with fail
              go_big_quiet (fail)
              have hq := below_draws (below_self wq) nq
              have HB4 := Lib.hid (below_on HB3.out hq)
              clear hq heq n3 x3 y0 y1 y2 y3 y4 f0 f1 f2 f3
              generalize wq.drewN nq = wp at HB4 ⊢
              go_wp2
              go_roundg (n - (i + 1))
              case measure => have := HK.out; have := HLT.out; omega
              case rel => exact ⟨i + 1, 1, by have := HK.out; have := HLT.out; omega, by first | go_num | exact congrArg _ HWI.out, rfl, .inr ⟨rfl, by omega⟩, HB4.out⟩
          case neg =>
            have hlt2 : ¬ (i : Int) < (n : Int) := by omega
            have hlt3 : decide ((i : Int) < (n : Int)) = false := decide_eq_false hlt2
            have hk1 : (k : Int) ≤ 1 := by have := HC.out; omega
            have hk2 : decide ((k : Int) ≤ 1) = true := decide_eq_true hk1
            have hk3 : decide (k ≤ 1) = true := decide_eq_true (by omega)
            clear hlt x3
            have n0 := NN.out.bx.c 0 _ rfl
            have n1 := NN.out.bx.c 1 _ rfl
            have n2 := NN.out.bx.c 2 _ rfl
            have n4 := NN.out.bx.c 4 _ rfl
            go_wp2_with fail
            refine (sgood_is (H3.out.on HB.out) HGY.out).mono ?_
            rintro e w9 ⟨rfl, hb⟩
            have HE := Lib.hid (below_on (below_on HTO.out HB.out) hb)
            clear hb n0 n1 n2 n3 n4
            go_wp2
            go_ret
            exact ⟨rfl, HE.out⟩
end Go.Proofs.Ytkpbfbmkolgmgaa
