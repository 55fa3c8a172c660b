/-
  What give's copies are, as plain data; the walk of the law GiveLess. Condition: the state and the call's ways lie in memory.
-/
import Derived.Test.YtfoklgenpafciaaDf
import Derived.BigQuiet
namespace Go.Proofs.Ytfoklgenpafciaa
open Go.RowKit
set_option linter.unusedSimpArgs false
set_option linter.unusedVariables false

theorem cgood_x {c : Cl} (h : cgood c = true) : 0 ≤ c.x ∧ c.x ≤ 7 := by
  obtain ⟨k, h1, h2, h3, h4, h5, h6⟩ := cgood_some h
  simp only [fits, Bool.and_eq_true, inSpan_iff] at h6
  have := (forms_le k (by omega)).1
  omega
/-- what is copied or stamped -/
structure Put1 (s : St) (t : Int) (c : Cl) (s' : St) (q : Rep) (F Y : Nat) (k : Cp) : Prop where
  G : Gst s
  P : Pts s F Y k
  st : s' = gputS s F Y k
  rep : q = ⟨0, 0, 0⟩
  x : 0 ≤ c.x ∧ c.x ≤ 7
  ri : ∃ r : Int, k.ri = ((land3 (held r) (held c.x) : Nat) : Int)
theorem cut_ri {k u : Cp} {x : Int} (h : k.cut x = u) (hn : u.non = false) : u.ri = ((land3 (held k.ri) (held x) : Nat) : Int) := by
  rw [Cp.cut] at h
  split at h
  · rw [← h]
  · rw [← h] at hn
    cases hn
theorem stamp_ri {k u : Cp} {y : Int} (h : k.stamp y = (u, 0)) : u.ri = k.ri ∧ k.non = false := by
  rw [Cp.stamp] at h
  split at h
  · rename_i h0
    split at h
    · rename_i hb
      split at h
      · obtain ⟨rfl, -⟩ := Prod.mk.inj h
        refine ⟨rfl, non_of_ty fun e => ?_⟩
        simp only [Cp.badged, Bool.or_eq_true, beq_iff_eq] at hb
        omega
      · obtain ⟨-, h⟩ := Prod.mk.inj h; cases h
    · obtain ⟨-, h⟩ := Prod.mk.inj h; cases h
  · obtain ⟨-, h⟩ := Prod.mk.inj h; cases h
theorem gput_some {s s' : St} {f t : Int} {k : Cp} {e : Int} (h : gput s f t k = (some s', e)) : ∃ F Y : Nat, f = F ∧ t = Y ∧ Gst s ∧ Pts s F Y k ∧ s' = gputS s F Y k ∧ e = 0 := by
  rw [gput] at h
  split at h
  · rename_i h0
    obtain ⟨F, Y, rfl, rfl, hG, hP⟩ := gmay_zero h0
    obtain ⟨h1, h2⟩ := Prod.mk.inj h
    injection h1 with h1
    rw [Int.toNat_natCast, Int.toNat_natCast] at h1
    exact ⟨F, Y, rfl, rfl, hG, hP, h1.symm, h2.symm⟩
  · obtain ⟨h1, -⟩ := Prod.mk.inj h; cases h1
theorem gput_none {s : St} {f t : Int} {k : Cp} {e : Int} (h : gput s f t k = (none, e)) : e ≠ 0 := by
  rw [gput] at h
  split at h
  · obtain ⟨h1, -⟩ := Prod.mk.inj h; cases h1
  · rename_i h0
    obtain ⟨-, h2⟩ := Prod.mk.inj h
    rw [← h2]
    exact h0
theorem ganswer_none {s : St} {t : Int} {c : Cl} {e : Int} (h : ganswer s t c = (none, e)) : e ≠ 0 := by
  unfold ganswer at h
  split at h
  · obtain ⟨-, h⟩ := Prod.mk.inj h; omega
  · split at h
    · rename_i h1
      obtain ⟨-, h⟩ := Prod.mk.inj h; rw [← h]; exact h1
    · split at h
      · rename_i h1
        obtain ⟨-, h⟩ := Prod.mk.inj h; rw [← h]; exact h1
      · split at h
        · rename_i h1
          obtain ⟨-, h⟩ := Prod.mk.inj h; rw [← h]; exact h1
        · split at h
          · rw [gmove] at h
            split at h
            · obtain ⟨-, h⟩ := Prod.mk.inj h; omega
            · obtain ⟨h, -⟩ := Prod.mk.inj h; cases h
          · exact gput_none h
theorem gdo_none {s : St} {t : Int} {c : Cl} {q : Rep} (h : gdo s t c = (none, q)) : q.err ≠ 0 := by
  rw [gdo] at h
  obtain ⟨h1, h2⟩ := Prod.mk.inj h
  rw [← h2]
  exact ganswer_none (Prod.ext h1 rfl)
theorem gdo_put {s s' : St} {t : Int} {c : Cl} {q : Rep} (h : gdo s t c = (some s', q)) (ho : c.op = 2 ∨ c.op = 3) : ∃ F Y k, Put1 s t c s' q F Y k := by
  rw [gdo] at h
  obtain ⟨h1, h2⟩ := Prod.mk.inj h
  obtain ⟨e, he⟩ : ∃ e, ganswer s t c = (some s', e) := ⟨_, Prod.ext h1 rfl⟩
  rw [he] at h2
  clear h h1
  have he0 := he
  unfold ganswer at he
  split at he
  · obtain ⟨he, -⟩ := Prod.mk.inj he; cases he
  · rename_i g0
    have g0 : cgood c = true := by
      rcases hg : cgood c with _ | _
      · exact absurd (fun q => by rw [hg] at q; exact absurd q.2.2 (by decide)) g0
      · rfl
    split at he
    · obtain ⟨he, -⟩ := Prod.mk.inj he; cases he
    · split at he
      · obtain ⟨he, -⟩ := Prod.mk.inj he; cases he
      · rename_i g2
        split at he
        · obtain ⟨he, -⟩ := Prod.mk.inj he; cases he
        · rw [if_neg (by omega)] at he
          obtain ⟨F, Y, e1, e2, hG, hP, e3, e4⟩ := gput_some he
          refine ⟨F, Y, _, hG, hP, e3, by rw [← h2, e4], cgood_x g0, ?_⟩
          have hn := hP.non
          generalize (fcap s t c.a).2.1 = k0 at hn g2 ⊢
          have g2 : (ggiven k0 c.op c.x c.y).2 = 0 := by simpa using g2
          unfold ggiven at hn g2 ⊢
          rcases ho with ho | ho
          · rw [if_pos ho] at hn ⊢
            exact ⟨_, cut_ri rfl hn⟩
          · rw [if_neg (by omega), if_pos ho] at hn g2 ⊢
            obtain ⟨r1, r2⟩ := stamp_ri (k := k0.cut c.x) (y := c.y) (u := ((k0.cut c.x).stamp c.y).1) (Prod.ext rfl g2)
            exact ⟨_, r1.trans (cut_ri rfl r2)⟩
theorem andnot_all : ∀ a < 8, ∀ x < 8, (bits .andNot .i64 ((land3 a x : Nat) : Int) ((x : Nat) : Int) != 0) = false := by decide +kernel
theorem andnot_is {r x : Int} (h0 : 0 ≤ x) (h7 : x ≤ 7) : (bits .andNot .i64 ((land3 (held r) (held x) : Nat) : Int) x != 0) = false := by
  have h := andnot_all (held r) (held_lt r) x.toNat (by omega)
  have e : held x = x.toNat := by
    have : x = 0 ∨ x = 1 ∨ x = 2 ∨ x = 3 ∨ x = 4 ∨ x = 5 ∨ x = 6 ∨ x = 7 := by omega
    rcases this with rfl | rfl | rfl | rfl | rfl | rfl | rfl | rfl <;> decide
  rw [e]
  rw [show ((x.toNat : Nat) : Int) = x by omega] at h
  exact h
theorem Pts.neDst {s : St} {F Y : Nat} {k : Cp} (P : Pts s F Y k) : (slAt (gputS s F Y k).sl Y).eq (slAt s.sl Y) = false := Bool.eq_false_iff.2 fun e => by
  have h := Sl.eq_iff.1 e
  rw [P.slIs, if_pos rfl] at h
  have h1 := P.emp
  rw [← h] at h1
  rw [P.non] at h1
  cases h1
theorem Pts.eqSl {s : St} {F Y : Nat} {k : Cp} (P : Pts s F Y k) {j : Nat} (h : j ≠ Y) : (slAt (gputS s F Y k).sl j).eq (slAt s.sl j) = true := Sl.eq_iff.2 (by rw [P.slIs, if_neg h])
def nws (k i : Nat) : Int := if k < i then 1 else 0
theorem nws_at (k : Nat) : nws k k = 0 ∧ nws k (k + 1) = 1 := by
  unfold nws
  rw [if_neg (by omega), if_pos (by omega)]
  exact ⟨rfl, rfl⟩
theorem nws_same {k i : Nat} (h : i ≠ k) : nws k (i + 1) = nws k i := by
  unfold nws
  by_cases q : k < i
  · rw [if_pos (by omega), if_pos q]
  · rw [if_neg (by omega), if_neg q]
def GlRel (V : World) (n : Nat) (f1 : Nat → Int) (f : Nat) (p v : Value) (wr : World) : Prop :=
  ∃ i : Nat, f + i = n ∧ p = .int .i64 (f1 i) ∧ v = .int .i64 i ∧ Below V.heap.size V wr
set_option maxRecDepth 100000 in
set_option maxHeartbeats 16000000 in
theorem give_less {s : St} {a b c : Int} {A C : Option Addr} {n ca m cc : Nat} {t o x y : Int} {PA PB : Option Addr} {na cpa nb cpb z : Nat} {la lb : List Int} {w : World} (hS : StAt w s A C) (hsg : s.g = ⟨a, b, c⟩) (hsn : n = s.sl.length) (hsm : m = s.th.length) (hsca : n ≤ ca) (hscc : m ≤ cc)
    (hna : na = la.length) (hcpa : na ≤ cpa) (hA : IntsAt w w.heap.size PA la) (hnb : nb = lb.length) (hcpb : nb ≤ cpb) (hB : IntsAt w w.heap.size PB lb) :
    Calls Try.prog 6 #[.agg #[.int .i64 a, .int .i64 b, .int .i64 c, .slice A n ca, .slice C m cc], .int .i64 t, .agg #[.int .i64 o, .slice PA na cpa, .slice PB nb cpb, .int .i64 x, .int .i64 y, .int .u64 (z : Int)]] w fun e w' => e = .returned (.bool true) ∧ Below w.heap.size w w' := by
  have HSA := Lib.hid hS
  have HSG := Lib.hid hsg
  have HSN := Lib.hid hsn
  have HSM := Lib.hid hsm
  have HSCA := Lib.hid hsca
  have HSCC := Lib.hid hscc
  have HNA := Lib.hid hna
  have HNB := Lib.hid hnb
  have HCPA := Lib.hid hcpa
  have HCPB := Lib.hid hcpb
  have HA := Lib.hid hA
  have HB := Lib.hid hB
  clear hS hsg hsn hsm hsca hscc hna hnb hcpa hcpb hA hB
  obtain ⟨k1, k2⟩ := boxes2 w [.int .i64 a, .int .i64 b, .int .i64 c, .slice A n ca, .slice C m cc] [.int .i64 o, .slice PA na cpa, .slice PB nb cpb, .int .i64 x, .int .i64 y, .int .u64 (z : Int)] 28 51
  obtain ⟨g1, hg1⟩ : ∃ g1, g1 = w.heap.size + 1 := ⟨_, rfl⟩
  go_enter Try.func6, Try.ntmps6
  go_upto_region 1 with fail
  rw [← hg1] at k2 ⊢
  clear hg1
  generalize (w.alloc _).alloc _ = w1 at k1 k2 ⊢
  have K1 := Lib.hid k1
  have K2 := Lib.hid k2
  clear k1 k2
  go_wp2_with fail
  refine (awake16_is w1).mono ?_
  rintro e w2 ⟨rfl, hb⟩
  replace K1 := Lib.hid (K1.out.on hb)
  replace K2 := Lib.hid (K2.out.on hb)
  clear hb
  obtain ⟨hv, hhv⟩ : ∃ hv, (decide (100 < n) || (decide (50 < m) || (decide (10 < na) || decide (10 < nb)))) = hv := ⟨_, rfl⟩
  have HHV := Lib.hid hhv
  clear hhv
  have t0 := K1.out.bx.c 0 _ rfl
  have t1 := K1.out.bx.c 1 _ rfl
  have t2 := K1.out.bx.c 2 _ rfl
  have t3 := K1.out.bx.c 3 _ rfl
  have t4 := K1.out.bx.c 4 _ rfl
  have k0 := K2.out.bx.c 0 _ rfl
  have k1 := K2.out.bx.c 1 _ rfl
  have k2 := K2.out.bx.c 2 _ rfl
  have k3 := K2.out.bx.c 3 _ rfl
  have k4 := K2.out.bx.c 4 _ rfl
  have k5 := K2.out.bx.c 5 _ rfl
  go_wp2_with fail
  refine (heavy16_is HHV.out w2).mono ?_
  rintro e w3 ⟨rfl, hb⟩
  replace K1 := Lib.hid (K1.out.on hb)
  replace K2 := Lib.hid (K2.out.on hb)
  clear hb t0 t1 t2 t3 t4 k0 k1 k2 k3 k4 k5
  cases hv with
  | true =>
    go_wp2
    go_ret
    exact ⟨rfl, K1.out.bx.old⟩
  | false =>
  have HS : Hid (StH w s a b c A n ca C m cc) := Lib.hid (by
    have h := HHV.out
    simp only [Bool.or_eq_false_iff, decide_eq_false_iff_not] at h
    exact ⟨HSA.out, HSG.out, HSN.out, HSM.out, by omega, by omega, HSCA.out, HSCC.out⟩)
  clear HSA HSG HSN HSM HSCA HSCC
  obtain ⟨gd, hgd⟩ : ∃ gd, sgood s = gd := ⟨_, rfl⟩
  have HGD := Lib.hid hgd
  clear hgd
  have t0 := K1.out.bx.c 0 _ rfl
  have t1 := K1.out.bx.c 1 _ rfl
  have t2 := K1.out.bx.c 2 _ rfl
  have t3 := K1.out.bx.c 3 _ rfl
  have t4 := K1.out.bx.c 4 _ rfl
  go_wp2_with fail
  refine (sgood_is (HS.out.on K1.out.bx.old) HGD.out).mono ?_
  rintro e w4 ⟨rfl, hb⟩
  replace K1 := Lib.hid (K1.out.on hb)
  replace K2 := Lib.hid (K2.out.on hb)
  clear hb t0 t1 t2 t3 t4
  cases gd with
  | false =>
    go_wp2
    go_ret
    exact ⟨rfl, K1.out.bx.old⟩
  | true =>
  have k0 := K2.out.bx.c 0 _ rfl
  by_cases ho : o = 2 ∨ o = 3
  case neg =>
    have ho2 : (o != 2) = true := by simp only [bne_iff_ne]; omega
    have ho3 : (o != 3) = true := by simp only [bne_iff_ne]; omega
    go_wp2
    go_ret
    exact ⟨rfl, K1.out.bx.old⟩
  have HO23 := Lib.hid ho
  obtain ⟨r, hr⟩ : ∃ r, gdo s t ⟨o, la, lb, x, y, z⟩ = r := ⟨_, rfl⟩
  have HR := Lib.hid hr
  clear hr
  rcases ho with rfl | rfl
  · have t0 := K1.out.bx.c 0 _ rfl
    have t1 := K1.out.bx.c 1 _ rfl
    have t2 := K1.out.bx.c 2 _ rfl
    have t3 := K1.out.bx.c 3 _ rfl
    have t4 := K1.out.bx.c 4 _ rfl
    have k0 := K2.out.bx.c 0 _ rfl
    have k1 := K2.out.bx.c 1 _ rfl
    have k2 := K2.out.bx.c 2 _ rfl
    have k3 := K2.out.bx.c 3 _ rfl
    have k4 := K2.out.bx.c 4 _ rfl
    have k5 := K2.out.bx.c 5 _ rfl
    go_wp2_with fail
    refine (gdo_is (HS.out.on K1.out.bx.old) HNA.out HCPA.out (HA.out.on K1.out.bx.old) HNB.out HCPB.out (HB.out.on K1.out.bx.old) HR.out).mono ?_
    rintro e w5 ⟨A2, ca2, C2, cc2, rfl, hb, hm⟩
    have HBB := Lib.hid K1.out.bx.old
    replace K1 := Lib.hid (K1.out.on hb)
    replace K2 := Lib.hid (K2.out.on hb)
    clear t0 t1 t2 t3 t4 k0 k1 k2 k3 k4 k5
    obtain ⟨r1, q⟩ := r
    cases r1 with
    | none =>
      obtain ⟨e1, e2, e3, e4⟩ := hm
      have e1 := e1.symm
      have e2 := e2.symm
      have e3 := e3.symm
      have e4 := e4.symm
      subst e1 e2 e3 e4
      have hq : ¬ q.err = 0 := gdo_none HR.out
      have hq2 : (q.err != 0) = true := by simpa using hq
      simp only [Rep.val]
      obtain ⟨n2, n3⟩ := boxes2 w5 [.int .i64 a, .int .i64 b, .int .i64 c, .slice A n ca, .slice C m cc] [.int .i64 q.err, .int .u64 (q.w : Int), .int .i64 q.n] 28 47
      have T7 := (K1.out.on (below_alloc w5 (.cells #[.int .i64 a, .int .i64 b, .int .i64 c, .slice A n ca, .slice C m cc] 28))).on (below_alloc _ (.cells #[.int .i64 q.err, .int .u64 (q.w : Int), .int .i64 q.n] 47))
      go_upto_region 6 with fail
      obtain ⟨j1, hj1⟩ : ∃ j1, j1 = w5.heap.size + 1 := ⟨_, rfl⟩
      rw [← hj1] at n3 ⊢
      clear hj1
      obtain ⟨j0, hj0⟩ : ∃ j0, j0 = w5.heap.size := ⟨_, rfl⟩
      rw [← hj0] at n2 ⊢
      clear hj0
      generalize (w5.alloc _).alloc _ = w7 at n2 n3 T7 ⊢
      have TT := Lib.hid T7
      have m0 := n3.bx.c 0 _ rfl
      have a0 := n2.bx.c 0 _ rfl
      have a1 := n2.bx.c 1 _ rfl
      have a2 := n2.bx.c 2 _ rfl
      have a3 := n2.bx.c 3 _ rfl
      have a4 := n2.bx.c 4 _ rfl
      have t0 := TT.out.bx.c 0 _ rfl
      have t1 := TT.out.bx.c 1 _ rfl
      have t2 := TT.out.bx.c 2 _ rfl
      have t3 := TT.out.bx.c 3 _ rfl
      have t4 := TT.out.bx.c 4 _ rfl
      clear n2 n3 T7 hb K1 K2
      go_wp2_with fail
      refine (psame_is (HS.out.on TT.out.bx.old) (HS.out.on TT.out.bx.old) (St.same_iff.2 rfl)).mono ?_
      rintro e w8 ⟨rfl, hb8⟩
      have HO := Lib.hid (below_on TT.out.bx.old hb8)
      clear m0 a0 a1 a2 a3 a4 t0 t1 t2 t3 t4 hb8
      go_wp2
      go_ret
      exact ⟨rfl, HO.out⟩
    | some s' =>
      obtain ⟨hca, hcc, hF⟩ := hm
      obtain ⟨F, Y, k, hP⟩ := gdo_put HR.out (by simp)
      have hs' := hP.st
      have hq := hP.rep
      subst hs' hq
      have HP := Lib.hid hP
      have HN := Lib.hid HS.out.hn
      obtain ⟨P, Q, rfl, rfl, hO⟩ := hF.ost (by rw [puts_sl]; exact Nat.lt_of_le_of_lt (Nat.zero_le _) hP.P.dst) (Nat.lt_of_le_of_lt (Nat.zero_le _) (hP.P.src4 hP.G).th) hb
      simp only [Rep.val]
      obtain ⟨n2, n3⟩ := boxes2 w5 [.int .i64 a, .int .i64 b, .int .i64 c, .slice (some ⟨P, 0, none⟩) n ca2, .slice (some ⟨Q, 0, none⟩) m cc2] [.int .i64 0, .int .u64 ((0 : Nat) : Int), .int .i64 0] 28 47
      have hal0 := below_alloc w5 (.cells #[.int .i64 a, .int .i64 b, .int .i64 c, .slice (some ⟨P, 0, none⟩) n ca2, .slice (some ⟨Q, 0, none⟩) m cc2] 28)
      have hal := below_alloc (w5.alloc (.cells #[.int .i64 a, .int .i64 b, .int .i64 c, .slice (some ⟨P, 0, none⟩) n ca2, .slice (some ⟨Q, 0, none⟩) m cc2] 28)) (.cells #[.int .i64 0, .int .u64 ((0 : Nat) : Int), .int .i64 0] 47)
      have T7 := Lib.hid ((K1.out.on hal0).on hal)
      have C7 := Lib.hid ((K2.out.on hal0).on hal)
      have O7 := Lib.hid (((hO.base HBB.out).on hal0).on hal)
      have N7 := Lib.hid (Bxs.more K1.out.bx.old [.int .i64 a, .int .i64 b, .int .i64 c, .slice (some ⟨P, 0, none⟩) n ca2, .slice (some ⟨Q, 0, none⟩) m cc2] 28 |>.on hal)
      clear hb hal hal0 hO hF hP hca hcc K1 K2 n2
      go_upto_region 6 with fail
      obtain ⟨j1, hj1⟩ : ∃ j1, j1 = w5.heap.size + 1 := ⟨_, rfl⟩
      rw [← hj1] at n3 ⊢
      clear hj1
      obtain ⟨j0, hj0⟩ : ∃ j0, j0 = w5.heap.size := ⟨_, rfl⟩
      rw [← hj0] at N7 ⊢
      clear hj0
      generalize (w5.alloc _).alloc _ = w7 at n3 N7 T7 C7 O7 ⊢
      have m0 := n3.bx.c 0 _ rfl
      clear n3
      obtain ⟨sb, sp, rfl, hsb, hc⟩ := HS.out.lies.sl (Nat.lt_of_le_of_lt (Nat.zero_le _) HP.out.P.src)
      have HSC := Lib.hid hc
      have HSB := Lib.hid hsb
      have HM1 : Hid (n ≤ 96) := Lib.hid (by rw [HN.out]; exact HP.out.G.few.1)
      clear hc hsb
      go_wp2_with fail
      clear m0
      go_loopg [9, 10] n (fun d p v wr => GlRel w7 n (nws Y) d p v wr)
      case atStart => exact ⟨0, by omega, by rw [nws, if_neg (by omega)], rfl, below_self _⟩
      case round =>
        obtain ⟨i, hk, rfl, rfl, hb⟩ := hrel
        have HK := Lib.hid hk
        have HB := Lib.hid hb
        have TT := Lib.hid (T7.out.on hb)
        have NN := Lib.hid (N7.out.on hb)
        have CI := Lib.hid (C7.out.on hb)
        clear hk
        have n3 := NN.out.c 3 _ rfl
        have t3 := TT.out.bx.c 3 _ rfl
        by_cases hlt : i < n
        case neg =>
          have hlt2 : ¬ (i : Int) < (n : Int) := by omega
          have hlt3 : decide ((i : Int) < (n : Int)) = false := decide_eq_false hlt2
          have h1 : nws Y i = 1 := by
            have h1 := HK.out
            have h2 := HP.out.P.dst
            have h3 := HN.out
            rw [nws, if_pos (by omega)]
          rw [h1]
          have HO := Lib.hid TT.out.bx.old
          clear h1 hlt hb
          go_wp2
          go_ret
          exact ⟨rfl, HO.out⟩
        case pos =>
          have hlt2 : (i : Int) < (n : Int) := by omega
          have hlt3 : decide ((i : Int) < (n : Int)) = true := decide_eq_true hlt2
          have HLT := Lib.hid hlt
          have hOS := (O7.out.on hb).sl i (by rw [puts_sl, ← HN.out]; exact hlt)
          have hX : SlC wr sb (sp + i * 5) (slAt s.sl i) := (HSC.out i (by rw [← HN.out]; exact hlt)).same fun k => TT.out.bx.old.cell (p := ⟨sb, k, none⟩) HSB.out
          have heq := fun w => peqslot (slAt (gputS s F Y k).sl i) (slAt s.sl i) w
          obtain ⟨ze, hze⟩ : ∃ ze, (slAt (gputS s F Y k).sl i).eq (slAt s.sl i) = ze := ⟨_, rfl⟩
          have HZE := Lib.hid hze
          rw [hze] at heq
          obtain ⟨u, hu⟩ : ∃ u, slAt (gputS s F Y k).sl i = u := ⟨_, rfl⟩
          obtain ⟨v, hv⟩ : ∃ v, slAt s.sl i = v := ⟨_, rfl⟩
          have HU := Lib.hid hu
          have HV := Lib.hid hv
          rw [hu] at hOS heq
          rw [hv] at hX heq
          obtain ⟨⟨uy, uh, ur, ub⟩, uu⟩ := u
          obtain ⟨⟨vy, vh, vr, vb⟩, vu⟩ := v
          obtain ⟨x0, x1, x2, x3, x4⟩ := hX
          have y0 := hOS 0 _ rfl
          have y1 := hOS 1 _ rfl
          have y2 := hOS 2 _ rfl
          have y3 := hOS 3 _ rfl
          have y4 := hOS 4 _ rfl
          simp only [Sl.val, Nat.add_zero] at x0 x1 x2 x3 x4 y0 y1 y2 y3 y4 heq
          have HWI : Hid (wrap64 ((i : Int) + 1) = ((i + 1 : Nat) : Int)) := Lib.hid (by rw [w64_in (by omega) (by have := HM1.out; omega)]; omega)
          obtain ⟨N2, hN2⟩ : ∃ N2, nws Y i = N2 := ⟨_, rfl⟩
          have HN2 := Lib.hid hN2
          rw [hN2]
          have HSP : Hid (sb < wr.heap.size ∧ P < wr.heap.size) := Lib.hid ⟨Nat.lt_of_lt_of_le HSB.out TT.out.bx.old.size, (O7.out.on hb).lP⟩
          clear hOS hze hu hv hN2 hb hlt
          go_wp2_with fail
          go_big_quiet (fail)
          have hq := below_draws (below_self wr) nq
          have HB3 := Lib.hid (below_on HB.out hq)
          replace TT := Lib.hid (TT.out.on hq)
          replace NN := Lib.hid (NN.out.on hq)
          replace CI := Lib.hid (CI.out.on hq)
          replace x0 := (hq.cell (p := ⟨sb, _, none⟩) HSP.out.1).trans x0
          replace y0 := (hq.cell (p := ⟨P, _, none⟩) HSP.out.2).trans y0
          replace x1 := (hq.cell (p := ⟨sb, _, none⟩) HSP.out.1).trans x1
          replace y1 := (hq.cell (p := ⟨P, _, none⟩) HSP.out.2).trans y1
          replace x2 := (hq.cell (p := ⟨sb, _, none⟩) HSP.out.1).trans x2
          replace y2 := (hq.cell (p := ⟨P, _, none⟩) HSP.out.2).trans y2
          replace x3 := (hq.cell (p := ⟨sb, _, none⟩) HSP.out.1).trans x3
          replace y3 := (hq.cell (p := ⟨P, _, none⟩) HSP.out.2).trans y3
          replace x4 := (hq.cell (p := ⟨sb, _, none⟩) HSP.out.1).trans x4
          replace y4 := (hq.cell (p := ⟨P, _, none⟩) HSP.out.2).trans y4
          clear hq heq n3 t3
          generalize wr.drewN nq = wq at TT NN CI HB3 x0 x1 x2 x3 x4 y0 y1 y2 y3 y4 ⊢
          cases ze with
          | true =>
            have hid : i ≠ Y := fun e => by
              have h := HZE.out
              rw [e, HP.out.P.neDst] at h
              cases h
            have HID := Lib.hid hid
            clear hid x0 x1 x2 x3 x4 y0 y1 y2 y3 y4
            go_wp2
            go_roundg (n - (i + 1))
            case measure => have := HK.out; have := HLT.out; omega
            case rel => exact ⟨i + 1, by have := HLT.out; omega, by rw [nws_same HID.out, HN2.out], by first | go_num | exact congrArg _ HWI.out, HB3.out⟩
          | false =>
            have hid : Y = i := Decidable.byContradiction fun q => by
              have := HP.out.P.eqSl (fun e => q e.symm)
              rw [HZE.out] at this
              cases this
            subst hid
            have hU := HU.out
            rw [HP.out.P.slIs, if_pos rfl] at hU
            injection hU with hU1 hU2
            subst hU1
            have HV1 : Hid (Cp.non ⟨vy, vh, vr, vb⟩ = true) := Lib.hid (by have := HP.out.P.emp; rw [HV.out] at this; exact this)
            subst hU2
            have hn20 : N2 = 0 := by rw [← HN2.out]; exact (nws_at Y).1
            subst hn20
            obtain ⟨⟨⟨fy, fh, fr, fb⟩, fu'⟩, hf⟩ : ∃ x, slAt s.sl F = x := ⟨_, rfl⟩
            have HLESS : Hid (Cp.less ⟨uy, uh, ur, ub⟩ ⟨fy, fh, fr, fb⟩ = true) := Lib.hid (by have := HP.out.P.less; rw [hf] at this; exact this)
            have hXF : SlC wq sb (sp + F * 5) (slAt s.sl F) := (HSC.out F HP.out.P.src).same fun k => TT.out.bx.old.cell (p := ⟨sb, k, none⟩) HSB.out
            rw [hf] at hXF
            obtain ⟨f0, f1, f2, f3, -⟩ := hXF
            simp only at f0 f1 f2 f3
            have hF1 : (F : Int) < (n : Int) := by have := HP.out.P.src; have := HN.out; omega
            have hF2 : decide ((F : Int) < 0) = false := decide_eq_false (by omega)
            have hF3 : decide ((n : Int) ≤ (F : Int)) = false := decide_eq_false (by omega)
            have hF4 : decide (n ≤ F) = false := decide_eq_false (by omega)
            obtain ⟨rr, hrr⟩ := HP.out.ri
            have hbits : (bits .andNot .i64 ur x != 0) = false := by
              have h := andnot_is (r := rr) HP.out.x.1 HP.out.x.2
              rw [← hrr] at h
              exact h
            have n3 := NN.out.c 3 _ rfl
            have t3 := TT.out.bx.c 3 _ rfl
            have c3 := CI.out.bx.c 3 _ rfl
            have HSPq : Hid (sb < wq.heap.size ∧ P < wq.heap.size) := Lib.hid ⟨Nat.lt_of_lt_of_le HSB.out TT.out.bx.old.size, (O7.out.on HB3.out).lP⟩
            clear hf hrr
            go_wp2_with fail
            refine wp_region_held_drew (S := (fun w' => w'.cell? ⟨j0, 3, none⟩ = some (.slice (some ⟨P, 0, none⟩) n ca2) ∧ w'.cell? ⟨w.heap.size, 3, none⟩ = some (.slice (some ⟨sb, sp, none⟩) n ca) ∧ w'.cell? ⟨g1, 3, none⟩ = some (.int .i64 x) ∧ w'.cell? ⟨P, Y * 5, none⟩ = some (.int .i64 uy) ∧ w'.cell? ⟨P, Y * 5 + 1, none⟩ = some (.int .i64 uh) ∧ w'.cell? ⟨P, Y * 5 + 2, none⟩ = some (.int .i64 ur) ∧ w'.cell? ⟨P, Y * 5 + 3, none⟩ = some (.int .i64 ub) ∧ w'.cell? ⟨sb, sp + Y * 5, none⟩ = some (.int .i64 vy) ∧ w'.cell? ⟨sb, sp + Y * 5 + 1, none⟩ = some (.int .i64 vh) ∧ w'.cell? ⟨sb, sp + Y * 5 + 2, none⟩ = some (.int .i64 vr) ∧ w'.cell? ⟨sb, sp + Y * 5 + 3, none⟩ = some (.int .i64 vb) ∧ w'.cell? ⟨sb, sp + F * 5, none⟩ = some (.int .i64 fy) ∧ w'.cell? ⟨sb, sp + F * 5 + 1, none⟩ = some (.int .i64 fh) ∧ w'.cell? ⟨sb, sp + F * 5 + 2, none⟩ = some (.int .i64 fr) ∧ w'.cell? ⟨sb, sp + F * 5 + 3, none⟩ = some (.int .i64 fb) ∧ Below wq.heap.size wq w')) (by kernel_rfl) (let zb := (below_self wq).drew; ⟨(zb.cell (p := ⟨j0, 3, none⟩) NN.out.lt).trans n3, (zb.cell (p := ⟨w.heap.size, 3, none⟩) TT.out.bx.lt).trans t3, (zb.cell (p := ⟨g1, 3, none⟩) CI.out.bx.lt).trans c3, (zb.cell (p := ⟨P, Y * 5, none⟩) HSPq.out.2).trans y0, (zb.cell (p := ⟨P, Y * 5 + 1, none⟩) HSPq.out.2).trans y1, (zb.cell (p := ⟨P, Y * 5 + 2, none⟩) HSPq.out.2).trans y2, (zb.cell (p := ⟨P, Y * 5 + 3, none⟩) HSPq.out.2).trans y3, (zb.cell (p := ⟨sb, sp + Y * 5, none⟩) HSPq.out.1).trans x0, (zb.cell (p := ⟨sb, sp + Y * 5 + 1, none⟩) HSPq.out.1).trans x1, (zb.cell (p := ⟨sb, sp + Y * 5 + 2, none⟩) HSPq.out.1).trans x2, (zb.cell (p := ⟨sb, sp + Y * 5 + 3, none⟩) HSPq.out.1).trans x3, (zb.cell (p := ⟨sb, sp + F * 5, none⟩) HSPq.out.1).trans f0, (zb.cell (p := ⟨sb, sp + F * 5 + 1, none⟩) HSPq.out.1).trans f1, (zb.cell (p := ⟨sb, sp + F * 5 + 2, none⟩) HSPq.out.1).trans f2, (zb.cell (p := ⟨sb, sp + F * 5 + 3, none⟩) HSPq.out.1).trans f3, zb⟩) (fun hHeld => ?_)
            refine wpAnyH_take (i := 0) (v := ?_) rfl (by kernel_rfl) (by kernel_rfl) (by kernel_rfl) (fun _ _ _ h => h) (Or.inl ⟨by rfl, ?_⟩) (by assumption) ?_
            rotate_left
            · intro w hSw; go_split_ands; go_simp; try with_reducible rfl
            simp only [Act.put, List.setIfInBounds_toArray, List.set_cons_zero, List.set_cons_succ, List.getElem_toArray, List.getElem_cons_zero]
            refine wpAnyH_take (i := 1) (v := ?_) rfl (by kernel_rfl) (by kernel_rfl) (by kernel_rfl) (fun _ _ _ h => h) (Or.inl ⟨by rfl, ?_⟩) (by assumption) ?_
            rotate_left
            · intro w hSw; go_split_ands; go_simp; try with_reducible rfl
            simp only [Act.put, List.setIfInBounds_toArray, List.set_cons_zero, List.set_cons_succ, List.getElem_toArray, List.getElem_cons_zero, List.getElem_cons_succ]
            refine wpAnyH_take (i := 2) (v := ?_) rfl (by kernel_rfl) (by kernel_rfl) (by kernel_rfl) (fun _ _ _ h => h) (Or.inl ⟨by rfl, ?_⟩) (by assumption) ?_
            rotate_left
            · intro w hSw; go_split_ands; go_simp; try with_reducible rfl
            simp only [Act.put, List.setIfInBounds_toArray, List.set_cons_zero, List.set_cons_succ, List.getElem_toArray, List.getElem_cons_zero, List.getElem_cons_succ]
            refine wpAnyH_take (i := 3) (v := ?_) rfl (by kernel_rfl) (by kernel_rfl) (by kernel_rfl) (fun _ _ _ h => h) (Or.inl ⟨by rfl, ?_⟩) (by assumption) ?_
            rotate_left
            · intro w hSw; go_split_ands; go_simp; try with_reducible rfl
            simp only [Act.put, List.setIfInBounds_toArray, List.set_cons_zero, List.set_cons_succ, List.getElem_toArray, List.getElem_cons_zero, List.getElem_cons_succ]
            refine wpAnyH_take (i := 4) (v := ?_) rfl (by kernel_rfl) (by kernel_rfl) (by kernel_rfl) (fun _ _ _ h => h) (Or.inl ⟨by rfl, ?_⟩) (by assumption) ?_
            rotate_left
            · intro w hSw; go_split_ands; go_simp; try with_reducible rfl
            simp only [Act.put, List.setIfInBounds_toArray, List.set_cons_zero, List.set_cons_succ, List.getElem_toArray, List.getElem_cons_zero, List.getElem_cons_succ]
            refine wpAnyH_take (i := 5) (v := ?_) rfl (by kernel_rfl) (by kernel_rfl) (by kernel_rfl) (fun _ _ _ h => h) (Or.inl ⟨by rfl, ?_⟩) (by assumption) ?_
            rotate_left
            · intro w hSw; go_split_ands; go_simp; try with_reducible rfl
            simp only [Act.put, List.setIfInBounds_toArray, List.set_cons_zero, List.set_cons_succ, List.getElem_toArray, List.getElem_cons_zero, List.getElem_cons_succ]
            refine wpAnyH_take (i := 6) (v := ?_) rfl (by kernel_rfl) (by kernel_rfl) (by kernel_rfl) (fun _ _ _ h => h) (Or.inl ⟨by rfl, ?_⟩) (by assumption) ?_
            rotate_left
            · intro w hSw; go_split_ands; go_simp; try with_reducible rfl
            simp only [Act.put, List.setIfInBounds_toArray, List.set_cons_zero, List.set_cons_succ, List.getElem_toArray, List.getElem_cons_zero, List.getElem_cons_succ]
            refine wpAnyH_take (i := 7) (v := ?_) rfl (by kernel_rfl) (by kernel_rfl) (by kernel_rfl) (fun _ _ _ h => h) (Or.inl ⟨by rfl, ?_⟩) (by assumption) ?_
            rotate_left
            · intro w hSw; go_split_ands; go_simp; try with_reducible rfl
            simp only [Act.put, List.setIfInBounds_toArray, List.set_cons_zero, List.set_cons_succ, List.getElem_toArray, List.getElem_cons_zero, List.getElem_cons_succ]
            refine wpAnyH_take (i := 8) (v := ?_) rfl (by kernel_rfl) (by kernel_rfl) (by kernel_rfl) (fun _ _ _ h => h) (Or.inl ⟨by rfl, ?_⟩) (by assumption) ?_
            rotate_left
            · intro w hSw; go_split_ands; go_simp; try with_reducible rfl
            simp only [Act.put, List.setIfInBounds_toArray, List.set_cons_zero, List.set_cons_succ, List.getElem_toArray, List.getElem_cons_zero, List.getElem_cons_succ]
            refine wpAnyH_take (i := 9) (v := ?_) rfl (by kernel_rfl) (by kernel_rfl) (by kernel_rfl) (fun _ _ _ h => h) (Or.inl ⟨by rfl, ?_⟩) (by assumption) ?_
            rotate_left
            · intro w hSw; go_split_ands; go_simp; try with_reducible rfl
            simp only [Act.put, List.setIfInBounds_toArray, List.set_cons_zero, List.set_cons_succ, List.getElem_toArray, List.getElem_cons_zero, List.getElem_cons_succ]
            refine wpAnyH_take (i := 10) (v := ?_) rfl (by kernel_rfl) (by kernel_rfl) (by kernel_rfl) (fun _ _ _ h => h) (Or.inl ⟨by rfl, ?_⟩) (by assumption) ?_
            rotate_left
            · intro w hSw; go_split_ands; go_simp; try with_reducible rfl
            simp only [Act.put, List.setIfInBounds_toArray, List.set_cons_zero, List.set_cons_succ, List.getElem_toArray, List.getElem_cons_zero, List.getElem_cons_succ]
            refine wpAnyH_take (i := 11) (v := ?_) rfl (by kernel_rfl) (by kernel_rfl) (by kernel_rfl) (fun _ _ _ h => h) (Or.inl ⟨by rfl, ?_⟩) (by assumption) ?_
            rotate_left
            · intro w hSw; go_split_ands; go_simp; try with_reducible rfl
            simp only [Act.put, List.setIfInBounds_toArray, List.set_cons_zero, List.set_cons_succ, List.getElem_toArray, List.getElem_cons_zero, List.getElem_cons_succ]
            refine wpAnyH_take (i := 12) (v := ?_) rfl (by kernel_rfl) (by kernel_rfl) (by kernel_rfl) (fun _ _ _ h => h) (Or.inl ⟨by rfl, ?_⟩) (by assumption) ?_
            rotate_left
            · intro w hSw; go_split_ands; go_simp; try with_reducible rfl
            simp only [Act.put, List.setIfInBounds_toArray, List.set_cons_zero, List.set_cons_succ, List.getElem_toArray, List.getElem_cons_zero, List.getElem_cons_succ]
            refine wpAnyH_take (i := 13) (v := ?_) rfl (by kernel_rfl) (by kernel_rfl) (by kernel_rfl) (fun _ _ _ h => h) (Or.inl ⟨by rfl, ?_⟩) (by assumption) ?_
            rotate_left
            · intro w hSw; go_split_ands; go_simp; try with_reducible rfl
            simp only [Act.put, List.setIfInBounds_toArray, List.set_cons_zero, List.set_cons_succ, List.getElem_toArray, List.getElem_cons_zero, List.getElem_cons_succ]
            refine wpAnyH_take (i := 14) (v := ?_) rfl (by kernel_rfl) (by kernel_rfl) (by kernel_rfl) (fun _ _ _ h => h) (Or.inl ⟨by rfl, ?_⟩) (by assumption) ?_
            rotate_left
            · intro w hSw; go_split_ands; go_simp; try with_reducible rfl
            simp only [Act.put, List.setIfInBounds_toArray, List.set_cons_zero, List.set_cons_succ, List.getElem_toArray, List.getElem_cons_zero, List.getElem_cons_succ]
            refine wpAnyH_take (i := 15) (v := ?_) rfl (by kernel_rfl) (by kernel_rfl) (by kernel_rfl) (fun _ _ _ h => h) (Or.inl ⟨by rfl, ?_⟩) (by assumption) ?_
            rotate_left
            · intro w hSw; go_split_ands; go_simp; try with_reducible rfl
            simp only [Act.put, List.setIfInBounds_toArray, List.set_cons_zero, List.set_cons_succ, List.getElem_toArray, List.getElem_cons_zero, List.getElem_cons_succ]
            refine wpAnyH_ready (rs := [16]) (by kernel_rfl) (by simp) ?_
            refine AllReadyH.cons rfl (fun K hK => ?_) AllReadyH.nil
            go_simp
            refine (non_at HV1.out _).mono ?_
            rintro e w' ⟨rfl, hb⟩
            have zb := below_on hHeld.2.2.2.2.2.2.2.2.2.2.2.2.2.2.2 hb
            refine hK.out _ _ ⟨(zb.cell (p := ⟨j0, 3, none⟩) NN.out.lt).trans n3, (zb.cell (p := ⟨w.heap.size, 3, none⟩) TT.out.bx.lt).trans t3, (zb.cell (p := ⟨g1, 3, none⟩) CI.out.bx.lt).trans c3, (zb.cell (p := ⟨P, Y * 5, none⟩) HSPq.out.2).trans y0, (zb.cell (p := ⟨P, Y * 5 + 1, none⟩) HSPq.out.2).trans y1, (zb.cell (p := ⟨P, Y * 5 + 2, none⟩) HSPq.out.2).trans y2, (zb.cell (p := ⟨P, Y * 5 + 3, none⟩) HSPq.out.2).trans y3, (zb.cell (p := ⟨sb, sp + Y * 5, none⟩) HSPq.out.1).trans x0, (zb.cell (p := ⟨sb, sp + Y * 5 + 1, none⟩) HSPq.out.1).trans x1, (zb.cell (p := ⟨sb, sp + Y * 5 + 2, none⟩) HSPq.out.1).trans x2, (zb.cell (p := ⟨sb, sp + Y * 5 + 3, none⟩) HSPq.out.1).trans x3, (zb.cell (p := ⟨sb, sp + F * 5, none⟩) HSPq.out.1).trans f0, (zb.cell (p := ⟨sb, sp + F * 5 + 1, none⟩) HSPq.out.1).trans f1, (zb.cell (p := ⟨sb, sp + F * 5 + 2, none⟩) HSPq.out.1).trans f2, (zb.cell (p := ⟨sb, sp + F * 5 + 3, none⟩) HSPq.out.1).trans f3, zb⟩ (fun hHeld => ?_)
            clear hK K
            try simp only [Act.put, List.setIfInBounds_toArray, List.set_cons_zero, List.set_cons_succ]
            refine wpAnyH_take (i := 17) (v := ?_) rfl (by kernel_rfl) (by kernel_rfl) (by kernel_rfl) (fun _ _ _ h => h) (Or.inl ⟨by rfl, ?_⟩) (by assumption) ?_
            rotate_left
            · intro w hSw; go_split_ands; go_simp; try with_reducible rfl
            simp only [Act.put, List.setIfInBounds_toArray, List.set_cons_zero, List.set_cons_succ, List.getElem_toArray, List.getElem_cons_zero, List.getElem_cons_succ]
            refine wpAnyH_take (i := 18) (v := ?_) rfl (by kernel_rfl) (by kernel_rfl) (by kernel_rfl) (fun _ _ _ h => h) (Or.inl ⟨by rfl, ?_⟩) (by assumption) ?_
            rotate_left
            · intro w hSw; go_split_ands; go_simp; try with_reducible rfl
            simp only [Act.put, List.setIfInBounds_toArray, List.set_cons_zero, List.set_cons_succ, List.getElem_toArray, List.getElem_cons_zero, List.getElem_cons_succ]
            refine wpAnyH_take (i := 19) (v := ?_) rfl (by kernel_rfl) (by kernel_rfl) (by kernel_rfl) (fun _ _ _ h => h) (Or.inl ⟨by rfl, ?_⟩) (by assumption) ?_
            rotate_left
            · intro w hSw; go_split_ands; go_simp; try with_reducible rfl
            simp only [Act.put, List.setIfInBounds_toArray, List.set_cons_zero, List.set_cons_succ, List.getElem_toArray, List.getElem_cons_zero, List.getElem_cons_succ]
            refine wpAnyH_take (i := 20) (v := ?_) rfl (by kernel_rfl) (by kernel_rfl) (by kernel_rfl) (fun _ _ _ h => h) (Or.inl ⟨by rfl, ?_⟩) (by assumption) ?_
            rotate_left
            · intro w hSw; go_split_ands; go_simp; try with_reducible rfl
            simp only [Act.put, List.setIfInBounds_toArray, List.set_cons_zero, List.set_cons_succ, List.getElem_toArray, List.getElem_cons_zero, List.getElem_cons_succ]
            refine wpAnyH_take (i := 21) (v := ?_) rfl (by kernel_rfl) (by kernel_rfl) (by kernel_rfl) (fun _ _ _ h => h) (Or.inl ⟨by rfl, ?_⟩) (by assumption) ?_
            rotate_left
            · intro w hSw; go_split_ands; go_simp; try with_reducible rfl
            simp only [Act.put, List.setIfInBounds_toArray, List.set_cons_zero, List.set_cons_succ, List.getElem_toArray, List.getElem_cons_zero, List.getElem_cons_succ]
            refine wpAnyH_take (i := 22) (v := ?_) rfl (by kernel_rfl) (by kernel_rfl) (by kernel_rfl) (fun _ _ _ h => h) (Or.inl ⟨by rfl, ?_⟩) (by assumption) ?_
            rotate_left
            · intro w hSw; go_split_ands; go_simp; try with_reducible rfl
            simp only [Act.put, List.setIfInBounds_toArray, List.set_cons_zero, List.set_cons_succ, List.getElem_toArray, List.getElem_cons_zero, List.getElem_cons_succ]
            refine wpAnyH_take (i := 23) (v := ?_) rfl (by kernel_rfl) (by kernel_rfl) (by kernel_rfl) (fun _ _ _ h => h) (Or.inl ⟨by rfl, ?_⟩) (by assumption) ?_
            rotate_left
            · intro w hSw; go_split_ands; go_simp; try with_reducible rfl
            simp only [Act.put, List.setIfInBounds_toArray, List.set_cons_zero, List.set_cons_succ, List.getElem_toArray, List.getElem_cons_zero, List.getElem_cons_succ]
            refine wpAnyH_take (i := 24) (v := ?_) rfl (by kernel_rfl) (by kernel_rfl) (by kernel_rfl) (fun _ _ _ h => h) (Or.inl ⟨by rfl, ?_⟩) (by assumption) ?_
            rotate_left
            · intro w hSw; go_split_ands; go_simp; try with_reducible rfl
            simp only [Act.put, List.setIfInBounds_toArray, List.set_cons_zero, List.set_cons_succ, List.getElem_toArray, List.getElem_cons_zero, List.getElem_cons_succ]
            refine wpAnyH_take (i := 25) (v := ?_) rfl (by kernel_rfl) (by kernel_rfl) (by kernel_rfl) (fun _ _ _ h => h) (Or.inl ⟨by rfl, ?_⟩) (by assumption) ?_
            rotate_left
            · intro w hSw; go_split_ands; go_simp; try with_reducible rfl
            simp only [Act.put, List.setIfInBounds_toArray, List.set_cons_zero, List.set_cons_succ, List.getElem_toArray, List.getElem_cons_zero, List.getElem_cons_succ]
            refine wpAnyH_take (i := 26) (v := ?_) rfl (by kernel_rfl) (by kernel_rfl) (by kernel_rfl) (fun _ _ _ h => h) (Or.inl ⟨by rfl, ?_⟩) (by assumption) ?_
            rotate_left
            · intro w hSw; go_split_ands; go_simp; try with_reducible rfl
            simp only [Act.put, List.setIfInBounds_toArray, List.set_cons_zero, List.set_cons_succ, List.getElem_toArray, List.getElem_cons_zero, List.getElem_cons_succ]
            refine wpAnyH_take (i := 27) (v := ?_) rfl (by kernel_rfl) (by kernel_rfl) (by kernel_rfl) (fun _ _ _ h => h) (Or.inl ⟨by rfl, ?_⟩) (by assumption) ?_
            rotate_left
            · intro w hSw; go_split_ands; go_simp; try with_reducible rfl
            simp only [Act.put, List.setIfInBounds_toArray, List.set_cons_zero, List.set_cons_succ, List.getElem_toArray, List.getElem_cons_zero, List.getElem_cons_succ]
            refine wpAnyH_take (i := 28) (v := ?_) rfl (by kernel_rfl) (by kernel_rfl) (by kernel_rfl) (fun _ _ _ h => h) (Or.inl ⟨by rfl, ?_⟩) (by assumption) ?_
            rotate_left
            · intro w hSw; go_split_ands; go_simp; try with_reducible rfl
            simp only [Act.put, List.setIfInBounds_toArray, List.set_cons_zero, List.set_cons_succ, List.getElem_toArray, List.getElem_cons_zero, List.getElem_cons_succ]
            refine wpAnyH_take (i := 29) (v := ?_) rfl (by kernel_rfl) (by kernel_rfl) (by kernel_rfl) (fun _ _ _ h => h) (Or.inl ⟨by rfl, ?_⟩) (by assumption) ?_
            rotate_left
            · intro w hSw; go_split_ands; go_simp; try with_reducible rfl
            simp only [Act.put, List.setIfInBounds_toArray, List.set_cons_zero, List.set_cons_succ, List.getElem_toArray, List.getElem_cons_zero, List.getElem_cons_succ]
            refine wpAnyH_take (i := 30) (v := ?_) rfl (by kernel_rfl) (by kernel_rfl) (by kernel_rfl) (fun _ _ _ h => h) (Or.inl ⟨by rfl, ?_⟩) (by assumption) ?_
            rotate_left
            · intro w hSw; go_split_ands; go_simp; try with_reducible rfl
            simp only [Act.put, List.setIfInBounds_toArray, List.set_cons_zero, List.set_cons_succ, List.getElem_toArray, List.getElem_cons_zero, List.getElem_cons_succ]
            refine wpAnyH_take (i := 31) (v := ?_) rfl (by kernel_rfl) (by kernel_rfl) (by kernel_rfl) (fun _ _ _ h => h) (Or.inl ⟨by rfl, ?_⟩) (by assumption) ?_
            rotate_left
            · intro w hSw; go_split_ands; go_simp; try with_reducible rfl
            simp only [Act.put, List.setIfInBounds_toArray, List.set_cons_zero, List.set_cons_succ, List.getElem_toArray, List.getElem_cons_zero, List.getElem_cons_succ]
            refine wpAnyH_ready (rs := [32]) (by kernel_rfl) (by simp) ?_
            refine AllReadyH.cons rfl (fun K hK => ?_) AllReadyH.nil
            go_simp
            refine (cless_any ⟨uy, uh, ur, ub⟩ ⟨fy, fh, fr, fb⟩ _).mono ?_
            rintro e w' ⟨rfl, hb⟩
            rw [HLESS.out]
            have zb := below_on hHeld.2.2.2.2.2.2.2.2.2.2.2.2.2.2.2 hb
            refine hK.out _ _ ⟨(zb.cell (p := ⟨j0, 3, none⟩) NN.out.lt).trans n3, (zb.cell (p := ⟨w.heap.size, 3, none⟩) TT.out.bx.lt).trans t3, (zb.cell (p := ⟨g1, 3, none⟩) CI.out.bx.lt).trans c3, (zb.cell (p := ⟨P, Y * 5, none⟩) HSPq.out.2).trans y0, (zb.cell (p := ⟨P, Y * 5 + 1, none⟩) HSPq.out.2).trans y1, (zb.cell (p := ⟨P, Y * 5 + 2, none⟩) HSPq.out.2).trans y2, (zb.cell (p := ⟨P, Y * 5 + 3, none⟩) HSPq.out.2).trans y3, (zb.cell (p := ⟨sb, sp + Y * 5, none⟩) HSPq.out.1).trans x0, (zb.cell (p := ⟨sb, sp + Y * 5 + 1, none⟩) HSPq.out.1).trans x1, (zb.cell (p := ⟨sb, sp + Y * 5 + 2, none⟩) HSPq.out.1).trans x2, (zb.cell (p := ⟨sb, sp + Y * 5 + 3, none⟩) HSPq.out.1).trans x3, (zb.cell (p := ⟨sb, sp + F * 5, none⟩) HSPq.out.1).trans f0, (zb.cell (p := ⟨sb, sp + F * 5 + 1, none⟩) HSPq.out.1).trans f1, (zb.cell (p := ⟨sb, sp + F * 5 + 2, none⟩) HSPq.out.1).trans f2, (zb.cell (p := ⟨sb, sp + F * 5 + 3, none⟩) HSPq.out.1).trans f3, zb⟩ (fun hHeld => ?_)
            clear hK K
            try simp only [Act.put, List.setIfInBounds_toArray, List.set_cons_zero, List.set_cons_succ]
            refine wpAnyH_take (i := 33) (v := ?_) rfl (by kernel_rfl) (by kernel_rfl) (by kernel_rfl) (fun _ _ _ h => h) (Or.inl ⟨by rfl, ?_⟩) (by assumption) ?_
            rotate_left
            · intro w hSw; go_split_ands; go_simp; try with_reducible rfl
            simp only [Act.put, List.setIfInBounds_toArray, List.set_cons_zero, List.set_cons_succ, List.getElem_toArray, List.getElem_cons_zero, List.getElem_cons_succ]
            refine wpAnyH_take (i := 34) (v := ?_) rfl (by kernel_rfl) (by kernel_rfl) (by kernel_rfl) (fun _ _ _ h => h) (Or.inl ⟨by rfl, ?_⟩) (by assumption) ?_
            rotate_left
            · intro w hSw; go_split_ands; go_simp; try with_reducible rfl
            simp only [Act.put, List.setIfInBounds_toArray, List.set_cons_zero, List.set_cons_succ, List.getElem_toArray, List.getElem_cons_zero, List.getElem_cons_succ]
            refine wpAnyH_take (i := 35) (v := ?_) rfl (by kernel_rfl) (by kernel_rfl) (by kernel_rfl) (fun _ _ _ h => h) (Or.inl ⟨by rfl, ?_⟩) (by assumption) ?_
            rotate_left
            · intro w hSw; go_split_ands; go_simp; try with_reducible rfl
            simp only [Act.put, List.setIfInBounds_toArray, List.set_cons_zero, List.set_cons_succ, List.getElem_toArray, List.getElem_cons_zero, List.getElem_cons_succ]
            refine wpAnyH_take (i := 36) (v := ?_) rfl (by kernel_rfl) (by kernel_rfl) (by kernel_rfl) (fun _ _ _ h => h) (Or.inl ⟨by rfl, ?_⟩) (by assumption) ?_
            rotate_left
            · intro w hSw; go_split_ands; go_simp; try with_reducible rfl
            simp only [Act.put, List.setIfInBounds_toArray, List.set_cons_zero, List.set_cons_succ, List.getElem_toArray, List.getElem_cons_zero, List.getElem_cons_succ]
            refine wpAnyH_take (i := 37) (v := ?_) rfl (by kernel_rfl) (by kernel_rfl) (by kernel_rfl) (fun _ _ _ h => h) (Or.inl ⟨by rfl, ?_⟩) (by assumption) ?_
            rotate_left
            · intro w hSw; go_split_ands; go_simp; try with_reducible rfl
            simp only [Act.put, List.setIfInBounds_toArray, List.set_cons_zero, List.set_cons_succ, List.getElem_toArray, List.getElem_cons_zero, List.getElem_cons_succ]
            refine wpAnyH_take (i := 38) (v := ?_) rfl (by kernel_rfl) (by kernel_rfl) (by kernel_rfl) (fun _ _ _ h => h) (Or.inl ⟨by rfl, ?_⟩) (by assumption) ?_
            rotate_left
            · intro w hSw; go_split_ands; go_simp; try with_reducible rfl
            simp only [Act.put, List.setIfInBounds_toArray, List.set_cons_zero, List.set_cons_succ, List.getElem_toArray, List.getElem_cons_zero, List.getElem_cons_succ]
            refine wpAnyH_take (i := 39) (v := ?_) rfl (by kernel_rfl) (by kernel_rfl) (by kernel_rfl) (fun _ _ _ h => h) (Or.inl ⟨by rfl, ?_⟩) (by assumption) ?_
            rotate_left
            · intro w hSw; go_split_ands; go_simp; try with_reducible rfl
            simp only [Act.put, List.setIfInBounds_toArray, List.set_cons_zero, List.set_cons_succ, List.getElem_toArray, List.getElem_cons_zero, List.getElem_cons_succ]
            refine wpAnyH_take (i := 40) (v := ?_) rfl (by kernel_rfl) (by kernel_rfl) (by kernel_rfl) (fun _ _ _ h => h) (Or.inl ⟨by rfl, ?_⟩) (by assumption) ?_
            rotate_left
            · intro w hSw; go_split_ands; go_simp; try with_reducible rfl
            simp only [Act.put, List.setIfInBounds_toArray, List.set_cons_zero, List.set_cons_succ, List.getElem_toArray, List.getElem_cons_zero, List.getElem_cons_succ]
            refine wpAnyH_take (i := 41) (v := ?_) rfl (by kernel_rfl) (by kernel_rfl) (by kernel_rfl) (fun _ _ _ h => h) (Or.inl ⟨by rfl, ?_⟩) (by assumption) ?_
            rotate_left
            · intro w hSw; go_split_ands; go_simp; try with_reducible rfl
            simp only [Act.put, List.setIfInBounds_toArray, List.set_cons_zero, List.set_cons_succ, List.getElem_toArray, List.getElem_cons_zero, List.getElem_cons_succ]
            refine wpAnyH_take (i := 42) (v := ?_) rfl (by kernel_rfl) (by kernel_rfl) (by kernel_rfl) (fun _ _ _ h => h) (Or.inl ⟨by rfl, ?_⟩) (by assumption) ?_
            rotate_left
            · intro w hSw; go_split_ands; go_simp; try with_reducible rfl
            simp only [Act.put, List.setIfInBounds_toArray, List.set_cons_zero, List.set_cons_succ, List.getElem_toArray, List.getElem_cons_zero, List.getElem_cons_succ]
            refine wpAnyH_take (i := 43) (v := ?_) rfl (by kernel_rfl) (by kernel_rfl) (by kernel_rfl) (fun _ _ _ h => h) (Or.inl ⟨by rfl, ?_⟩) (by assumption) ?_
            rotate_left
            · intro w hSw; go_split_ands; go_simp; try with_reducible rfl
            simp only [Act.put, List.setIfInBounds_toArray, List.set_cons_zero, List.set_cons_succ, List.getElem_toArray, List.getElem_cons_zero, List.getElem_cons_succ]
            refine wpAnyH_take (i := 44) (v := ?_) rfl (by kernel_rfl) (by kernel_rfl) (by kernel_rfl) (fun _ _ _ h => h) (Or.inl ⟨by rfl, ?_⟩) (by assumption) ?_
            rotate_left
            · intro w hSw; go_split_ands; go_simp; try with_reducible rfl
            simp only [Act.put, List.setIfInBounds_toArray, List.set_cons_zero, List.set_cons_succ, List.getElem_toArray, List.getElem_cons_zero, List.getElem_cons_succ]
            refine wpAnyH_take (i := 45) (v := ?_) rfl (by kernel_rfl) (by kernel_rfl) (by kernel_rfl) (fun _ _ _ h => h) (Or.inl ⟨by rfl, ?_⟩) (by assumption) ?_
            rotate_left
            · intro w hSw; go_split_ands; go_simp; try with_reducible rfl
            simp only [Act.put, List.setIfInBounds_toArray, List.set_cons_zero, List.set_cons_succ, List.getElem_toArray, List.getElem_cons_zero, List.getElem_cons_succ]
            refine wpAnyH_take (i := 46) (v := ?_) rfl (by kernel_rfl) (by kernel_rfl) (by kernel_rfl) (fun _ _ _ h => h) (Or.inl ⟨by rfl, ?_⟩) (by assumption) ?_
            rotate_left
            · intro w hSw; go_split_ands; go_simp; try with_reducible rfl
            simp only [Act.put, List.setIfInBounds_toArray, List.set_cons_zero, List.set_cons_succ, List.getElem_toArray, List.getElem_cons_zero, List.getElem_cons_succ]
            refine wpAnyH_take (i := 47) (v := ?_) rfl (by kernel_rfl) (by kernel_rfl) (by kernel_rfl) (fun _ _ _ h => h) (Or.inl ⟨by rfl, ?_⟩) (by assumption) ?_
            rotate_left
            · intro w hSw; go_split_ands; go_simp; try with_reducible rfl
            simp only [Act.put, List.setIfInBounds_toArray, List.set_cons_zero, List.set_cons_succ, List.getElem_toArray, List.getElem_cons_zero, List.getElem_cons_succ]
            refine wpAnyH_done (by kernel_rfl) ?_ _
            have HB4 := Lib.hid (below_on HB3.out hHeld.2.2.2.2.2.2.2.2.2.2.2.2.2.2.2)
            clear hHeld hbits
            go_wp2
            go_roundg (n - (Y + 1))
            case measure => have := HK.out; have := HLT.out; omega
            case rel => exact ⟨Y + 1, by have := HLT.out; omega, by rw [(nws_at Y).2], by first | go_num | exact congrArg _ HWI.out, HB4.out⟩
  · have t0 := K1.out.bx.c 0 _ rfl
    have t1 := K1.out.bx.c 1 _ rfl
    have t2 := K1.out.bx.c 2 _ rfl
    have t3 := K1.out.bx.c 3 _ rfl
    have t4 := K1.out.bx.c 4 _ rfl
    have k0 := K2.out.bx.c 0 _ rfl
    have k1 := K2.out.bx.c 1 _ rfl
    have k2 := K2.out.bx.c 2 _ rfl
    have k3 := K2.out.bx.c 3 _ rfl
    have k4 := K2.out.bx.c 4 _ rfl
    have k5 := K2.out.bx.c 5 _ rfl
    go_wp2_with fail
    refine (gdo_is (HS.out.on K1.out.bx.old) HNA.out HCPA.out (HA.out.on K1.out.bx.old) HNB.out HCPB.out (HB.out.on K1.out.bx.old) HR.out).mono ?_
    rintro e w5 ⟨A2, ca2, C2, cc2, rfl, hb, hm⟩
    have HBB := Lib.hid K1.out.bx.old
    replace K1 := Lib.hid (K1.out.on hb)
    replace K2 := Lib.hid (K2.out.on hb)
    clear t0 t1 t2 t3 t4 k0 k1 k2 k3 k4 k5
    obtain ⟨r1, q⟩ := r
    cases r1 with
    | none =>
      obtain ⟨e1, e2, e3, e4⟩ := hm
      have e1 := e1.symm
      have e2 := e2.symm
      have e3 := e3.symm
      have e4 := e4.symm
      subst e1 e2 e3 e4
      have hq : ¬ q.err = 0 := gdo_none HR.out
      have hq2 : (q.err != 0) = true := by simpa using hq
      simp only [Rep.val]
      obtain ⟨n2, n3⟩ := boxes2 w5 [.int .i64 a, .int .i64 b, .int .i64 c, .slice A n ca, .slice C m cc] [.int .i64 q.err, .int .u64 (q.w : Int), .int .i64 q.n] 28 47
      have T7 := (K1.out.on (below_alloc w5 (.cells #[.int .i64 a, .int .i64 b, .int .i64 c, .slice A n ca, .slice C m cc] 28))).on (below_alloc _ (.cells #[.int .i64 q.err, .int .u64 (q.w : Int), .int .i64 q.n] 47))
      go_upto_region 6 with fail
      obtain ⟨j1, hj1⟩ : ∃ j1, j1 = w5.heap.size + 1 := ⟨_, rfl⟩
      rw [← hj1] at n3 ⊢
      clear hj1
      obtain ⟨j0, hj0⟩ : ∃ j0, j0 = w5.heap.size := ⟨_, rfl⟩
      rw [← hj0] at n2 ⊢
      clear hj0
      generalize (w5.alloc _).alloc _ = w7 at n2 n3 T7 ⊢
      have TT := Lib.hid T7
      have m0 := n3.bx.c 0 _ rfl
      have a0 := n2.bx.c 0 _ rfl
      have a1 := n2.bx.c 1 _ rfl
      have a2 := n2.bx.c 2 _ rfl
      have a3 := n2.bx.c 3 _ rfl
      have a4 := n2.bx.c 4 _ rfl
      have t0 := TT.out.bx.c 0 _ rfl
      have t1 := TT.out.bx.c 1 _ rfl
      have t2 := TT.out.bx.c 2 _ rfl
      have t3 := TT.out.bx.c 3 _ rfl
      have t4 := TT.out.bx.c 4 _ rfl
      clear n2 n3 T7 hb K1 K2
      go_wp2_with fail
      refine (psame_is (HS.out.on TT.out.bx.old) (HS.out.on TT.out.bx.old) (St.same_iff.2 rfl)).mono ?_
      rintro e w8 ⟨rfl, hb8⟩
      have HO := Lib.hid (below_on TT.out.bx.old hb8)
      clear m0 a0 a1 a2 a3 a4 t0 t1 t2 t3 t4 hb8
      go_wp2
      go_ret
      exact ⟨rfl, HO.out⟩
    | some s' =>
      obtain ⟨hca, hcc, hF⟩ := hm
      obtain ⟨F, Y, k, hP⟩ := gdo_put HR.out (by simp)
      have hs' := hP.st
      have hq := hP.rep
      subst hs' hq
      have HP := Lib.hid hP
      have HN := Lib.hid HS.out.hn
      obtain ⟨P, Q, rfl, rfl, hO⟩ := hF.ost (by rw [puts_sl]; exact Nat.lt_of_le_of_lt (Nat.zero_le _) hP.P.dst) (Nat.lt_of_le_of_lt (Nat.zero_le _) (hP.P.src4 hP.G).th) hb
      simp only [Rep.val]
      obtain ⟨n2, n3⟩ := boxes2 w5 [.int .i64 a, .int .i64 b, .int .i64 c, .slice (some ⟨P, 0, none⟩) n ca2, .slice (some ⟨Q, 0, none⟩) m cc2] [.int .i64 0, .int .u64 ((0 : Nat) : Int), .int .i64 0] 28 47
      have hal0 := below_alloc w5 (.cells #[.int .i64 a, .int .i64 b, .int .i64 c, .slice (some ⟨P, 0, none⟩) n ca2, .slice (some ⟨Q, 0, none⟩) m cc2] 28)
      have hal := below_alloc (w5.alloc (.cells #[.int .i64 a, .int .i64 b, .int .i64 c, .slice (some ⟨P, 0, none⟩) n ca2, .slice (some ⟨Q, 0, none⟩) m cc2] 28)) (.cells #[.int .i64 0, .int .u64 ((0 : Nat) : Int), .int .i64 0] 47)
      have T7 := Lib.hid ((K1.out.on hal0).on hal)
      have C7 := Lib.hid ((K2.out.on hal0).on hal)
      have O7 := Lib.hid (((hO.base HBB.out).on hal0).on hal)
      have N7 := Lib.hid (Bxs.more K1.out.bx.old [.int .i64 a, .int .i64 b, .int .i64 c, .slice (some ⟨P, 0, none⟩) n ca2, .slice (some ⟨Q, 0, none⟩) m cc2] 28 |>.on hal)
      clear hb hal hal0 hO hF hP hca hcc K1 K2 n2
      go_upto_region 6 with fail
      obtain ⟨j1, hj1⟩ : ∃ j1, j1 = w5.heap.size + 1 := ⟨_, rfl⟩
      rw [← hj1] at n3 ⊢
      clear hj1
      obtain ⟨j0, hj0⟩ : ∃ j0, j0 = w5.heap.size := ⟨_, rfl⟩
      rw [← hj0] at N7 ⊢
      clear hj0
      generalize (w5.alloc _).alloc _ = w7 at n3 N7 T7 C7 O7 ⊢
      have m0 := n3.bx.c 0 _ rfl
      clear n3
      obtain ⟨sb, sp, rfl, hsb, hc⟩ := HS.out.lies.sl (Nat.lt_of_le_of_lt (Nat.zero_le _) HP.out.P.src)
      have HSC := Lib.hid hc
      have HSB := Lib.hid hsb
      have HM1 : Hid (n ≤ 96) := Lib.hid (by rw [HN.out]; exact HP.out.G.few.1)
      clear hc hsb
      go_wp2_with fail
      clear m0
      go_loopg [9, 10] n (fun d p v wr => GlRel w7 n (nws Y) d p v wr)
      case atStart => exact ⟨0, by omega, by rw [nws, if_neg (by omega)], rfl, below_self _⟩
      case round =>
        obtain ⟨i, hk, rfl, rfl, hb⟩ := hrel
        have HK := Lib.hid hk
        have HB := Lib.hid hb
        have TT := Lib.hid (T7.out.on hb)
        have NN := Lib.hid (N7.out.on hb)
        have CI := Lib.hid (C7.out.on hb)
        clear hk
        have n3 := NN.out.c 3 _ rfl
        have t3 := TT.out.bx.c 3 _ rfl
        by_cases hlt : i < n
        case neg =>
          have hlt2 : ¬ (i : Int) < (n : Int) := by omega
          have hlt3 : decide ((i : Int) < (n : Int)) = false := decide_eq_false hlt2
          have h1 : nws Y i = 1 := by
            have h1 := HK.out
            have h2 := HP.out.P.dst
            have h3 := HN.out
            rw [nws, if_pos (by omega)]
          rw [h1]
          have HO := Lib.hid TT.out.bx.old
          clear h1 hlt hb
          go_wp2
          go_ret
          exact ⟨rfl, HO.out⟩
        case pos =>
          have hlt2 : (i : Int) < (n : Int) := by omega
          have hlt3 : decide ((i : Int) < (n : Int)) = true := decide_eq_true hlt2
          have HLT := Lib.hid hlt
          have hOS := (O7.out.on hb).sl i (by rw [puts_sl, ← HN.out]; exact hlt)
          have hX : SlC wr sb (sp + i * 5) (slAt s.sl i) := (HSC.out i (by rw [← HN.out]; exact hlt)).same fun k => TT.out.bx.old.cell (p := ⟨sb, k, none⟩) HSB.out
          have heq := fun w => peqslot (slAt (gputS s F Y k).sl i) (slAt s.sl i) w
          obtain ⟨ze, hze⟩ : ∃ ze, (slAt (gputS s F Y k).sl i).eq (slAt s.sl i) = ze := ⟨_, rfl⟩
          have HZE := Lib.hid hze
          rw [hze] at heq
          obtain ⟨u, hu⟩ : ∃ u, slAt (gputS s F Y k).sl i = u := ⟨_, rfl⟩
          obtain ⟨v, hv⟩ : ∃ v, slAt s.sl i = v := ⟨_, rfl⟩
          have HU := Lib.hid hu
          have HV := Lib.hid hv
          rw [hu] at hOS heq
          rw [hv] at hX heq
          obtain ⟨⟨uy, uh, ur, ub⟩, uu⟩ := u
          obtain ⟨⟨vy, vh, vr, vb⟩, vu⟩ := v
          obtain ⟨x0, x1, x2, x3, x4⟩ := hX
          have y0 := hOS 0 _ rfl
          have y1 := hOS 1 _ rfl
          have y2 := hOS 2 _ rfl
          have y3 := hOS 3 _ rfl
          have y4 := hOS 4 _ rfl
          simp only [Sl.val, Nat.add_zero] at x0 x1 x2 x3 x4 y0 y1 y2 y3 y4 heq
          have HWI : Hid (wrap64 ((i : Int) + 1) = ((i + 1 : Nat) : Int)) := Lib.hid (by rw [w64_in (by omega) (by have := HM1.out; omega)]; omega)
          obtain ⟨N2, hN2⟩ : ∃ N2, nws Y i = N2 := ⟨_, rfl⟩
          have HN2 := Lib.hid hN2
          rw [hN2]
          have HSP : Hid (sb < wr.heap.size ∧ P < wr.heap.size) := Lib.hid ⟨Nat.lt_of_lt_of_le HSB.out TT.out.bx.old.size, (O7.out.on hb).lP⟩
          clear hOS hze hu hv hN2 hb hlt
          go_wp2_with fail
          go_big_quiet (fail)
          have hq := below_draws (below_self wr) nq
          have HB3 := Lib.hid (below_on HB.out hq)
          replace TT := Lib.hid (TT.out.on hq)
          replace NN := Lib.hid (NN.out.on hq)
          replace CI := Lib.hid (CI.out.on hq)
          replace x0 := (hq.cell (p := ⟨sb, _, none⟩) HSP.out.1).trans x0
          replace y0 := (hq.cell (p := ⟨P, _, none⟩) HSP.out.2).trans y0
          replace x1 := (hq.cell (p := ⟨sb, _, none⟩) HSP.out.1).trans x1
          replace y1 := (hq.cell (p := ⟨P, _, none⟩) HSP.out.2).trans y1
          replace x2 := (hq.cell (p := ⟨sb, _, none⟩) HSP.out.1).trans x2
          replace y2 := (hq.cell (p := ⟨P, _, none⟩) HSP.out.2).trans y2
          replace x3 := (hq.cell (p := ⟨sb, _, none⟩) HSP.out.1).trans x3
          replace y3 := (hq.cell (p := ⟨P, _, none⟩) HSP.out.2).trans y3
          replace x4 := (hq.cell (p := ⟨sb, _, none⟩) HSP.out.1).trans x4
          replace y4 := (hq.cell (p := ⟨P, _, none⟩) HSP.out.2).trans y4
          clear hq heq n3 t3
          generalize wr.drewN nq = wq at TT NN CI HB3 x0 x1 x2 x3 x4 y0 y1 y2 y3 y4 ⊢
          cases ze with
          | true =>
            have hid : i ≠ Y := fun e => by
              have h := HZE.out
              rw [e, HP.out.P.neDst] at h
              cases h
            have HID := Lib.hid hid
            clear hid x0 x1 x2 x3 x4 y0 y1 y2 y3 y4
            go_wp2
            go_roundg (n - (i + 1))
            case measure => have := HK.out; have := HLT.out; omega
            case rel => exact ⟨i + 1, by have := HLT.out; omega, by rw [nws_same HID.out, HN2.out], by first | go_num | exact congrArg _ HWI.out, HB3.out⟩
          | false =>
            have hid : Y = i := Decidable.byContradiction fun q => by
              have := HP.out.P.eqSl (fun e => q e.symm)
              rw [HZE.out] at this
              cases this
            subst hid
            have hU := HU.out
            rw [HP.out.P.slIs, if_pos rfl] at hU
            injection hU with hU1 hU2
            subst hU1
            have HV1 : Hid (Cp.non ⟨vy, vh, vr, vb⟩ = true) := Lib.hid (by have := HP.out.P.emp; rw [HV.out] at this; exact this)
            subst hU2
            have hn20 : N2 = 0 := by rw [← HN2.out]; exact (nws_at Y).1
            subst hn20
            obtain ⟨⟨⟨fy, fh, fr, fb⟩, fu'⟩, hf⟩ : ∃ x, slAt s.sl F = x := ⟨_, rfl⟩
            have HLESS : Hid (Cp.less ⟨uy, uh, ur, ub⟩ ⟨fy, fh, fr, fb⟩ = true) := Lib.hid (by have := HP.out.P.less; rw [hf] at this; exact this)
            have hXF : SlC wq sb (sp + F * 5) (slAt s.sl F) := (HSC.out F HP.out.P.src).same fun k => TT.out.bx.old.cell (p := ⟨sb, k, none⟩) HSB.out
            rw [hf] at hXF
            obtain ⟨f0, f1, f2, f3, -⟩ := hXF
            simp only at f0 f1 f2 f3
            have hF1 : (F : Int) < (n : Int) := by have := HP.out.P.src; have := HN.out; omega
            have hF2 : decide ((F : Int) < 0) = false := decide_eq_false (by omega)
            have hF3 : decide ((n : Int) ≤ (F : Int)) = false := decide_eq_false (by omega)
            have hF4 : decide (n ≤ F) = false := decide_eq_false (by omega)
            obtain ⟨rr, hrr⟩ := HP.out.ri
            have hbits : (bits .andNot .i64 ur x != 0) = false := by
              have h := andnot_is (r := rr) HP.out.x.1 HP.out.x.2
              rw [← hrr] at h
              exact h
            have n3 := NN.out.c 3 _ rfl
            have t3 := TT.out.bx.c 3 _ rfl
            have c3 := CI.out.bx.c 3 _ rfl
            have HSPq : Hid (sb < wq.heap.size ∧ P < wq.heap.size) := Lib.hid ⟨Nat.lt_of_lt_of_le HSB.out TT.out.bx.old.size, (O7.out.on HB3.out).lP⟩
            clear hf hrr
            go_wp2_with fail
            refine wp_region_held_drew (S := (fun w' => w'.cell? ⟨j0, 3, none⟩ = some (.slice (some ⟨P, 0, none⟩) n ca2) ∧ w'.cell? ⟨w.heap.size, 3, none⟩ = some (.slice (some ⟨sb, sp, none⟩) n ca) ∧ w'.cell? ⟨g1, 3, none⟩ = some (.int .i64 x) ∧ w'.cell? ⟨P, Y * 5, none⟩ = some (.int .i64 uy) ∧ w'.cell? ⟨P, Y * 5 + 1, none⟩ = some (.int .i64 uh) ∧ w'.cell? ⟨P, Y * 5 + 2, none⟩ = some (.int .i64 ur) ∧ w'.cell? ⟨P, Y * 5 + 3, none⟩ = some (.int .i64 ub) ∧ w'.cell? ⟨sb, sp + Y * 5, none⟩ = some (.int .i64 vy) ∧ w'.cell? ⟨sb, sp + Y * 5 + 1, none⟩ = some (.int .i64 vh) ∧ w'.cell? ⟨sb, sp + Y * 5 + 2, none⟩ = some (.int .i64 vr) ∧ w'.cell? ⟨sb, sp + Y * 5 + 3, none⟩ = some (.int .i64 vb) ∧ w'.cell? ⟨sb, sp + F * 5, none⟩ = some (.int .i64 fy) ∧ w'.cell? ⟨sb, sp + F * 5 + 1, none⟩ = some (.int .i64 fh) ∧ w'.cell? ⟨sb, sp + F * 5 + 2, none⟩ = some (.int .i64 fr) ∧ w'.cell? ⟨sb, sp + F * 5 + 3, none⟩ = some (.int .i64 fb) ∧ Below wq.heap.size wq w')) (by kernel_rfl) (let zb := (below_self wq).drew; ⟨(zb.cell (p := ⟨j0, 3, none⟩) NN.out.lt).trans n3, (zb.cell (p := ⟨w.heap.size, 3, none⟩) TT.out.bx.lt).trans t3, (zb.cell (p := ⟨g1, 3, none⟩) CI.out.bx.lt).trans c3, (zb.cell (p := ⟨P, Y * 5, none⟩) HSPq.out.2).trans y0, (zb.cell (p := ⟨P, Y * 5 + 1, none⟩) HSPq.out.2).trans y1, (zb.cell (p := ⟨P, Y * 5 + 2, none⟩) HSPq.out.2).trans y2, (zb.cell (p := ⟨P, Y * 5 + 3, none⟩) HSPq.out.2).trans y3, (zb.cell (p := ⟨sb, sp + Y * 5, none⟩) HSPq.out.1).trans x0, (zb.cell (p := ⟨sb, sp + Y * 5 + 1, none⟩) HSPq.out.1).trans x1, (zb.cell (p := ⟨sb, sp + Y * 5 + 2, none⟩) HSPq.out.1).trans x2, (zb.cell (p := ⟨sb, sp + Y * 5 + 3, none⟩) HSPq.out.1).trans x3, (zb.cell (p := ⟨sb, sp + F * 5, none⟩) HSPq.out.1).trans f0, (zb.cell (p := ⟨sb, sp + F * 5 + 1, none⟩) HSPq.out.1).trans f1, (zb.cell (p := ⟨sb, sp + F * 5 + 2, none⟩) HSPq.out.1).trans f2, (zb.cell (p := ⟨sb, sp + F * 5 + 3, none⟩) HSPq.out.1).trans f3, zb⟩) (fun hHeld => ?_)
            refine wpAnyH_take (i := 0) (v := ?_) rfl (by kernel_rfl) (by kernel_rfl) (by kernel_rfl) (fun _ _ _ h => h) (Or.inl ⟨by rfl, ?_⟩) (by assumption) ?_
            rotate_left
            · intro w hSw; go_split_ands; go_simp; try with_reducible rfl
            simp only [Act.put, List.setIfInBounds_toArray, List.set_cons_zero, List.set_cons_succ, List.getElem_toArray, List.getElem_cons_zero]
            refine wpAnyH_take (i := 1) (v := ?_) rfl (by kernel_rfl) (by kernel_rfl) (by kernel_rfl) (fun _ _ _ h => h) (Or.inl ⟨by rfl, ?_⟩) (by assumption) ?_
            rotate_left
            · intro w hSw; go_split_ands; go_simp; try with_reducible rfl
            simp only [Act.put, List.setIfInBounds_toArray, List.set_cons_zero, List.set_cons_succ, List.getElem_toArray, List.getElem_cons_zero, List.getElem_cons_succ]
            refine wpAnyH_take (i := 2) (v := ?_) rfl (by kernel_rfl) (by kernel_rfl) (by kernel_rfl) (fun _ _ _ h => h) (Or.inl ⟨by rfl, ?_⟩) (by assumption) ?_
            rotate_left
            · intro w hSw; go_split_ands; go_simp; try with_reducible rfl
            simp only [Act.put, List.setIfInBounds_toArray, List.set_cons_zero, List.set_cons_succ, List.getElem_toArray, List.getElem_cons_zero, List.getElem_cons_succ]
            refine wpAnyH_take (i := 3) (v := ?_) rfl (by kernel_rfl) (by kernel_rfl) (by kernel_rfl) (fun _ _ _ h => h) (Or.inl ⟨by rfl, ?_⟩) (by assumption) ?_
            rotate_left
            · intro w hSw; go_split_ands; go_simp; try with_reducible rfl
            simp only [Act.put, List.setIfInBounds_toArray, List.set_cons_zero, List.set_cons_succ, List.getElem_toArray, List.getElem_cons_zero, List.getElem_cons_succ]
            refine wpAnyH_take (i := 4) (v := ?_) rfl (by kernel_rfl) (by kernel_rfl) (by kernel_rfl) (fun _ _ _ h => h) (Or.inl ⟨by rfl, ?_⟩) (by assumption) ?_
            rotate_left
            · intro w hSw; go_split_ands; go_simp; try with_reducible rfl
            simp only [Act.put, List.setIfInBounds_toArray, List.set_cons_zero, List.set_cons_succ, List.getElem_toArray, List.getElem_cons_zero, List.getElem_cons_succ]
            refine wpAnyH_take (i := 5) (v := ?_) rfl (by kernel_rfl) (by kernel_rfl) (by kernel_rfl) (fun _ _ _ h => h) (Or.inl ⟨by rfl, ?_⟩) (by assumption) ?_
            rotate_left
            · intro w hSw; go_split_ands; go_simp; try with_reducible rfl
            simp only [Act.put, List.setIfInBounds_toArray, List.set_cons_zero, List.set_cons_succ, List.getElem_toArray, List.getElem_cons_zero, List.getElem_cons_succ]
            refine wpAnyH_take (i := 6) (v := ?_) rfl (by kernel_rfl) (by kernel_rfl) (by kernel_rfl) (fun _ _ _ h => h) (Or.inl ⟨by rfl, ?_⟩) (by assumption) ?_
            rotate_left
            · intro w hSw; go_split_ands; go_simp; try with_reducible rfl
            simp only [Act.put, List.setIfInBounds_toArray, List.set_cons_zero, List.set_cons_succ, List.getElem_toArray, List.getElem_cons_zero, List.getElem_cons_succ]
            refine wpAnyH_take (i := 7) (v := ?_) rfl (by kernel_rfl) (by kernel_rfl) (by kernel_rfl) (fun _ _ _ h => h) (Or.inl ⟨by rfl, ?_⟩) (by assumption) ?_
            rotate_left
            · intro w hSw; go_split_ands; go_simp; try with_reducible rfl
            simp only [Act.put, List.setIfInBounds_toArray, List.set_cons_zero, List.set_cons_succ, List.getElem_toArray, List.getElem_cons_zero, List.getElem_cons_succ]
            refine wpAnyH_take (i := 8) (v := ?_) rfl (by kernel_rfl) (by kernel_rfl) (by kernel_rfl) (fun _ _ _ h => h) (Or.inl ⟨by rfl, ?_⟩) (by assumption) ?_
            rotate_left
            · intro w hSw; go_split_ands; go_simp; try with_reducible rfl
            simp only [Act.put, List.setIfInBounds_toArray, List.set_cons_zero, List.set_cons_succ, List.getElem_toArray, List.getElem_cons_zero, List.getElem_cons_succ]
            refine wpAnyH_take (i := 9) (v := ?_) rfl (by kernel_rfl) (by kernel_rfl) (by kernel_rfl) (fun _ _ _ h => h) (Or.inl ⟨by rfl, ?_⟩) (by assumption) ?_
            rotate_left
            · intro w hSw; go_split_ands; go_simp; try with_reducible rfl
            simp only [Act.put, List.setIfInBounds_toArray, List.set_cons_zero, List.set_cons_succ, List.getElem_toArray, List.getElem_cons_zero, List.getElem_cons_succ]
            refine wpAnyH_take (i := 10) (v := ?_) rfl (by kernel_rfl) (by kernel_rfl) (by kernel_rfl) (fun _ _ _ h => h) (Or.inl ⟨by rfl, ?_⟩) (by assumption) ?_
            rotate_left
            · intro w hSw; go_split_ands; go_simp; try with_reducible rfl
            simp only [Act.put, List.setIfInBounds_toArray, List.set_cons_zero, List.set_cons_succ, List.getElem_toArray, List.getElem_cons_zero, List.getElem_cons_succ]
            refine wpAnyH_take (i := 11) (v := ?_) rfl (by kernel_rfl) (by kernel_rfl) (by kernel_rfl) (fun _ _ _ h => h) (Or.inl ⟨by rfl, ?_⟩) (by assumption) ?_
            rotate_left
            · intro w hSw; go_split_ands; go_simp; try with_reducible rfl
            simp only [Act.put, List.setIfInBounds_toArray, List.set_cons_zero, List.set_cons_succ, List.getElem_toArray, List.getElem_cons_zero, List.getElem_cons_succ]
            refine wpAnyH_take (i := 12) (v := ?_) rfl (by kernel_rfl) (by kernel_rfl) (by kernel_rfl) (fun _ _ _ h => h) (Or.inl ⟨by rfl, ?_⟩) (by assumption) ?_
            rotate_left
            · intro w hSw; go_split_ands; go_simp; try with_reducible rfl
            simp only [Act.put, List.setIfInBounds_toArray, List.set_cons_zero, List.set_cons_succ, List.getElem_toArray, List.getElem_cons_zero, List.getElem_cons_succ]
            refine wpAnyH_take (i := 13) (v := ?_) rfl (by kernel_rfl) (by kernel_rfl) (by kernel_rfl) (fun _ _ _ h => h) (Or.inl ⟨by rfl, ?_⟩) (by assumption) ?_
            rotate_left
            · intro w hSw; go_split_ands; go_simp; try with_reducible rfl
            simp only [Act.put, List.setIfInBounds_toArray, List.set_cons_zero, List.set_cons_succ, List.getElem_toArray, List.getElem_cons_zero, List.getElem_cons_succ]
            refine wpAnyH_take (i := 14) (v := ?_) rfl (by kernel_rfl) (by kernel_rfl) (by kernel_rfl) (fun _ _ _ h => h) (Or.inl ⟨by rfl, ?_⟩) (by assumption) ?_
            rotate_left
            · intro w hSw; go_split_ands; go_simp; try with_reducible rfl
            simp only [Act.put, List.setIfInBounds_toArray, List.set_cons_zero, List.set_cons_succ, List.getElem_toArray, List.getElem_cons_zero, List.getElem_cons_succ]
            refine wpAnyH_take (i := 15) (v := ?_) rfl (by kernel_rfl) (by kernel_rfl) (by kernel_rfl) (fun _ _ _ h => h) (Or.inl ⟨by rfl, ?_⟩) (by assumption) ?_
            rotate_left
            · intro w hSw; go_split_ands; go_simp; try with_reducible rfl
            simp only [Act.put, List.setIfInBounds_toArray, List.set_cons_zero, List.set_cons_succ, List.getElem_toArray, List.getElem_cons_zero, List.getElem_cons_succ]
            refine wpAnyH_ready (rs := [16]) (by kernel_rfl) (by simp) ?_
            refine AllReadyH.cons rfl (fun K hK => ?_) AllReadyH.nil
            go_simp
            refine (non_at HV1.out _).mono ?_
            rintro e w' ⟨rfl, hb⟩
            have zb := below_on hHeld.2.2.2.2.2.2.2.2.2.2.2.2.2.2.2 hb
            refine hK.out _ _ ⟨(zb.cell (p := ⟨j0, 3, none⟩) NN.out.lt).trans n3, (zb.cell (p := ⟨w.heap.size, 3, none⟩) TT.out.bx.lt).trans t3, (zb.cell (p := ⟨g1, 3, none⟩) CI.out.bx.lt).trans c3, (zb.cell (p := ⟨P, Y * 5, none⟩) HSPq.out.2).trans y0, (zb.cell (p := ⟨P, Y * 5 + 1, none⟩) HSPq.out.2).trans y1, (zb.cell (p := ⟨P, Y * 5 + 2, none⟩) HSPq.out.2).trans y2, (zb.cell (p := ⟨P, Y * 5 + 3, none⟩) HSPq.out.2).trans y3, (zb.cell (p := ⟨sb, sp + Y * 5, none⟩) HSPq.out.1).trans x0, (zb.cell (p := ⟨sb, sp + Y * 5 + 1, none⟩) HSPq.out.1).trans x1, (zb.cell (p := ⟨sb, sp + Y * 5 + 2, none⟩) HSPq.out.1).trans x2, (zb.cell (p := ⟨sb, sp + Y * 5 + 3, none⟩) HSPq.out.1).trans x3, (zb.cell (p := ⟨sb, sp + F * 5, none⟩) HSPq.out.1).trans f0, (zb.cell (p := ⟨sb, sp + F * 5 + 1, none⟩) HSPq.out.1).trans f1, (zb.cell (p := ⟨sb, sp + F * 5 + 2, none⟩) HSPq.out.1).trans f2, (zb.cell (p := ⟨sb, sp + F * 5 + 3, none⟩) HSPq.out.1).trans f3, zb⟩ (fun hHeld => ?_)
            clear hK K
            try simp only [Act.put, List.setIfInBounds_toArray, List.set_cons_zero, List.set_cons_succ]
            refine wpAnyH_take (i := 17) (v := ?_) rfl (by kernel_rfl) (by kernel_rfl) (by kernel_rfl) (fun _ _ _ h => h) (Or.inl ⟨by rfl, ?_⟩) (by assumption) ?_
            rotate_left
            · intro w hSw; go_split_ands; go_simp; try with_reducible rfl
            simp only [Act.put, List.setIfInBounds_toArray, List.set_cons_zero, List.set_cons_succ, List.getElem_toArray, List.getElem_cons_zero, List.getElem_cons_succ]
            refine wpAnyH_take (i := 18) (v := ?_) rfl (by kernel_rfl) (by kernel_rfl) (by kernel_rfl) (fun _ _ _ h => h) (Or.inl ⟨by rfl, ?_⟩) (by assumption) ?_
            rotate_left
            · intro w hSw; go_split_ands; go_simp; try with_reducible rfl
            simp only [Act.put, List.setIfInBounds_toArray, List.set_cons_zero, List.set_cons_succ, List.getElem_toArray, List.getElem_cons_zero, List.getElem_cons_succ]
            refine wpAnyH_take (i := 19) (v := ?_) rfl (by kernel_rfl) (by kernel_rfl) (by kernel_rfl) (fun _ _ _ h => h) (Or.inl ⟨by rfl, ?_⟩) (by assumption) ?_
            rotate_left
            · intro w hSw; go_split_ands; go_simp; try with_reducible rfl
            simp only [Act.put, List.setIfInBounds_toArray, List.set_cons_zero, List.set_cons_succ, List.getElem_toArray, List.getElem_cons_zero, List.getElem_cons_succ]
            refine wpAnyH_take (i := 20) (v := ?_) rfl (by kernel_rfl) (by kernel_rfl) (by kernel_rfl) (fun _ _ _ h => h) (Or.inl ⟨by rfl, ?_⟩) (by assumption) ?_
            rotate_left
            · intro w hSw; go_split_ands; go_simp; try with_reducible rfl
            simp only [Act.put, List.setIfInBounds_toArray, List.set_cons_zero, List.set_cons_succ, List.getElem_toArray, List.getElem_cons_zero, List.getElem_cons_succ]
            refine wpAnyH_take (i := 21) (v := ?_) rfl (by kernel_rfl) (by kernel_rfl) (by kernel_rfl) (fun _ _ _ h => h) (Or.inl ⟨by rfl, ?_⟩) (by assumption) ?_
            rotate_left
            · intro w hSw; go_split_ands; go_simp; try with_reducible rfl
            simp only [Act.put, List.setIfInBounds_toArray, List.set_cons_zero, List.set_cons_succ, List.getElem_toArray, List.getElem_cons_zero, List.getElem_cons_succ]
            refine wpAnyH_take (i := 22) (v := ?_) rfl (by kernel_rfl) (by kernel_rfl) (by kernel_rfl) (fun _ _ _ h => h) (Or.inl ⟨by rfl, ?_⟩) (by assumption) ?_
            rotate_left
            · intro w hSw; go_split_ands; go_simp; try with_reducible rfl
            simp only [Act.put, List.setIfInBounds_toArray, List.set_cons_zero, List.set_cons_succ, List.getElem_toArray, List.getElem_cons_zero, List.getElem_cons_succ]
            refine wpAnyH_take (i := 23) (v := ?_) rfl (by kernel_rfl) (by kernel_rfl) (by kernel_rfl) (fun _ _ _ h => h) (Or.inl ⟨by rfl, ?_⟩) (by assumption) ?_
            rotate_left
            · intro w hSw; go_split_ands; go_simp; try with_reducible rfl
            simp only [Act.put, List.setIfInBounds_toArray, List.set_cons_zero, List.set_cons_succ, List.getElem_toArray, List.getElem_cons_zero, List.getElem_cons_succ]
            refine wpAnyH_take (i := 24) (v := ?_) rfl (by kernel_rfl) (by kernel_rfl) (by kernel_rfl) (fun _ _ _ h => h) (Or.inl ⟨by rfl, ?_⟩) (by assumption) ?_
            rotate_left
            · intro w hSw; go_split_ands; go_simp; try with_reducible rfl
            simp only [Act.put, List.setIfInBounds_toArray, List.set_cons_zero, List.set_cons_succ, List.getElem_toArray, List.getElem_cons_zero, List.getElem_cons_succ]
            refine wpAnyH_take (i := 25) (v := ?_) rfl (by kernel_rfl) (by kernel_rfl) (by kernel_rfl) (fun _ _ _ h => h) (Or.inl ⟨by rfl, ?_⟩) (by assumption) ?_
            rotate_left
            · intro w hSw; go_split_ands; go_simp; try with_reducible rfl
            simp only [Act.put, List.setIfInBounds_toArray, List.set_cons_zero, List.set_cons_succ, List.getElem_toArray, List.getElem_cons_zero, List.getElem_cons_succ]
            refine wpAnyH_take (i := 26) (v := ?_) rfl (by kernel_rfl) (by kernel_rfl) (by kernel_rfl) (fun _ _ _ h => h) (Or.inl ⟨by rfl, ?_⟩) (by assumption) ?_
            rotate_left
            · intro w hSw; go_split_ands; go_simp; try with_reducible rfl
            simp only [Act.put, List.setIfInBounds_toArray, List.set_cons_zero, List.set_cons_succ, List.getElem_toArray, List.getElem_cons_zero, List.getElem_cons_succ]
            refine wpAnyH_take (i := 27) (v := ?_) rfl (by kernel_rfl) (by kernel_rfl) (by kernel_rfl) (fun _ _ _ h => h) (Or.inl ⟨by rfl, ?_⟩) (by assumption) ?_
            rotate_left
            · intro w hSw; go_split_ands; go_simp; try with_reducible rfl
            simp only [Act.put, List.setIfInBounds_toArray, List.set_cons_zero, List.set_cons_succ, List.getElem_toArray, List.getElem_cons_zero, List.getElem_cons_succ]
            refine wpAnyH_take (i := 28) (v := ?_) rfl (by kernel_rfl) (by kernel_rfl) (by kernel_rfl) (fun _ _ _ h => h) (Or.inl ⟨by rfl, ?_⟩) (by assumption) ?_
            rotate_left
            · intro w hSw; go_split_ands; go_simp; try with_reducible rfl
            simp only [Act.put, List.setIfInBounds_toArray, List.set_cons_zero, List.set_cons_succ, List.getElem_toArray, List.getElem_cons_zero, List.getElem_cons_succ]
            refine wpAnyH_take (i := 29) (v := ?_) rfl (by kernel_rfl) (by kernel_rfl) (by kernel_rfl) (fun _ _ _ h => h) (Or.inl ⟨by rfl, ?_⟩) (by assumption) ?_
            rotate_left
            · intro w hSw; go_split_ands; go_simp; try with_reducible rfl
            simp only [Act.put, List.setIfInBounds_toArray, List.set_cons_zero, List.set_cons_succ, List.getElem_toArray, List.getElem_cons_zero, List.getElem_cons_succ]
            refine wpAnyH_take (i := 30) (v := ?_) rfl (by kernel_rfl) (by kernel_rfl) (by kernel_rfl) (fun _ _ _ h => h) (Or.inl ⟨by rfl, ?_⟩) (by assumption) ?_
            rotate_left
            · intro w hSw; go_split_ands; go_simp; try with_reducible rfl
            simp only [Act.put, List.setIfInBounds_toArray, List.set_cons_zero, List.set_cons_succ, List.getElem_toArray, List.getElem_cons_zero, List.getElem_cons_succ]
            refine wpAnyH_take (i := 31) (v := ?_) rfl (by kernel_rfl) (by kernel_rfl) (by kernel_rfl) (fun _ _ _ h => h) (Or.inl ⟨by rfl, ?_⟩) (by assumption) ?_
            rotate_left
            · intro w hSw; go_split_ands; go_simp; try with_reducible rfl
            simp only [Act.put, List.setIfInBounds_toArray, List.set_cons_zero, List.set_cons_succ, List.getElem_toArray, List.getElem_cons_zero, List.getElem_cons_succ]
            refine wpAnyH_ready (rs := [32]) (by kernel_rfl) (by simp) ?_
            refine AllReadyH.cons rfl (fun K hK => ?_) AllReadyH.nil
            go_simp
            refine (cless_any ⟨uy, uh, ur, ub⟩ ⟨fy, fh, fr, fb⟩ _).mono ?_
            rintro e w' ⟨rfl, hb⟩
            rw [HLESS.out]
            have zb := below_on hHeld.2.2.2.2.2.2.2.2.2.2.2.2.2.2.2 hb
            refine hK.out _ _ ⟨(zb.cell (p := ⟨j0, 3, none⟩) NN.out.lt).trans n3, (zb.cell (p := ⟨w.heap.size, 3, none⟩) TT.out.bx.lt).trans t3, (zb.cell (p := ⟨g1, 3, none⟩) CI.out.bx.lt).trans c3, (zb.cell (p := ⟨P, Y * 5, none⟩) HSPq.out.2).trans y0, (zb.cell (p := ⟨P, Y * 5 + 1, none⟩) HSPq.out.2).trans y1, (zb.cell (p := ⟨P, Y * 5 + 2, none⟩) HSPq.out.2).trans y2, (zb.cell (p := ⟨P, Y * 5 + 3, none⟩) HSPq.out.2).trans y3, (zb.cell (p := ⟨sb, sp + Y * 5, none⟩) HSPq.out.1).trans x0, (zb.cell (p := ⟨sb, sp + Y * 5 + 1, none⟩) HSPq.out.1).trans x1, (zb.cell (p := ⟨sb, sp + Y * 5 + 2, none⟩) HSPq.out.1).trans x2, (zb.cell (p := ⟨sb, sp + Y * 5 + 3, none⟩) HSPq.out.1).trans x3, (zb.cell (p := ⟨sb, sp + F * 5, none⟩) HSPq.out.1).trans f0, (zb.cell (p := ⟨sb, sp + F * 5 + 1, none⟩) HSPq.out.1).trans f1, (zb.cell (p := ⟨sb, sp + F * 5 + 2, none⟩) HSPq.out.1).trans f2, (zb.cell (p := ⟨sb, sp + F * 5 + 3, none⟩) HSPq.out.1).trans f3, zb⟩ (fun hHeld => ?_)
            clear hK K
            try simp only [Act.put, List.setIfInBounds_toArray, List.set_cons_zero, List.set_cons_succ]
            refine wpAnyH_take (i := 33) (v := ?_) rfl (by kernel_rfl) (by kernel_rfl) (by kernel_rfl) (fun _ _ _ h => h) (Or.inl ⟨by rfl, ?_⟩) (by assumption) ?_
            rotate_left
            · intro w hSw; go_split_ands; go_simp; try with_reducible rfl
            simp only [Act.put, List.setIfInBounds_toArray, List.set_cons_zero, List.set_cons_succ, List.getElem_toArray, List.getElem_cons_zero, List.getElem_cons_succ]
            refine wpAnyH_take (i := 34) (v := ?_) rfl (by kernel_rfl) (by kernel_rfl) (by kernel_rfl) (fun _ _ _ h => h) (Or.inl ⟨by rfl, ?_⟩) (by assumption) ?_
            rotate_left
            · intro w hSw; go_split_ands; go_simp; try with_reducible rfl
            simp only [Act.put, List.setIfInBounds_toArray, List.set_cons_zero, List.set_cons_succ, List.getElem_toArray, List.getElem_cons_zero, List.getElem_cons_succ]
            refine wpAnyH_take (i := 35) (v := ?_) rfl (by kernel_rfl) (by kernel_rfl) (by kernel_rfl) (fun _ _ _ h => h) (Or.inl ⟨by rfl, ?_⟩) (by assumption) ?_
            rotate_left
            · intro w hSw; go_split_ands; go_simp; try with_reducible rfl
            simp only [Act.put, List.setIfInBounds_toArray, List.set_cons_zero, List.set_cons_succ, List.getElem_toArray, List.getElem_cons_zero, List.getElem_cons_succ]
            refine wpAnyH_take (i := 36) (v := ?_) rfl (by kernel_rfl) (by kernel_rfl) (by kernel_rfl) (fun _ _ _ h => h) (Or.inl ⟨by rfl, ?_⟩) (by assumption) ?_
            rotate_left
            · intro w hSw; go_split_ands; go_simp; try with_reducible rfl
            simp only [Act.put, List.setIfInBounds_toArray, List.set_cons_zero, List.set_cons_succ, List.getElem_toArray, List.getElem_cons_zero, List.getElem_cons_succ]
            refine wpAnyH_take (i := 37) (v := ?_) rfl (by kernel_rfl) (by kernel_rfl) (by kernel_rfl) (fun _ _ _ h => h) (Or.inl ⟨by rfl, ?_⟩) (by assumption) ?_
            rotate_left
            · intro w hSw; go_split_ands; go_simp; try with_reducible rfl
            simp only [Act.put, List.setIfInBounds_toArray, List.set_cons_zero, List.set_cons_succ, List.getElem_toArray, List.getElem_cons_zero, List.getElem_cons_succ]
            refine wpAnyH_take (i := 38) (v := ?_) rfl (by kernel_rfl) (by kernel_rfl) (by kernel_rfl) (fun _ _ _ h => h) (Or.inl ⟨by rfl, ?_⟩) (by assumption) ?_
            rotate_left
            · intro w hSw; go_split_ands; go_simp; try with_reducible rfl
            simp only [Act.put, List.setIfInBounds_toArray, List.set_cons_zero, List.set_cons_succ, List.getElem_toArray, List.getElem_cons_zero, List.getElem_cons_succ]
            refine wpAnyH_take (i := 39) (v := ?_) rfl (by kernel_rfl) (by kernel_rfl) (by kernel_rfl) (fun _ _ _ h => h) (Or.inl ⟨by rfl, ?_⟩) (by assumption) ?_
            rotate_left
            · intro w hSw; go_split_ands; go_simp; try with_reducible rfl
            simp only [Act.put, List.setIfInBounds_toArray, List.set_cons_zero, List.set_cons_succ, List.getElem_toArray, List.getElem_cons_zero, List.getElem_cons_succ]
            refine wpAnyH_take (i := 40) (v := ?_) rfl (by kernel_rfl) (by kernel_rfl) (by kernel_rfl) (fun _ _ _ h => h) (Or.inl ⟨by rfl, ?_⟩) (by assumption) ?_
            rotate_left
            · intro w hSw; go_split_ands; go_simp; try with_reducible rfl
            simp only [Act.put, List.setIfInBounds_toArray, List.set_cons_zero, List.set_cons_succ, List.getElem_toArray, List.getElem_cons_zero, List.getElem_cons_succ]
            refine wpAnyH_take (i := 41) (v := ?_) rfl (by kernel_rfl) (by kernel_rfl) (by kernel_rfl) (fun _ _ _ h => h) (Or.inl ⟨by rfl, ?_⟩) (by assumption) ?_
            rotate_left
            · intro w hSw; go_split_ands; go_simp; try with_reducible rfl
            simp only [Act.put, List.setIfInBounds_toArray, List.set_cons_zero, List.set_cons_succ, List.getElem_toArray, List.getElem_cons_zero, List.getElem_cons_succ]
            refine wpAnyH_take (i := 42) (v := ?_) rfl (by kernel_rfl) (by kernel_rfl) (by kernel_rfl) (fun _ _ _ h => h) (Or.inl ⟨by rfl, ?_⟩) (by assumption) ?_
            rotate_left
            · intro w hSw; go_split_ands; go_simp; try with_reducible rfl
            simp only [Act.put, List.setIfInBounds_toArray, List.set_cons_zero, List.set_cons_succ, List.getElem_toArray, List.getElem_cons_zero, List.getElem_cons_succ]
            refine wpAnyH_take (i := 43) (v := ?_) rfl (by kernel_rfl) (by kernel_rfl) (by kernel_rfl) (fun _ _ _ h => h) (Or.inl ⟨by rfl, ?_⟩) (by assumption) ?_
            rotate_left
            · intro w hSw; go_split_ands; go_simp; try with_reducible rfl
            simp only [Act.put, List.setIfInBounds_toArray, List.set_cons_zero, List.set_cons_succ, List.getElem_toArray, List.getElem_cons_zero, List.getElem_cons_succ]
            refine wpAnyH_take (i := 44) (v := ?_) rfl (by kernel_rfl) (by kernel_rfl) (by kernel_rfl) (fun _ _ _ h => h) (Or.inl ⟨by rfl, ?_⟩) (by assumption) ?_
            rotate_left
            · intro w hSw; go_split_ands; go_simp; try with_reducible rfl
            simp only [Act.put, List.setIfInBounds_toArray, List.set_cons_zero, List.set_cons_succ, List.getElem_toArray, List.getElem_cons_zero, List.getElem_cons_succ]
            refine wpAnyH_take (i := 45) (v := ?_) rfl (by kernel_rfl) (by kernel_rfl) (by kernel_rfl) (fun _ _ _ h => h) (Or.inl ⟨by rfl, ?_⟩) (by assumption) ?_
            rotate_left
            · intro w hSw; go_split_ands; go_simp; try with_reducible rfl
            simp only [Act.put, List.setIfInBounds_toArray, List.set_cons_zero, List.set_cons_succ, List.getElem_toArray, List.getElem_cons_zero, List.getElem_cons_succ]
            refine wpAnyH_take (i := 46) (v := ?_) rfl (by kernel_rfl) (by kernel_rfl) (by kernel_rfl) (fun _ _ _ h => h) (Or.inl ⟨by rfl, ?_⟩) (by assumption) ?_
            rotate_left
            · intro w hSw; go_split_ands; go_simp; try with_reducible rfl
            simp only [Act.put, List.setIfInBounds_toArray, List.set_cons_zero, List.set_cons_succ, List.getElem_toArray, List.getElem_cons_zero, List.getElem_cons_succ]
            refine wpAnyH_take (i := 47) (v := ?_) rfl (by kernel_rfl) (by kernel_rfl) (by kernel_rfl) (fun _ _ _ h => h) (Or.inl ⟨by rfl, ?_⟩) (by assumption) ?_
            rotate_left
            · intro w hSw; go_split_ands; go_simp; try with_reducible rfl
            simp only [Act.put, List.setIfInBounds_toArray, List.set_cons_zero, List.set_cons_succ, List.getElem_toArray, List.getElem_cons_zero, List.getElem_cons_succ]
            refine wpAnyH_done (by kernel_rfl) ?_ _
            have HB4 := Lib.hid (below_on HB3.out hHeld.2.2.2.2.2.2.2.2.2.2.2.2.2.2.2)
            clear hHeld hbits
            go_wp2
            go_roundg (n - (Y + 1))
            case measure => have := HK.out; have := HLT.out; omega
            case rel => exact ⟨Y + 1, by have := HLT.out; omega, by rw [(nws_at Y).2], by first | go_num | exact congrArg _ HWI.out, HB4.out⟩
end Go.Proofs.Ytfoklgenpafciaa
