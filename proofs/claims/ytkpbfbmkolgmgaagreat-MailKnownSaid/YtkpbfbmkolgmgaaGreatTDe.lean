/-
  The walks of give's answer and Do. Condition: the state and the call's ways lie in memory.
-/
import Derived.Test.YtkpbfbmkolgmgaaGreatTDd
namespace Go.Proofs.YtkpbfbmkolgmgaaGreat
open Go.RowKit
set_option linter.unusedSimpArgs false
set_option linter.unusedVariables false

def ganswer (s : St) (t : Int) (c : Cl) : Option St × Int :=
  if ¬ (2 ≤ c.op ∧ c.op ≤ 4 ∧ cgood c = true) then (none, 1)
  else if (fcap s t c.a).2.2 ≠ 0 then (none, (fcap s t c.a).2.2)
  else if (ggiven (fcap s t c.a).2.1 c.op c.x c.y).2 ≠ 0 then (none, (ggiven (fcap s t c.a).2.1 c.op c.x c.y).2)
  else if (fempty s t c.b).2 ≠ 0 then (none, (fempty s t c.b).2)
  else if c.op = 4 then gmove s (fcap s t c.a).1.toNat (fempty s t c.b).1.toNat
  else gput s (fcap s t c.a).1 (fempty s t c.b).1 (ggiven (fcap s t c.a).2.1 c.op c.x c.y).1
def gdo (s : St) (t : Int) (c : Cl) : Option St × Rep := ((ganswer s t c).1, ⟨(ganswer s t c).2, 0, 0⟩)
theorem Fsh.ans {w w4 w5 w6 : World} {a b c : Int} {A : Option Addr} {n ca : Nat} {C : Option Addr} {m cc : Nat} {r : Option St × Int} {A' : Option Addr} {ca' : Nat} {C' : Option Addr} {cc' g : Nat} (h : match r.1 with | none => A' = A ∧ ca' = ca ∧ C' = C ∧ cc' = cc | some s' => n ≤ ca' ∧ m ≤ cc' ∧ Fsh w4 w5 s' A' C')
    (f : Fnd w5 w6 g) (hg : g < w4.heap.size) (hw : w.heap.size ≤ w4.heap.size) (hb : Below w.heap.size w w6) : AnsF w w6 (.returned (.tuple #[.agg #[.int .i64 a, .int .i64 b, .int .i64 c, .slice A' n ca', .slice C' m cc'], .int .i64 r.2])) a b c A n ca C m cc r := by
  refine ⟨A', ca', C', cc', rfl, hb, ?_⟩
  obtain ⟨_ | s', e⟩ := r
  · exact h
  · exact ⟨h.1, h.2.1, (h.2.2.fnd f hg).base hw⟩
set_option maxRecDepth 100000 in
set_option maxHeartbeats 16000000 in
theorem gans_is {s : St} {a b c : Int} {A C : Option Addr} {n ca m cc : Nat} {t o x y : Int} {PA PB : Option Addr} {na cpa nb cpb z : Nat} {la lb : List Int} {r : Option St × Int} {w : World} (hS : StH w s a b c A n ca C m cc) (hna : na = la.length) (hcpa : na ≤ cpa) (hA : IntsAt w w.heap.size PA la) (hnb : nb = lb.length) (hcpb : nb ≤ cpb) (hB : IntsAt w w.heap.size PB lb) (hr : ganswer s t ⟨o, la, lb, x, y, z⟩ = r) :
    Calls Tryz.prog 67 #[.agg #[.int .i64 a, .int .i64 b, .int .i64 c, .slice A n ca, .slice C m cc], .int .i64 t, .agg #[.int .i64 o, .slice PA na cpa, .slice PB nb cpb, .int .i64 x, .int .i64 y, .int .u64 (z : Int)]] w fun e w' => AnsF w w' e a b c A n ca C m cc r := by
  obtain ⟨k1, k2, k3⟩ := boxes3 w [.int .i64 a, .int .i64 b, .int .i64 c, .slice A n ca, .slice C m cc] [.int .i64 o, .slice PA na cpa, .slice PB nb cpb, .int .i64 x, .int .i64 y, .int .u64 (z : Int)] [.int .i64 0, .int .i64 0, .int .i64 0, .slice none 0 0, .slice none 0 0] 27 33 27
  obtain ⟨g1, hg1⟩ : ∃ g1, g1 = w.heap.size + 1 := ⟨_, rfl⟩
  obtain ⟨g2, hg2⟩ : ∃ g2, g2 = w.heap.size + 1 + 1 := ⟨_, rfl⟩
  have HS := Lib.hid hS
  have HNA := Lib.hid hna
  have HNB := Lib.hid hnb
  have HCPA := Lib.hid hcpa
  have HCPB := Lib.hid hcpb
  have HA := Lib.hid hA
  have HB := Lib.hid hB
  have HR := Lib.hid hr
  clear hS hna hnb hcpa hcpb hA hB hr
  go_enter Tryz.func67, Tryz.ntmps67
  go_upto_region 1 with fail
  rw [← hg2] at k3 ⊢
  rw [← hg1] at k2 ⊢
  clear hg1 hg2
  generalize ((w.alloc _).alloc _).alloc _ = w3 at k1 k2 k3 ⊢
  have K1 := Lib.hid k1
  have K2 := Lib.hid k2
  have K3 := Lib.hid k3
  clear k1 k2 k3
  have c0 := K2.out.bx.c 0 _ rfl
  by_cases h1 : o < 2
  · have HX : Hid (r = (none, 1)) := Lib.hid (by rw [← HR.out, ganswer, if_pos (show ¬ (2 ≤ o ∧ o ≤ 4 ∧ cgood ⟨o, la, lb, x, y, z⟩ = true) from fun q => by omega)])
    have h1' : decide (o < 2) = true := decide_eq_true h1
    have t0 := K1.out.bx.c 0 _ rfl
    have t1 := K1.out.bx.c 1 _ rfl
    have t2 := K1.out.bx.c 2 _ rfl
    have t3 := K1.out.bx.c 3 _ rfl
    have t4 := K1.out.bx.c 4 _ rfl
    have HT : Hid (w3.there g2 0 (#[.int .i64 a, .int .i64 b, .int .i64 c, .slice A n ca, .slice C m cc] : Array Value).size) := Lib.hid (K3.out.there (n := 5) rfl)
    have HO := Lib.hid (state_one a b c A n ca C m cc)
    have kq := K3.out.setCells (vs := [.int .i64 a, .int .i64 b, .int .i64 c, .slice A n ca, .slice C m cc]) rfl
    go_wp2_with ((with_reducible change wpList _ _ _ _ _ _); refine wpList_store_mid (by rfl) 27 (.tmp 6) (.tmp 26) (by rfl) g2 0 #[.int .i64 a, .int .i64 b, .int .i64 c, .slice A n ca, .slice C m cc] (by rfl) (by rfl) HT.out info_state HO.out ?_; change wpList _ _ _ _ _ (w3.setCells g2 0 [.int .i64 a, .int .i64 b, .int .i64 c, .slice A n ca, .slice C m cc]); generalize w3.setCells g2 0 _ = wq at kq ⊢)
    refine bodyPost_ret (results_ct rfl _ _ _ (b := g2) (by rfl) kq.bx.range Tryz.underlying27 rfl info_state) rfl ?_
    rw [HX.out]
    exact ⟨A, ca, C, cc, rfl, kq.bx.old, rfl, rfl, rfl, rfl⟩
  have h1' : decide (o < 2) = false := decide_eq_false h1
  by_cases h2 : 4 < o
  · have HX : Hid (r = (none, 1)) := Lib.hid (by rw [← HR.out, ganswer, if_pos (show ¬ (2 ≤ o ∧ o ≤ 4 ∧ cgood ⟨o, la, lb, x, y, z⟩ = true) from fun q => by omega)])
    have h2' : decide (4 < o) = true := decide_eq_true h2
    have t0 := K1.out.bx.c 0 _ rfl
    have t1 := K1.out.bx.c 1 _ rfl
    have t2 := K1.out.bx.c 2 _ rfl
    have t3 := K1.out.bx.c 3 _ rfl
    have t4 := K1.out.bx.c 4 _ rfl
    have HT : Hid (w3.there g2 0 (#[.int .i64 a, .int .i64 b, .int .i64 c, .slice A n ca, .slice C m cc] : Array Value).size) := Lib.hid (K3.out.there (n := 5) rfl)
    have HO := Lib.hid (state_one a b c A n ca C m cc)
    have kq := K3.out.setCells (vs := [.int .i64 a, .int .i64 b, .int .i64 c, .slice A n ca, .slice C m cc]) rfl
    go_wp2_with ((with_reducible change wpList _ _ _ _ _ _); refine wpList_store_mid (by rfl) 27 (.tmp 6) (.tmp 26) (by rfl) g2 0 #[.int .i64 a, .int .i64 b, .int .i64 c, .slice A n ca, .slice C m cc] (by rfl) (by rfl) HT.out info_state HO.out ?_; change wpList _ _ _ _ _ (w3.setCells g2 0 [.int .i64 a, .int .i64 b, .int .i64 c, .slice A n ca, .slice C m cc]); generalize w3.setCells g2 0 _ = wq at kq ⊢)
    refine bodyPost_ret (results_ct rfl _ _ _ (b := g2) (by rfl) kq.bx.range Tryz.underlying27 rfl info_state) rfl ?_
    rw [HX.out]
    exact ⟨A, ca, C, cc, rfl, kq.bx.old, rfl, rfl, rfl, rfl⟩
  have h2' : decide (4 < o) = false := decide_eq_false h2
  have HO12 : Hid (2 ≤ o ∧ o ≤ 4) := Lib.hid ⟨by omega, by omega⟩
  clear h1 h2
  have c1 := K2.out.bx.c 1 _ rfl
  have c2 := K2.out.bx.c 2 _ rfl
  have c3 := K2.out.bx.c 3 _ rfl
  have c4 := K2.out.bx.c 4 _ rfl
  have c5 := K2.out.bx.c 5 _ rfl
  obtain ⟨z1, hz1⟩ : ∃ z1, cgood ⟨o, la, lb, x, y, z⟩ = z1 := ⟨_, rfl⟩
  have HZ1 := Lib.hid hz1
  go_wp2_with fail
  refine (clcgood_at HNA.out (HA.out.on K1.out.bx.old) HNB.out (HB.out.on K1.out.bx.old) hz1).mono ?_
  rintro e w4 ⟨rfl, hb⟩
  replace K1 := Lib.hid (K1.out.on hb)
  replace K2 := Lib.hid (K2.out.on hb)
  replace K3 := Lib.hid (K3.out.on hb)
  clear hb hz1 c0 c1 c2 c3 c4 c5
  cases z1 with
  | false =>
    have HX : Hid (r = (none, 1)) := Lib.hid (by rw [← HR.out, ganswer, if_pos (show ¬ (2 ≤ o ∧ o ≤ 4 ∧ cgood ⟨o, la, lb, x, y, z⟩ = true) from fun q => by rw [HZ1.out] at q; exact absurd q.2.2 (by decide))])
    have t0 := K1.out.bx.c 0 _ rfl
    have t1 := K1.out.bx.c 1 _ rfl
    have t2 := K1.out.bx.c 2 _ rfl
    have t3 := K1.out.bx.c 3 _ rfl
    have t4 := K1.out.bx.c 4 _ rfl
    have HT : Hid (w4.there g2 0 (#[.int .i64 a, .int .i64 b, .int .i64 c, .slice A n ca, .slice C m cc] : Array Value).size) := Lib.hid (K3.out.there (n := 5) rfl)
    have HO := Lib.hid (state_one a b c A n ca C m cc)
    have kq := K3.out.setCells (vs := [.int .i64 a, .int .i64 b, .int .i64 c, .slice A n ca, .slice C m cc]) rfl
    go_wp2_with ((with_reducible change wpList _ _ _ _ _ _); refine wpList_store_mid (by rfl) 27 (.tmp 6) (.tmp 26) (by rfl) g2 0 #[.int .i64 a, .int .i64 b, .int .i64 c, .slice A n ca, .slice C m cc] (by rfl) (by rfl) HT.out info_state HO.out ?_; change wpList _ _ _ _ _ (w4.setCells g2 0 [.int .i64 a, .int .i64 b, .int .i64 c, .slice A n ca, .slice C m cc]); generalize w4.setCells g2 0 _ = wq at kq ⊢)
    refine bodyPost_ret (results_ct rfl _ _ _ (b := g2) (by rfl) kq.bx.range Tryz.underlying27 rfl info_state) rfl ?_
    rw [HX.out]
    exact ⟨A, ca, C, cc, rfl, kq.bx.old, rfl, rfl, rfl, rfl⟩
  | true =>
    have HR1 : Hid (r = if (fcap s t la).2.2 ≠ 0 then (none, (fcap s t la).2.2) else if (ggiven (fcap s t la).2.1 o x y).2 ≠ 0 then (none, (ggiven (fcap s t la).2.1 o x y).2) else if (fempty s t lb).2 ≠ 0 then (none, (fempty s t lb).2) else if o = 4 then gmove s (fcap s t la).1.toNat (fempty s t lb).1.toNat else gput s (fcap s t la).1 (fempty s t lb).1 (ggiven (fcap s t la).2.1 o x y).1) := Lib.hid (by rw [← HR.out, ganswer, if_neg (show ¬ ¬ (2 ≤ o ∧ o ≤ 4 ∧ cgood ⟨o, la, lb, x, y, z⟩ = true) from fun q => q ⟨HO12.out.1, HO12.out.2, HZ1.out⟩)])
    clear HR HZ1 h1' h2'
    obtain ⟨x1, ⟨hy, hh, hri, hba⟩, e1, hfc⟩ : ∃ x1 k1 e1, fcap s t la = (x1, k1, e1) := ⟨_, _, _, rfl⟩
    have HFC := Lib.hid hfc
    rw [hfc] at HR1
    clear hfc
    have t0 := K1.out.bx.c 0 _ rfl
    have t1 := K1.out.bx.c 1 _ rfl
    have t2 := K1.out.bx.c 2 _ rfl
    have t3 := K1.out.bx.c 3 _ rfl
    have t4 := K1.out.bx.c 4 _ rfl
    have c1 := K2.out.bx.c 1 _ rfl
    go_wp2_with fail
    refine (fcap_is (HS.out.on K1.out.bx.old) HNA.out HCPA.out (HA.out.on K1.out.bx.old) HFC.out).mono ?_
    rintro e w5 ⟨rfl, hb⟩
    simp only [Cp.val]
    replace K1 := Lib.hid (K1.out.on hb)
    replace K2 := Lib.hid (K2.out.on hb)
    replace K3 := Lib.hid (K3.out.on hb)
    clear hb t0 t1 t2 t3 t4 c1
    go_upto_region 4 with fail
    have N := Wbs.more K1.out.bx.old [.int .i64 hy, .int .i64 hh, .int .i64 hri, .int .i64 hba] 62
    have hal := below_alloc w5 (.cells #[.int .i64 hy, .int .i64 hh, .int .i64 hri, .int .i64 hba] 62)
    replace K1 := Lib.hid (K1.out.on hal)
    replace K2 := Lib.hid (K2.out.on hal)
    replace K3 := Lib.hid (K3.out.on hal)
    clear hal
    obtain ⟨g9, hg9⟩ : ∃ g9, g9 = w5.heap.size := ⟨_, rfl⟩
    rw [← hg9] at N ⊢
    clear hg9
    generalize w5.alloc _ = w6 at N K1 K2 K3 ⊢
    have N9 := Lib.hid N
    clear N
    by_cases h3 : e1 = 0
    case neg =>
      have HX : Hid (r = (none, e1)) := Lib.hid (by rw [HR1.out, if_pos h3])
      have h3' : (e1 != 0) = true := by simpa using h3
      have t0 := K1.out.bx.c 0 _ rfl
      have t1 := K1.out.bx.c 1 _ rfl
      have t2 := K1.out.bx.c 2 _ rfl
      have t3 := K1.out.bx.c 3 _ rfl
      have t4 := K1.out.bx.c 4 _ rfl
      have HT : Hid (w6.there g2 0 (#[.int .i64 a, .int .i64 b, .int .i64 c, .slice A n ca, .slice C m cc] : Array Value).size) := Lib.hid (K3.out.there (n := 5) rfl)
      have HO := Lib.hid (state_one a b c A n ca C m cc)
      have kq := K3.out.setCells (vs := [.int .i64 a, .int .i64 b, .int .i64 c, .slice A n ca, .slice C m cc]) rfl
      go_wp2_with ((with_reducible change wpList _ _ _ _ _ _); refine wpList_store_mid (by rfl) 27 (.tmp 6) (.tmp 38) (by rfl) g2 0 #[.int .i64 a, .int .i64 b, .int .i64 c, .slice A n ca, .slice C m cc] (by rfl) (by rfl) HT.out info_state HO.out ?_; change wpList _ _ _ _ _ (w6.setCells g2 0 [.int .i64 a, .int .i64 b, .int .i64 c, .slice A n ca, .slice C m cc]); generalize w6.setCells g2 0 _ = wq at kq ⊢)
      refine bodyPost_ret (results_ct rfl _ _ _ (b := g2) (by rfl) kq.bx.range Tryz.underlying27 rfl info_state) rfl ?_
      rw [HX.out]
      exact ⟨A, ca, C, cc, rfl, kq.bx.old, rfl, rfl, rfl, rfl⟩
    subst h3
    simp only [ne_eq, not_true_eq_false, if_false] at HR1
    obtain ⟨⟨u1, u2, u3, u4⟩, e2, hgv⟩ : ∃ k e2, ggiven ⟨hy, hh, hri, hba⟩ o x y = (k, e2) := ⟨_, _, rfl⟩
    have HGV := Lib.hid hgv
    rw [hgv] at HR1
    clear hgv
    have n0 := N9.out.bx.c 0 _ rfl
    have n1 := N9.out.bx.c 1 _ rfl
    have n2 := N9.out.bx.c 2 _ rfl
    have n3 := N9.out.bx.c 3 _ rfl
    have c0 := K2.out.bx.c 0 _ rfl
    have c1 := K2.out.bx.c 1 _ rfl
    have c2 := K2.out.bx.c 2 _ rfl
    have c3 := K2.out.bx.c 3 _ rfl
    have c4 := K2.out.bx.c 4 _ rfl
    have c5 := K2.out.bx.c 5 _ rfl
    go_wp2_with fail
    refine (given_is HGV.out w6).mono ?_
    rintro e w7 ⟨rfl, hb⟩
    simp only [Cp.val]
    replace K1 := Lib.hid (K1.out.on hb)
    replace K2 := Lib.hid (K2.out.on hb)
    replace K3 := Lib.hid (K3.out.on hb)
    clear hb n0 n1 n2 n3 c0 c1 c2 c3 c4 c5 N9
    go_upto_region 7 with fail
    have N := Wbs.more K1.out.bx.old [.int .i64 u1, .int .i64 u2, .int .i64 u3, .int .i64 u4] 62
    have hal := below_alloc w7 (.cells #[.int .i64 u1, .int .i64 u2, .int .i64 u3, .int .i64 u4] 62)
    replace K1 := Lib.hid (K1.out.on hal)
    replace K2 := Lib.hid (K2.out.on hal)
    replace K3 := Lib.hid (K3.out.on hal)
    clear hal
    obtain ⟨g11, hg11⟩ : ∃ g11, g11 = w7.heap.size := ⟨_, rfl⟩
    rw [← hg11] at N ⊢
    clear hg11
    generalize w7.alloc _ = w8 at N K1 K2 K3 ⊢
    have N11 := Lib.hid N
    clear N
    by_cases h4 : e2 = 0
    case neg =>
      have HX : Hid (r = (none, e2)) := Lib.hid (by rw [HR1.out]; exact if_pos h4)
      have h4' : (e2 != 0) = true := by simpa using h4
      have t0 := K1.out.bx.c 0 _ rfl
      have t1 := K1.out.bx.c 1 _ rfl
      have t2 := K1.out.bx.c 2 _ rfl
      have t3 := K1.out.bx.c 3 _ rfl
      have t4 := K1.out.bx.c 4 _ rfl
      have HT : Hid (w8.there g2 0 (#[.int .i64 a, .int .i64 b, .int .i64 c, .slice A n ca, .slice C m cc] : Array Value).size) := Lib.hid (K3.out.there (n := 5) rfl)
      have HO := Lib.hid (state_one a b c A n ca C m cc)
      have kq := K3.out.setCells (vs := [.int .i64 a, .int .i64 b, .int .i64 c, .slice A n ca, .slice C m cc]) rfl
      go_wp2_with ((with_reducible change wpList _ _ _ _ _ _); refine wpList_store_mid (by rfl) 27 (.tmp 6) (.tmp 48) (by rfl) g2 0 #[.int .i64 a, .int .i64 b, .int .i64 c, .slice A n ca, .slice C m cc] (by rfl) (by rfl) HT.out info_state HO.out ?_; change wpList _ _ _ _ _ (w8.setCells g2 0 [.int .i64 a, .int .i64 b, .int .i64 c, .slice A n ca, .slice C m cc]); generalize w8.setCells g2 0 _ = wq at kq ⊢)
      refine bodyPost_ret (results_ct rfl _ _ _ (b := g2) (by rfl) kq.bx.range Tryz.underlying27 rfl info_state) rfl ?_
      rw [HX.out]
      exact ⟨A, ca, C, cc, rfl, kq.bx.old, rfl, rfl, rfl, rfl⟩
    subst h4
    simp only [not_true_eq_false, if_false] at HR1
    obtain ⟨x3, e3, hfe⟩ : ∃ x3 e3, fempty s t lb = (x3, e3) := ⟨_, _, rfl⟩
    have HFE := Lib.hid hfe
    rw [hfe] at HR1
    clear hfe
    have t0 := K1.out.bx.c 0 _ rfl
    have t1 := K1.out.bx.c 1 _ rfl
    have t2 := K1.out.bx.c 2 _ rfl
    have t3 := K1.out.bx.c 3 _ rfl
    have t4 := K1.out.bx.c 4 _ rfl
    have c2 := K2.out.bx.c 2 _ rfl
    go_wp2_with fail
    refine (empty_is (HS.out.on K1.out.bx.old) HNB.out HCPB.out (HB.out.on K1.out.bx.old) HFE.out).mono ?_
    rintro e w9 ⟨rfl, hb⟩
    replace K1 := Lib.hid (K1.out.on hb)
    replace K2 := Lib.hid (K2.out.on hb)
    replace K3 := Lib.hid (K3.out.on hb)
    replace N11 := Lib.hid (N11.out.on hb)
    clear hb t0 t1 t2 t3 t4 c2
    go_upto_region 10 with fail
    by_cases h5 : e3 = 0
    case neg =>
      have HX : Hid (r = (none, e3)) := Lib.hid (by rw [HR1.out]; exact if_pos h5)
      have h5' : (e3 != 0) = true := by simpa using h5
      have t0 := K1.out.bx.c 0 _ rfl
      have t1 := K1.out.bx.c 1 _ rfl
      have t2 := K1.out.bx.c 2 _ rfl
      have t3 := K1.out.bx.c 3 _ rfl
      have t4 := K1.out.bx.c 4 _ rfl
      have HT : Hid (w9.there g2 0 (#[.int .i64 a, .int .i64 b, .int .i64 c, .slice A n ca, .slice C m cc] : Array Value).size) := Lib.hid (K3.out.there (n := 5) rfl)
      have HO := Lib.hid (state_one a b c A n ca C m cc)
      have kq := K3.out.setCells (vs := [.int .i64 a, .int .i64 b, .int .i64 c, .slice A n ca, .slice C m cc]) rfl
      go_wp2_with ((with_reducible change wpList _ _ _ _ _ _); refine wpList_store_mid (by rfl) 27 (.tmp 6) (.tmp 60) (by rfl) g2 0 #[.int .i64 a, .int .i64 b, .int .i64 c, .slice A n ca, .slice C m cc] (by rfl) (by rfl) HT.out info_state HO.out ?_; change wpList _ _ _ _ _ (w9.setCells g2 0 [.int .i64 a, .int .i64 b, .int .i64 c, .slice A n ca, .slice C m cc]); generalize w9.setCells g2 0 _ = wq at kq ⊢)
      refine bodyPost_ret (results_ct rfl _ _ _ (b := g2) (by rfl) kq.bx.range Tryz.underlying27 rfl info_state) rfl ?_
      rw [HX.out]
      exact ⟨A, ca, C, cc, rfl, kq.bx.old, rfl, rfl, rfl, rfl⟩
    subst h5
    simp only [not_true_eq_false, if_false] at HR1
    have c0 := K2.out.bx.c 0 _ rfl
    have t0 := K1.out.bx.c 0 _ rfl
    have t1 := K1.out.bx.c 1 _ rfl
    have t2 := K1.out.bx.c 2 _ rfl
    have t3 := K1.out.bx.c 3 _ rfl
    have t4 := K1.out.bx.c 4 _ rfl
    by_cases h6 : o = 4
    case pos =>
      have h6' : (o == 4) = true := by rw [beq_iff_eq]; exact h6
      obtain ⟨F, hF1, hF2, hF3, hF4, hF5⟩ := fcap_yes HFC.out
      obtain ⟨Y, hY1, hY2, -, hY4⟩ := fempty_slot HFE.out
      have HOW := Lib.hid (fempty_owned HFE.out)
      subst hF1
      subst hY1
      have HX : Hid (gmove s F Y = r) := Lib.hid (by rw [HR1.out, if_pos h6, Int.toNat_natCast, Int.toNat_natCast])
      have HF2 := Lib.hid hF2
      have HF5 : Hid ((slAt s.sl F).c.non = false) := Lib.hid (by rw [hF4]; exact hF5)
      have HG := Lib.hid (sgood_iff.1 hF3)
      have HY2 := Lib.hid hY2
      have HY4 := Lib.hid hY4
      clear HR1 hF2 hF3 hF4 hF5 hY2 hY4 h6
      go_wp2_with fail
      refine (gmove_is (HS.out.on K1.out.bx.old) HG.out HF2.out HF5.out HY2.out HY4.out HOW.out HX.out).mono ?_
      rintro e w10 ⟨A', ca', C', cc', rfl, hb, hm⟩
      have HM := Lib.hid hm
      have HLT : Hid (g2 < w9.heap.size ∧ w.heap.size ≤ w9.heap.size) := Lib.hid ⟨K3.out.bx.lt, K1.out.bx.old.size⟩
      replace K3 := Lib.hid (K3.out.on hb)
      clear hb hm K1 K2 t0 t1 t2 t3 t4
      have HT : Hid (w10.there g2 0 (#[.int .i64 a, .int .i64 b, .int .i64 c, .slice A' n ca', .slice C' m cc'] : Array Value).size) := Lib.hid (K3.out.there (n := 5) rfl)
      have HO := Lib.hid (state_one a b c A' n ca' C' m cc')
      have kq := K3.out.setCells (vs := [.int .i64 a, .int .i64 b, .int .i64 c, .slice A' n ca', .slice C' m cc']) rfl
      have ka := Fsh.ans (a := a) (b := b) (c := c) HM.out (Fnd.setCells g2 [.int .i64 a, .int .i64 b, .int .i64 c, .slice A' n ca', .slice C' m cc'] 0 w10) HLT.out.1 HLT.out.2 kq.bx.old
      go_wp2_with ((with_reducible change wpList _ _ _ _ _ _); refine wpList_store_mid (by rfl) 27 (.tmp 6) (.tmp 69) (by rfl) g2 0 #[.int .i64 a, .int .i64 b, .int .i64 c, .slice A' n ca', .slice C' m cc'] (by rfl) (by rfl) HT.out info_state HO.out ?_; change wpList _ _ _ _ _ (w10.setCells g2 0 [.int .i64 a, .int .i64 b, .int .i64 c, .slice A' n ca', .slice C' m cc']); generalize w10.setCells g2 0 _ = wq at kq ka ⊢)
      refine bodyPost_ret (results_ct rfl _ _ _ (b := g2) (by rfl) kq.bx.range Tryz.underlying27 rfl info_state) rfl ?_
      exact ka
    case neg =>
      have h6' : (o == 4) = false := by rw [beq_eq_false_iff_ne]; exact h6
      have HX : Hid (gput s x1 x3 ⟨u1, u2, u3, u4⟩ = r) := Lib.hid (by rw [HR1.out, if_neg h6])
      clear HR1 h6
      have n0 := N11.out.bx.c 0 _ rfl
      have n1 := N11.out.bx.c 1 _ rfl
      have n2 := N11.out.bx.c 2 _ rfl
      have n3 := N11.out.bx.c 3 _ rfl
      go_wp2_with fail
      refine (gput_is (HS.out.on K1.out.bx.old) HX.out).mono ?_
      rintro e w10 ⟨A', ca', C', cc', rfl, hb, hm⟩
      have HM := Lib.hid hm
      have HLT : Hid (g2 < w9.heap.size ∧ w.heap.size ≤ w9.heap.size) := Lib.hid ⟨K3.out.bx.lt, K1.out.bx.old.size⟩
      replace K3 := Lib.hid (K3.out.on hb)
      clear hb hm K1 K2 t0 t1 t2 t3 t4
      have HT : Hid (w10.there g2 0 (#[.int .i64 a, .int .i64 b, .int .i64 c, .slice A' n ca', .slice C' m cc'] : Array Value).size) := Lib.hid (K3.out.there (n := 5) rfl)
      have HO := Lib.hid (state_one a b c A' n ca' C' m cc')
      have kq := K3.out.setCells (vs := [.int .i64 a, .int .i64 b, .int .i64 c, .slice A' n ca', .slice C' m cc']) rfl
      have ka := Fsh.ans (a := a) (b := b) (c := c) HM.out (Fnd.setCells g2 [.int .i64 a, .int .i64 b, .int .i64 c, .slice A' n ca', .slice C' m cc'] 0 w10) HLT.out.1 HLT.out.2 kq.bx.old
      go_wp2_with ((with_reducible change wpList _ _ _ _ _ _); refine wpList_store_mid (by rfl) 27 (.tmp 6) (.tmp 76) (by rfl) g2 0 #[.int .i64 a, .int .i64 b, .int .i64 c, .slice A' n ca', .slice C' m cc'] (by rfl) (by rfl) HT.out info_state HO.out ?_; change wpList _ _ _ _ _ (w10.setCells g2 0 [.int .i64 a, .int .i64 b, .int .i64 c, .slice A' n ca', .slice C' m cc']); generalize w10.setCells g2 0 _ = wq at kq ka ⊢)
      refine bodyPost_ret (results_ct rfl _ _ _ (b := g2) (by rfl) kq.bx.range Tryz.underlying27 rfl info_state) rfl ?_
      exact ka
set_option maxRecDepth 100000 in
set_option maxHeartbeats 16000000 in
theorem gdo_is {s : St} {a b c : Int} {A C : Option Addr} {n ca m cc : Nat} {t o x y : Int} {PA PB : Option Addr} {na cpa nb cpb z : Nat} {la lb : List Int} {r : Option St × Rep} {w : World} (hS : StH w s a b c A n ca C m cc) (hna : na = la.length) (hcpa : na ≤ cpa) (hA : IntsAt w w.heap.size PA la) (hnb : nb = lb.length) (hcpb : nb ≤ cpb) (hB : IntsAt w w.heap.size PB lb) (hr : gdo s t ⟨o, la, lb, x, y, z⟩ = r) :
    Calls Tryz.prog 21 #[.agg #[.int .i64 a, .int .i64 b, .int .i64 c, .slice A n ca, .slice C m cc], .int .i64 t, .agg #[.int .i64 o, .slice PA na cpa, .slice PB nb cpb, .int .i64 x, .int .i64 y, .int .u64 (z : Int)]] w fun e w' => DoF w w' e a b c A n ca C m cc r := by
  obtain ⟨k1, k2, k3, k4⟩ := boxes4 w [.int .i64 a, .int .i64 b, .int .i64 c, .slice A n ca, .slice C m cc] [.int .i64 o, .slice PA na cpa, .slice PB nb cpb, .int .i64 x, .int .i64 y, .int .u64 (z : Int)] [.int .i64 0, .int .i64 0, .int .i64 0, .slice none 0 0, .slice none 0 0] [.int .i64 0, .int .u64 0, .int .i64 0] 27 33 27 40
  obtain ⟨g1, hg1⟩ : ∃ g1, g1 = w.heap.size + 1 := ⟨_, rfl⟩
  obtain ⟨g2, hg2⟩ : ∃ g2, g2 = w.heap.size + 1 + 1 := ⟨_, rfl⟩
  obtain ⟨g3, hg3⟩ : ∃ g3, g3 = w.heap.size + 1 + 1 + 1 := ⟨_, rfl⟩
  have HNE : Hid (g2 ≠ g3) := Lib.hid (by omega)
  have HS := Lib.hid hS
  have HNA := Lib.hid hna
  have HNB := Lib.hid hnb
  have HCPA := Lib.hid hcpa
  have HCPB := Lib.hid hcpb
  have HA := Lib.hid hA
  have HB := Lib.hid hB
  have HR := Lib.hid hr
  clear hS hna hnb hcpa hcpb hA hB hr
  obtain ⟨r1, e1, hr1⟩ : ∃ r1 e1, ganswer s t ⟨o, la, lb, x, y, z⟩ = (r1, e1) := ⟨_, _, rfl⟩
  have HR1 := Lib.hid hr1
  have HX : Hid (r = (r1, ⟨e1, 0, 0⟩)) := Lib.hid (by rw [← HR.out, gdo, hr1])
  clear hr1 HR
  go_enter Tryz.func21, Tryz.ntmps21
  go_upto_region 1 with fail
  rw [← hg3] at k4 ⊢
  rw [← hg2] at k3 ⊢
  rw [← hg1] at k2 ⊢
  clear hg1 hg2 hg3
  generalize (((w.alloc _).alloc _).alloc _).alloc _ = w3 at k1 k2 k3 k4 ⊢
  have K1 := Lib.hid k1
  have K2 := Lib.hid k2
  have K3 := Lib.hid k3
  have K4 := Lib.hid k4
  clear k1 k2 k3 k4
  have t0 := K1.out.bx.c 0 _ rfl
  have t1 := K1.out.bx.c 1 _ rfl
  have t2 := K1.out.bx.c 2 _ rfl
  have t3 := K1.out.bx.c 3 _ rfl
  have t4 := K1.out.bx.c 4 _ rfl
  have c0 := K2.out.bx.c 0 _ rfl
  have c1 := K2.out.bx.c 1 _ rfl
  have c2 := K2.out.bx.c 2 _ rfl
  have c3 := K2.out.bx.c 3 _ rfl
  have c4 := K2.out.bx.c 4 _ rfl
  have c5 := K2.out.bx.c 5 _ rfl
  go_wp2_with fail
  refine (gans_is (HS.out.on K1.out.bx.old) HNA.out HCPA.out (HA.out.on K1.out.bx.old) HNB.out HCPB.out (HB.out.on K1.out.bx.old) HR1.out).mono ?_
  rintro e w4 ⟨A', ca', C', cc', rfl, hb, hm⟩
  have HM := Lib.hid hm
  have HLT : Hid (g2 < w3.heap.size ∧ g3 < w3.heap.size ∧ w.heap.size ≤ w3.heap.size) := Lib.hid ⟨K3.out.bx.lt, K4.out.bx.lt, K1.out.bx.old.size⟩
  replace K1 := Lib.hid (K1.out.on hb)
  replace K3 := Lib.hid (K3.out.on hb)
  replace K4 := Lib.hid (K4.out.on hb)
  clear hb hm K2 t0 t1 t2 t3 t4 c0 c1 c2 c3 c4 c5
  go_upto_region 2 with fail
  have HN8 : Hid (w4.heap.size ≠ g2 ∧ w4.heap.size ≠ g3) := Lib.hid ⟨by have := K3.out.bx.lt; omega, by have := K4.out.bx.lt; omega⟩
  have N := Wbs.more K1.out.bx.old [.int .i64 a, .int .i64 b, .int .i64 c, .slice A' n ca', .slice C' m cc'] 27
  have hal := below_alloc w4 (.cells #[.int .i64 a, .int .i64 b, .int .i64 c, .slice A' n ca', .slice C' m cc'] 27)
  have HAL := Lib.hid hal
  replace K3 := Lib.hid (K3.out.on hal)
  replace K4 := Lib.hid (K4.out.on hal)
  clear hal K1
  obtain ⟨g8, hg8⟩ : ∃ g8, g8 = w4.heap.size := ⟨_, rfl⟩
  rw [← hg8] at N HN8 ⊢
  clear hg8
  generalize w4.alloc _ = w5 at N K3 K4 HAL ⊢
  have N8 := Lib.hid N
  clear N
  have n0 := N8.out.bx.c 0 _ rfl
  have n1 := N8.out.bx.c 1 _ rfl
  have n2 := N8.out.bx.c 2 _ rfl
  have n3 := N8.out.bx.c 3 _ rfl
  have n4 := N8.out.bx.c 4 _ rfl
  have HT : Hid (w5.there g2 0 (#[.int .i64 a, .int .i64 b, .int .i64 c, .slice A' n ca', .slice C' m cc'] : Array Value).size) := Lib.hid (K3.out.there (n := 5) rfl)
  have HO := Lib.hid (state_one a b c A' n ca' C' m cc')
  have k3 := K3.out.setCells (vs := [.int .i64 a, .int .i64 b, .int .i64 c, .slice A' n ca', .slice C' m cc']) rfl
  have f6 := Fnd.setCells g2 [.int .i64 a, .int .i64 b, .int .i64 c, .slice A' n ca', .slice C' m cc'] 0 w5
  have k4 := K4.out.fnd f6 HNE.out.symm k3.bx.old
  have F6 := Lib.hid f6
  have K46 := Lib.hid k4
  have K36 := Lib.hid k3
  clear f6 k3 k4
  go_wp2_with (first | (((with_reducible change wpList _ _ _ _ _ _); refine wpList_store_mid (by rfl) 27 (.tmp 6) (.tmp 17) (by rfl) g2 0 #[.int .i64 a, .int .i64 b, .int .i64 c, .slice A' n ca', .slice C' m cc'] (by rfl) (by rfl) HT.out info_state HO.out ?_; change wpList _ _ _ _ _ (w5.setCells g2 0 [.int .i64 a, .int .i64 b, .int .i64 c, .slice A' n ca', .slice C' m cc']); generalize w5.setCells g2 0 _ = w6 at F6 K46 K36 ⊢); have HT4 : Hid (w6.there g3 0 (#[.int .i64 e1, .int .u64 0, .int .i64 0] : Array Value).size) := Lib.hid (K46.out.there (n := 3) rfl); have HO4 := Lib.hid (reply_one e1 0 0); have K5 := Lib.hid (K46.out.setCells (vs := [.int .i64 e1, .int .u64 0, .int .i64 0]) rfl); have F7 := Lib.hid (Fnd.setCells g3 [.int .i64 e1, .int .u64 0, .int .i64 0] 0 w6); have K6 := Lib.hid (K36.out.fnd F7.out HNE.out K5.out.bx.old)) | ((with_reducible change wpList _ _ _ _ _ _); refine wpList_store_mid (by rfl) 40 (.tmp 7) (.tmp 19) (by rfl) g3 0 #[.int .i64 e1, .int .u64 0, .int .i64 0] (by rfl) (by rfl) HT4.out info_reply HO4.out ?_; change wpList _ _ _ _ _ (w6.setCells g3 0 [.int .i64 e1, .int .u64 0, .int .i64 0]); generalize w6.setCells g3 0 _ = w7 at F7 K5 K6 ⊢))
  refine bodyPost_ret (results_cc rfl _ _ _ (b := g2) (b' := g3) (by rfl) K6.out.bx.range Tryz.underlying27 rfl info_state (by rfl) K5.out.bx.range Tryz.underlying40 rfl info_reply) rfl ?_
  rw [HX.out]
  have hm := HM.out
  refine ⟨A', ca', C', cc', rfl, K6.out.bx.old, ?_⟩
  cases r1 with
  | none => exact hm
  | some s' => exact ⟨hm.1, hm.2.1, (((hm.2.2.move (Nat.le_refl _) HAL.out.size (fun k _ h2 => HAL.out.block k h2)).fnd F6.out HLT.out.1).fnd F7.out HLT.out.2.1).base HLT.out.2.2⟩
end Go.Proofs.YtkpbfbmkolgmgaaGreat
