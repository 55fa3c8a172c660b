/-
  The walks of mail's hasWay, mayUse, refuse, withBox, fromOf, handOn. Condition: the state and the call's ways lie in memory.
-/
import Derived.Test.YtkpbfbmkolgmgaaGreatTVa
namespace Go.Proofs.YtkpbfbmkolgmgaaGreat
open Go.RowKit
set_option linter.unusedSimpArgs false
set_option linter.unusedVariables false

theorem boxes5 (w : World) (c1 c2 c3 c4 c5 : List Value) (t1 t2 t3 t4 t5 : TypeId) : Wbs w (((((w.alloc (.cells c1.toArray t1)).alloc (.cells c2.toArray t2)).alloc (.cells c3.toArray t3)).alloc (.cells c4.toArray t4)).alloc (.cells c5.toArray t5)) w.heap.size c1 ∧ Wbs w (((((w.alloc (.cells c1.toArray t1)).alloc (.cells c2.toArray t2)).alloc (.cells c3.toArray t3)).alloc (.cells c4.toArray t4)).alloc (.cells c5.toArray t5)) (w.heap.size + 1) c2 ∧ Wbs w (((((w.alloc (.cells c1.toArray t1)).alloc (.cells c2.toArray t2)).alloc (.cells c3.toArray t3)).alloc (.cells c4.toArray t4)).alloc (.cells c5.toArray t5)) (w.heap.size + 1 + 1) c3 ∧ Wbs w (((((w.alloc (.cells c1.toArray t1)).alloc (.cells c2.toArray t2)).alloc (.cells c3.toArray t3)).alloc (.cells c4.toArray t4)).alloc (.cells c5.toArray t5)) (w.heap.size + 1 + 1 + 1) c4 ∧ Wbs w (((((w.alloc (.cells c1.toArray t1)).alloc (.cells c2.toArray t2)).alloc (.cells c3.toArray t3)).alloc (.cells c4.toArray t4)).alloc (.cells c5.toArray t5)) (w.heap.size + 1 + 1 + 1 + 1) c5 := by
  obtain ⟨k1, k2, k3, k4⟩ := boxes4 w c1 c2 c3 c4 t1 t2 t3 t4
  have k5 := Wbs.more k4.bx.old c5 t5
  rw [show ((((w.alloc (.cells c1.toArray t1)).alloc (.cells c2.toArray t2)).alloc (.cells c3.toArray t3)).alloc (.cells c4.toArray t4)).heap.size = w.heap.size + 1 + 1 + 1 + 1 by simp] at k5
  exact ⟨k1.on (below_alloc _ _), k2.on (below_alloc _ _), k3.on (below_alloc _ _), k4.on (below_alloc _ _), k5⟩
theorem and_one {x : Int} (h : 0 ≤ x) (h7 : x ≤ 7) : (bits BinOp.and IntKind.i64 x 1 == 0) = !decide (x % 2 = 1) := by
  have : x = 0 ∨ x = 1 ∨ x = 2 ∨ x = 3 ∨ x = 4 ∨ x = 5 ∨ x = 6 ∨ x = 7 := by omega
  rcases this with rfl | rfl | rfl | rfl | rfl | rfl | rfl | rfl <;> rfl
theorem and_four {x : Int} (h : 0 ≤ x) (h7 : x ≤ 7) : (bits BinOp.and IntKind.i64 x 4 == 0) = !decide (x / 4 % 2 = 1) := by
  have : x = 0 ∨ x = 1 ∨ x = 2 ∨ x = 3 ∨ x = 4 ∨ x = 5 ∨ x = 6 ∨ x = 7 := by omega
  rcases this with rfl | rfl | rfl | rfl | rfl | rfl | rfl | rfl <;> rfl
theorem Fsh.ansm {w w4 w5 w6 : World} {a b c : Int} {A : Option Addr} {n ca : Nat} {C : Option Addr} {m cc : Nat} {r : Option St × Int} {A' : Option Addr} {ca' : Nat} {C' : Option Addr} {cc' g : Nat} (h : match r.1 with | none => A' = A ∧ ca' = ca ∧ C' = C ∧ cc' = cc | some s' => n ≤ ca' ∧ m ≤ cc' ∧ Fsh w4 w5 s' A' C')
    (f : Fnd w5 w6 g) (hg : g < w4.heap.size) (hw : w.heap.size ≤ w4.heap.size) (hb : Below w.heap.size w w6) : AnsF w w6 (.returned (.tuple #[.agg #[.int .i64 a, .int .i64 b, .int .i64 c, .slice A' n ca', .slice C' m cc'], .int .i64 r.2])) a b c A n ca C m cc r := by
  refine ⟨A', ca', C', cc', rfl, hb, ?_⟩
  obtain ⟨_ | s', e⟩ := r
  · exact h
  · exact ⟨h.1, h.2.1, (h.2.2.fnd f hg).base hw⟩
theorem hasway_is {o x y : Int} {PA PB : Option Addr} {na cpa nb cpb z : Nat} {r : Bool} (hr : decide (0 < nb) = r) (w : World) : Calls Tryz.prog 177 #[.agg #[.int .i64 o, .slice PA na cpa, .slice PB nb cpb, .int .i64 x, .int .i64 y, .int .u64 (z : Int)]] w fun e w' => e = .returned (.bool r) ∧ Below w.heap.size w w' := by
  have HB := Lib.hid (below_alloc w (.cells #[.int .i64 o, .slice PA na cpa, .slice PB nb cpb, .int .i64 x, .int .i64 y, .int .u64 (z : Int)] 33))
  subst hr
  go_enter Tryz.func177, Tryz.ntmps177
  go_wp2
  go_ret
  exact ⟨rfl, HB.out⟩
set_option maxRecDepth 100000 in
set_option maxHeartbeats 16000000 in
theorem mayuse_is {ty th ri ba o r : Int} (h0 : 0 ≤ ri) (h7 : ri ≤ 7) (hr : mmay ⟨ty, th, ri, ba⟩ o = r) (w : World) : Calls Tryz.prog 74 #[.agg #[.int .i64 ty, .int .i64 th, .int .i64 ri, .int .i64 ba], .int .i64 o] w fun e w' => e = .returned (.int .i64 r) ∧ Below w.heap.size w w' := by
  have HB := Lib.hid (below_alloc w (.cells #[.int .i64 ty, .int .i64 th, .int .i64 ri, .int .i64 ba] 62))
  have hd1 := and_one h0 h7
  have hd2 := and_two h0 h7
  clear h0 h7
  by_cases ho : o = 7
  case pos =>
    have ho' : (o == 7) = true := by simpa using ho
    by_cases h3 : ty = 3
    case neg =>
      have HX : Hid (r = 7) := Lib.hid (by rw [← hr, mmay]; exact if_neg h3)
      have h3' : (ty != 3) = true := by simpa using h3
      clear hr h3 hd1 hd2
      go_enter Tryz.func74, Tryz.ntmps74
      go_wp2
      go_ret
      exact ⟨by rw [HX.out]; rfl, HB.out⟩
    have h3' : (ty != 3) = false := by simpa using h3
    by_cases hb : ri / 2 % 2 = 1
    case pos =>
      have HX : Hid (r = 0) := Lib.hid (by rw [← hr, mmay, if_pos h3, mbit, if_pos ho]; exact if_pos (decide_eq_true hb))
      have hb' : (bits BinOp.and IntKind.i64 ri 2 == 0) = false := by rw [hd2]; simp [hb]
      clear hr h3 hd1 hd2 hb
      go_enter Tryz.func74, Tryz.ntmps74
      go_wp2
      go_ret
      exact ⟨by rw [HX.out]; rfl, HB.out⟩
    have HX : Hid (r = 6) := Lib.hid (by rw [← hr, mmay, if_pos h3, mbit, if_pos ho]; exact if_neg (by simpa using hb))
    have hb' : (bits BinOp.and IntKind.i64 ri 2 == 0) = true := by rw [hd2]; simp [hb]
    clear hr h3 hd1 hd2 hb
    go_enter Tryz.func74, Tryz.ntmps74
    go_wp2
    go_ret
    exact ⟨by rw [HX.out]; rfl, HB.out⟩
  have ho' : (o == 7) = false := by simpa using ho
  by_cases h3 : ty = 3
  case neg =>
    have HX : Hid (r = 7) := Lib.hid (by rw [← hr, mmay]; exact if_neg h3)
    have h3' : (ty != 3) = true := by simpa using h3
    clear hr h3 hd1 hd2
    go_enter Tryz.func74, Tryz.ntmps74
    go_wp2
    go_ret
    exact ⟨by rw [HX.out]; rfl, HB.out⟩
  have h3' : (ty != 3) = false := by simpa using h3
  by_cases hb : ri % 2 = 1
  case pos =>
    have HX : Hid (r = 0) := Lib.hid (by rw [← hr, mmay, if_pos h3, mbit, if_neg ho]; exact if_pos (decide_eq_true hb))
    have hb' : (bits BinOp.and IntKind.i64 ri 1 == 0) = false := by rw [hd1]; simp [hb]
    clear hr h3 hd1 hd2 hb
    go_enter Tryz.func74, Tryz.ntmps74
    go_wp2
    go_ret
    exact ⟨by rw [HX.out]; rfl, HB.out⟩
  have HX : Hid (r = 6) := Lib.hid (by rw [← hr, mmay, if_pos h3, mbit, if_neg ho]; exact if_neg (by simpa using hb))
  have hb' : (bits BinOp.and IntKind.i64 ri 1 == 0) = true := by rw [hd1]; simp [hb]
  clear hr h3 hd1 hd2 hb
  go_enter Tryz.func74, Tryz.ntmps74
  go_wp2
  go_ret
  exact ⟨by rw [HX.out]; rfl, HB.out⟩
set_option maxRecDepth 100000 in
set_option maxHeartbeats 16000000 in
theorem refuse_is {a b c : Int} {A C : Option Addr} {n ca m cc : Nat} {e0 : Int} (w : World) : Calls Tryz.prog 72 #[.agg #[.int .i64 a, .int .i64 b, .int .i64 c, .slice A n ca, .slice C m cc], .int .i64 e0] w fun e w' => e = .returned (.tuple #[.agg #[.int .i64 a, .int .i64 b, .int .i64 c, .slice A n ca, .slice C m cc], .agg #[.int .i64 e0, .int .u64 0, .int .i64 0]]) ∧ Below w.heap.size w w' := by
  obtain ⟨T, R6, R7⟩ := boxes3 w [.int .i64 a, .int .i64 b, .int .i64 c, .slice A n ca, .slice C m cc] [.int .i64 0, .int .i64 0, .int .i64 0, .slice none 0 0, .slice none 0 0] [.int .i64 0, .int .u64 0, .int .i64 0] 27 27 40
  obtain ⟨g6, hg6⟩ : ∃ g6, g6 = w.heap.size + 1 := ⟨_, rfl⟩
  obtain ⟨g7, hg7⟩ : ∃ g7, g7 = w.heap.size + 1 + 1 := ⟨_, rfl⟩
  have HNE : Hid (g6 ≠ g7) := Lib.hid (by omega)
  go_enter Tryz.func72, Tryz.ntmps72
  go_upto_region 1 with fail
  rw [← hg7] at R7 ⊢
  rw [← hg6] at R6 ⊢
  clear hg6 hg7
  generalize ((w.alloc _).alloc _).alloc _ = w3 at T R6 R7 ⊢
  replace T := Lib.hid T
  replace R6 := Lib.hid R6
  replace R7 := Lib.hid R7
  have t0 := T.out.bx.c 0 _ rfl
  have t1 := T.out.bx.c 1 _ rfl
  have t2 := T.out.bx.c 2 _ rfl
  have t3 := T.out.bx.c 3 _ rfl
  have t4 := T.out.bx.c 4 _ rfl
  have HT6 : Hid (w3.there g6 0 (#[.int .i64 a, .int .i64 b, .int .i64 c, .slice A n ca, .slice C m cc] : Array Value).size) := Lib.hid (R6.out.there (n := 5) rfl)
  have HO6 := Lib.hid (state_one a b c A n ca C m cc)
  have Q6 := Lib.hid (R6.out.setCells (vs := [.int .i64 a, .int .i64 b, .int .i64 c, .slice A n ca, .slice C m cc]) rfl)
  have Q7 := Lib.hid (R7.out.fnd (Fnd.setCells g6 [.int .i64 a, .int .i64 b, .int .i64 c, .slice A n ca, .slice C m cc] 0 w3) HNE.out.symm Q6.out.bx.old)
  clear R6 R7
  go_wp2_with (first
    | ((with_reducible change wpList _ _ _ _ _ _); refine wpList_store_mid (by rfl) 27 (.tmp 4) (.tmp 6) (by rfl) g6 0 #[.int .i64 a, .int .i64 b, .int .i64 c, .slice A n ca, .slice C m cc] (by rfl) (by rfl) HT6.out info_state HO6.out ?_; change wpList _ _ _ _ _ (w3.setCells g6 0 [.int .i64 a, .int .i64 b, .int .i64 c, .slice A n ca, .slice C m cc]); generalize w3.setCells g6 0 [.int .i64 a, .int .i64 b, .int .i64 c, .slice A n ca, .slice C m cc] = wq at Q6 Q7 ⊢; have HT7 : Hid (wq.there g7 0 (#[.int .i64 e0, .int .u64 0, .int .i64 0] : Array Value).size) := Lib.hid (Q7.out.there (n := 3) rfl); have HO7 := Lib.hid (reply_one e0 0 0); have Q8 := Lib.hid (Q7.out.setCells (vs := [.int .i64 e0, .int .u64 0, .int .i64 0]) rfl); have Q9 := Lib.hid (Q6.out.fnd (Fnd.setCells g7 [.int .i64 e0, .int .u64 0, .int .i64 0] 0 wq) HNE.out Q8.out.bx.old))
    | ((with_reducible change wpList _ _ _ _ _ _); refine wpList_store_mid (by rfl) 40 (.tmp 5) (.tmp 8) (by rfl) g7 0 #[.int .i64 e0, .int .u64 0, .int .i64 0] (by rfl) (by rfl) HT7.out info_reply HO7.out ?_; change wpList _ _ _ _ _ (wq.setCells g7 0 [.int .i64 e0, .int .u64 0, .int .i64 0]); generalize wq.setCells g7 0 [.int .i64 e0, .int .u64 0, .int .i64 0] = wz at Q8 Q9 ⊢))
  refine bodyPost_ret (results_cc rfl _ _ _ (b := g6) (b' := g7) (by rfl) Q9.out.bx.range Tryz.underlying27 rfl info_state (by rfl) Q8.out.bx.range Tryz.underlying40 rfl info_reply) rfl ?_
  exact ⟨rfl, Q8.out.bx.old⟩
set_option maxRecDepth 100000 in
set_option maxHeartbeats 16000000 in
theorem withbox_is {s : St} {a b c : Int} {A C : Option Addr} {n ca m cc : Nat} {i : Nat} {xty xbits xbase xsize xused xfrm xbadge : Int} {xfull : Bool} {xword xd0 xd1 xd2 xd3 : Nat} {w : World} (hS : StH w s a b c A n ca C m cc) (hn : 0 < s.sl.length) (hi : i < s.th.length) :
    Calls Tryz.prog 139 #[.agg #[.int .i64 a, .int .i64 b, .int .i64 c, .slice A n ca, .slice C m cc], .int .i64 (i : Int), .agg #[.int .i64 xty, .int .i64 xbits, .int .i64 xbase, .int .i64 xsize, .int .i64 xused, .int .i64 xfrm, .int .i64 xbadge, .bool xfull, .int .u64 (xword : Int), .int .u64 (xd0 : Int), .int .u64 (xd1 : Int), .int .u64 (xd2 : Int), .int .u64 (xd3 : Int)]] w fun e w' => CloneF w w' e a b c n m (tputS s i ⟨xty, xbits, xbase, xsize, xused, xfrm, xbadge, xfull, xword, xd0, xd1, xd2, xd3⟩) := by
  obtain ⟨k1, k2, k3⟩ := boxes3 w [.int .i64 a, .int .i64 b, .int .i64 c, .slice A n ca, .slice C m cc] [.int .i64 xty, .int .i64 xbits, .int .i64 xbase, .int .i64 xsize, .int .i64 xused, .int .i64 xfrm, .int .i64 xbadge, .bool xfull, .int .u64 (xword : Int), .int .u64 (xd0 : Int), .int .u64 (xd1 : Int), .int .u64 (xd2 : Int), .int .u64 (xd3 : Int)] [.int .i64 0, .int .i64 0, .int .i64 0, .slice none 0 0, .slice none 0 0] 27 67 27
  obtain ⟨g1, hg1⟩ : ∃ g1, g1 = w.heap.size + 1 := ⟨_, rfl⟩
  obtain ⟨g2, hg2⟩ : ∃ g2, g2 = w.heap.size + 1 + 1 := ⟨_, rfl⟩
  have HM := Lib.hid hS.hm
  have HS := Lib.hid hS
  have HN := Lib.hid hn
  have HI := Lib.hid hi
  clear hS hn hi
  go_enter Tryz.func139, Tryz.ntmps139
  go_upto_region 1 with fail
  rw [← hg2] at k3 ⊢
  rw [← hg1] at k2 ⊢
  clear hg1 hg2
  generalize ((w.alloc _).alloc _).alloc _ = w3 at k1 k2 k3 ⊢
  have K1 := Lib.hid k1
  have K2 := Lib.hid k2
  have K3 := Lib.hid k3
  clear k1 k2 k3
  have t0 := K1.out.bx.c 0 _ rfl
  have t1 := K1.out.bx.c 1 _ rfl
  have t2 := K1.out.bx.c 2 _ rfl
  have t3 := K1.out.bx.c 3 _ rfl
  have t4 := K1.out.bx.c 4 _ rfl
  go_wp2_with fail
  refine (pclone_is (HS.out.on K1.out.bx.old)).mono ?_
  rintro e w5 ⟨A2, ca2, C2, cc2, rfl, hca, hcc, hF, hb⟩
  obtain ⟨P, Q, rfl, rfl, hO⟩ := hF.ost HN.out (Nat.lt_of_le_of_lt (Nat.zero_le _) HI.out) hb
  have HCA := Lib.hid hca
  have HCC := Lib.hid hcc
  have NE : Hid (g1 ≠ P ∧ g1 ≠ Q ∧ g2 ≠ P ∧ g2 ≠ Q) := Lib.hid (by
    have e2 := K2.out.bx.lt
    have e3 := K3.out.bx.lt
    have e4 := hO.oP
    have e5 := hO.oQ
    omega)
  replace hO := hO.base K1.out.bx.old
  replace K1 := Lib.hid (K1.out.on hb)
  replace K2 := Lib.hid (K2.out.on hb)
  replace K3 := Lib.hid (K3.out.on hb)
  clear hb hca hcc hF
  clear t0 t1 t2 t3 t4
  go_upto_region 2 with fail
  have N := Wbs.more K1.out.bx.old [.int .i64 a, .int .i64 b, .int .i64 c, .slice (some ⟨P, 0, none⟩) n ca2, .slice (some ⟨Q, 0, none⟩) m cc2] 27
  have hal := below_alloc w5 (.cells #[.int .i64 a, .int .i64 b, .int .i64 c, .slice (some ⟨P, 0, none⟩) n ca2, .slice (some ⟨Q, 0, none⟩) m cc2] 27)
  have NQ : Hid (w5.heap.size ≠ P ∧ w5.heap.size ≠ Q ∧ g2 ≠ w5.heap.size) := Lib.hid ⟨by have := hO.lP; omega, by have := hO.lQ; omega, by have := K3.out.bx.lt; omega⟩
  replace K2 := Lib.hid (K2.out.on hal)
  replace K3 := Lib.hid (K3.out.on hal)
  replace hO := hO.on hal
  clear hal K1
  obtain ⟨q, hq⟩ : ∃ q, q = w5.heap.size := ⟨_, rfl⟩
  rw [← hq] at N NQ ⊢
  clear hq
  generalize w5.alloc _ = w6 at N K2 K3 hO ⊢
  have N6 := Lib.hid N
  have O6 := Lib.hid hO
  clear N hO
  have him : (i : Int) < (m : Int) := by have := HI.out; have := HM.out; omega
  have HT : Hid (w6.there Q (i * 13) (#[.int .i64 xty, .int .i64 xbits, .int .i64 xbase, .int .i64 xsize, .int .i64 xused, .int .i64 xfrm, .int .i64 xbadge, .bool xfull, .int .u64 (xword : Int), .int .u64 (xd0 : Int), .int .u64 (xd1 : Int), .int .u64 (xd2 : Int), .int .u64 (xd3 : Int)] : Array Value).size) := Lib.hid (O6.out.thereT HI.out)
  have HO := Lib.hid (thing_one xty xbits xbase xsize xused xfrm xbadge xfull xword xd0 xd1 xd2 xd3)
  have O7 := Lib.hid (O6.out.putT HI.out ⟨xty, xbits, xbase, xsize, xused, xfrm, xbadge, xfull, xword, xd0, xd1, xd2, xd3⟩)
  have f7 := Fnd.setCells Q (thist ⟨xty, xbits, xbase, xsize, xused, xfrm, xbadge, xfull, xword, xd0, xd1, xd2, xd3⟩) (i * 13) w6
  have R7 := Lib.hid (K3.out.fnd f7 NE.out.2.2.2 O7.out.old)
  have N7 := Lib.hid (N6.out.fnd f7 NQ.out.2.1 O7.out.old)
  clear f7
  have p0 := K2.out.bx.c 0 _ rfl
  have p1 := K2.out.bx.c 1 _ rfl
  have p2 := K2.out.bx.c 2 _ rfl
  have p3 := K2.out.bx.c 3 _ rfl
  have p4 := K2.out.bx.c 4 _ rfl
  have p5 := K2.out.bx.c 5 _ rfl
  have p6 := K2.out.bx.c 6 _ rfl
  have p7 := K2.out.bx.c 7 _ rfl
  have p8 := K2.out.bx.c 8 _ rfl
  have p9 := K2.out.bx.c 9 _ rfl
  have p10 := K2.out.bx.c 10 _ rfl
  have p11 := K2.out.bx.c 11 _ rfl
  have p12 := K2.out.bx.c 12 _ rfl
  have n4 := N6.out.bx.c 4 _ rfl
  go_upto_region 3 with ((with_reducible change wpList _ _ _ _ _ _); refine wpList_store_mid (by rfl) 67 (.tmp 14) (.tmp 13) (by rfl) Q (i * 13) #[.int .i64 xty, .int .i64 xbits, .int .i64 xbase, .int .i64 xsize, .int .i64 xused, .int .i64 xfrm, .int .i64 xbadge, .bool xfull, .int .u64 (xword : Int), .int .u64 (xd0 : Int), .int .u64 (xd1 : Int), .int .u64 (xd2 : Int), .int .u64 (xd3 : Int)] (by rfl) (by rfl) HT.out info_thing HO.out ?_; change wpList _ _ _ _ _ (w6.setCells Q (i * 13) (thist ⟨xty, xbits, xbase, xsize, xused, xfrm, xbadge, xfull, xword, xd0, xd1, xd2, xd3⟩)); generalize w6.setCells Q (i * 13) (thist _) = w7 at O7 R7 N7 ⊢)
  clear HT HO him p0 p1 p2 p3 p4 p5 p6 p7 p8 p9 p10 p11 p12 n4 K2 K3 O6 N6
  have HT : Hid (w7.there g2 0 (#[.int .i64 a, .int .i64 b, .int .i64 c, .slice (some ⟨P, 0, none⟩) n ca2, .slice (some ⟨Q, 0, none⟩) m cc2] : Array Value).size) := Lib.hid (R7.out.there (n := 5) rfl)
  have HO := Lib.hid (state_one a b c (some ⟨P, 0, none⟩) n ca2 (some ⟨Q, 0, none⟩) m cc2)
  have R8 := Lib.hid (R7.out.setCells (vs := [.int .i64 a, .int .i64 b, .int .i64 c, .slice (some ⟨P, 0, none⟩) n ca2, .slice (some ⟨Q, 0, none⟩) m cc2]) rfl)
  have O8 := Lib.hid (O7.out.step (Fnd.setCells g2 [.int .i64 a, .int .i64 b, .int .i64 c, .slice (some ⟨P, 0, none⟩) n ca2, .slice (some ⟨Q, 0, none⟩) m cc2] 0 w7) NE.out.2.2.1.symm NE.out.2.2.2.symm R8.out.bx.old)
  have n0 := N7.out.bx.c 0 _ rfl
  have n1 := N7.out.bx.c 1 _ rfl
  have n2 := N7.out.bx.c 2 _ rfl
  have n3 := N7.out.bx.c 3 _ rfl
  have n4 := N7.out.bx.c 4 _ rfl
  go_wp2_with ((with_reducible change wpList _ _ _ _ _ _); refine wpList_store_mid (by rfl) 27 (.tmp 6) (.tmp 15) (by rfl) g2 0 #[.int .i64 a, .int .i64 b, .int .i64 c, .slice (some ⟨P, 0, none⟩) n ca2, .slice (some ⟨Q, 0, none⟩) m cc2] (by rfl) (by rfl) HT.out info_state HO.out ?_; change wpList _ _ _ _ _ (w7.setCells g2 0 [.int .i64 a, .int .i64 b, .int .i64 c, .slice (some ⟨P, 0, none⟩) n ca2, .slice (some ⟨Q, 0, none⟩) m cc2]); generalize w7.setCells g2 0 _ = w8 at R8 O8 ⊢)
  refine bodyPost_ret (results_c rfl _ _ _ (b := g2) (by rfl) R8.out.bx.range Tryz.underlying27 rfl info_state) rfl ?_
  exact ⟨_, _, _, _, rfl, HCA.out, HCC.out, O8.out.fsh, R8.out.bx.old⟩
set_option maxRecDepth 100000 in
set_option maxHeartbeats 16000000 in
theorem fromof_is {s : St} {a b c : Int} {A C : Option Addr} {n ca m cc : Nat} {t o x y : Int} {PA PB : Option Addr} {na cpa nb cpb z : Nat} {la lb : List Int} {ty th ri ba x1 y1 : Int} {w : World} (hS : StH w s a b c A n ca C m cc) (hnb : nb = lb.length) (hcpb : nb ≤ cpb) (hB : IntsAt w w.heap.size PB lb) (h0 : 0 ≤ ri) (h7 : ri ≤ 7) (hr : mfrom s t ⟨o, la, lb, x, y, z⟩ ⟨ty, th, ri, ba⟩ = (x1, y1)) :
    Calls Tryz.prog 138 #[.agg #[.int .i64 a, .int .i64 b, .int .i64 c, .slice A n ca, .slice C m cc], .int .i64 t, .agg #[.int .i64 o, .slice PA na cpa, .slice PB nb cpb, .int .i64 x, .int .i64 y, .int .u64 (z : Int)], .agg #[.int .i64 ty, .int .i64 th, .int .i64 ri, .int .i64 ba]] w fun e w' => e = .returned (.tuple #[.int .i64 x1, .int .i64 y1]) ∧ Below w.heap.size w w' := by
  obtain ⟨T, CK, KB⟩ := boxes3 w [.int .i64 a, .int .i64 b, .int .i64 c, .slice A n ca, .slice C m cc] [.int .i64 o, .slice PA na cpa, .slice PB nb cpb, .int .i64 x, .int .i64 y, .int .u64 (z : Int)] [.int .i64 ty, .int .i64 th, .int .i64 ri, .int .i64 ba] 27 33 62
  obtain ⟨g5, hg5⟩ : ∃ g5, g5 = w.heap.size + 1 := ⟨_, rfl⟩
  obtain ⟨g6, hg6⟩ : ∃ g6, g6 = w.heap.size + 1 + 1 := ⟨_, rfl⟩
  have hd4 := and_four h0 h7
  have HS := Lib.hid hS
  have HNB := Lib.hid hnb
  have HCPB := Lib.hid hcpb
  have HB := Lib.hid hB
  have HR := Lib.hid hr
  have HD4 := Lib.hid hd4
  clear hS hnb hcpb hB hr hd4
  clear h0 h7
  go_enter Tryz.func138, Tryz.ntmps138
  go_upto_region 1 with fail
  rw [← hg6] at KB ⊢
  rw [← hg5] at CK ⊢
  clear hg5 hg6
  generalize ((w.alloc _).alloc _).alloc _ = w3 at T CK KB ⊢
  replace T := Lib.hid T
  replace CK := Lib.hid CK
  replace KB := Lib.hid KB
  obtain ⟨z0, hz0⟩ : ∃ z0, decide (0 < nb) = z0 := ⟨_, rfl⟩
  have k0 := CK.out.bx.c 0 _ rfl
  have k1 := CK.out.bx.c 1 _ rfl
  have k2 := CK.out.bx.c 2 _ rfl
  have k3 := CK.out.bx.c 3 _ rfl
  have k4 := CK.out.bx.c 4 _ rfl
  have k5 := CK.out.bx.c 5 _ rfl
  go_wp2_with fail
  refine (hasway_is hz0 w3).mono ?_
  rintro e w4 ⟨rfl, hb⟩
  replace T := Lib.hid (T.out.on hb)
  replace CK := Lib.hid (CK.out.on hb)
  replace KB := Lib.hid (KB.out.on hb)
  clear hb k0 k1 k2 k3 k4 k5
  cases z0 with
  | false =>
    have HX : Hid ((x1, y1) = (0, 0)) := Lib.hid (by rw [← HR.out, mfrom]; exact if_pos (List.eq_nil_of_length_eq_zero (by rw [decide_eq_false_iff_not] at hz0; have := HNB.out; simp only at this ⊢; omega)))
    clear hz0
    go_wp2
    go_ret2
    obtain ⟨rfl, rfl⟩ := Prod.mk.inj HX.out
    exact ⟨rfl, T.out.bx.old⟩
  | true =>
    have HX1 : Hid ((x1, y1) = if ri / 4 % 2 = 1 then (if (fcap s t lb).2.2 = 0 then (if (fcap s t lb).2.1.ty = 1 then (0, 7) else ((fcap s t lb).1 + 1, 0)) else (0, (fcap s t lb).2.2)) else (0, 6)) := Lib.hid (by rw [← HR.out, mfrom]; exact if_neg (fun q => by simp only at q; rw [decide_eq_true_eq] at hz0; have := HNB.out; rw [q] at this; simp at this; omega))
    clear hz0 HR
    have p2 := KB.out.bx.c 2 _ rfl
    have hd4 := HD4.out
    by_cases hg : ri / 4 % 2 = 1
    case neg =>
      have HX := Lib.hid (HX1.out.trans (if_neg hg))
      have hb' : (bits BinOp.and IntKind.i64 ri 4 == 0) = true := by rw [hd4]; simp [hg]
      clear hd4
      go_wp2
      go_ret2
      obtain ⟨rfl, rfl⟩ := Prod.mk.inj HX.out
      exact ⟨rfl, T.out.bx.old⟩
    have hb' : (bits BinOp.and IntKind.i64 ri 4 == 0) = false := by rw [hd4]; simp [hg]
    clear hd4
    obtain ⟨xc, ⟨hy, hh, hri, hba⟩, e1, hfc⟩ : ∃ x1 k1 e1, fcap s t lb = (x1, k1, e1) := ⟨_, _, _, rfl⟩
    have HFC := Lib.hid hfc
    have q := HX1.out.trans (if_pos hg)
    rw [hfc] at q
    simp only at q
    replace HX1 := Lib.hid q
    clear hfc q hg
    have t0 := T.out.bx.c 0 _ rfl
    have t1 := T.out.bx.c 1 _ rfl
    have t2 := T.out.bx.c 2 _ rfl
    have t3 := T.out.bx.c 3 _ rfl
    have t4 := T.out.bx.c 4 _ rfl
    have k2 := CK.out.bx.c 2 _ rfl
    go_wp2_with fail
    refine (fcap_is (HS.out.on T.out.bx.old) HNB.out HCPB.out (HB.out.on T.out.bx.old) HFC.out).mono ?_
    rintro e w5 ⟨rfl, hb⟩
    simp only [Cp.val]
    replace T := Lib.hid (T.out.on hb)
    clear hb p2 k2 hb' CK KB
    clear t0 t1 t2 t3 t4
    go_upto_region 6 with fail
    have N := Wbs.more T.out.bx.old [.int .i64 hy, .int .i64 hh, .int .i64 hri, .int .i64 hba] 62
    have hal := below_alloc w5 (.cells #[.int .i64 hy, .int .i64 hh, .int .i64 hri, .int .i64 hba] 62)
    replace T := Lib.hid (T.out.on hal)
    clear hal
    obtain ⟨g9, hg9⟩ : ∃ g9, g9 = w5.heap.size := ⟨_, rfl⟩
    rw [← hg9] at N ⊢
    clear hg9
    generalize w5.alloc _ = w6 at N T ⊢
    have n0 := N.bx.c 0 _ rfl
    clear N
    by_cases h3 : e1 = 0
    case neg =>
      have HX := Lib.hid (HX1.out.trans (if_neg h3))
      have h3' : (e1 != 0) = true := by simpa using h3
      clear h3
      go_wp2
      go_ret2
      obtain ⟨rfl, rfl⟩ := Prod.mk.inj HX.out
      exact ⟨rfl, T.out.bx.old⟩
    have q := HX1.out.trans (if_pos h3)
    replace HX1 := Lib.hid q
    clear q
    have h3' : (e1 != 0) = false := by simpa using h3
    subst h3
    by_cases h4 : hy = 1
    case pos =>
      have HX := Lib.hid (HX1.out.trans (if_pos h4))
      have h4' : (hy == 1) = true := by simpa using h4
      clear h4
      go_wp2
      go_ret2
      obtain ⟨rfl, rfl⟩ := Prod.mk.inj HX.out
      exact ⟨rfl, T.out.bx.old⟩
    have HX := Lib.hid (HX1.out.trans (if_neg h4))
    have h4' : (hy == 1) = false := by simpa using h4
    clear h4 HX1
    obtain ⟨j, rfl, hj, hg, -, -⟩ := fcap_yes HFC.out
    have hw : wrap64 ((j : Int) + 1) = (j : Int) + 1 := w64_in (by omega) (by have := (sgood_iff.1 hg).few.1; omega)
    clear hj hg
    go_wp2
    go_ret2
    obtain ⟨rfl, rfl⟩ := Prod.mk.inj HX.out
    exact ⟨by first | rfl | (rw [hw]; rfl), T.out.bx.old⟩
end Go.Proofs.YtkpbfbmkolgmgaaGreat
