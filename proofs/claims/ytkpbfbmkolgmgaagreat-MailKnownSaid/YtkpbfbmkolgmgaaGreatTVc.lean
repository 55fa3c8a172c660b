/-
  The walks of mail's send, recv, Do. Condition: the state and the call's ways lie in memory.
-/
import Derived.Test.YtkpbfbmkolgmgaaGreatTVe
namespace Go.Proofs.YtkpbfbmkolgmgaaGreat
open Go.RowKit
set_option linter.unusedSimpArgs false
set_option linter.unusedVariables false

inductive Tw (w w' : World) (g g' : Nat) : Prop
  | mk {w1 : World} (f : Fnd w w1 g) (f' : Fnd w1 w' g') : Tw w w' g g'
theorem Tw.use {w w' : World} {g g' : Nat} {p : Prop} (h : Tw w w' g g') (k : ∀ {w1}, Fnd w w1 g → Fnd w1 w' g' → p) : p := by
  obtain ⟨f, f'⟩ := h
  exact k f f'
theorem Fsh.two {w w3 w4 w5 w6 : World} {s' : St} {A C : Option Addr} {g6 g7 : Nat} (h : Fsh w3 w4 s' A C) (f : Fnd w4 w5 g6) (f' : Fnd w5 w6 g7) (h6 : g6 < w3.heap.size) (h7 : g7 < w3.heap.size) (hw : w.heap.size ≤ w3.heap.size) : Fsh w w6 s' A C := ((h.fnd f h6).fnd f' h7).base hw
theorem newt_mail (w : World) : Calls Tryz.prog 131 #[.int .i64 3, .int .i64 0, .int .i64 0] w fun e w' => e = .returned (.tuple #[.agg #[.int .i64 3, .int .i64 0, .int .i64 0, .int .i64 0, .int .i64 0, .int .i64 0, .int .i64 0, .bool false, .int .u64 0, .int .u64 0, .int .u64 0, .int .u64 0, .int .u64 0], .bool true]) ∧ Below w.heap.size w w' := pnewt_is (show tnew 3 0 0 = some (Tng.of 3) by rfl)
set_option maxRecDepth 100000 in
set_option maxHeartbeats 16000000 in
theorem send_is {s : St} {a b c : Int} {A C : Option Addr} {n ca m cc : Nat} {t o x y : Int} {PA PB : Option Addr} {na cpa nb cpb z : Nat} {la lb : List Int} {i : Nat} {ty ri ba : Int} {r : Option St × Rep} {w : World} (hS : StH w s a b c A n ca C m cc) (hnb : nb = lb.length) (hcpb : nb ≤ cpb) (hB : IntsAt w w.heap.size PB lb) (h0 : 0 ≤ ri) (h7 : ri ≤ 7) (hn : 0 < s.sl.length) (hi : i < s.th.length) (hr : msend s t ⟨o, la, lb, x, y, z⟩ ⟨ty, i, ri, ba⟩ = r) :
    Calls Tryz.prog 75 #[.agg #[.int .i64 a, .int .i64 b, .int .i64 c, .slice A n ca, .slice C m cc], .int .i64 t, .agg #[.int .i64 o, .slice PA na cpa, .slice PB nb cpb, .int .i64 x, .int .i64 y, .int .u64 (z : Int)], .agg #[.int .i64 ty, .int .i64 (i : Int), .int .i64 ri, .int .i64 ba]] w fun e w' => DoF w w' e a b c A n ca C m cc r := by
  obtain ⟨T, CK, KB, R6, R7⟩ := boxes5 w [.int .i64 a, .int .i64 b, .int .i64 c, .slice A n ca, .slice C m cc] [.int .i64 o, .slice PA na cpa, .slice PB nb cpb, .int .i64 x, .int .i64 y, .int .u64 (z : Int)] [.int .i64 ty, .int .i64 (i : Int), .int .i64 ri, .int .i64 ba] [.int .i64 0, .int .i64 0, .int .i64 0, .slice none 0 0, .slice none 0 0] [.int .i64 0, .int .u64 0, .int .i64 0] 27 33 62 27 40
  obtain ⟨g5, hg5⟩ : ∃ g5, g5 = w.heap.size + 1 := ⟨_, rfl⟩
  obtain ⟨gb, hgb⟩ : ∃ gb, gb = w.heap.size + 1 + 1 := ⟨_, rfl⟩
  obtain ⟨g6, hg6⟩ : ∃ g6, g6 = w.heap.size + 1 + 1 + 1 := ⟨_, rfl⟩
  obtain ⟨g7, hg7⟩ : ∃ g7, g7 = w.heap.size + 1 + 1 + 1 + 1 := ⟨_, rfl⟩
  have HNE : Hid (g6 ≠ g7) := Lib.hid (by omega)
  have HSM := Lib.hid hS.hm
  have HS := Lib.hid hS
  have HNB := Lib.hid hnb
  have HCPB := Lib.hid hcpb
  have HB := Lib.hid hB
  have HR := Lib.hid hr
  have HN := Lib.hid hn
  have HI := Lib.hid hi
  have H0 := Lib.hid h0
  have H7 := Lib.hid h7
  clear hS hnb hcpb hB hr hn hi h0 h7
  go_enter Tryz.func75, Tryz.ntmps75
  go_upto_region 1 with fail
  rw [← hg7] at R7 ⊢
  rw [← hg6] at R6 ⊢
  rw [← hgb] at KB ⊢
  rw [← hg5] at CK ⊢
  clear hg5 hgb hg6 hg7
  generalize ((((w.alloc _).alloc _).alloc _).alloc _).alloc _ = w3 at T CK KB R6 R7 ⊢
  replace T := Lib.hid T
  replace CK := Lib.hid CK
  replace KB := Lib.hid KB
  replace R6 := Lib.hid R6
  replace R7 := Lib.hid R7
  obtain ⟨⟨fr, e0⟩, hf⟩ : ∃ q, mfrom s t ⟨o, la, lb, x, y, z⟩ ⟨ty, i, ri, ba⟩ = q := ⟨_, rfl⟩
  have HF := Lib.hid hf
  have HX1 : Hid (r = if e0 = 0 then (if (thAt s.th i).full = true then (none, ⟨13, 0, 0⟩) else (some (tputS s i (mbox z ba fr)), ⟨0, 0, 0⟩)) else (none, ⟨e0, 0, 0⟩)) := Lib.hid (by rw [← HR.out, msend, hf]; simp only [Int.toNat_natCast])
  clear hf HR
  have t0 := T.out.bx.c 0 _ rfl
  have t1 := T.out.bx.c 1 _ rfl
  have t2 := T.out.bx.c 2 _ rfl
  have t3 := T.out.bx.c 3 _ rfl
  have t4 := T.out.bx.c 4 _ rfl
  have k0 := CK.out.bx.c 0 _ rfl
  have k1 := CK.out.bx.c 1 _ rfl
  have k2 := CK.out.bx.c 2 _ rfl
  have k3 := CK.out.bx.c 3 _ rfl
  have k4 := CK.out.bx.c 4 _ rfl
  have k5 := CK.out.bx.c 5 _ rfl
  have p0 := KB.out.bx.c 0 _ rfl
  have p1 := KB.out.bx.c 1 _ rfl
  have p2 := KB.out.bx.c 2 _ rfl
  have p3 := KB.out.bx.c 3 _ rfl
  go_wp2_with fail
  refine (fromof_is (HS.out.on T.out.bx.old) HNB.out HCPB.out (HB.out.on T.out.bx.old) H0.out H7.out HF.out).mono ?_
  rintro e w4 ⟨rfl, hb⟩
  replace T := Lib.hid (T.out.on hb)
  replace CK := Lib.hid (CK.out.on hb)
  replace KB := Lib.hid (KB.out.on hb)
  replace R6 := Lib.hid (R6.out.on hb)
  replace R7 := Lib.hid (R7.out.on hb)
  clear hb k0 k1 k2 k3 k4 k5 p0 p1 p2 p3
  clear t0 t1 t2 t3 t4
  go_upto_region 2 with fail
  by_cases h1 : e0 = 0
  case neg =>
    have HX := Lib.hid (HX1.out.trans (if_neg h1))
    have h1' : (e0 != 0) = true := by simpa using h1
    clear h1 HX1
    have t0 := T.out.bx.c 0 _ rfl
    have t1 := T.out.bx.c 1 _ rfl
    have t2 := T.out.bx.c 2 _ rfl
    have t3 := T.out.bx.c 3 _ rfl
    have t4 := T.out.bx.c 4 _ rfl
    go_wp2_with fail
    refine (refuse_is w4).mono ?_
    rintro e w5 ⟨rfl, hb⟩
    replace T := Lib.hid (T.out.on hb)
    replace R6 := Lib.hid (R6.out.on hb)
    replace R7 := Lib.hid (R7.out.on hb)
    clear hb
    clear t0 t1 t2 t3 t4
    have HT6 : Hid (w5.there g6 0 (#[.int .i64 a, .int .i64 b, .int .i64 c, .slice A n ca, .slice C m cc] : Array Value).size) := Lib.hid (R6.out.there (n := 5) rfl)
    have HO6 := Lib.hid (state_one a b c A n ca C m cc)
    have Q6 := Lib.hid (R6.out.setCells (vs := [.int .i64 a, .int .i64 b, .int .i64 c, .slice A n ca, .slice C m cc]) rfl)
    have Q7 := Lib.hid (R7.out.fnd (Fnd.setCells g6 [.int .i64 a, .int .i64 b, .int .i64 c, .slice A n ca, .slice C m cc] 0 w5) HNE.out.symm Q6.out.bx.old)
    clear R6 R7
    go_wp2_with (first
      | ((with_reducible change wpList _ _ _ _ _ _); refine wpList_store_mid (by rfl) 27 (.tmp 8) (.tmp 27) (by rfl) g6 0 #[.int .i64 a, .int .i64 b, .int .i64 c, .slice A n ca, .slice C m cc] (by rfl) (by rfl) HT6.out info_state HO6.out ?_; change wpList _ _ _ _ _ (w5.setCells g6 0 [.int .i64 a, .int .i64 b, .int .i64 c, .slice A n ca, .slice C m cc]); generalize w5.setCells g6 0 [.int .i64 a, .int .i64 b, .int .i64 c, .slice A n ca, .slice C m cc] = wq at Q6 Q7 ⊢; have HT7 : Hid (wq.there g7 0 (#[.int .i64 e0, .int .u64 0, .int .i64 0] : Array Value).size) := Lib.hid (Q7.out.there (n := 3) rfl); have HO7 := Lib.hid (reply_one e0 0 0); have Q8 := Lib.hid (Q7.out.setCells (vs := [.int .i64 e0, .int .u64 0, .int .i64 0]) rfl); have Q9 := Lib.hid (Q6.out.fnd (Fnd.setCells g7 [.int .i64 e0, .int .u64 0, .int .i64 0] 0 wq) HNE.out Q8.out.bx.old))
      | ((with_reducible change wpList _ _ _ _ _ _); refine wpList_store_mid (by rfl) 40 (.tmp 9) (.tmp 28) (by rfl) g7 0 #[.int .i64 e0, .int .u64 0, .int .i64 0] (by rfl) (by rfl) HT7.out info_reply HO7.out ?_; change wpList _ _ _ _ _ (wq.setCells g7 0 [.int .i64 e0, .int .u64 0, .int .i64 0]); generalize wq.setCells g7 0 [.int .i64 e0, .int .u64 0, .int .i64 0] = wz at Q8 Q9 ⊢))
    refine bodyPost_ret (results_cc rfl _ _ _ (b := g6) (b' := g7) (by rfl) Q9.out.bx.range Tryz.underlying27 rfl info_state (by rfl) Q8.out.bx.range Tryz.underlying40 rfl info_reply) rfl ?_
    rw [HX.out]
    exact ⟨A, ca, C, cc, rfl, Q8.out.bx.old, rfl, rfl, rfl, rfl⟩
  have q := HX1.out.trans (if_pos h1)
  have h1' : (e0 != 0) = false := by simpa using h1
  subst h1
  obtain ⟨tb, tp, hC, htb, hd⟩ := HS.out.lies.th (Nat.lt_of_le_of_lt (Nat.zero_le _) HI.out)
  subst hC
  have u7 := (hd i HI.out).c7
  obtain ⟨fu, hfu⟩ : ∃ fu, (thAt s.th i).full = fu := ⟨_, rfl⟩
  rw [hfu] at u7 q
  have HX1 := Lib.hid q
  replace u7 := (T.out.bx.old.cell (p := ⟨tb, tp + i * 13 + 7, none⟩) htb).trans u7
  have him : (i : Int) < (m : Int) := by rw [HSM.out]; exact Int.ofNat_lt.2 HI.out
  clear q htb hd hfu
  have t4 := T.out.bx.c 4 _ rfl
  have p1 := KB.out.bx.c 1 _ rfl
  cases fu with
  | true =>
    have HX := Lib.hid (HX1.out.trans (if_pos rfl))
    clear HX1
    have t0 := T.out.bx.c 0 _ rfl
    have t1 := T.out.bx.c 1 _ rfl
    have t2 := T.out.bx.c 2 _ rfl
    have t3 := T.out.bx.c 3 _ rfl
    go_wp2_with fail
    refine (refuse_is w4).mono ?_
    rintro e w5 ⟨rfl, hb⟩
    replace T := Lib.hid (T.out.on hb)
    replace R6 := Lib.hid (R6.out.on hb)
    replace R7 := Lib.hid (R7.out.on hb)
    clear hb
    clear t0 t1 t2 t3 t4
    have HT6 : Hid (w5.there g6 0 (#[.int .i64 a, .int .i64 b, .int .i64 c, .slice A n ca, .slice (some ⟨tb, tp, none⟩) m cc] : Array Value).size) := Lib.hid (R6.out.there (n := 5) rfl)
    have HO6 := Lib.hid (state_one a b c A n ca (some ⟨tb, tp, none⟩) m cc)
    have Q6 := Lib.hid (R6.out.setCells (vs := [.int .i64 a, .int .i64 b, .int .i64 c, .slice A n ca, .slice (some ⟨tb, tp, none⟩) m cc]) rfl)
    have Q7 := Lib.hid (R7.out.fnd (Fnd.setCells g6 [.int .i64 a, .int .i64 b, .int .i64 c, .slice A n ca, .slice (some ⟨tb, tp, none⟩) m cc] 0 w5) HNE.out.symm Q6.out.bx.old)
    clear R6 R7
    go_wp2_with (first
      | ((with_reducible change wpList _ _ _ _ _ _); refine wpList_store_mid (by rfl) 27 (.tmp 8) (.tmp 39) (by rfl) g6 0 #[.int .i64 a, .int .i64 b, .int .i64 c, .slice A n ca, .slice (some ⟨tb, tp, none⟩) m cc] (by rfl) (by rfl) HT6.out info_state HO6.out ?_; change wpList _ _ _ _ _ (w5.setCells g6 0 [.int .i64 a, .int .i64 b, .int .i64 c, .slice A n ca, .slice (some ⟨tb, tp, none⟩) m cc]); generalize w5.setCells g6 0 [.int .i64 a, .int .i64 b, .int .i64 c, .slice A n ca, .slice (some ⟨tb, tp, none⟩) m cc] = wq at Q6 Q7 ⊢; have HT7 : Hid (wq.there g7 0 (#[.int .i64 13, .int .u64 0, .int .i64 0] : Array Value).size) := Lib.hid (Q7.out.there (n := 3) rfl); have HO7 := Lib.hid (reply_one 13 0 0); have Q8 := Lib.hid (Q7.out.setCells (vs := [.int .i64 13, .int .u64 0, .int .i64 0]) rfl); have Q9 := Lib.hid (Q6.out.fnd (Fnd.setCells g7 [.int .i64 13, .int .u64 0, .int .i64 0] 0 wq) HNE.out Q8.out.bx.old))
      | ((with_reducible change wpList _ _ _ _ _ _); refine wpList_store_mid (by rfl) 40 (.tmp 9) (.tmp 40) (by rfl) g7 0 #[.int .i64 13, .int .u64 0, .int .i64 0] (by rfl) (by rfl) HT7.out info_reply HO7.out ?_; change wpList _ _ _ _ _ (wq.setCells g7 0 [.int .i64 13, .int .u64 0, .int .i64 0]); generalize wq.setCells g7 0 [.int .i64 13, .int .u64 0, .int .i64 0] = wz at Q8 Q9 ⊢))
    refine bodyPost_ret (results_cc rfl _ _ _ (b := g6) (b' := g7) (by rfl) Q9.out.bx.range Tryz.underlying27 rfl info_state (by rfl) Q8.out.bx.range Tryz.underlying40 rfl info_reply) rfl ?_
    rw [HX.out]
    exact ⟨A, ca, some ⟨tb, tp, none⟩, cc, rfl, Q8.out.bx.old, rfl, rfl, rfl, rfl⟩
  | false =>
    have HX := Lib.hid (HX1.out.trans (if_neg (by decide)))
    clear HX1
    have k5 := CK.out.bx.c 5 _ rfl
    have p3 := KB.out.bx.c 3 _ rfl
    go_upto_region 7 with fail
    have N := Wbs.more T.out.bx.old [.int .i64 3, .int .i64 0, .int .i64 0, .int .i64 0, .int .i64 0, .int .i64 fr, .int .i64 ba, .bool true, .int .u64 (z : Int), .int .u64 0, .int .u64 0, .int .u64 0, .int .u64 0] 67
    have hal := below_alloc w4 (.cells #[.int .i64 3, .int .i64 0, .int .i64 0, .int .i64 0, .int .i64 0, .int .i64 fr, .int .i64 ba, .bool true, .int .u64 (z : Int), .int .u64 0, .int .u64 0, .int .u64 0, .int .u64 0] 67)
    replace T := Lib.hid (T.out.on hal)
    replace KB := Lib.hid (KB.out.on hal)
    replace R6 := Lib.hid (R6.out.on hal)
    replace R7 := Lib.hid (R7.out.on hal)
    clear hal CK k5 p3 p1 t4 u7 him
    obtain ⟨g12, hg12⟩ : ∃ g, g = w4.heap.size := ⟨_, rfl⟩
    rw [← hg12] at N ⊢
    clear hg12
    generalize w4.alloc _ = w5 at N T KB R6 R7 ⊢
    have t0 := T.out.bx.c 0 _ rfl
    have t1 := T.out.bx.c 1 _ rfl
    have t2 := T.out.bx.c 2 _ rfl
    have t3 := T.out.bx.c 3 _ rfl
    have t4 := T.out.bx.c 4 _ rfl
    have p1 := KB.out.bx.c 1 _ rfl
    have n0 := N.bx.c 0 _ rfl
    have n1 := N.bx.c 1 _ rfl
    have n2 := N.bx.c 2 _ rfl
    have n3 := N.bx.c 3 _ rfl
    have n4 := N.bx.c 4 _ rfl
    have n5 := N.bx.c 5 _ rfl
    have n6 := N.bx.c 6 _ rfl
    have n7 := N.bx.c 7 _ rfl
    have n8 := N.bx.c 8 _ rfl
    have n9 := N.bx.c 9 _ rfl
    have n10 := N.bx.c 10 _ rfl
    have n11 := N.bx.c 11 _ rfl
    have n12 := N.bx.c 12 _ rfl
    clear N
    go_wp2_with fail
    refine (withbox_is (xword := z) (xd0 := 0) (xd1 := 0) (xd2 := 0) (xd3 := 0) (HS.out.on T.out.bx.old) HN.out HI.out).mono ?_
    rintro e w6 ⟨A', ca', C', cc', rfl, hca, hcc, hF, hb⟩
    have HCA := Lib.hid hca
    have HCC := Lib.hid hcc
    have HFS := Lib.hid hF
    have HLT : Hid (g6 < w5.heap.size ∧ g7 < w5.heap.size ∧ w.heap.size ≤ w5.heap.size) := Lib.hid ⟨R6.out.bx.lt, R7.out.bx.lt, T.out.bx.old.size⟩
    replace R6 := Lib.hid (R6.out.on hb)
    replace R7 := Lib.hid (R7.out.on hb)
    clear hb hca hcc hF T KB p1 n0 n1 n2 n3 n4 n5 n6 n7 n8 n9 n10 n11 n12
    clear t0 t1 t2 t3 t4
    have HT6 : Hid (w6.there g6 0 (#[.int .i64 a, .int .i64 b, .int .i64 c, .slice A' n ca', .slice C' m cc'] : Array Value).size) := Lib.hid (R6.out.there (n := 5) rfl)
    have HO6 := Lib.hid (state_one a b c A' n ca' C' m cc')
    have Q6 := Lib.hid (R6.out.setCells (vs := [.int .i64 a, .int .i64 b, .int .i64 c, .slice A' n ca', .slice C' m cc']) rfl)
    have Q7 := Lib.hid (R7.out.fnd (Fnd.setCells g6 [.int .i64 a, .int .i64 b, .int .i64 c, .slice A' n ca', .slice C' m cc'] 0 w6) HNE.out.symm Q6.out.bx.old)
    have ff1 := Lib.hid (Fnd.setCells g6 [.int .i64 a, .int .i64 b, .int .i64 c, .slice A' n ca', .slice C' m cc'] 0 w6)
    clear R6 R7
    go_wp2_with (first
      | ((with_reducible change wpList _ _ _ _ _ _); refine wpList_store_mid (by rfl) 27 (.tmp 8) (.tmp 51) (by rfl) g6 0 #[.int .i64 a, .int .i64 b, .int .i64 c, .slice A' n ca', .slice C' m cc'] (by rfl) (by rfl) HT6.out info_state HO6.out ?_; change wpList _ _ _ _ _ (w6.setCells g6 0 [.int .i64 a, .int .i64 b, .int .i64 c, .slice A' n ca', .slice C' m cc']); generalize w6.setCells g6 0 [.int .i64 a, .int .i64 b, .int .i64 c, .slice A' n ca', .slice C' m cc'] = wq at Q6 Q7 ff1 ⊢; have HT7 : Hid (wq.there g7 0 (#[.int .i64 0, .int .u64 0, .int .i64 0] : Array Value).size) := Lib.hid (Q7.out.there (n := 3) rfl); have HO7 := Lib.hid (reply_one 0 0 0); have Q8 := Lib.hid (Q7.out.setCells (vs := [.int .i64 0, .int .u64 0, .int .i64 0]) rfl); have Q9 := Lib.hid (Q6.out.fnd (Fnd.setCells g7 [.int .i64 0, .int .u64 0, .int .i64 0] 0 wq) HNE.out Q8.out.bx.old); replace ff1 := Lib.hid (HFS.out.two ff1.out (Fnd.setCells g7 [.int .i64 0, .int .u64 0, .int .i64 0] 0 wq) HLT.out.1 HLT.out.2.1 HLT.out.2.2))
      | ((with_reducible change wpList _ _ _ _ _ _); refine wpList_store_mid (by rfl) 40 (.tmp 9) (.tmp 52) (by rfl) g7 0 #[.int .i64 0, .int .u64 0, .int .i64 0] (by rfl) (by rfl) HT7.out info_reply HO7.out ?_; change wpList _ _ _ _ _ (wq.setCells g7 0 [.int .i64 0, .int .u64 0, .int .i64 0]); generalize wq.setCells g7 0 [.int .i64 0, .int .u64 0, .int .i64 0] = wz at Q8 Q9 ff1 ⊢))
    refine bodyPost_ret (results_cc rfl _ _ _ (b := g6) (b' := g7) (by rfl) Q9.out.bx.range Tryz.underlying27 rfl info_state (by rfl) Q8.out.bx.range Tryz.underlying40 rfl info_reply) rfl ?_
    rw [HX.out]
    exact ⟨A', ca', C', cc', rfl, Q8.out.bx.old, HCA.out, HCC.out, ff1.out⟩
set_option maxRecDepth 100000 in
set_option maxHeartbeats 16000000 in
theorem recv_is {s : St} {a b c : Int} {A C : Option Addr} {n ca m cc : Nat} {t o x y : Int} {PA PB : Option Addr} {na cpa nb cpb z : Nat} {la lb : List Int} {i : Nat} {r : Option St × Rep} {w : World} (hS : StH w s a b c A n ca C m cc) (hnb : nb = lb.length) (hcpb : nb ≤ cpb) (hB : IntsAt w w.heap.size PB lb) (hG : Gst s) (hi : i < s.th.length) (h3 : (thAt s.th i).ty = 3) (hr : mrecv s t ⟨o, la, lb, x, y, z⟩ i = r) :
    Calls Tryz.prog 76 #[.agg #[.int .i64 a, .int .i64 b, .int .i64 c, .slice A n ca, .slice C m cc], .int .i64 t, .agg #[.int .i64 o, .slice PA na cpa, .slice PB nb cpb, .int .i64 x, .int .i64 y, .int .u64 (z : Int)], .int .i64 (i : Int)] w fun e w' => DoF w w' e a b c A n ca C m cc r := by
  obtain ⟨T, CK, R6, R7⟩ := boxes4 w [.int .i64 a, .int .i64 b, .int .i64 c, .slice A n ca, .slice C m cc] [.int .i64 o, .slice PA na cpa, .slice PB nb cpb, .int .i64 x, .int .i64 y, .int .u64 (z : Int)] [.int .i64 0, .int .i64 0, .int .i64 0, .slice none 0 0, .slice none 0 0] [.int .i64 0, .int .u64 0, .int .i64 0] 27 33 27 40
  obtain ⟨g5, hg5⟩ : ∃ g5, g5 = w.heap.size + 1 := ⟨_, rfl⟩
  obtain ⟨g6, hg6⟩ : ∃ g6, g6 = w.heap.size + 1 + 1 := ⟨_, rfl⟩
  obtain ⟨g7, hg7⟩ : ∃ g7, g7 = w.heap.size + 1 + 1 + 1 := ⟨_, rfl⟩
  have HNE : Hid (g6 ≠ g7) := Lib.hid (by omega)
  have HSM := Lib.hid hS.hm
  have HFR : Hid ((thAt s.th i).frm = 0 ∨ ∃ j : Nat, (thAt s.th i).frm = (j : Int) + 1 ∧ j < s.sl.length) := Lib.hid (by
    have h1 := (mail_thing (hG.tgood hi) h3).2.2.2.2.1
    have h2 := (from2_iff hG).1 (hG.tfrom hi)
    by_cases q : 0 < (thAt s.th i).frm
    · exact .inr ⟨((thAt s.th i).frm - 1).toNat, by omega, (h2 q).1⟩
    · exact .inl (by omega))
  have HPS := Lib.hid hG.posm
  clear h3 hG
  have HS := Lib.hid hS
  have HNB := Lib.hid hnb
  have HCPB := Lib.hid hcpb
  have HB := Lib.hid hB
  have HR := Lib.hid hr
  have HI := Lib.hid hi
  clear hS hnb hcpb hB hr hi
  go_enter Tryz.func76, Tryz.ntmps76
  go_upto_region 1 with fail
  rw [← hg7] at R7 ⊢
  rw [← hg6] at R6 ⊢
  rw [← hg5] at CK ⊢
  clear hg5 hg6 hg7
  generalize (((w.alloc _).alloc _).alloc _).alloc _ = w3 at T CK R6 R7 ⊢
  replace T := Lib.hid T
  replace CK := Lib.hid CK
  replace R6 := Lib.hid R6
  replace R7 := Lib.hid R7
  obtain ⟨tb, tp, hC, htb, hd⟩ := HS.out.lies.th (Nat.lt_of_le_of_lt (Nat.zero_le _) HI.out)
  subst hC
  obtain ⟨⟨xty, xbits, xbase, xsize, xused, xfrm, xbadge, xfull, xword, xd0, xd1, xd2, xd3⟩, hx⟩ : ∃ x, thAt s.th i = x := ⟨_, rfl⟩
  have hu := hd i HI.out
  have q := HR.out
  have hfr := HFR.out
  rw [mrecv] at q
  rw [hx] at hu q hfr
  simp only at hfr
  dsimp only at q
  have HXX := Lib.hid q.symm
  replace HFR := Lib.hid hfr
  replace hu := hu.same (w' := w3) fun k => T.out.bx.old.cell (p := ⟨tb, k, none⟩) htb
  obtain ⟨u0, u1, u2, u3, u4, u5, u6, u7, u8, u9, u10, u11, u12⟩ := hu
  simp only at u0 u1 u2 u3 u4 u5 u6 u7 u8 u9 u10 u11 u12
  have him : (i : Int) < (m : Int) := by rw [HSM.out]; exact Int.ofNat_lt.2 HI.out
  clear htb hd hx q hfr HR
  have t4 := T.out.bx.c 4 _ rfl
  go_upto_region 2 with fail
  have N := Wbs.more T.out.bx.old [.int .i64 xty, .int .i64 xbits, .int .i64 xbase, .int .i64 xsize, .int .i64 xused, .int .i64 xfrm, .int .i64 xbadge, .bool xfull, .int .u64 (xword : Int), .int .u64 (xd0 : Int), .int .u64 (xd1 : Int), .int .u64 (xd2 : Int), .int .u64 (xd3 : Int)] 67
  have H10 : Hid (w3.heap.size ≠ g6 ∧ w3.heap.size ≠ g7) := Lib.hid ⟨by have := R6.out.bx.lt; omega, by have := R7.out.bx.lt; omega⟩
  have hal := below_alloc w3 (.cells #[.int .i64 xty, .int .i64 xbits, .int .i64 xbase, .int .i64 xsize, .int .i64 xused, .int .i64 xfrm, .int .i64 xbadge, .bool xfull, .int .u64 (xword : Int), .int .u64 (xd0 : Int), .int .u64 (xd1 : Int), .int .u64 (xd2 : Int), .int .u64 (xd3 : Int)] 67)
  replace T := Lib.hid (T.out.on hal)
  replace CK := Lib.hid (CK.out.on hal)
  replace R6 := Lib.hid (R6.out.on hal)
  replace R7 := Lib.hid (R7.out.on hal)
  clear hal u0 u1 u2 u3 u4 u5 u6 u7 u8 u9 u10 u11 u12 him t4
  obtain ⟨g10, hg10⟩ : ∃ g, g = w3.heap.size := ⟨_, rfl⟩
  rw [← hg10] at N H10 ⊢
  clear hg10
  generalize w3.alloc _ = w4 at N T CK R6 R7 ⊢
  replace N := Lib.hid N
  have n7 := N.out.bx.c 7 _ rfl
  cases xfull with
  | false =>
    have HX := Lib.hid (HXX.out.trans (if_neg (by decide)))
    clear HXX
    have t0 := T.out.bx.c 0 _ rfl
    have t1 := T.out.bx.c 1 _ rfl
    have t2 := T.out.bx.c 2 _ rfl
    have t3 := T.out.bx.c 3 _ rfl
    have t4 := T.out.bx.c 4 _ rfl
    go_wp2_with fail
    refine (refuse_is w4).mono ?_
    rintro e w5 ⟨rfl, hb⟩
    replace T := Lib.hid (T.out.on hb)
    replace R6 := Lib.hid (R6.out.on hb)
    replace R7 := Lib.hid (R7.out.on hb)
    clear hb
    clear t0 t1 t2 t3 t4
    have HT6 : Hid (w5.there g6 0 (#[.int .i64 a, .int .i64 b, .int .i64 c, .slice A n ca, .slice (some ⟨tb, tp, none⟩) m cc] : Array Value).size) := Lib.hid (R6.out.there (n := 5) rfl)
    have HO6 := Lib.hid (state_one a b c A n ca (some ⟨tb, tp, none⟩) m cc)
    have Q6 := Lib.hid (R6.out.setCells (vs := [.int .i64 a, .int .i64 b, .int .i64 c, .slice A n ca, .slice (some ⟨tb, tp, none⟩) m cc]) rfl)
    have Q7 := Lib.hid (R7.out.fnd (Fnd.setCells g6 [.int .i64 a, .int .i64 b, .int .i64 c, .slice A n ca, .slice (some ⟨tb, tp, none⟩) m cc] 0 w5) HNE.out.symm Q6.out.bx.old)
    clear R6 R7
    go_wp2_with (first
      | ((with_reducible change wpList _ _ _ _ _ _); refine wpList_store_mid (by rfl) 27 (.tmp 8) (.tmp 25) (by rfl) g6 0 #[.int .i64 a, .int .i64 b, .int .i64 c, .slice A n ca, .slice (some ⟨tb, tp, none⟩) m cc] (by rfl) (by rfl) HT6.out info_state HO6.out ?_; change wpList _ _ _ _ _ (w5.setCells g6 0 [.int .i64 a, .int .i64 b, .int .i64 c, .slice A n ca, .slice (some ⟨tb, tp, none⟩) m cc]); generalize w5.setCells g6 0 [.int .i64 a, .int .i64 b, .int .i64 c, .slice A n ca, .slice (some ⟨tb, tp, none⟩) m cc] = wq at Q6 Q7 ⊢; have HT7 : Hid (wq.there g7 0 (#[.int .i64 14, .int .u64 0, .int .i64 0] : Array Value).size) := Lib.hid (Q7.out.there (n := 3) rfl); have HO7 := Lib.hid (reply_one 14 0 0); have Q8 := Lib.hid (Q7.out.setCells (vs := [.int .i64 14, .int .u64 0, .int .i64 0]) rfl); have Q9 := Lib.hid (Q6.out.fnd (Fnd.setCells g7 [.int .i64 14, .int .u64 0, .int .i64 0] 0 wq) HNE.out Q8.out.bx.old))
      | ((with_reducible change wpList _ _ _ _ _ _); refine wpList_store_mid (by rfl) 40 (.tmp 9) (.tmp 26) (by rfl) g7 0 #[.int .i64 14, .int .u64 0, .int .i64 0] (by rfl) (by rfl) HT7.out info_reply HO7.out ?_; change wpList _ _ _ _ _ (wq.setCells g7 0 [.int .i64 14, .int .u64 0, .int .i64 0]); generalize wq.setCells g7 0 [.int .i64 14, .int .u64 0, .int .i64 0] = wz at Q8 Q9 ⊢))
    refine bodyPost_ret (results_cc rfl _ _ _ (b := g6) (b' := g7) (by rfl) Q9.out.bx.range Tryz.underlying27 rfl info_state (by rfl) Q8.out.bx.range Tryz.underlying40 rfl info_reply) rfl ?_
    rw [HX.out]
    exact ⟨A, ca, some ⟨tb, tp, none⟩, cc, rfl, Q8.out.bx.old, rfl, rfl, rfl, rfl⟩
  | true =>
    have q := HXX.out.trans (if_pos rfl)
    obtain ⟨⟨h1, e1⟩, hh⟩ : ∃ q, mhand s t ⟨o, la, lb, x, y, z⟩ xfrm = q := ⟨_, rfl⟩
    rw [hh] at q
    dsimp only at q
    have HH := Lib.hid hh
    have HX1 := Lib.hid q
    clear HXX q hh
    have t0 := T.out.bx.c 0 _ rfl
    have t1 := T.out.bx.c 1 _ rfl
    have t2 := T.out.bx.c 2 _ rfl
    have t3 := T.out.bx.c 3 _ rfl
    have t4 := T.out.bx.c 4 _ rfl
    have k0 := CK.out.bx.c 0 _ rfl
    have k1 := CK.out.bx.c 1 _ rfl
    have k2 := CK.out.bx.c 2 _ rfl
    have k3 := CK.out.bx.c 3 _ rfl
    have k4 := CK.out.bx.c 4 _ rfl
    have k5 := CK.out.bx.c 5 _ rfl
    have n5 := N.out.bx.c 5 _ rfl
    go_wp2_with fail
    refine (handon_is (HS.out.on T.out.bx.old) HNB.out HCPB.out (HB.out.on T.out.bx.old) HFR.out HH.out).mono ?_
    rintro e w5 ⟨A', ca', C', cc', rfl, hb, hm⟩
    have HMM := Lib.hid hm
    have HL4 : Hid (g6 < w4.heap.size ∧ g7 < w4.heap.size ∧ g10 < w4.heap.size) := Lib.hid ⟨R6.out.bx.lt, R7.out.bx.lt, N.out.bx.lt⟩
    have HW4 := Lib.hid T.out.bx.old
    replace T := Lib.hid (T.out.on hb)
    replace CK := Lib.hid (CK.out.on hb)
    replace R6 := Lib.hid (R6.out.on hb)
    replace R7 := Lib.hid (R7.out.on hb)
    replace N := Lib.hid (N.out.on hb)
    have HB5 := Lib.hid hb
    clear hb hm k0 k1 k2 k3 k4 k5 n5 n7
    clear t0 t1 t2 t3 t4
    go_upto_region 5 with fail
    have N2 := Wbs.more T.out.bx.old [.int .i64 a, .int .i64 b, .int .i64 c, .slice A' n ca', .slice C' m cc'] 27
    have hal := below_alloc w5 (.cells #[.int .i64 a, .int .i64 b, .int .i64 c, .slice A' n ca', .slice C' m cc'] 27)
    replace T := Lib.hid (T.out.on hal)
    replace CK := Lib.hid (CK.out.on hal)
    replace R6 := Lib.hid (R6.out.on hal)
    replace R7 := Lib.hid (R7.out.on hal)
    replace N := Lib.hid (N.out.on hal)
    have H11 : Hid (w5.heap.size ≠ g6 ∧ w5.heap.size ≠ g7) := Lib.hid ⟨by have := HL4.out; have := HB5.out.size; omega, by have := HL4.out; have := HB5.out.size; omega⟩
    have HAL := Lib.hid hal
    clear hal
    obtain ⟨g11, hg11⟩ : ∃ g, g = w5.heap.size := ⟨_, rfl⟩
    rw [← hg11] at N2 H11 ⊢
    clear hg11
    generalize w5.alloc _ = w6 at N2 HAL T CK R6 R7 N ⊢
    replace N2 := Lib.hid N2
    by_cases h2 : e1 = 0
    case neg =>
      have HX := Lib.hid (HX1.out.trans (if_neg h2))
      have h2' : (e1 != 0) = true := by simpa using h2
      clear h2 HX1
      have t0 := T.out.bx.c 0 _ rfl
      have t1 := T.out.bx.c 1 _ rfl
      have t2 := T.out.bx.c 2 _ rfl
      have t3 := T.out.bx.c 3 _ rfl
      have t4 := T.out.bx.c 4 _ rfl
      go_wp2_with fail
      refine (refuse_is w6).mono ?_
      rintro e w7 ⟨rfl, hb⟩
      replace T := Lib.hid (T.out.on hb)
      replace R6 := Lib.hid (R6.out.on hb)
      replace R7 := Lib.hid (R7.out.on hb)
      clear hb
      clear t0 t1 t2 t3 t4
      have HT6 : Hid (w7.there g6 0 (#[.int .i64 a, .int .i64 b, .int .i64 c, .slice A n ca, .slice (some ⟨tb, tp, none⟩) m cc] : Array Value).size) := Lib.hid (R6.out.there (n := 5) rfl)
      have HO6 := Lib.hid (state_one a b c A n ca (some ⟨tb, tp, none⟩) m cc)
      have Q6 := Lib.hid (R6.out.setCells (vs := [.int .i64 a, .int .i64 b, .int .i64 c, .slice A n ca, .slice (some ⟨tb, tp, none⟩) m cc]) rfl)
      have Q7 := Lib.hid (R7.out.fnd (Fnd.setCells g6 [.int .i64 a, .int .i64 b, .int .i64 c, .slice A n ca, .slice (some ⟨tb, tp, none⟩) m cc] 0 w7) HNE.out.symm Q6.out.bx.old)
      clear R6 R7
      go_wp2_with (first
        | ((with_reducible change wpList _ _ _ _ _ _); refine wpList_store_mid (by rfl) 27 (.tmp 8) (.tmp 41) (by rfl) g6 0 #[.int .i64 a, .int .i64 b, .int .i64 c, .slice A n ca, .slice (some ⟨tb, tp, none⟩) m cc] (by rfl) (by rfl) HT6.out info_state HO6.out ?_; change wpList _ _ _ _ _ (w7.setCells g6 0 [.int .i64 a, .int .i64 b, .int .i64 c, .slice A n ca, .slice (some ⟨tb, tp, none⟩) m cc]); generalize w7.setCells g6 0 [.int .i64 a, .int .i64 b, .int .i64 c, .slice A n ca, .slice (some ⟨tb, tp, none⟩) m cc] = wq at Q6 Q7 ⊢; have HT7 : Hid (wq.there g7 0 (#[.int .i64 e1, .int .u64 0, .int .i64 0] : Array Value).size) := Lib.hid (Q7.out.there (n := 3) rfl); have HO7 := Lib.hid (reply_one e1 0 0); have Q8 := Lib.hid (Q7.out.setCells (vs := [.int .i64 e1, .int .u64 0, .int .i64 0]) rfl); have Q9 := Lib.hid (Q6.out.fnd (Fnd.setCells g7 [.int .i64 e1, .int .u64 0, .int .i64 0] 0 wq) HNE.out Q8.out.bx.old))
        | ((with_reducible change wpList _ _ _ _ _ _); refine wpList_store_mid (by rfl) 40 (.tmp 9) (.tmp 42) (by rfl) g7 0 #[.int .i64 e1, .int .u64 0, .int .i64 0] (by rfl) (by rfl) HT7.out info_reply HO7.out ?_; change wpList _ _ _ _ _ (wq.setCells g7 0 [.int .i64 e1, .int .u64 0, .int .i64 0]); generalize wq.setCells g7 0 [.int .i64 e1, .int .u64 0, .int .i64 0] = wz at Q8 Q9 ⊢))
      refine bodyPost_ret (results_cc rfl _ _ _ (b := g6) (b' := g7) (by rfl) Q9.out.bx.range Tryz.underlying27 rfl info_state (by rfl) Q8.out.bx.range Tryz.underlying40 rfl info_reply) rfl ?_
      rw [HX.out]
      exact ⟨A, ca, some ⟨tb, tp, none⟩, cc, rfl, Q8.out.bx.old, rfl, rfl, rfl, rfl⟩
    have q := HX1.out.trans (if_pos h2)
    have h2' : (e1 != 0) = false := by simpa using h2
    have HX := Lib.hid q
    clear q HX1
    have hth : (h1.getD s).th = s.th ∧ (h1.getD s).g = s.g ∧ (h1.getD s).sl.length = s.sl.length := by have h := mhand_th (s := s) (t := t) (c := ⟨o, la, lb, x, y, z⟩) (fr := xfrm); rw [HH.out] at h; exact h
    have hst : StH w6 (h1.getD s) a b c A' n ca' C' m cc' := by
      have hm := HMM.out
      cases h1 with
      | none =>
        obtain ⟨e1, e2, e3, e4⟩ := hm
        subst e1 e2 e3 e4
        exact HS.out.on T.out.bx.old
      | some s1 =>
        simp only [Option.getD_some] at hth ⊢
        exact ⟨(hm.2.2.lies).on HAL.out, by rw [hth.2.1]; exact HS.out.hg, by rw [hth.2.2]; exact HS.out.hn, by rw [hth.1]; exact HS.out.hm, HS.out.few, HS.out.fewm, hm.1, hm.2.1⟩
    have hi2 : i < (h1.getD s).th.length := by rw [hth.1]; exact HI.out
    have hn2 : 0 < (h1.getD s).sl.length := by rw [hth.2.2]; exact HPS.out.1
    subst h2
    clear HH HMM
    generalize h1.getD s = s1 at hth hst hi2 hn2 HX
    have HST := Lib.hid hst
    have HI2 := Lib.hid hi2
    have HN2 := Lib.hid hn2
    clear hst hi2 hn2 hth HFR HB5
    go_wp2_with fail
    refine (newt_mail w6).mono ?_
    rintro e w7 ⟨rfl, hb⟩
    replace T := Lib.hid (T.out.on hb)
    replace CK := Lib.hid (CK.out.on hb)
    replace R6 := Lib.hid (R6.out.on hb)
    replace R7 := Lib.hid (R7.out.on hb)
    replace N := Lib.hid (N.out.on hb)
    replace N2 := Lib.hid (N2.out.on hb)
    have HST7 := Lib.hid (HST.out.on hb)
    clear hb HST HAL
    go_upto_region 8 with fail
    have N3 := Wbs.more T.out.bx.old [.int .i64 3, .int .i64 0, .int .i64 0, .int .i64 0, .int .i64 0, .int .i64 0, .int .i64 0, .bool false, .int .u64 0, .int .u64 0, .int .u64 0, .int .u64 0, .int .u64 0] 67
    have H13 : Hid (w7.heap.size ≠ g6 ∧ w7.heap.size ≠ g7) := Lib.hid ⟨by have := R6.out.bx.lt; omega, by have := R7.out.bx.lt; omega⟩
    have hal := below_alloc w7 (.cells #[.int .i64 3, .int .i64 0, .int .i64 0, .int .i64 0, .int .i64 0, .int .i64 0, .int .i64 0, .bool false, .int .u64 0, .int .u64 0, .int .u64 0, .int .u64 0, .int .u64 0] 67)
    replace T := Lib.hid (T.out.on hal)
    replace CK := Lib.hid (CK.out.on hal)
    replace R6 := Lib.hid (R6.out.on hal)
    replace R7 := Lib.hid (R7.out.on hal)
    replace N := Lib.hid (N.out.on hal)
    replace N2 := Lib.hid (N2.out.on hal)
    replace HST7 := Lib.hid (HST7.out.on hal)
    clear hal
    obtain ⟨g13, hg13⟩ : ∃ g, g = w7.heap.size := ⟨_, rfl⟩
    rw [← hg13] at N3 H13 ⊢
    clear hg13
    generalize w7.alloc _ = w8 at N3 HST7 T CK R6 R7 N N2 ⊢
    replace N3 := Lib.hid N3
    refine wp_region_held_drew (S := fun w' => Bxs w w' g11 [.int .i64 a, .int .i64 b, .int .i64 c, .slice A' n ca', .slice C' m cc'] ∧ Bxs w w' g13 [.int .i64 3, .int .i64 0, .int .i64 0, .int .i64 0, .int .i64 0, .int .i64 0, .int .i64 0, .bool false, .int .u64 0, .int .u64 0, .int .u64 0, .int .u64 0, .int .u64 0] ∧ Bxs w w' g10 [.int .i64 xty, .int .i64 xbits, .int .i64 xbase, .int .i64 xsize, .int .i64 xused, .int .i64 xfrm, .int .i64 xbadge, .bool true, .int .u64 (xword : Int), .int .u64 (xd0 : Int), .int .u64 (xd1 : Int), .int .u64 (xd2 : Int), .int .u64 (xd3 : Int)]) (by kernel_rfl) ⟨N2.out.bx.drew, N3.out.bx.drew, N.out.bx.drew⟩ (fun hHeld => ?_)
    have hb := (below_self w8).drew
    replace T := Lib.hid (T.out.on hb)
    replace CK := Lib.hid (CK.out.on hb)
    replace R6 := Lib.hid (R6.out.on hb)
    replace R7 := Lib.hid (R7.out.on hb)
    replace N := Lib.hid (N.out.on hb)
    replace N2 := Lib.hid (N2.out.on hb)
    replace N3 := Lib.hid (N3.out.on hb)
    replace HST7 := Lib.hid (HST7.out.on hb)
    clear hb CK
    generalize w8.drew = v at HST7 T R6 R7 N N2 N3 hHeld ⊢
    refine wpAnyH_take (i := 0) (v := .agg #[.int .i64 a, .int .i64 b, .int .i64 c, .slice A' n ca', .slice C' m cc']) rfl (by kernel_rfl) (by kernel_rfl) (by kernel_rfl) (fun _ _ _ h => h) (yieldsIf_load_mid (by rfl) 27 (.tmp 11) (by rfl) g11 0 (by rfl) [.int .i64 a, .int .i64 b, .int .i64 c, .slice A' n ca', .slice C' m cc'] _ (fun w hS => hS.1.range) Tryz.underlying27 rfl info_state) (by assumption) ?_
    try simp only [Act.put, List.setIfInBounds_toArray, List.set_cons_zero, List.set_cons_succ, List.getElem_toArray, List.getElem_cons_zero, List.getElem_cons_succ]
    refine wpAnyH_take (i := 1) (v := ?_) rfl (by kernel_rfl) (by kernel_rfl) (by kernel_rfl) (fun _ _ _ h => h) (Or.inl ⟨by rfl, ?_⟩) (by assumption) ?_
    rotate_left
    · intro w hSw; go_simp; try with_reducible rfl
    try simp only [Act.put, List.setIfInBounds_toArray, List.set_cons_zero, List.set_cons_succ, List.getElem_toArray, List.getElem_cons_zero, List.getElem_cons_succ]
    refine wpAnyH_take (i := 2) (v := .agg #[.int .i64 3, .int .i64 0, .int .i64 0, .int .i64 0, .int .i64 0, .int .i64 0, .int .i64 0, .bool false, .int .u64 0, .int .u64 0, .int .u64 0, .int .u64 0, .int .u64 0]) rfl (by kernel_rfl) (by kernel_rfl) (by kernel_rfl) (fun _ _ _ h => h) (yieldsIf_load_mid (by rfl) 67 (.tmp 13) (by rfl) g13 0 (by rfl) [.int .i64 3, .int .i64 0, .int .i64 0, .int .i64 0, .int .i64 0, .int .i64 0, .int .i64 0, .bool false, .int .u64 0, .int .u64 0, .int .u64 0, .int .u64 0, .int .u64 0] _ (fun w hS => hS.2.1.range) Tryz.underlying67 rfl info_thing) (by assumption) ?_
    try simp only [Act.put, List.setIfInBounds_toArray, List.set_cons_zero, List.set_cons_succ, List.getElem_toArray, List.getElem_cons_zero, List.getElem_cons_succ]
    refine wpAnyH_take (i := 4) (v := ?_) rfl (by kernel_rfl) (by kernel_rfl) (by kernel_rfl) (fun _ _ _ h => h) (Or.inl ⟨by rfl, ?_⟩) (by assumption) ?_
    rotate_left
    · intro w hSw; go_simp; try with_reducible rfl
    try simp only [Act.put, List.setIfInBounds_toArray, List.set_cons_zero, List.set_cons_succ, List.getElem_toArray, List.getElem_cons_zero, List.getElem_cons_succ]
    refine wpAnyH_take (i := 5) (v := ?_) rfl (by kernel_rfl) (by kernel_rfl) (by kernel_rfl) (fun _ _ _ h => h) (Or.inl ⟨by rfl, ?_⟩) (by assumption) ?_
    rotate_left
    · intro w hSw; have h3 := hSw.2.2.c 8 _ rfl; go_simp; try with_reducible rfl
    try simp only [Act.put, List.setIfInBounds_toArray, List.set_cons_zero, List.set_cons_succ, List.getElem_toArray, List.getElem_cons_zero, List.getElem_cons_succ]
    refine wpAnyH_take (i := 6) (v := ?_) rfl (by kernel_rfl) (by kernel_rfl) (by kernel_rfl) (fun _ _ _ h => h) (Or.inl ⟨by rfl, ?_⟩) (by assumption) ?_
    rotate_left
    · intro w hSw; go_simp; try with_reducible rfl
    try simp only [Act.put, List.setIfInBounds_toArray, List.set_cons_zero, List.set_cons_succ, List.getElem_toArray, List.getElem_cons_zero, List.getElem_cons_succ]
    refine wpAnyH_take (i := 7) (v := ?_) rfl (by kernel_rfl) (by kernel_rfl) (by kernel_rfl) (fun _ _ _ h => h) (Or.inl ⟨by rfl, ?_⟩) (by assumption) ?_
    rotate_left
    · intro w hSw; have h3 := hSw.2.2.c 6 _ rfl; go_simp; try with_reducible rfl
    try simp only [Act.put, List.setIfInBounds_toArray, List.set_cons_zero, List.set_cons_succ, List.getElem_toArray, List.getElem_cons_zero, List.getElem_cons_succ]
    refine wpAnyH_take (i := 8) (v := ?_) rfl (by kernel_rfl) (by kernel_rfl) (by kernel_rfl) (fun _ _ _ h => h) (Or.inl ⟨by rfl, ?_⟩) (by assumption) ?_
    rotate_left
    · intro w hSw; go_simp; try with_reducible rfl
    try simp only [Act.put, List.setIfInBounds_toArray, List.set_cons_zero, List.set_cons_succ, List.getElem_toArray, List.getElem_cons_zero, List.getElem_cons_succ]
    refine wpAnyH_ready (rs := [3]) (by kernel_rfl) (by simp) ?_
    refine AllReadyH.cons rfl (fun K hK => ?_) AllReadyH.nil
    go_simp
    refine (withbox_is (xword := 0) (xd0 := 0) (xd1 := 0) (xd2 := 0) (xd3 := 0) HST7.out HN2.out HI2.out).mono ?_
    rintro e v1 ⟨A2, ca2, C2, cc2, rfl, hca, hcc, hF, hb⟩
    have HCA := Lib.hid hca
    have HCC := Lib.hid hcc
    have HFS := Lib.hid hF
    have HLT : Hid (g6 < v.heap.size ∧ g7 < v.heap.size ∧ w.heap.size ≤ v.heap.size) := Lib.hid ⟨R6.out.bx.lt, R7.out.bx.lt, T.out.bx.old.size⟩
    have HNN : Hid (g11 ≠ g6 ∧ g13 ≠ g6 ∧ g10 ≠ g6 ∧ g11 ≠ g7 ∧ g13 ≠ g7 ∧ g10 ≠ g7) := Lib.hid ⟨H11.out.1, H13.out.1, H10.out.1, H11.out.2, H13.out.2, H10.out.2⟩
    replace T := Lib.hid (T.out.on hb)
    replace R6 := Lib.hid (R6.out.on hb)
    replace R7 := Lib.hid (R7.out.on hb)
    replace N := Lib.hid (N.out.on hb)
    replace N2 := Lib.hid (N2.out.on hb)
    replace N3 := Lib.hid (N3.out.on hb)
    clear hb hca hcc hF
    refine hK.out _ _ ⟨N2.out.bx, N3.out.bx, N.out.bx⟩ (fun hHeld => ?_)
    clear hK K
    try simp only [Act.put, List.setIfInBounds_toArray, List.set_cons_zero, List.set_cons_succ, List.getElem_toArray, List.getElem_cons_zero, List.getElem_cons_succ]
    refine wpAnyH_ready (rs := [9]) (by kernel_rfl) (by simp) ?_
    refine AllReadyH.cons rfl (fun K hK => ?_) AllReadyH.nil
    have HT := Lib.hid (R6.out.there (n := 5) rfl)
    have HO := Lib.hid (state_one a b c A2 n ca2 C2 m cc2)
    have Q6 := R6.out.setCells (vs := [.int .i64 a, .int .i64 b, .int .i64 c, .slice A2 n ca2, .slice C2 m cc2]) rfl
    have f6 := Fnd.setCells g6 [.int .i64 a, .int .i64 b, .int .i64 c, .slice A2 n ca2, .slice C2 m cc2] 0 v1
    have F6 := Lib.hid f6
    have qR7 := R7.out.fnd f6 HNE.out.symm Q6.bx.old
    have qN := N.out.fnd f6 HNN.out.2.2.1 Q6.bx.old
    have qN2 := N2.out.fnd f6 HNN.out.1 Q6.bx.old
    have qN3 := N3.out.fnd f6 HNN.out.2.1 Q6.bx.old
    clear f6
    refine step_store_mid (by rfl) 27 (.tmp 8) (.tmp 50) (by rfl) g6 0 #[.int .i64 a, .int .i64 b, .int .i64 c, .slice A2 n ca2, .slice C2 m cc2] (by rfl) (by rfl) HT.out info_state HO.out ?_
    change K _ (v1.setCells g6 0 [.int .i64 a, .int .i64 b, .int .i64 c, .slice A2 n ca2, .slice C2 m cc2])
    clear HT HO R6 R7 N N2 N3
    generalize v1.setCells g6 0 [.int .i64 a, .int .i64 b, .int .i64 c, .slice A2 n ca2, .slice C2 m cc2] = v2 at F6 Q6 qR7 qN qN2 qN3 ⊢
    have R6 := Lib.hid Q6
    have R7 := Lib.hid qR7
    have N := Lib.hid qN
    have N2 := Lib.hid qN2
    have N3 := Lib.hid qN3
    clear Q6 qR7 qN qN2 qN3
    refine hK.out _ _ ⟨N2.out.bx, N3.out.bx, N.out.bx⟩ (fun hHeld => ?_)
    clear hK K
    try simp only [Act.put, List.setIfInBounds_toArray, List.set_cons_zero, List.set_cons_succ, List.getElem_toArray, List.getElem_cons_zero, List.getElem_cons_succ]
    refine wpAnyH_ready (rs := [10]) (by kernel_rfl) (by simp) ?_
    refine AllReadyH.cons rfl (fun K hK => ?_) AllReadyH.nil
    have HT := Lib.hid (R7.out.there (n := 3) rfl)
    have HO := Lib.hid (reply_one 0 (xword : Int) xbadge)
    have Q7 := R7.out.setCells (vs := [.int .i64 0, .int .u64 (xword : Int), .int .i64 xbadge]) rfl
    have f7 := Fnd.setCells g7 [.int .i64 0, .int .u64 (xword : Int), .int .i64 xbadge] 0 v2
    have F7 := Lib.hid f7
    have qR6 := R6.out.fnd f7 HNE.out Q7.bx.old
    have qN := N.out.fnd f7 HNN.out.2.2.2.2.2 Q7.bx.old
    have qN2 := N2.out.fnd f7 HNN.out.2.2.2.1 Q7.bx.old
    have qN3 := N3.out.fnd f7 HNN.out.2.2.2.2.1 Q7.bx.old
    clear f7
    refine step_store_mid (by rfl) 40 (.tmp 9) (.tmp 55) (by rfl) g7 0 #[.int .i64 0, .int .u64 (xword : Int), .int .i64 xbadge] (by rfl) (by rfl) HT.out info_reply HO.out ?_
    change K _ (v2.setCells g7 0 [.int .i64 0, .int .u64 (xword : Int), .int .i64 xbadge])
    clear HT HO R6 R7 N N2 N3
    generalize v2.setCells g7 0 [.int .i64 0, .int .u64 (xword : Int), .int .i64 xbadge] = v3 at F7 Q7 qR6 qN qN2 qN3 ⊢
    have R6 := Lib.hid qR6
    have R7 := Lib.hid Q7
    refine hK.out _ _ ⟨qN2.bx, qN3.bx, qN.bx⟩ (fun hHeld => ?_)
    clear qR6 Q7 qN qN2 qN3
    clear hK K
    try simp only [Act.put, List.setIfInBounds_toArray, List.set_cons_zero, List.set_cons_succ, List.getElem_toArray, List.getElem_cons_zero, List.getElem_cons_succ]
    refine wpAnyH_done (by kernel_rfl) ?_ _
    clear hHeld
    go_wp2_with fail
    refine bodyPost_ret (results_cc rfl _ _ _ (b := g6) (b' := g7) (by rfl) R6.out.bx.range Tryz.underlying27 rfl info_state (by rfl) R7.out.bx.range Tryz.underlying40 rfl info_reply) rfl ?_
    rw [HX.out]
    exact ⟨A2, ca2, C2, cc2, rfl, R7.out.bx.old, HCA.out, HCC.out, HFS.out.two F6.out F7.out HLT.out.1 HLT.out.2.1 HLT.out.2.2⟩
set_option maxRecDepth 100000 in
set_option maxHeartbeats 16000000 in
theorem mdo_is {s : St} {a b c : Int} {A C : Option Addr} {n ca m cc : Nat} {t o x y : Int} {PA PB : Option Addr} {na cpa nb cpb z : Nat} {la lb : List Int} {r : Option St × Rep} {w : World} (hS : StH w s a b c A n ca C m cc) (hna : na = la.length) (hcpa : na ≤ cpa) (hA : IntsAt w w.heap.size PA la) (hnb : nb = lb.length) (hcpb : nb ≤ cpb) (hB : IntsAt w w.heap.size PB lb) (hr : mdo s t ⟨o, la, lb, x, y, z⟩ = r) :
    Calls Tryz.prog 28 #[.agg #[.int .i64 a, .int .i64 b, .int .i64 c, .slice A n ca, .slice C m cc], .int .i64 t, .agg #[.int .i64 o, .slice PA na cpa, .slice PB nb cpb, .int .i64 x, .int .i64 y, .int .u64 (z : Int)]] w fun e w' => DoF w w' e a b c A n ca C m cc r := by
  obtain ⟨T, CK, R6, R7⟩ := boxes4 w [.int .i64 a, .int .i64 b, .int .i64 c, .slice A n ca, .slice C m cc] [.int .i64 o, .slice PA na cpa, .slice PB nb cpb, .int .i64 x, .int .i64 y, .int .u64 (z : Int)] [.int .i64 0, .int .i64 0, .int .i64 0, .slice none 0 0, .slice none 0 0] [.int .i64 0, .int .u64 0, .int .i64 0] 27 33 27 40
  obtain ⟨g5, hg5⟩ : ∃ g5, g5 = w.heap.size + 1 := ⟨_, rfl⟩
  obtain ⟨g6, hg6⟩ : ∃ g6, g6 = w.heap.size + 1 + 1 := ⟨_, rfl⟩
  obtain ⟨g7, hg7⟩ : ∃ g7, g7 = w.heap.size + 1 + 1 + 1 := ⟨_, rfl⟩
  have HNE : Hid (g6 ≠ g7) := Lib.hid (by omega)
  have HS := Lib.hid hS
  have HNA := Lib.hid hna
  have HNB := Lib.hid hnb
  have HCPA := Lib.hid hcpa
  have HCPB := Lib.hid hcpb
  have HA := Lib.hid hA
  have HB := Lib.hid hB
  have HR := Lib.hid hr
  clear hS hna hnb hcpa hcpb hA hB hr
  go_enter Tryz.func28, Tryz.ntmps28
  go_upto_region 1 with fail
  rw [← hg7] at R7 ⊢
  rw [← hg6] at R6 ⊢
  rw [← hg5] at CK ⊢
  clear hg5 hg6 hg7
  generalize (((w.alloc _).alloc _).alloc _).alloc _ = w3 at T CK R6 R7 ⊢
  replace T := Lib.hid T
  replace CK := Lib.hid CK
  replace R6 := Lib.hid R6
  replace R7 := Lib.hid R7
  have k0 := CK.out.bx.c 0 _ rfl
  by_cases ho : o = 7 ∨ o = 8
  case neg =>
    have HX : Hid (r = (none, ⟨1, 0, 0⟩)) := Lib.hid (by rw [← HR.out, mdo]; exact if_neg (fun q => ho q.1))
    have ho1 : (o != 7) = true := by rw [bne_iff_ne]; exact fun q => ho (.inl q)
    have ho2 : (o != 8) = true := by rw [bne_iff_ne]; exact fun q => ho (.inr q)
    clear ho
    have t0 := T.out.bx.c 0 _ rfl
    have t1 := T.out.bx.c 1 _ rfl
    have t2 := T.out.bx.c 2 _ rfl
    have t3 := T.out.bx.c 3 _ rfl
    have t4 := T.out.bx.c 4 _ rfl
    go_wp2_with fail
    refine (refuse_is w3).mono ?_
    rintro e w4 ⟨rfl, hb⟩
    replace T := Lib.hid (T.out.on hb)
    replace R6 := Lib.hid (R6.out.on hb)
    replace R7 := Lib.hid (R7.out.on hb)
    clear hb
    clear t0 t1 t2 t3 t4
    have HT6 : Hid (w4.there g6 0 (#[.int .i64 a, .int .i64 b, .int .i64 c, .slice A n ca, .slice C m cc] : Array Value).size) := Lib.hid (R6.out.there (n := 5) rfl)
    have HO6 := Lib.hid (state_one a b c A n ca C m cc)
    have Q6 := Lib.hid (R6.out.setCells (vs := [.int .i64 a, .int .i64 b, .int .i64 c, .slice A n ca, .slice C m cc]) rfl)
    have Q7 := Lib.hid (R7.out.fnd (Fnd.setCells g6 [.int .i64 a, .int .i64 b, .int .i64 c, .slice A n ca, .slice C m cc] 0 w4) HNE.out.symm Q6.out.bx.old)
    clear R6 R7
    go_wp2_with (first
      | ((with_reducible change wpList _ _ _ _ _ _); refine wpList_store_mid (by rfl) 27 (.tmp 6) (.tmp 26) (by rfl) g6 0 #[.int .i64 a, .int .i64 b, .int .i64 c, .slice A n ca, .slice C m cc] (by rfl) (by rfl) HT6.out info_state HO6.out ?_; change wpList _ _ _ _ _ (w4.setCells g6 0 [.int .i64 a, .int .i64 b, .int .i64 c, .slice A n ca, .slice C m cc]); generalize w4.setCells g6 0 [.int .i64 a, .int .i64 b, .int .i64 c, .slice A n ca, .slice C m cc] = wq at Q6 Q7 ⊢; have HT7 : Hid (wq.there g7 0 (#[.int .i64 1, .int .u64 0, .int .i64 0] : Array Value).size) := Lib.hid (Q7.out.there (n := 3) rfl); have HO7 := Lib.hid (reply_one 1 0 0); have Q8 := Lib.hid (Q7.out.setCells (vs := [.int .i64 1, .int .u64 0, .int .i64 0]) rfl); have Q9 := Lib.hid (Q6.out.fnd (Fnd.setCells g7 [.int .i64 1, .int .u64 0, .int .i64 0] 0 wq) HNE.out Q8.out.bx.old))
      | ((with_reducible change wpList _ _ _ _ _ _); refine wpList_store_mid (by rfl) 40 (.tmp 7) (.tmp 27) (by rfl) g7 0 #[.int .i64 1, .int .u64 0, .int .i64 0] (by rfl) (by rfl) HT7.out info_reply HO7.out ?_; change wpList _ _ _ _ _ (wq.setCells g7 0 [.int .i64 1, .int .u64 0, .int .i64 0]); generalize wq.setCells g7 0 [.int .i64 1, .int .u64 0, .int .i64 0] = wz at Q8 Q9 ⊢))
    refine bodyPost_ret (results_cc rfl _ _ _ (b := g6) (b' := g7) (by rfl) Q9.out.bx.range Tryz.underlying27 rfl info_state (by rfl) Q8.out.bx.range Tryz.underlying40 rfl info_reply) rfl ?_
    rw [HX.out]
    exact ⟨A, ca, C, cc, rfl, Q8.out.bx.old, rfl, rfl, rfl, rfl⟩
  have HO := Lib.hid ho
  by_cases h7 : o = 7
  case pos =>
    have ho1 : (o != 7) = false := by simp [h7]
    clear ho h7
    obtain ⟨z1, hz1⟩ : ∃ z1, cgood ⟨o, la, lb, x, y, z⟩ = z1 := ⟨_, rfl⟩
    have HZ1 := Lib.hid hz1
    have k1 := CK.out.bx.c 1 _ rfl
    have k2 := CK.out.bx.c 2 _ rfl
    have k3 := CK.out.bx.c 3 _ rfl
    have k4 := CK.out.bx.c 4 _ rfl
    have k5 := CK.out.bx.c 5 _ rfl
    go_wp2_with fail
    refine (clcgood_at HNA.out (HA.out.on T.out.bx.old) HNB.out (HB.out.on T.out.bx.old) hz1).mono ?_
    rintro e w4 ⟨rfl, hb⟩
    replace T := Lib.hid (T.out.on hb)
    replace CK := Lib.hid (CK.out.on hb)
    replace R6 := Lib.hid (R6.out.on hb)
    replace R7 := Lib.hid (R7.out.on hb)
    clear hb hz1 k0 k1 k2 k3 k4 k5
    cases z1 with
    | false =>
      have HX : Hid (r = (none, ⟨1, 0, 0⟩)) := Lib.hid (by rw [← HR.out, mdo]; exact if_neg (fun q => by rw [HZ1.out] at q; exact absurd q.2 (by decide)))
      have t0 := T.out.bx.c 0 _ rfl
      have t1 := T.out.bx.c 1 _ rfl
      have t2 := T.out.bx.c 2 _ rfl
      have t3 := T.out.bx.c 3 _ rfl
      have t4 := T.out.bx.c 4 _ rfl
      go_wp2_with fail
      refine (refuse_is w4).mono ?_
      rintro e w5 ⟨rfl, hb⟩
      replace T := Lib.hid (T.out.on hb)
      replace R6 := Lib.hid (R6.out.on hb)
      replace R7 := Lib.hid (R7.out.on hb)
      clear hb
      clear t0 t1 t2 t3 t4
      have HT6 : Hid (w5.there g6 0 (#[.int .i64 a, .int .i64 b, .int .i64 c, .slice A n ca, .slice C m cc] : Array Value).size) := Lib.hid (R6.out.there (n := 5) rfl)
      have HO6 := Lib.hid (state_one a b c A n ca C m cc)
      have Q6 := Lib.hid (R6.out.setCells (vs := [.int .i64 a, .int .i64 b, .int .i64 c, .slice A n ca, .slice C m cc]) rfl)
      have Q7 := Lib.hid (R7.out.fnd (Fnd.setCells g6 [.int .i64 a, .int .i64 b, .int .i64 c, .slice A n ca, .slice C m cc] 0 w5) HNE.out.symm Q6.out.bx.old)
      clear R6 R7
      go_wp2_with (first
        | ((with_reducible change wpList _ _ _ _ _ _); refine wpList_store_mid (by rfl) 27 (.tmp 6) (.tmp 26) (by rfl) g6 0 #[.int .i64 a, .int .i64 b, .int .i64 c, .slice A n ca, .slice C m cc] (by rfl) (by rfl) HT6.out info_state HO6.out ?_; change wpList _ _ _ _ _ (w5.setCells g6 0 [.int .i64 a, .int .i64 b, .int .i64 c, .slice A n ca, .slice C m cc]); generalize w5.setCells g6 0 [.int .i64 a, .int .i64 b, .int .i64 c, .slice A n ca, .slice C m cc] = wq at Q6 Q7 ⊢; have HT7 : Hid (wq.there g7 0 (#[.int .i64 1, .int .u64 0, .int .i64 0] : Array Value).size) := Lib.hid (Q7.out.there (n := 3) rfl); have HO7 := Lib.hid (reply_one 1 0 0); have Q8 := Lib.hid (Q7.out.setCells (vs := [.int .i64 1, .int .u64 0, .int .i64 0]) rfl); have Q9 := Lib.hid (Q6.out.fnd (Fnd.setCells g7 [.int .i64 1, .int .u64 0, .int .i64 0] 0 wq) HNE.out Q8.out.bx.old))
        | ((with_reducible change wpList _ _ _ _ _ _); refine wpList_store_mid (by rfl) 40 (.tmp 7) (.tmp 27) (by rfl) g7 0 #[.int .i64 1, .int .u64 0, .int .i64 0] (by rfl) (by rfl) HT7.out info_reply HO7.out ?_; change wpList _ _ _ _ _ (wq.setCells g7 0 [.int .i64 1, .int .u64 0, .int .i64 0]); generalize wq.setCells g7 0 [.int .i64 1, .int .u64 0, .int .i64 0] = wz at Q8 Q9 ⊢))
      refine bodyPost_ret (results_cc rfl _ _ _ (b := g6) (b' := g7) (by rfl) Q9.out.bx.range Tryz.underlying27 rfl info_state (by rfl) Q8.out.bx.range Tryz.underlying40 rfl info_reply) rfl ?_
      rw [HX.out]
      exact ⟨A, ca, C, cc, rfl, Q8.out.bx.old, rfl, rfl, rfl, rfl⟩
    | true =>
      have q0 := HR.out.symm
      rw [mdo] at q0
      have q := q0.trans (if_pos ⟨HO.out, HZ1.out⟩)
      clear q0
      obtain ⟨⟨x0, ⟨hy, hh, hri, hba⟩, e1⟩, hfc⟩ : ∃ q, fcap s t la = q := ⟨_, rfl⟩
      have HFC := Lib.hid hfc
      dsimp only at q
      rw [hfc] at q
      dsimp only at q
      have HX1 := Lib.hid q
      clear q hfc HR
      have t0 := T.out.bx.c 0 _ rfl
      have t1 := T.out.bx.c 1 _ rfl
      have t2 := T.out.bx.c 2 _ rfl
      have t3 := T.out.bx.c 3 _ rfl
      have t4 := T.out.bx.c 4 _ rfl
      have k1 := CK.out.bx.c 1 _ rfl
      go_wp2_with fail
      refine (fcap_is (HS.out.on T.out.bx.old) HNA.out HCPA.out (HA.out.on T.out.bx.old) HFC.out).mono ?_
      rintro e w5 ⟨rfl, hb⟩
      simp only [Cp.val]
      replace T := Lib.hid (T.out.on hb)
      replace CK := Lib.hid (CK.out.on hb)
      replace R6 := Lib.hid (R6.out.on hb)
      replace R7 := Lib.hid (R7.out.on hb)
      clear hb k1
      clear t0 t1 t2 t3 t4
      go_upto_region 4 with fail
      have N := Wbs.more T.out.bx.old [.int .i64 hy, .int .i64 hh, .int .i64 hri, .int .i64 hba] 62
      have hal := below_alloc w5 (.cells #[.int .i64 hy, .int .i64 hh, .int .i64 hri, .int .i64 hba] 62)
      replace T := Lib.hid (T.out.on hal)
      replace CK := Lib.hid (CK.out.on hal)
      replace R6 := Lib.hid (R6.out.on hal)
      replace R7 := Lib.hid (R7.out.on hal)
      clear hal
      obtain ⟨g9, hg9⟩ : ∃ g9, g9 = w5.heap.size := ⟨_, rfl⟩
      rw [← hg9] at N ⊢
      clear hg9
      generalize w5.alloc _ = w6 at N T CK R6 R7 ⊢
      replace N := Lib.hid N
      by_cases h3 : e1 = 0
      case neg =>
        have HX := Lib.hid (HX1.out.trans (if_neg h3))
        have h3' : (e1 == 0) = false := by rw [beq_eq_false_iff_ne]; exact h3
        have h3'' : (e1 != 0) = true := by simpa using h3
        clear h3 HX1
        have t0 := T.out.bx.c 0 _ rfl
        have t1 := T.out.bx.c 1 _ rfl
        have t2 := T.out.bx.c 2 _ rfl
        have t3 := T.out.bx.c 3 _ rfl
        have t4 := T.out.bx.c 4 _ rfl
        go_wp2_with fail
        refine (refuse_is w6).mono ?_
        rintro e w7 ⟨rfl, hb⟩
        replace T := Lib.hid (T.out.on hb)
        replace R6 := Lib.hid (R6.out.on hb)
        replace R7 := Lib.hid (R7.out.on hb)
        clear hb
        clear t0 t1 t2 t3 t4
        have HT6 : Hid (w7.there g6 0 (#[.int .i64 a, .int .i64 b, .int .i64 c, .slice A n ca, .slice C m cc] : Array Value).size) := Lib.hid (R6.out.there (n := 5) rfl)
        have HO6 := Lib.hid (state_one a b c A n ca C m cc)
        have Q6 := Lib.hid (R6.out.setCells (vs := [.int .i64 a, .int .i64 b, .int .i64 c, .slice A n ca, .slice C m cc]) rfl)
        have Q7 := Lib.hid (R7.out.fnd (Fnd.setCells g6 [.int .i64 a, .int .i64 b, .int .i64 c, .slice A n ca, .slice C m cc] 0 w7) HNE.out.symm Q6.out.bx.old)
        clear R6 R7
        go_wp2_with (first
          | ((with_reducible change wpList _ _ _ _ _ _); refine wpList_store_mid (by rfl) 27 (.tmp 6) (.tmp 48) (by rfl) g6 0 #[.int .i64 a, .int .i64 b, .int .i64 c, .slice A n ca, .slice C m cc] (by rfl) (by rfl) HT6.out info_state HO6.out ?_; change wpList _ _ _ _ _ (w7.setCells g6 0 [.int .i64 a, .int .i64 b, .int .i64 c, .slice A n ca, .slice C m cc]); generalize w7.setCells g6 0 [.int .i64 a, .int .i64 b, .int .i64 c, .slice A n ca, .slice C m cc] = wq at Q6 Q7 ⊢; have HT7 : Hid (wq.there g7 0 (#[.int .i64 e1, .int .u64 0, .int .i64 0] : Array Value).size) := Lib.hid (Q7.out.there (n := 3) rfl); have HO7 := Lib.hid (reply_one e1 0 0); have Q8 := Lib.hid (Q7.out.setCells (vs := [.int .i64 e1, .int .u64 0, .int .i64 0]) rfl); have Q9 := Lib.hid (Q6.out.fnd (Fnd.setCells g7 [.int .i64 e1, .int .u64 0, .int .i64 0] 0 wq) HNE.out Q8.out.bx.old))
          | ((with_reducible change wpList _ _ _ _ _ _); refine wpList_store_mid (by rfl) 40 (.tmp 7) (.tmp 49) (by rfl) g7 0 #[.int .i64 e1, .int .u64 0, .int .i64 0] (by rfl) (by rfl) HT7.out info_reply HO7.out ?_; change wpList _ _ _ _ _ (wq.setCells g7 0 [.int .i64 e1, .int .u64 0, .int .i64 0]); generalize wq.setCells g7 0 [.int .i64 e1, .int .u64 0, .int .i64 0] = wz at Q8 Q9 ⊢))
        refine bodyPost_ret (results_cc rfl _ _ _ (b := g6) (b' := g7) (by rfl) Q9.out.bx.range Tryz.underlying27 rfl info_state (by rfl) Q8.out.bx.range Tryz.underlying40 rfl info_reply) rfl ?_
        rw [HX.out]
        exact ⟨A, ca, C, cc, rfl, Q8.out.bx.old, rfl, rfl, rfl, rfl⟩
      have q := HX1.out.trans (if_pos h3)
      replace HX1 := Lib.hid q
      subst h3
      clear q
      obtain ⟨f, rfl, hf, hg, hcap, -⟩ := fcap_yes HFC.out
      have HG := Lib.hid (sgood_iff.1 hg)
      have hrr := HG.out.capOk hf
      rw [hcap] at hrr
      dsimp only at hrr
      have HRR := Lib.hid hrr
      clear hf hg hcap hrr
      obtain ⟨e2, he2⟩ : ∃ e2, mmay ⟨hy, hh, hri, hba⟩ o = e2 := ⟨_, rfl⟩
      have HE2 := Lib.hid he2
      have q := HX1.out
      rw [he2] at q
      replace HX1 := Lib.hid q
      clear he2 q
      have n0 := N.out.bx.c 0 _ rfl
      have n1 := N.out.bx.c 1 _ rfl
      have n2 := N.out.bx.c 2 _ rfl
      have n3 := N.out.bx.c 3 _ rfl
      have k0 := CK.out.bx.c 0 _ rfl
      go_wp2_with fail
      refine (mayuse_is HRR.out.1 HRR.out.2 HE2.out w6).mono ?_
      rintro e w7 ⟨rfl, hb⟩
      replace T := Lib.hid (T.out.on hb)
      replace CK := Lib.hid (CK.out.on hb)
      replace R6 := Lib.hid (R6.out.on hb)
      replace R7 := Lib.hid (R7.out.on hb)
      replace N := Lib.hid (N.out.on hb)
      clear hb n0 n1 n2 n3 k0
      by_cases h4 : e2 = 0
      case neg =>
        have HX := Lib.hid (HX1.out.trans (if_neg h4))
        have h4' : (e2 != 0) = true := by simpa using h4
        clear h4 HX1
        have t0 := T.out.bx.c 0 _ rfl
        have t1 := T.out.bx.c 1 _ rfl
        have t2 := T.out.bx.c 2 _ rfl
        have t3 := T.out.bx.c 3 _ rfl
        have t4 := T.out.bx.c 4 _ rfl
        go_wp2_with fail
        refine (refuse_is w7).mono ?_
        rintro e w8 ⟨rfl, hb⟩
        replace T := Lib.hid (T.out.on hb)
        replace R6 := Lib.hid (R6.out.on hb)
        replace R7 := Lib.hid (R7.out.on hb)
        clear hb
        clear t0 t1 t2 t3 t4
        have HT6 : Hid (w8.there g6 0 (#[.int .i64 a, .int .i64 b, .int .i64 c, .slice A n ca, .slice C m cc] : Array Value).size) := Lib.hid (R6.out.there (n := 5) rfl)
        have HO6 := Lib.hid (state_one a b c A n ca C m cc)
        have Q6 := Lib.hid (R6.out.setCells (vs := [.int .i64 a, .int .i64 b, .int .i64 c, .slice A n ca, .slice C m cc]) rfl)
        have Q7 := Lib.hid (R7.out.fnd (Fnd.setCells g6 [.int .i64 a, .int .i64 b, .int .i64 c, .slice A n ca, .slice C m cc] 0 w8) HNE.out.symm Q6.out.bx.old)
        clear R6 R7
        go_wp2_with (first
          | ((with_reducible change wpList _ _ _ _ _ _); refine wpList_store_mid (by rfl) 27 (.tmp 6) (.tmp 48) (by rfl) g6 0 #[.int .i64 a, .int .i64 b, .int .i64 c, .slice A n ca, .slice C m cc] (by rfl) (by rfl) HT6.out info_state HO6.out ?_; change wpList _ _ _ _ _ (w8.setCells g6 0 [.int .i64 a, .int .i64 b, .int .i64 c, .slice A n ca, .slice C m cc]); generalize w8.setCells g6 0 [.int .i64 a, .int .i64 b, .int .i64 c, .slice A n ca, .slice C m cc] = wq at Q6 Q7 ⊢; have HT7 : Hid (wq.there g7 0 (#[.int .i64 e2, .int .u64 0, .int .i64 0] : Array Value).size) := Lib.hid (Q7.out.there (n := 3) rfl); have HO7 := Lib.hid (reply_one e2 0 0); have Q8 := Lib.hid (Q7.out.setCells (vs := [.int .i64 e2, .int .u64 0, .int .i64 0]) rfl); have Q9 := Lib.hid (Q6.out.fnd (Fnd.setCells g7 [.int .i64 e2, .int .u64 0, .int .i64 0] 0 wq) HNE.out Q8.out.bx.old))
          | ((with_reducible change wpList _ _ _ _ _ _); refine wpList_store_mid (by rfl) 40 (.tmp 7) (.tmp 49) (by rfl) g7 0 #[.int .i64 e2, .int .u64 0, .int .i64 0] (by rfl) (by rfl) HT7.out info_reply HO7.out ?_; change wpList _ _ _ _ _ (wq.setCells g7 0 [.int .i64 e2, .int .u64 0, .int .i64 0]); generalize wq.setCells g7 0 [.int .i64 e2, .int .u64 0, .int .i64 0] = wz at Q8 Q9 ⊢))
        refine bodyPost_ret (results_cc rfl _ _ _ (b := g6) (b' := g7) (by rfl) Q9.out.bx.range Tryz.underlying27 rfl info_state (by rfl) Q8.out.bx.range Tryz.underlying40 rfl info_reply) rfl ?_
        rw [HX.out]
        exact ⟨A, ca, C, cc, rfl, Q8.out.bx.old, rfl, rfl, rfl, rfl⟩
      have q := HX1.out.trans (if_pos h4)
      replace HX1 := Lib.hid q
      subst h4
      clear q
      obtain ⟨h3, -⟩ := mmay_zero HE2.out
      dsimp only at h3
      subst h3
      obtain ⟨f', i, -, hi, B⟩ := mbx_of HFC.out rfl
      dsimp only at hi
      obtain rfl : hh = (i : Int) := B.th
      have HBX := Lib.hid B
      clear B hi HE2
      by_cases h7 : o = 7
      case pos =>
        have h7' : (o == 7) = true := by simpa using h7
        have HX := Lib.hid (HX1.out.trans (if_pos h7)).symm
        clear HX1 h7
        have t0 := T.out.bx.c 0 _ rfl
        have t1 := T.out.bx.c 1 _ rfl
        have t2 := T.out.bx.c 2 _ rfl
        have t3 := T.out.bx.c 3 _ rfl
        have t4 := T.out.bx.c 4 _ rfl
        have k0 := CK.out.bx.c 0 _ rfl
        have k1 := CK.out.bx.c 1 _ rfl
        have k2 := CK.out.bx.c 2 _ rfl
        have k3 := CK.out.bx.c 3 _ rfl
        have k4 := CK.out.bx.c 4 _ rfl
        have k5 := CK.out.bx.c 5 _ rfl
        have n0 := N.out.bx.c 0 _ rfl
        have n1 := N.out.bx.c 1 _ rfl
        have n2 := N.out.bx.c 2 _ rfl
        have n3 := N.out.bx.c 3 _ rfl
        go_wp2_with fail
        refine (send_is (HS.out.on T.out.bx.old) HNB.out HCPB.out (HB.out.on T.out.bx.old) HRR.out.1 HRR.out.2 HG.out.posm.1 HBX.out.lt HX.out).mono ?_
        rintro e w8 ⟨A', ca', C', cc', rfl, hb, hm⟩
        obtain ⟨r1, ⟨re, rw_, rn⟩⟩ := r
        simp only [Rep.val]
        have HMM := Lib.hid hm
        have HLT : Hid (g6 < w7.heap.size ∧ g7 < w7.heap.size ∧ w.heap.size ≤ w7.heap.size) := Lib.hid ⟨R6.out.bx.lt, R7.out.bx.lt, T.out.bx.old.size⟩
        replace R6 := Lib.hid (R6.out.on hb)
        replace R7 := Lib.hid (R7.out.on hb)
        clear hb hm T CK N k0 k1 k2 k3 k4 k5 n0 n1 n2 n3
        clear t0 t1 t2 t3 t4
        have HT6 : Hid (w8.there g6 0 (#[.int .i64 a, .int .i64 b, .int .i64 c, .slice A' n ca', .slice C' m cc'] : Array Value).size) := Lib.hid (R6.out.there (n := 5) rfl)
        have HO6 := Lib.hid (state_one a b c A' n ca' C' m cc')
        have Q6 := Lib.hid (R6.out.setCells (vs := [.int .i64 a, .int .i64 b, .int .i64 c, .slice A' n ca', .slice C' m cc']) rfl)
        have Q7 := Lib.hid (R7.out.fnd (Fnd.setCells g6 [.int .i64 a, .int .i64 b, .int .i64 c, .slice A' n ca', .slice C' m cc'] 0 w8) HNE.out.symm Q6.out.bx.old)
        have ff1 := Lib.hid (Fnd.setCells g6 [.int .i64 a, .int .i64 b, .int .i64 c, .slice A' n ca', .slice C' m cc'] 0 w8)
        clear R6 R7
        go_wp2_with (first
          | ((with_reducible change wpList _ _ _ _ _ _); refine wpList_store_mid (by rfl) 27 (.tmp 6) (.tmp 58) (by rfl) g6 0 #[.int .i64 a, .int .i64 b, .int .i64 c, .slice A' n ca', .slice C' m cc'] (by rfl) (by rfl) HT6.out info_state HO6.out ?_; change wpList _ _ _ _ _ (w8.setCells g6 0 [.int .i64 a, .int .i64 b, .int .i64 c, .slice A' n ca', .slice C' m cc']); generalize w8.setCells g6 0 [.int .i64 a, .int .i64 b, .int .i64 c, .slice A' n ca', .slice C' m cc'] = wq at Q6 Q7 ff1 ⊢; have HT7 : Hid (wq.there g7 0 (#[.int .i64 re, .int .u64 (rw_ : Int), .int .i64 rn] : Array Value).size) := Lib.hid (Q7.out.there (n := 3) rfl); have HO7 := Lib.hid (reply_one re (rw_ : Int) rn); have Q8 := Lib.hid (Q7.out.setCells (vs := [.int .i64 re, .int .u64 (rw_ : Int), .int .i64 rn]) rfl); have Q9 := Lib.hid (Q6.out.fnd (Fnd.setCells g7 [.int .i64 re, .int .u64 (rw_ : Int), .int .i64 rn] 0 wq) HNE.out Q8.out.bx.old); replace ff1 := Lib.hid (Tw.mk ff1.out (Fnd.setCells g7 [.int .i64 re, .int .u64 (rw_ : Int), .int .i64 rn] 0 wq)))
          | ((with_reducible change wpList _ _ _ _ _ _); refine wpList_store_mid (by rfl) 40 (.tmp 7) (.tmp 59) (by rfl) g7 0 #[.int .i64 re, .int .u64 (rw_ : Int), .int .i64 rn] (by rfl) (by rfl) HT7.out info_reply HO7.out ?_; change wpList _ _ _ _ _ (wq.setCells g7 0 [.int .i64 re, .int .u64 (rw_ : Int), .int .i64 rn]); generalize wq.setCells g7 0 [.int .i64 re, .int .u64 (rw_ : Int), .int .i64 rn] = wz at Q8 Q9 ff1 ⊢))
        refine bodyPost_ret (results_cc rfl _ _ _ (b := g6) (b' := g7) (by rfl) Q9.out.bx.range Tryz.underlying27 rfl info_state (by rfl) Q8.out.bx.range Tryz.underlying40 rfl info_reply) rfl ?_
        refine ⟨A', ca', C', cc', rfl, Q8.out.bx.old, ?_⟩
        have hm := HMM.out
        cases r1 with
        | none => exact hm
        | some s' => exact ⟨hm.1, hm.2.1, ff1.out.use fun f f' => hm.2.2.two f f' HLT.out.1 HLT.out.2.1 HLT.out.2.2⟩
      have h7' : (o == 7) = false := by simpa using h7
      have HX : Hid (mrecv s t ⟨o, la, lb, x, y, z⟩ i = r) := Lib.hid (by have := (HX1.out.trans (if_neg h7)).symm; rw [Int.toNat_natCast] at this; exact this)
      clear HX1 h7
      have t0 := T.out.bx.c 0 _ rfl
      have t1 := T.out.bx.c 1 _ rfl
      have t2 := T.out.bx.c 2 _ rfl
      have t3 := T.out.bx.c 3 _ rfl
      have t4 := T.out.bx.c 4 _ rfl
      have k0 := CK.out.bx.c 0 _ rfl
      have k1 := CK.out.bx.c 1 _ rfl
      have k2 := CK.out.bx.c 2 _ rfl
      have k3 := CK.out.bx.c 3 _ rfl
      have k4 := CK.out.bx.c 4 _ rfl
      have k5 := CK.out.bx.c 5 _ rfl
      have n1 := N.out.bx.c 1 _ rfl
      go_wp2_with fail
      refine (recv_is (HS.out.on T.out.bx.old) HNB.out HCPB.out (HB.out.on T.out.bx.old) HG.out HBX.out.lt HBX.out.thty HX.out).mono ?_
      rintro e w8 ⟨A', ca', C', cc', rfl, hb, hm⟩
      obtain ⟨r1, ⟨re, rw_, rn⟩⟩ := r
      simp only [Rep.val]
      have HMM := Lib.hid hm
      have HLT : Hid (g6 < w7.heap.size ∧ g7 < w7.heap.size ∧ w.heap.size ≤ w7.heap.size) := Lib.hid ⟨R6.out.bx.lt, R7.out.bx.lt, T.out.bx.old.size⟩
      replace R6 := Lib.hid (R6.out.on hb)
      replace R7 := Lib.hid (R7.out.on hb)
      clear hb hm T CK N k0 k1 k2 k3 k4 k5 n1
      clear t0 t1 t2 t3 t4
      have HT6 : Hid (w8.there g6 0 (#[.int .i64 a, .int .i64 b, .int .i64 c, .slice A' n ca', .slice C' m cc'] : Array Value).size) := Lib.hid (R6.out.there (n := 5) rfl)
      have HO6 := Lib.hid (state_one a b c A' n ca' C' m cc')
      have Q6 := Lib.hid (R6.out.setCells (vs := [.int .i64 a, .int .i64 b, .int .i64 c, .slice A' n ca', .slice C' m cc']) rfl)
      have Q7 := Lib.hid (R7.out.fnd (Fnd.setCells g6 [.int .i64 a, .int .i64 b, .int .i64 c, .slice A' n ca', .slice C' m cc'] 0 w8) HNE.out.symm Q6.out.bx.old)
      have ff1 := Lib.hid (Fnd.setCells g6 [.int .i64 a, .int .i64 b, .int .i64 c, .slice A' n ca', .slice C' m cc'] 0 w8)
      clear R6 R7
      go_wp2_with (first
        | ((with_reducible change wpList _ _ _ _ _ _); refine wpList_store_mid (by rfl) 27 (.tmp 6) (.tmp 66) (by rfl) g6 0 #[.int .i64 a, .int .i64 b, .int .i64 c, .slice A' n ca', .slice C' m cc'] (by rfl) (by rfl) HT6.out info_state HO6.out ?_; change wpList _ _ _ _ _ (w8.setCells g6 0 [.int .i64 a, .int .i64 b, .int .i64 c, .slice A' n ca', .slice C' m cc']); generalize w8.setCells g6 0 [.int .i64 a, .int .i64 b, .int .i64 c, .slice A' n ca', .slice C' m cc'] = wq at Q6 Q7 ff1 ⊢; have HT7 : Hid (wq.there g7 0 (#[.int .i64 re, .int .u64 (rw_ : Int), .int .i64 rn] : Array Value).size) := Lib.hid (Q7.out.there (n := 3) rfl); have HO7 := Lib.hid (reply_one re (rw_ : Int) rn); have Q8 := Lib.hid (Q7.out.setCells (vs := [.int .i64 re, .int .u64 (rw_ : Int), .int .i64 rn]) rfl); have Q9 := Lib.hid (Q6.out.fnd (Fnd.setCells g7 [.int .i64 re, .int .u64 (rw_ : Int), .int .i64 rn] 0 wq) HNE.out Q8.out.bx.old); replace ff1 := Lib.hid (Tw.mk ff1.out (Fnd.setCells g7 [.int .i64 re, .int .u64 (rw_ : Int), .int .i64 rn] 0 wq)))
        | ((with_reducible change wpList _ _ _ _ _ _); refine wpList_store_mid (by rfl) 40 (.tmp 7) (.tmp 67) (by rfl) g7 0 #[.int .i64 re, .int .u64 (rw_ : Int), .int .i64 rn] (by rfl) (by rfl) HT7.out info_reply HO7.out ?_; change wpList _ _ _ _ _ (wq.setCells g7 0 [.int .i64 re, .int .u64 (rw_ : Int), .int .i64 rn]); generalize wq.setCells g7 0 [.int .i64 re, .int .u64 (rw_ : Int), .int .i64 rn] = wz at Q8 Q9 ff1 ⊢))
      refine bodyPost_ret (results_cc rfl _ _ _ (b := g6) (b' := g7) (by rfl) Q9.out.bx.range Tryz.underlying27 rfl info_state (by rfl) Q8.out.bx.range Tryz.underlying40 rfl info_reply) rfl ?_
      refine ⟨A', ca', C', cc', rfl, Q8.out.bx.old, ?_⟩
      have hm := HMM.out
      cases r1 with
      | none => exact hm
      | some s' => exact ⟨hm.1, hm.2.1, ff1.out.use fun f f' => hm.2.2.two f f' HLT.out.1 HLT.out.2.1 HLT.out.2.2⟩
  have ho1 : (o != 7) = true := by simpa using h7
  have ho2 : (o != 8) = false := by simpa using ho.resolve_left h7
  clear ho h7
  obtain ⟨z1, hz1⟩ : ∃ z1, cgood ⟨o, la, lb, x, y, z⟩ = z1 := ⟨_, rfl⟩
  have HZ1 := Lib.hid hz1
  have k1 := CK.out.bx.c 1 _ rfl
  have k2 := CK.out.bx.c 2 _ rfl
  have k3 := CK.out.bx.c 3 _ rfl
  have k4 := CK.out.bx.c 4 _ rfl
  have k5 := CK.out.bx.c 5 _ rfl
  go_wp2_with fail
  refine (clcgood_at HNA.out (HA.out.on T.out.bx.old) HNB.out (HB.out.on T.out.bx.old) hz1).mono ?_
  rintro e w4 ⟨rfl, hb⟩
  replace T := Lib.hid (T.out.on hb)
  replace CK := Lib.hid (CK.out.on hb)
  replace R6 := Lib.hid (R6.out.on hb)
  replace R7 := Lib.hid (R7.out.on hb)
  clear hb hz1 k0 k1 k2 k3 k4 k5
  cases z1 with
  | false =>
    have HX : Hid (r = (none, ⟨1, 0, 0⟩)) := Lib.hid (by rw [← HR.out, mdo]; exact if_neg (fun q => by rw [HZ1.out] at q; exact absurd q.2 (by decide)))
    have t0 := T.out.bx.c 0 _ rfl
    have t1 := T.out.bx.c 1 _ rfl
    have t2 := T.out.bx.c 2 _ rfl
    have t3 := T.out.bx.c 3 _ rfl
    have t4 := T.out.bx.c 4 _ rfl
    go_wp2_with fail
    refine (refuse_is w4).mono ?_
    rintro e w5 ⟨rfl, hb⟩
    replace T := Lib.hid (T.out.on hb)
    replace R6 := Lib.hid (R6.out.on hb)
    replace R7 := Lib.hid (R7.out.on hb)
    clear hb
    clear t0 t1 t2 t3 t4
    have HT6 : Hid (w5.there g6 0 (#[.int .i64 a, .int .i64 b, .int .i64 c, .slice A n ca, .slice C m cc] : Array Value).size) := Lib.hid (R6.out.there (n := 5) rfl)
    have HO6 := Lib.hid (state_one a b c A n ca C m cc)
    have Q6 := Lib.hid (R6.out.setCells (vs := [.int .i64 a, .int .i64 b, .int .i64 c, .slice A n ca, .slice C m cc]) rfl)
    have Q7 := Lib.hid (R7.out.fnd (Fnd.setCells g6 [.int .i64 a, .int .i64 b, .int .i64 c, .slice A n ca, .slice C m cc] 0 w5) HNE.out.symm Q6.out.bx.old)
    clear R6 R7
    go_wp2_with (first
      | ((with_reducible change wpList _ _ _ _ _ _); refine wpList_store_mid (by rfl) 27 (.tmp 6) (.tmp 26) (by rfl) g6 0 #[.int .i64 a, .int .i64 b, .int .i64 c, .slice A n ca, .slice C m cc] (by rfl) (by rfl) HT6.out info_state HO6.out ?_; change wpList _ _ _ _ _ (w5.setCells g6 0 [.int .i64 a, .int .i64 b, .int .i64 c, .slice A n ca, .slice C m cc]); generalize w5.setCells g6 0 [.int .i64 a, .int .i64 b, .int .i64 c, .slice A n ca, .slice C m cc] = wq at Q6 Q7 ⊢; have HT7 : Hid (wq.there g7 0 (#[.int .i64 1, .int .u64 0, .int .i64 0] : Array Value).size) := Lib.hid (Q7.out.there (n := 3) rfl); have HO7 := Lib.hid (reply_one 1 0 0); have Q8 := Lib.hid (Q7.out.setCells (vs := [.int .i64 1, .int .u64 0, .int .i64 0]) rfl); have Q9 := Lib.hid (Q6.out.fnd (Fnd.setCells g7 [.int .i64 1, .int .u64 0, .int .i64 0] 0 wq) HNE.out Q8.out.bx.old))
      | ((with_reducible change wpList _ _ _ _ _ _); refine wpList_store_mid (by rfl) 40 (.tmp 7) (.tmp 27) (by rfl) g7 0 #[.int .i64 1, .int .u64 0, .int .i64 0] (by rfl) (by rfl) HT7.out info_reply HO7.out ?_; change wpList _ _ _ _ _ (wq.setCells g7 0 [.int .i64 1, .int .u64 0, .int .i64 0]); generalize wq.setCells g7 0 [.int .i64 1, .int .u64 0, .int .i64 0] = wz at Q8 Q9 ⊢))
    refine bodyPost_ret (results_cc rfl _ _ _ (b := g6) (b' := g7) (by rfl) Q9.out.bx.range Tryz.underlying27 rfl info_state (by rfl) Q8.out.bx.range Tryz.underlying40 rfl info_reply) rfl ?_
    rw [HX.out]
    exact ⟨A, ca, C, cc, rfl, Q8.out.bx.old, rfl, rfl, rfl, rfl⟩
  | true =>
    have q0 := HR.out.symm
    rw [mdo] at q0
    have q := q0.trans (if_pos ⟨HO.out, HZ1.out⟩)
    clear q0
    obtain ⟨⟨x0, ⟨hy, hh, hri, hba⟩, e1⟩, hfc⟩ : ∃ q, fcap s t la = q := ⟨_, rfl⟩
    have HFC := Lib.hid hfc
    dsimp only at q
    rw [hfc] at q
    dsimp only at q
    have HX1 := Lib.hid q
    clear q hfc HR
    have t0 := T.out.bx.c 0 _ rfl
    have t1 := T.out.bx.c 1 _ rfl
    have t2 := T.out.bx.c 2 _ rfl
    have t3 := T.out.bx.c 3 _ rfl
    have t4 := T.out.bx.c 4 _ rfl
    have k1 := CK.out.bx.c 1 _ rfl
    go_wp2_with fail
    refine (fcap_is (HS.out.on T.out.bx.old) HNA.out HCPA.out (HA.out.on T.out.bx.old) HFC.out).mono ?_
    rintro e w5 ⟨rfl, hb⟩
    simp only [Cp.val]
    replace T := Lib.hid (T.out.on hb)
    replace CK := Lib.hid (CK.out.on hb)
    replace R6 := Lib.hid (R6.out.on hb)
    replace R7 := Lib.hid (R7.out.on hb)
    clear hb k1
    clear t0 t1 t2 t3 t4
    go_upto_region 4 with fail
    have N := Wbs.more T.out.bx.old [.int .i64 hy, .int .i64 hh, .int .i64 hri, .int .i64 hba] 62
    have hal := below_alloc w5 (.cells #[.int .i64 hy, .int .i64 hh, .int .i64 hri, .int .i64 hba] 62)
    replace T := Lib.hid (T.out.on hal)
    replace CK := Lib.hid (CK.out.on hal)
    replace R6 := Lib.hid (R6.out.on hal)
    replace R7 := Lib.hid (R7.out.on hal)
    clear hal
    obtain ⟨g9, hg9⟩ : ∃ g9, g9 = w5.heap.size := ⟨_, rfl⟩
    rw [← hg9] at N ⊢
    clear hg9
    generalize w5.alloc _ = w6 at N T CK R6 R7 ⊢
    replace N := Lib.hid N
    by_cases h3 : e1 = 0
    case neg =>
      have HX := Lib.hid (HX1.out.trans (if_neg h3))
      have h3' : (e1 == 0) = false := by rw [beq_eq_false_iff_ne]; exact h3
      have h3'' : (e1 != 0) = true := by simpa using h3
      clear h3 HX1
      have t0 := T.out.bx.c 0 _ rfl
      have t1 := T.out.bx.c 1 _ rfl
      have t2 := T.out.bx.c 2 _ rfl
      have t3 := T.out.bx.c 3 _ rfl
      have t4 := T.out.bx.c 4 _ rfl
      go_wp2_with fail
      refine (refuse_is w6).mono ?_
      rintro e w7 ⟨rfl, hb⟩
      replace T := Lib.hid (T.out.on hb)
      replace R6 := Lib.hid (R6.out.on hb)
      replace R7 := Lib.hid (R7.out.on hb)
      clear hb
      clear t0 t1 t2 t3 t4
      have HT6 : Hid (w7.there g6 0 (#[.int .i64 a, .int .i64 b, .int .i64 c, .slice A n ca, .slice C m cc] : Array Value).size) := Lib.hid (R6.out.there (n := 5) rfl)
      have HO6 := Lib.hid (state_one a b c A n ca C m cc)
      have Q6 := Lib.hid (R6.out.setCells (vs := [.int .i64 a, .int .i64 b, .int .i64 c, .slice A n ca, .slice C m cc]) rfl)
      have Q7 := Lib.hid (R7.out.fnd (Fnd.setCells g6 [.int .i64 a, .int .i64 b, .int .i64 c, .slice A n ca, .slice C m cc] 0 w7) HNE.out.symm Q6.out.bx.old)
      clear R6 R7
      go_wp2_with (first
        | ((with_reducible change wpList _ _ _ _ _ _); refine wpList_store_mid (by rfl) 27 (.tmp 6) (.tmp 48) (by rfl) g6 0 #[.int .i64 a, .int .i64 b, .int .i64 c, .slice A n ca, .slice C m cc] (by rfl) (by rfl) HT6.out info_state HO6.out ?_; change wpList _ _ _ _ _ (w7.setCells g6 0 [.int .i64 a, .int .i64 b, .int .i64 c, .slice A n ca, .slice C m cc]); generalize w7.setCells g6 0 [.int .i64 a, .int .i64 b, .int .i64 c, .slice A n ca, .slice C m cc] = wq at Q6 Q7 ⊢; have HT7 : Hid (wq.there g7 0 (#[.int .i64 e1, .int .u64 0, .int .i64 0] : Array Value).size) := Lib.hid (Q7.out.there (n := 3) rfl); have HO7 := Lib.hid (reply_one e1 0 0); have Q8 := Lib.hid (Q7.out.setCells (vs := [.int .i64 e1, .int .u64 0, .int .i64 0]) rfl); have Q9 := Lib.hid (Q6.out.fnd (Fnd.setCells g7 [.int .i64 e1, .int .u64 0, .int .i64 0] 0 wq) HNE.out Q8.out.bx.old))
        | ((with_reducible change wpList _ _ _ _ _ _); refine wpList_store_mid (by rfl) 40 (.tmp 7) (.tmp 49) (by rfl) g7 0 #[.int .i64 e1, .int .u64 0, .int .i64 0] (by rfl) (by rfl) HT7.out info_reply HO7.out ?_; change wpList _ _ _ _ _ (wq.setCells g7 0 [.int .i64 e1, .int .u64 0, .int .i64 0]); generalize wq.setCells g7 0 [.int .i64 e1, .int .u64 0, .int .i64 0] = wz at Q8 Q9 ⊢))
      refine bodyPost_ret (results_cc rfl _ _ _ (b := g6) (b' := g7) (by rfl) Q9.out.bx.range Tryz.underlying27 rfl info_state (by rfl) Q8.out.bx.range Tryz.underlying40 rfl info_reply) rfl ?_
      rw [HX.out]
      exact ⟨A, ca, C, cc, rfl, Q8.out.bx.old, rfl, rfl, rfl, rfl⟩
    have q := HX1.out.trans (if_pos h3)
    replace HX1 := Lib.hid q
    subst h3
    clear q
    obtain ⟨f, rfl, hf, hg, hcap, -⟩ := fcap_yes HFC.out
    have HG := Lib.hid (sgood_iff.1 hg)
    have hrr := HG.out.capOk hf
    rw [hcap] at hrr
    dsimp only at hrr
    have HRR := Lib.hid hrr
    clear hf hg hcap hrr
    obtain ⟨e2, he2⟩ : ∃ e2, mmay ⟨hy, hh, hri, hba⟩ o = e2 := ⟨_, rfl⟩
    have HE2 := Lib.hid he2
    have q := HX1.out
    rw [he2] at q
    replace HX1 := Lib.hid q
    clear he2 q
    have n0 := N.out.bx.c 0 _ rfl
    have n1 := N.out.bx.c 1 _ rfl
    have n2 := N.out.bx.c 2 _ rfl
    have n3 := N.out.bx.c 3 _ rfl
    have k0 := CK.out.bx.c 0 _ rfl
    go_wp2_with fail
    refine (mayuse_is HRR.out.1 HRR.out.2 HE2.out w6).mono ?_
    rintro e w7 ⟨rfl, hb⟩
    replace T := Lib.hid (T.out.on hb)
    replace CK := Lib.hid (CK.out.on hb)
    replace R6 := Lib.hid (R6.out.on hb)
    replace R7 := Lib.hid (R7.out.on hb)
    replace N := Lib.hid (N.out.on hb)
    clear hb n0 n1 n2 n3 k0
    by_cases h4 : e2 = 0
    case neg =>
      have HX := Lib.hid (HX1.out.trans (if_neg h4))
      have h4' : (e2 != 0) = true := by simpa using h4
      clear h4 HX1
      have t0 := T.out.bx.c 0 _ rfl
      have t1 := T.out.bx.c 1 _ rfl
      have t2 := T.out.bx.c 2 _ rfl
      have t3 := T.out.bx.c 3 _ rfl
      have t4 := T.out.bx.c 4 _ rfl
      go_wp2_with fail
      refine (refuse_is w7).mono ?_
      rintro e w8 ⟨rfl, hb⟩
      replace T := Lib.hid (T.out.on hb)
      replace R6 := Lib.hid (R6.out.on hb)
      replace R7 := Lib.hid (R7.out.on hb)
      clear hb
      clear t0 t1 t2 t3 t4
      have HT6 : Hid (w8.there g6 0 (#[.int .i64 a, .int .i64 b, .int .i64 c, .slice A n ca, .slice C m cc] : Array Value).size) := Lib.hid (R6.out.there (n := 5) rfl)
      have HO6 := Lib.hid (state_one a b c A n ca C m cc)
      have Q6 := Lib.hid (R6.out.setCells (vs := [.int .i64 a, .int .i64 b, .int .i64 c, .slice A n ca, .slice C m cc]) rfl)
      have Q7 := Lib.hid (R7.out.fnd (Fnd.setCells g6 [.int .i64 a, .int .i64 b, .int .i64 c, .slice A n ca, .slice C m cc] 0 w8) HNE.out.symm Q6.out.bx.old)
      clear R6 R7
      go_wp2_with (first
        | ((with_reducible change wpList _ _ _ _ _ _); refine wpList_store_mid (by rfl) 27 (.tmp 6) (.tmp 48) (by rfl) g6 0 #[.int .i64 a, .int .i64 b, .int .i64 c, .slice A n ca, .slice C m cc] (by rfl) (by rfl) HT6.out info_state HO6.out ?_; change wpList _ _ _ _ _ (w8.setCells g6 0 [.int .i64 a, .int .i64 b, .int .i64 c, .slice A n ca, .slice C m cc]); generalize w8.setCells g6 0 [.int .i64 a, .int .i64 b, .int .i64 c, .slice A n ca, .slice C m cc] = wq at Q6 Q7 ⊢; have HT7 : Hid (wq.there g7 0 (#[.int .i64 e2, .int .u64 0, .int .i64 0] : Array Value).size) := Lib.hid (Q7.out.there (n := 3) rfl); have HO7 := Lib.hid (reply_one e2 0 0); have Q8 := Lib.hid (Q7.out.setCells (vs := [.int .i64 e2, .int .u64 0, .int .i64 0]) rfl); have Q9 := Lib.hid (Q6.out.fnd (Fnd.setCells g7 [.int .i64 e2, .int .u64 0, .int .i64 0] 0 wq) HNE.out Q8.out.bx.old))
        | ((with_reducible change wpList _ _ _ _ _ _); refine wpList_store_mid (by rfl) 40 (.tmp 7) (.tmp 49) (by rfl) g7 0 #[.int .i64 e2, .int .u64 0, .int .i64 0] (by rfl) (by rfl) HT7.out info_reply HO7.out ?_; change wpList _ _ _ _ _ (wq.setCells g7 0 [.int .i64 e2, .int .u64 0, .int .i64 0]); generalize wq.setCells g7 0 [.int .i64 e2, .int .u64 0, .int .i64 0] = wz at Q8 Q9 ⊢))
      refine bodyPost_ret (results_cc rfl _ _ _ (b := g6) (b' := g7) (by rfl) Q9.out.bx.range Tryz.underlying27 rfl info_state (by rfl) Q8.out.bx.range Tryz.underlying40 rfl info_reply) rfl ?_
      rw [HX.out]
      exact ⟨A, ca, C, cc, rfl, Q8.out.bx.old, rfl, rfl, rfl, rfl⟩
    have q := HX1.out.trans (if_pos h4)
    replace HX1 := Lib.hid q
    subst h4
    clear q
    obtain ⟨h3, -⟩ := mmay_zero HE2.out
    dsimp only at h3
    subst h3
    obtain ⟨f', i, -, hi, B⟩ := mbx_of HFC.out rfl
    dsimp only at hi
    obtain rfl : hh = (i : Int) := B.th
    have HBX := Lib.hid B
    clear B hi HE2
    by_cases h7 : o = 7
    case pos =>
      have h7' : (o == 7) = true := by simpa using h7
      have HX := Lib.hid (HX1.out.trans (if_pos h7)).symm
      clear HX1 h7
      have t0 := T.out.bx.c 0 _ rfl
      have t1 := T.out.bx.c 1 _ rfl
      have t2 := T.out.bx.c 2 _ rfl
      have t3 := T.out.bx.c 3 _ rfl
      have t4 := T.out.bx.c 4 _ rfl
      have k0 := CK.out.bx.c 0 _ rfl
      have k1 := CK.out.bx.c 1 _ rfl
      have k2 := CK.out.bx.c 2 _ rfl
      have k3 := CK.out.bx.c 3 _ rfl
      have k4 := CK.out.bx.c 4 _ rfl
      have k5 := CK.out.bx.c 5 _ rfl
      have n0 := N.out.bx.c 0 _ rfl
      have n1 := N.out.bx.c 1 _ rfl
      have n2 := N.out.bx.c 2 _ rfl
      have n3 := N.out.bx.c 3 _ rfl
      go_wp2_with fail
      refine (send_is (HS.out.on T.out.bx.old) HNB.out HCPB.out (HB.out.on T.out.bx.old) HRR.out.1 HRR.out.2 HG.out.posm.1 HBX.out.lt HX.out).mono ?_
      rintro e w8 ⟨A', ca', C', cc', rfl, hb, hm⟩
      obtain ⟨r1, ⟨re, rw_, rn⟩⟩ := r
      simp only [Rep.val]
      have HMM := Lib.hid hm
      have HLT : Hid (g6 < w7.heap.size ∧ g7 < w7.heap.size ∧ w.heap.size ≤ w7.heap.size) := Lib.hid ⟨R6.out.bx.lt, R7.out.bx.lt, T.out.bx.old.size⟩
      replace R6 := Lib.hid (R6.out.on hb)
      replace R7 := Lib.hid (R7.out.on hb)
      clear hb hm T CK N k0 k1 k2 k3 k4 k5 n0 n1 n2 n3
      clear t0 t1 t2 t3 t4
      have HT6 : Hid (w8.there g6 0 (#[.int .i64 a, .int .i64 b, .int .i64 c, .slice A' n ca', .slice C' m cc'] : Array Value).size) := Lib.hid (R6.out.there (n := 5) rfl)
      have HO6 := Lib.hid (state_one a b c A' n ca' C' m cc')
      have Q6 := Lib.hid (R6.out.setCells (vs := [.int .i64 a, .int .i64 b, .int .i64 c, .slice A' n ca', .slice C' m cc']) rfl)
      have Q7 := Lib.hid (R7.out.fnd (Fnd.setCells g6 [.int .i64 a, .int .i64 b, .int .i64 c, .slice A' n ca', .slice C' m cc'] 0 w8) HNE.out.symm Q6.out.bx.old)
      have ff1 := Lib.hid (Fnd.setCells g6 [.int .i64 a, .int .i64 b, .int .i64 c, .slice A' n ca', .slice C' m cc'] 0 w8)
      clear R6 R7
      go_wp2_with (first
        | ((with_reducible change wpList _ _ _ _ _ _); refine wpList_store_mid (by rfl) 27 (.tmp 6) (.tmp 58) (by rfl) g6 0 #[.int .i64 a, .int .i64 b, .int .i64 c, .slice A' n ca', .slice C' m cc'] (by rfl) (by rfl) HT6.out info_state HO6.out ?_; change wpList _ _ _ _ _ (w8.setCells g6 0 [.int .i64 a, .int .i64 b, .int .i64 c, .slice A' n ca', .slice C' m cc']); generalize w8.setCells g6 0 [.int .i64 a, .int .i64 b, .int .i64 c, .slice A' n ca', .slice C' m cc'] = wq at Q6 Q7 ff1 ⊢; have HT7 : Hid (wq.there g7 0 (#[.int .i64 re, .int .u64 (rw_ : Int), .int .i64 rn] : Array Value).size) := Lib.hid (Q7.out.there (n := 3) rfl); have HO7 := Lib.hid (reply_one re (rw_ : Int) rn); have Q8 := Lib.hid (Q7.out.setCells (vs := [.int .i64 re, .int .u64 (rw_ : Int), .int .i64 rn]) rfl); have Q9 := Lib.hid (Q6.out.fnd (Fnd.setCells g7 [.int .i64 re, .int .u64 (rw_ : Int), .int .i64 rn] 0 wq) HNE.out Q8.out.bx.old); replace ff1 := Lib.hid (Tw.mk ff1.out (Fnd.setCells g7 [.int .i64 re, .int .u64 (rw_ : Int), .int .i64 rn] 0 wq)))
        | ((with_reducible change wpList _ _ _ _ _ _); refine wpList_store_mid (by rfl) 40 (.tmp 7) (.tmp 59) (by rfl) g7 0 #[.int .i64 re, .int .u64 (rw_ : Int), .int .i64 rn] (by rfl) (by rfl) HT7.out info_reply HO7.out ?_; change wpList _ _ _ _ _ (wq.setCells g7 0 [.int .i64 re, .int .u64 (rw_ : Int), .int .i64 rn]); generalize wq.setCells g7 0 [.int .i64 re, .int .u64 (rw_ : Int), .int .i64 rn] = wz at Q8 Q9 ff1 ⊢))
      refine bodyPost_ret (results_cc rfl _ _ _ (b := g6) (b' := g7) (by rfl) Q9.out.bx.range Tryz.underlying27 rfl info_state (by rfl) Q8.out.bx.range Tryz.underlying40 rfl info_reply) rfl ?_
      refine ⟨A', ca', C', cc', rfl, Q8.out.bx.old, ?_⟩
      have hm := HMM.out
      cases r1 with
      | none => exact hm
      | some s' => exact ⟨hm.1, hm.2.1, ff1.out.use fun f f' => hm.2.2.two f f' HLT.out.1 HLT.out.2.1 HLT.out.2.2⟩
    have h7' : (o == 7) = false := by simpa using h7
    have HX : Hid (mrecv s t ⟨o, la, lb, x, y, z⟩ i = r) := Lib.hid (by have := (HX1.out.trans (if_neg h7)).symm; rw [Int.toNat_natCast] at this; exact this)
    clear HX1 h7
    have t0 := T.out.bx.c 0 _ rfl
    have t1 := T.out.bx.c 1 _ rfl
    have t2 := T.out.bx.c 2 _ rfl
    have t3 := T.out.bx.c 3 _ rfl
    have t4 := T.out.bx.c 4 _ rfl
    have k0 := CK.out.bx.c 0 _ rfl
    have k1 := CK.out.bx.c 1 _ rfl
    have k2 := CK.out.bx.c 2 _ rfl
    have k3 := CK.out.bx.c 3 _ rfl
    have k4 := CK.out.bx.c 4 _ rfl
    have k5 := CK.out.bx.c 5 _ rfl
    have n1 := N.out.bx.c 1 _ rfl
    go_wp2_with fail
    refine (recv_is (HS.out.on T.out.bx.old) HNB.out HCPB.out (HB.out.on T.out.bx.old) HG.out HBX.out.lt HBX.out.thty HX.out).mono ?_
    rintro e w8 ⟨A', ca', C', cc', rfl, hb, hm⟩
    obtain ⟨r1, ⟨re, rw_, rn⟩⟩ := r
    simp only [Rep.val]
    have HMM := Lib.hid hm
    have HLT : Hid (g6 < w7.heap.size ∧ g7 < w7.heap.size ∧ w.heap.size ≤ w7.heap.size) := Lib.hid ⟨R6.out.bx.lt, R7.out.bx.lt, T.out.bx.old.size⟩
    replace R6 := Lib.hid (R6.out.on hb)
    replace R7 := Lib.hid (R7.out.on hb)
    clear hb hm T CK N k0 k1 k2 k3 k4 k5 n1
    clear t0 t1 t2 t3 t4
    have HT6 : Hid (w8.there g6 0 (#[.int .i64 a, .int .i64 b, .int .i64 c, .slice A' n ca', .slice C' m cc'] : Array Value).size) := Lib.hid (R6.out.there (n := 5) rfl)
    have HO6 := Lib.hid (state_one a b c A' n ca' C' m cc')
    have Q6 := Lib.hid (R6.out.setCells (vs := [.int .i64 a, .int .i64 b, .int .i64 c, .slice A' n ca', .slice C' m cc']) rfl)
    have Q7 := Lib.hid (R7.out.fnd (Fnd.setCells g6 [.int .i64 a, .int .i64 b, .int .i64 c, .slice A' n ca', .slice C' m cc'] 0 w8) HNE.out.symm Q6.out.bx.old)
    have ff1 := Lib.hid (Fnd.setCells g6 [.int .i64 a, .int .i64 b, .int .i64 c, .slice A' n ca', .slice C' m cc'] 0 w8)
    clear R6 R7
    go_wp2_with (first
      | ((with_reducible change wpList _ _ _ _ _ _); refine wpList_store_mid (by rfl) 27 (.tmp 6) (.tmp 66) (by rfl) g6 0 #[.int .i64 a, .int .i64 b, .int .i64 c, .slice A' n ca', .slice C' m cc'] (by rfl) (by rfl) HT6.out info_state HO6.out ?_; change wpList _ _ _ _ _ (w8.setCells g6 0 [.int .i64 a, .int .i64 b, .int .i64 c, .slice A' n ca', .slice C' m cc']); generalize w8.setCells g6 0 [.int .i64 a, .int .i64 b, .int .i64 c, .slice A' n ca', .slice C' m cc'] = wq at Q6 Q7 ff1 ⊢; have HT7 : Hid (wq.there g7 0 (#[.int .i64 re, .int .u64 (rw_ : Int), .int .i64 rn] : Array Value).size) := Lib.hid (Q7.out.there (n := 3) rfl); have HO7 := Lib.hid (reply_one re (rw_ : Int) rn); have Q8 := Lib.hid (Q7.out.setCells (vs := [.int .i64 re, .int .u64 (rw_ : Int), .int .i64 rn]) rfl); have Q9 := Lib.hid (Q6.out.fnd (Fnd.setCells g7 [.int .i64 re, .int .u64 (rw_ : Int), .int .i64 rn] 0 wq) HNE.out Q8.out.bx.old); replace ff1 := Lib.hid (Tw.mk ff1.out (Fnd.setCells g7 [.int .i64 re, .int .u64 (rw_ : Int), .int .i64 rn] 0 wq)))
      | ((with_reducible change wpList _ _ _ _ _ _); refine wpList_store_mid (by rfl) 40 (.tmp 7) (.tmp 67) (by rfl) g7 0 #[.int .i64 re, .int .u64 (rw_ : Int), .int .i64 rn] (by rfl) (by rfl) HT7.out info_reply HO7.out ?_; change wpList _ _ _ _ _ (wq.setCells g7 0 [.int .i64 re, .int .u64 (rw_ : Int), .int .i64 rn]); generalize wq.setCells g7 0 [.int .i64 re, .int .u64 (rw_ : Int), .int .i64 rn] = wz at Q8 Q9 ff1 ⊢))
    refine bodyPost_ret (results_cc rfl _ _ _ (b := g6) (b' := g7) (by rfl) Q9.out.bx.range Tryz.underlying27 rfl info_state (by rfl) Q8.out.bx.range Tryz.underlying40 rfl info_reply) rfl ?_
    refine ⟨A', ca', C', cc', rfl, Q8.out.bx.old, ?_⟩
    have hm := HMM.out
    cases r1 with
    | none => exact hm
    | some s' => exact ⟨hm.1, hm.2.1, ff1.out.use fun f f' => hm.2.2.two f f' HLT.out.1 HLT.out.2.1 HLT.out.2.2⟩
end Go.Proofs.YtkpbfbmkolgmgaaGreat
