/-
  The walk of give's Put. Condition: the state lies in memory.
-/
import Derived.Test.YtkpbfbmkolgmgaaGreatTDb
namespace Go.Proofs.YtkpbfbmkolgmgaaGreat
open Go.RowKit
set_option linter.unusedSimpArgs false
set_option linter.unusedVariables false

/-- how a state and an error are handed back -/
def AnsF (w w' : World) (e : Ending) (a b c : Int) (A : Option Addr) (n ca : Nat) (C : Option Addr) (m cc : Nat) (r : Option St × Int) : Prop :=
  ∃ A' ca' C' cc', e = .returned (.tuple #[.agg #[.int .i64 a, .int .i64 b, .int .i64 c, .slice A' n ca', .slice C' m cc'], .int .i64 r.2]) ∧ Below w.heap.size w w' ∧
    match r.1 with
    | none => A' = A ∧ ca' = ca ∧ C' = C ∧ cc' = cc
    | some s' => n ≤ ca' ∧ m ≤ cc' ∧ Fsh w w' s' A' C'
def gput (s : St) (f t : Int) (c : Cp) : Option St × Int := if gmay s f t c = 0 then (some (gputS s f.toNat t.toNat c), 0) else (none, gmay s f t c)
theorem sowned_at {s : St} {k : Int} (h : optI (sowner s k) ≠ -1) : ∃ j : Nat, k = j ∧ j < s.sl.length ∧ (ownerN s.th k).isSome = true ∧ sgood s = true := by
  by_cases hg : sgood s = true
  · rw [sowner, if_pos hg] at h
    rcases ho : ownerN s.th k with _ | o
    · rw [ho] at h; exact absurd rfl h
    · obtain ⟨h1, h2⟩ := owner_in ((sgood_pst.1 hg).pk rfl rfl) ho
      exact ⟨k.toNat, by omega, by omega, rfl, hg⟩
  · rw [sowner, if_neg hg] at h
    exact absurd rfl h
theorem gmay_zero {s : St} {f t : Int} {c : Cp} (h : gmay s f t c = 0) : ∃ F T : Nat, f = F ∧ t = T ∧ Gst s ∧ Pts s F T c := by
  unfold gmay at h
  by_cases h1 : optI (sowner s t) = -1
  · rw [if_pos h1] at h; cases h
  rw [if_neg h1] at h
  by_cases h2 : f < 0
  · rw [if_pos h2] at h; cases h
  rw [if_neg h2] at h
  by_cases h3 : (s.sl.length : Int) ≤ f
  · rw [if_pos h3] at h; cases h
  rw [if_neg h3] at h
  by_cases h4 : c.good = false
  · rw [if_pos h4] at h; cases h
  rw [if_neg h4] at h
  by_cases h5 : c.non = true
  · rw [if_pos h5] at h; cases h
  rw [if_neg h5] at h
  by_cases h6 : (slAt s.sl f.toNat).c.non = true
  · rw [if_pos h6] at h; cases h
  rw [if_neg h6] at h
  by_cases h7 : (slAt s.sl t.toNat).c.non = false
  · rw [if_pos h7] at h; cases h
  rw [if_neg h7] at h
  by_cases h8 : (slAt s.sl f.toNat).c.ty = 1
  · rw [if_pos h8] at h; cases h
  rw [if_neg h8] at h
  by_cases h9 : c.less (slAt s.sl f.toNat).c = false
  · rw [if_pos h9] at h; cases h
  rw [if_neg h9] at h
  by_cases h10 : sinside s c.th t = true
  · rw [if_pos h10] at h; cases h
  obtain ⟨T, rfl, hT, hown, hg⟩ := sowned_at h1
  obtain ⟨F, rfl⟩ : ∃ F : Nat, f = F := ⟨f.toNat, by omega⟩
  rw [Int.toNat_natCast] at *
  rw [sinside, hg, Bool.true_and] at h10
  exact ⟨F, T, rfl, rfl, sgood_iff.1 hg, by omega, by simpa using h6, hT, by simpa using h7, hown, by simpa using h4, by simpa using h5, by simpa using h9, by simpa using h10⟩
set_option maxRecDepth 100000 in
set_option maxHeartbeats 16000000 in
theorem gput_is {s : St} {a b c : Int} {A C : Option Addr} {n ca m cc : Nat} {f t ty th ri ba : Int} {r : Option St × Int} {w : World} (hS : StH w s a b c A n ca C m cc) (hr : gput s f t ⟨ty, th, ri, ba⟩ = r) : Calls Tryz.prog 130 #[.agg #[.int .i64 a, .int .i64 b, .int .i64 c, .slice A n ca, .slice C m cc], .int .i64 f, .int .i64 t, .agg #[.int .i64 ty, .int .i64 th, .int .i64 ri, .int .i64 ba]] w fun e w' => AnsF w w' e a b c A n ca C m cc r := by
  obtain ⟨k1, k2, k3⟩ := boxes3 w [.int .i64 a, .int .i64 b, .int .i64 c, .slice A n ca, .slice C m cc] [.int .i64 ty, .int .i64 th, .int .i64 ri, .int .i64 ba] [.int .i64 0, .int .i64 0, .int .i64 0, .slice none 0 0, .slice none 0 0] 27 62 27
  obtain ⟨g1, hg1⟩ : ∃ g1, g1 = w.heap.size + 1 := ⟨_, rfl⟩
  obtain ⟨g2, hg2⟩ : ∃ g2, g2 = w.heap.size + 1 + 1 := ⟨_, rfl⟩
  have hne : w.heap.size ≠ g2 ∧ g1 ≠ g2 := by omega
  have HNE := Lib.hid hne
  obtain ⟨e0, he0⟩ : ∃ e0, gmay s f t ⟨ty, th, ri, ba⟩ = e0 := ⟨_, rfl⟩
  have HN := Lib.hid hS.hn
  have HM := Lib.hid hS.hm
  have HS := Lib.hid hS
  have HR := Lib.hid hr
  have HE0 := Lib.hid he0
  clear hS hr he0 hne
  go_enter Tryz.func130, Tryz.ntmps130
  go_upto_region 1 with fail
  rw [← hg2] at k3 ⊢
  rw [← hg1] at k2 ⊢
  clear hg1 hg2
  generalize ((w.alloc _).alloc _).alloc _ = w3 at k1 k2 k3 ⊢
  have K1 := Lib.hid k1
  have K2 := Lib.hid k2
  have K3 := Lib.hid k3
  clear k1 k2 k3
  have t0 := K1.out.bx.c 0 _ rfl
  have t1 := K1.out.bx.c 1 _ rfl
  have t2 := K1.out.bx.c 2 _ rfl
  have t3 := K1.out.bx.c 3 _ rfl
  have t4 := K1.out.bx.c 4 _ rfl
  have p0 := K2.out.bx.c 0 _ rfl
  have p1 := K2.out.bx.c 1 _ rfl
  have p2 := K2.out.bx.c 2 _ rfl
  have p3 := K2.out.bx.c 3 _ rfl
  go_wp2_with fail
  refine (maput_is (HS.out.on K1.out.bx.old) HE0.out).mono ?_
  rintro e w4 ⟨rfl, hb⟩
  replace K1 := Lib.hid (K1.out.on hb)
  replace K2 := Lib.hid (K2.out.on hb)
  replace K3 := Lib.hid (K3.out.on hb)
  clear hb t0 t1 t2 t3 t4 p0 p1 p2 p3
  by_cases h0 : e0 = 0
  case neg =>
    have h0' : (e0 != 0) = true := by simpa using h0
    have HX : Hid (r = (none, e0)) := Lib.hid (by rw [← HR.out, gput, HE0.out, if_neg h0])
    have t0 := K1.out.bx.c 0 _ rfl
    have t1 := K1.out.bx.c 1 _ rfl
    have t2 := K1.out.bx.c 2 _ rfl
    have t3 := K1.out.bx.c 3 _ rfl
    have t4 := K1.out.bx.c 4 _ rfl
    have HT : Hid (w4.there g2 0 (#[.int .i64 a, .int .i64 b, .int .i64 c, .slice A n ca, .slice C m cc] : Array Value).size) := Lib.hid (K3.out.there (n := 5) rfl)
    have HO := Lib.hid (state_one a b c A n ca C m cc)
    have kq := K3.out.setCells (vs := [.int .i64 a, .int .i64 b, .int .i64 c, .slice A n ca, .slice C m cc]) rfl
    go_wp2_with ((with_reducible change wpList _ _ _ _ _ _); refine wpList_store_mid (by rfl) 27 (.tmp 8) (.tmp 19) (by rfl) g2 0 #[.int .i64 a, .int .i64 b, .int .i64 c, .slice A n ca, .slice C m cc] (by rfl) (by rfl) HT.out info_state HO.out ?_; change wpList _ _ _ _ _ (w4.setCells g2 0 [.int .i64 a, .int .i64 b, .int .i64 c, .slice A n ca, .slice C m cc]); generalize w4.setCells g2 0 _ = w5 at kq ⊢)
    refine bodyPost_ret (results_ct rfl _ _ _ (b := g2) (by rfl) kq.bx.range Tryz.underlying27 rfl info_state) rfl ?_
    rw [HX.out]
    exact ⟨A, ca, C, cc, rfl, kq.bx.old, rfl, rfl, rfl, rfl⟩
  subst h0
  obtain ⟨F, Y, rfl, rfl, hG, hP⟩ := gmay_zero HE0.out
  have HX : Hid (r = (some (gputS s F Y ⟨ty, th, ri, ba⟩), 0)) := Lib.hid (by rw [← HR.out, gput, HE0.out, if_pos rfl, Int.toNat_natCast, Int.toNat_natCast])
  have HP := Lib.hid hP
  have HPOS : Hid (0 < s.sl.length ∧ 0 < s.th.length) := Lib.hid ⟨by have := hP.src; omega, by have := (hP.src4 hG).th; omega⟩
  clear hG hP HR HE0
  have t0 := K1.out.bx.c 0 _ rfl
  have t1 := K1.out.bx.c 1 _ rfl
  have t2 := K1.out.bx.c 2 _ rfl
  have t3 := K1.out.bx.c 3 _ rfl
  have t4 := K1.out.bx.c 4 _ rfl
  go_wp2_with fail
  refine (pclone_is (HS.out.on K1.out.bx.old)).mono ?_
  rintro e w5 ⟨A2, ca2, C2, cc2, rfl, hca, hcc, hF, hb⟩
  obtain ⟨P, Q, rfl, rfl, hO⟩ := hF.ost HPOS.out.1 HPOS.out.2 hb
  have HCA := Lib.hid hca
  have HCC := Lib.hid hcc
  replace hO := hO.base K1.out.bx.old
  have NE : Hid (w.heap.size ≠ P ∧ w.heap.size ≠ Q ∧ g1 ≠ P ∧ g1 ≠ Q ∧ g2 ≠ P ∧ g2 ≠ Q) := Lib.hid (by
    obtain ⟨P', Q', eP, eQ, hO'⟩ := hF.ost HPOS.out.1 HPOS.out.2 hb
    injection eP with eP
    injection eP with eP
    injection eQ with eQ
    injection eQ with eQ
    subst eP eQ
    have e1 := K1.out.bx.lt
    have e2 := K2.out.bx.lt
    have e3 := K3.out.bx.lt
    have e4 := hO'.oP
    have e5 := hO'.oQ
    omega)
  replace K1 := Lib.hid (K1.out.on hb)
  replace K2 := Lib.hid (K2.out.on hb)
  replace K3 := Lib.hid (K3.out.on hb)
  clear hb hca hcc hF t0 t1 t2 t3 t4
  go_upto_region 5 with fail
  have N := Wbs.more K1.out.bx.old [.int .i64 a, .int .i64 b, .int .i64 c, .slice (some ⟨P, 0, none⟩) n ca2, .slice (some ⟨Q, 0, none⟩) m cc2] 27
  have hal := below_alloc w5 (.cells #[.int .i64 a, .int .i64 b, .int .i64 c, .slice (some ⟨P, 0, none⟩) n ca2, .slice (some ⟨Q, 0, none⟩) m cc2] 27)
  have NQ : Hid (w5.heap.size ≠ P ∧ w5.heap.size ≠ Q ∧ g2 ≠ w5.heap.size) := Lib.hid ⟨by have := hO.lP; omega, by have := hO.lQ; omega, by have := K3.out.bx.lt; omega⟩
  replace K2 := Lib.hid (K2.out.on hal)
  replace K3 := Lib.hid (K3.out.on hal)
  replace hO := hO.on hal
  clear hal K1
  obtain ⟨q, hq⟩ : ∃ q, q = w5.heap.size := ⟨_, rfl⟩
  rw [← hq] at N NQ ⊢
  clear hq
  generalize w5.alloc _ = w6 at N K2 K3 hO ⊢
  have N6 := Lib.hid N
  have O6 := Lib.hid hO
  clear N hO
  have hYn : (Y : Int) < (n : Int) := by have := HP.out.dst; have := HN.out; omega
  have HT : Hid (w6.there P (Y * 5) (#[.int .i64 ty, .int .i64 th, .int .i64 ri, .int .i64 ba, .int .i64 (F : Int)] : Array Value).size) := Lib.hid (O6.out.thereS HP.out.dst)
  have HO := Lib.hid (slot_one ty th ri ba (F : Int))
  have O7 := Lib.hid (O6.out.putS HP.out.dst ⟨⟨ty, th, ri, ba⟩, F⟩)
  have f7 := Fnd.setCells P (slist ⟨⟨ty, th, ri, ba⟩, F⟩) (Y * 5) w6
  have R7 := Lib.hid (K3.out.fnd f7 NE.out.2.2.2.2.1 O7.out.old)
  have N7 := Lib.hid (N6.out.fnd f7 NQ.out.1 O7.out.old)
  clear f7
  have p0 := K2.out.bx.c 0 _ rfl
  have p1 := K2.out.bx.c 1 _ rfl
  have p2 := K2.out.bx.c 2 _ rfl
  have p3 := K2.out.bx.c 3 _ rfl
  have n3 := N6.out.bx.c 3 _ rfl
  go_upto_region 6 with ((with_reducible change wpList _ _ _ _ _ _); refine wpList_store_mid (by rfl) 64 (.tmp 29) (.tmp 28) (by rfl) P (Y * 5) #[.int .i64 ty, .int .i64 th, .int .i64 ri, .int .i64 ba, .int .i64 (F : Int)] (by rfl) (by rfl) HT.out info_slot HO.out ?_; change wpList _ _ _ _ _ (w6.setCells P (Y * 5) (slist ⟨⟨ty, th, ri, ba⟩, F⟩)); generalize w6.setCells P (Y * 5) _ = w7 at O7 R7 N7 ⊢)
  clear HT HO hYn p0 p1 p2 p3 n3 K2 K3 O6 N6
  have HT : Hid (w7.there g2 0 (#[.int .i64 a, .int .i64 b, .int .i64 c, .slice (some ⟨P, 0, none⟩) n ca2, .slice (some ⟨Q, 0, none⟩) m cc2] : Array Value).size) := Lib.hid (R7.out.there (n := 5) rfl)
  have HO := Lib.hid (state_one a b c (some ⟨P, 0, none⟩) n ca2 (some ⟨Q, 0, none⟩) m cc2)
  have R8 := Lib.hid (R7.out.setCells (vs := [.int .i64 a, .int .i64 b, .int .i64 c, .slice (some ⟨P, 0, none⟩) n ca2, .slice (some ⟨Q, 0, none⟩) m cc2]) rfl)
  have O8 := Lib.hid (O7.out.step (Fnd.setCells g2 [.int .i64 a, .int .i64 b, .int .i64 c, .slice (some ⟨P, 0, none⟩) n ca2, .slice (some ⟨Q, 0, none⟩) m cc2] 0 w7) NE.out.2.2.2.2.1.symm NE.out.2.2.2.2.2.symm R8.out.bx.old)
  have n0 := N7.out.bx.c 0 _ rfl
  have n1 := N7.out.bx.c 1 _ rfl
  have n2 := N7.out.bx.c 2 _ rfl
  have n3 := N7.out.bx.c 3 _ rfl
  have n4 := N7.out.bx.c 4 _ rfl
  go_wp2_with ((with_reducible change wpList _ _ _ _ _ _); refine wpList_store_mid (by rfl) 27 (.tmp 8) (.tmp 30) (by rfl) g2 0 #[.int .i64 a, .int .i64 b, .int .i64 c, .slice (some ⟨P, 0, none⟩) n ca2, .slice (some ⟨Q, 0, none⟩) m cc2] (by rfl) (by rfl) HT.out info_state HO.out ?_; change wpList _ _ _ _ _ (w7.setCells g2 0 [.int .i64 a, .int .i64 b, .int .i64 c, .slice (some ⟨P, 0, none⟩) n ca2, .slice (some ⟨Q, 0, none⟩) m cc2]); generalize w7.setCells g2 0 _ = w8 at R8 O8 ⊢)
  refine bodyPost_ret (results_ct rfl _ _ _ (b := g2) (by rfl) R8.out.bx.range Tryz.underlying27 rfl info_state) rfl ?_
  rw [HX.out]
  exact ⟨_, _, _, _, rfl, R8.out.bx.old, HCA.out, HCC.out, O8.out.fsh⟩
end Go.Proofs.YtkpbfbmkolgmgaaGreat
