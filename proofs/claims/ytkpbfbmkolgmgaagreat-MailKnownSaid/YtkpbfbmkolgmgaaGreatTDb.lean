/-
  The walks of give's givenOf, rings, mayPut. Condition: the state lies in memory.
-/
import Derived.Test.YtkpbfbmkolgmgaaGreatTDa
namespace Go.Proofs.YtkpbfbmkolgmgaaGreat
open Go.RowKit
set_option linter.unusedSimpArgs false
set_option linter.unusedVariables false

theorem boxes2 (w : World) (c1 c2 : List Value) (t1 t2 : TypeId) : Wbs w ((w.alloc (.cells c1.toArray t1)).alloc (.cells c2.toArray t2)) w.heap.size c1 ∧ Wbs w ((w.alloc (.cells c1.toArray t1)).alloc (.cells c2.toArray t2)) (w.heap.size + 1) c2 := by
  have k1 := Wbs.more (below_self w) c1 t1
  have k2 := Wbs.more k1.bx.old c2 t2
  rw [show (w.alloc (.cells c1.toArray t1)).heap.size = w.heap.size + 1 by simp] at k2
  exact ⟨k1.on (below_alloc _ _), k2⟩
theorem boxes3 (w : World) (c1 c2 c3 : List Value) (t1 t2 t3 : TypeId) : Wbs w (((w.alloc (.cells c1.toArray t1)).alloc (.cells c2.toArray t2)).alloc (.cells c3.toArray t3)) w.heap.size c1 ∧ Wbs w (((w.alloc (.cells c1.toArray t1)).alloc (.cells c2.toArray t2)).alloc (.cells c3.toArray t3)) (w.heap.size + 1) c2 ∧ Wbs w (((w.alloc (.cells c1.toArray t1)).alloc (.cells c2.toArray t2)).alloc (.cells c3.toArray t3)) (w.heap.size + 1 + 1) c3 := by
  obtain ⟨k1, k2⟩ := boxes2 w c1 c2 t1 t2
  have k3 := Wbs.more k2.bx.old c3 t3
  rw [show ((w.alloc (.cells c1.toArray t1)).alloc (.cells c2.toArray t2)).heap.size = w.heap.size + 1 + 1 by simp] at k3
  exact ⟨k1.on (below_alloc _ _), k2.on (below_alloc _ _), k3⟩
theorem boxes4 (w : World) (c1 c2 c3 c4 : List Value) (t1 t2 t3 t4 : TypeId) : Wbs w ((((w.alloc (.cells c1.toArray t1)).alloc (.cells c2.toArray t2)).alloc (.cells c3.toArray t3)).alloc (.cells c4.toArray t4)) w.heap.size c1 ∧ Wbs w ((((w.alloc (.cells c1.toArray t1)).alloc (.cells c2.toArray t2)).alloc (.cells c3.toArray t3)).alloc (.cells c4.toArray t4)) (w.heap.size + 1) c2 ∧ Wbs w ((((w.alloc (.cells c1.toArray t1)).alloc (.cells c2.toArray t2)).alloc (.cells c3.toArray t3)).alloc (.cells c4.toArray t4)) (w.heap.size + 1 + 1) c3 ∧ Wbs w ((((w.alloc (.cells c1.toArray t1)).alloc (.cells c2.toArray t2)).alloc (.cells c3.toArray t3)).alloc (.cells c4.toArray t4)) (w.heap.size + 1 + 1 + 1) c4 := by
  obtain ⟨k1, k2, k3⟩ := boxes3 w c1 c2 c3 t1 t2 t3
  have k4 := Wbs.more k3.bx.old c4 t4
  rw [show (((w.alloc (.cells c1.toArray t1)).alloc (.cells c2.toArray t2)).alloc (.cells c3.toArray t3)).heap.size = w.heap.size + 1 + 1 + 1 by simp] at k4
  exact ⟨k1.on (below_alloc _ _), k2.on (below_alloc _ _), k3.on (below_alloc _ _), k4⟩
theorem info_cap : (Tryz.prog.info? 62).map (·.size) = some 4 := by kernel_rfl
theorem cap_one (a0 a1 a2 a3 : Int) : (#[.int .i64 a0, .int .i64 a1, .int .i64 a2, .int .i64 a3] : Array Value).all (·.oneCell') = true := by
  simp [Value.oneCell']

/-! ### what a call gives of a capability -/
def ggiven (k : Cp) (o x y : Int) : Cp × Int := if o = 2 then (k.cut x, 0) else if o = 3 then (k.cut x).stamp y else (k, 0)
set_option maxRecDepth 100000 in
set_option maxHeartbeats 8000000 in
theorem given_is {ty th ri ba o x y e0 : Int} {PA PB : Option Addr} {na cpa nb cpb z : Nat} {k : Cp} (hr : ggiven ⟨ty, th, ri, ba⟩ o x y = (k, e0)) (w : World) : Calls Tryz.prog 128 #[.agg #[.int .i64 ty, .int .i64 th, .int .i64 ri, .int .i64 ba], .agg #[.int .i64 o, .slice PA na cpa, .slice PB nb cpb, .int .i64 x, .int .i64 y, .int .u64 (z : Int)]] w fun e w' => e = .returned (.tuple #[k.val, .int .i64 e0]) ∧ Below w.heap.size w w' := by
  obtain ⟨k1, k2, k3⟩ := boxes3 w [.int .i64 ty, .int .i64 th, .int .i64 ri, .int .i64 ba] [.int .i64 o, .slice PA na cpa, .slice PB nb cpb, .int .i64 x, .int .i64 y, .int .u64 (z : Int)] [.int .i64 0, .int .i64 0, .int .i64 0, .int .i64 0] 62 33 62
  obtain ⟨g1, hg1⟩ : ∃ g1, g1 = w.heap.size + 1 := ⟨_, rfl⟩
  obtain ⟨g2, hg2⟩ : ∃ g2, g2 = w.heap.size + 1 + 1 := ⟨_, rfl⟩
  have hne : w.heap.size ≠ g2 ∧ g1 ≠ g2 := by omega
  have HR := Lib.hid hr
  clear hr
  go_enter Tryz.func128, Tryz.ntmps128
  go_upto_region 1 with fail
  rw [← hg2] at k3 ⊢
  rw [← hg1] at k2 ⊢
  clear hg1 hg2
  generalize ((w.alloc _).alloc _).alloc _ = w3 at k1 k2 k3 ⊢
  have K1 := Lib.hid k1
  have K2 := Lib.hid k2
  have K3 := Lib.hid k3
  clear k1 k2 k3
  have p0 := K1.out.bx.c 0 _ rfl
  have p1 := K1.out.bx.c 1 _ rfl
  have p2 := K1.out.bx.c 2 _ rfl
  have p3 := K1.out.bx.c 3 _ rfl
  have c0 := K2.out.bx.c 0 _ rfl
  have c3 := K2.out.bx.c 3 _ rfl
  have c4 := K2.out.bx.c 4 _ rfl
  by_cases h2 : o = 2
  · subst h2
    obtain ⟨⟨u1, u2, u3, u4⟩, hu⟩ : ∃ k, Cp.cut ⟨ty, th, ri, ba⟩ x = k := ⟨_, rfl⟩
    have HU := Lib.hid hu
    clear hu
    go_wp2_with fail
    refine (cut_any ⟨ty, th, ri, ba⟩ x w3).mono ?_
    rintro e w4 ⟨rfl, hb⟩
    rw [HU.out]
    simp only [Cp.val]
    have K4 := Lib.hid (K3.out.on hb)
    have HT : Hid (w4.there g2 0 (#[.int .i64 u1, .int .i64 u2, .int .i64 u3, .int .i64 u4] : Array Value).size) := Lib.hid (K4.out.there (n := 4) rfl)
    have HO := Lib.hid (cap_one u1 u2 u3 u4)
    have kq := K4.out.setCells (vs := [.int .i64 u1, .int .i64 u2, .int .i64 u3, .int .i64 u4]) rfl
    go_wp2_with ((with_reducible change wpList _ _ _ _ _ _); refine wpList_store_mid (by rfl) 62 (.tmp 4) (.tmp 13) (by rfl) g2 0 #[.int .i64 u1, .int .i64 u2, .int .i64 u3, .int .i64 u4] (by rfl) (by rfl) HT.out info_cap HO.out ?_; change wpList _ _ _ _ _ (w4.setCells g2 0 [.int .i64 u1, .int .i64 u2, .int .i64 u3, .int .i64 u4]); generalize w4.setCells g2 0 _ = w5 at kq ⊢)
    refine bodyPost_ret (results_ct rfl _ _ _ (b := g2) (by rfl) kq.bx.range Tryz.underlying62 rfl info_cap) rfl ?_
    have h := HR.out
    rw [ggiven, if_pos rfl, HU.out] at h
    obtain ⟨rfl, rfl⟩ := Prod.mk.inj h
    exact ⟨rfl, kq.bx.old⟩
  have h2' : (o == 2) = false := by simpa using h2
  by_cases h3 : o = 3
  · subst h3
    obtain ⟨⟨u1, u2, u3, u4⟩, hu⟩ : ∃ k, Cp.cut ⟨ty, th, ri, ba⟩ x = k := ⟨_, rfl⟩
    have HU := Lib.hid hu
    obtain ⟨⟨⟨q1, q2, q3, q4⟩, q5⟩, hv⟩ : ∃ k, Cp.stamp ⟨u1, u2, u3, u4⟩ y = k := ⟨_, rfl⟩
    have HV := Lib.hid hv
    clear hu hv
    go_wp2_with fail
    refine wp_region_held_drew (S := fun w' => Bxs w w' w.heap.size [.int .i64 ty, .int .i64 th, .int .i64 ri, .int .i64 ba] ∧ Bxs w w' g1 [.int .i64 3, .slice PA na cpa, .slice PB nb cpb, .int .i64 x, .int .i64 y, .int .u64 (z : Int)]) (by kernel_rfl) ⟨K1.out.bx.drew, K2.out.bx.drew⟩ (fun hHeld => ?_)
    have P_v := Lib.hid K1.out.bx.drew
    have C_v := Lib.hid K2.out.bx.drew
    have R_v := Lib.hid (K3.out.on (below_self w3).drew)
    have HNE : Hid (w.heap.size ≠ g2 ∧ g1 ≠ g2) := Lib.hid hne
    clear K1 K2 K3 p0 p1 p2 p3 c0 c3 c4 hne h2'
    generalize w3.drew = v at P_v C_v R_v hHeld ⊢
    refine wpAnyH_take (i := 0) (v := .agg #[.int .i64 ty, .int .i64 th, .int .i64 ri, .int .i64 ba]) rfl (by kernel_rfl) (by kernel_rfl) (by kernel_rfl) (fun _ _ _ h => h) (yieldsIf_load_mid (by rfl) 62 (.tmp 2) (by rfl) w.heap.size 0 (by rfl) [.int .i64 ty, .int .i64 th, .int .i64 ri, .int .i64 ba] _ (fun w hS => hS.1.range) Tryz.underlying62 rfl info_cap) (by assumption) ?_
    try simp only [Act.put, List.setIfInBounds_toArray, List.set_cons_zero, List.set_cons_succ, List.getElem_toArray, List.getElem_cons_zero, List.getElem_cons_succ]
    refine wpAnyH_take (i := 1) (v := ?_) rfl (by kernel_rfl) (by kernel_rfl) (by kernel_rfl) (fun _ _ _ h => h) (Or.inl ⟨by rfl, ?_⟩) (by assumption) ?_
    rotate_left
    · intro w hSw; go_simp; try with_reducible rfl
    try simp only [Act.put, List.setIfInBounds_toArray, List.set_cons_zero, List.set_cons_succ, List.getElem_toArray, List.getElem_cons_zero, List.getElem_cons_succ]
    refine wpAnyH_take (i := 2) (v := ?_) rfl (by kernel_rfl) (by kernel_rfl) (by kernel_rfl) (fun _ _ _ h => h) (Or.inl ⟨by rfl, ?_⟩) (by assumption) ?_
    rotate_left
    · intro w hSw; have h3 := hSw.2.c 3 _ rfl; go_simp; try with_reducible rfl
    try simp only [Act.put, List.setIfInBounds_toArray, List.set_cons_zero, List.set_cons_succ, List.getElem_toArray, List.getElem_cons_zero, List.getElem_cons_succ]
    refine wpAnyH_take (i := 4) (v := ?_) rfl (by kernel_rfl) (by kernel_rfl) (by kernel_rfl) (fun _ _ _ h => h) (Or.inl ⟨by rfl, ?_⟩) (by assumption) ?_
    rotate_left
    · intro w hSw; go_simp; try with_reducible rfl
    try simp only [Act.put, List.setIfInBounds_toArray, List.set_cons_zero, List.set_cons_succ, List.getElem_toArray, List.getElem_cons_zero, List.getElem_cons_succ]
    refine wpAnyH_take (i := 5) (v := ?_) rfl (by kernel_rfl) (by kernel_rfl) (by kernel_rfl) (fun _ _ _ h => h) (Or.inl ⟨by rfl, ?_⟩) (by assumption) ?_
    rotate_left
    · intro w hSw; have h4 := hSw.2.c 4 _ rfl; go_simp; try with_reducible rfl
    try simp only [Act.put, List.setIfInBounds_toArray, List.set_cons_zero, List.set_cons_succ, List.getElem_toArray, List.getElem_cons_zero, List.getElem_cons_succ]
    refine wpAnyH_ready (rs := [3]) (by kernel_rfl) (by simp) ?_
    refine AllReadyH.cons rfl (fun K hK => ?_) AllReadyH.nil
    go_simp
    refine (cut_any ⟨ty, th, ri, ba⟩ x v).mono ?_
    rintro e v1 ⟨rfl, hb⟩
    rw [HU.out]
    simp only [Cp.val]
    replace P_v := Lib.hid (P_v.out.on hb)
    replace C_v := Lib.hid (C_v.out.on hb)
    replace R_v := Lib.hid (R_v.out.on hb)
    clear hb
    refine hK.out _ _ ⟨P_v.out, C_v.out⟩ (fun hHeld => ?_)
    clear hK K
    try simp only [Act.put, List.setIfInBounds_toArray, List.set_cons_zero, List.set_cons_succ, List.getElem_toArray, List.getElem_cons_zero, List.getElem_cons_succ]
    refine wpAnyH_ready (rs := [6]) (by kernel_rfl) (by simp) ?_
    refine AllReadyH.cons rfl (fun K hK => ?_) AllReadyH.nil
    go_simp
    refine (stamp_any ⟨u1, u2, u3, u4⟩ y v1).mono ?_
    rintro e v2 ⟨rfl, hb⟩
    rw [HV.out]
    simp only [stV, Cp.val]
    replace P_v := Lib.hid (P_v.out.on hb)
    replace C_v := Lib.hid (C_v.out.on hb)
    replace R_v := Lib.hid (R_v.out.on hb)
    clear hb
    refine hK.out _ _ ⟨P_v.out, C_v.out⟩ (fun hHeld => ?_)
    clear hK K
    try simp only [Act.put, List.setIfInBounds_toArray, List.set_cons_zero, List.set_cons_succ, List.getElem_toArray, List.getElem_cons_zero, List.getElem_cons_succ]
    refine wpAnyH_take (i := 7) (v := ?_) rfl (by kernel_rfl) (by kernel_rfl) (by kernel_rfl) (fun _ _ _ h => h) (Or.inl ⟨by rfl, ?_⟩) (by assumption) ?_
    rotate_left
    · intro w hSw; go_simp; try with_reducible rfl
    try simp only [Act.put, List.setIfInBounds_toArray, List.set_cons_zero, List.set_cons_succ, List.getElem_toArray, List.getElem_cons_zero, List.getElem_cons_succ]
    refine wpAnyH_take (i := 8) (v := ?_) rfl (by kernel_rfl) (by kernel_rfl) (by kernel_rfl) (fun _ _ _ h => h) (Or.inl ⟨by rfl, ?_⟩) (by assumption) ?_
    rotate_left
    · intro w hSw; go_simp; try with_reducible rfl
    try simp only [Act.put, List.setIfInBounds_toArray, List.set_cons_zero, List.set_cons_succ, List.getElem_toArray, List.getElem_cons_zero, List.getElem_cons_succ]
    refine wpAnyH_ready (rs := [9]) (by kernel_rfl) (by simp) ?_
    refine AllReadyH.cons rfl (fun K hK => ?_) AllReadyH.nil
    have HT : Hid (v2.there g2 0 (#[.int .i64 q1, .int .i64 q2, .int .i64 q3, .int .i64 q4] : Array Value).size) := Lib.hid (R_v.out.there (n := 4) rfl)
    have HO := Lib.hid (cap_one q1 q2 q3 q4)
    have kq := R_v.out.setCells (vs := [.int .i64 q1, .int .i64 q2, .int .i64 q3, .int .i64 q4]) rfl
    have fq := Fnd.setCells g2 [.int .i64 q1, .int .i64 q2, .int .i64 q3, .int .i64 q4] 0 v2
    have kp := P_v.out.fnd fq HNE.out.1 kq.bx.old
    have kc := C_v.out.fnd fq HNE.out.2 kq.bx.old
    clear fq
    refine step_store_mid (by rfl) 62 (.tmp 4) (.tmp 23) (by rfl) g2 0 #[.int .i64 q1, .int .i64 q2, .int .i64 q3, .int .i64 q4] (by rfl) (by rfl) HT.out info_cap HO.out ?_
    change K _ (v2.setCells g2 0 [.int .i64 q1, .int .i64 q2, .int .i64 q3, .int .i64 q4])
    generalize v2.setCells g2 0 [.int .i64 q1, .int .i64 q2, .int .i64 q3, .int .i64 q4] = v3 at kq kp kc ⊢
    refine hK.out _ _ ⟨kp, kc⟩ (fun hHeld => ?_)
    clear hK K
    try simp only [Act.put, List.setIfInBounds_toArray, List.set_cons_zero, List.set_cons_succ, List.getElem_toArray, List.getElem_cons_zero, List.getElem_cons_succ]
    refine wpAnyH_take (i := 10) (v := ?_) rfl (by kernel_rfl) (by kernel_rfl) (by kernel_rfl) (fun _ _ _ h => h) (Or.inl ⟨by rfl, ?_⟩) (by assumption) ?_
    rotate_left
    · intro w hSw; go_simp; try with_reducible rfl
    try simp only [Act.put, List.setIfInBounds_toArray, List.set_cons_zero, List.set_cons_succ, List.getElem_toArray, List.getElem_cons_zero, List.getElem_cons_succ]
    refine wpAnyH_done (by kernel_rfl) ?_ _
    go_wp2_with fail
    refine bodyPost_ret (results_ct rfl _ _ _ (b := g2) (by rfl) kq.bx.range Tryz.underlying62 rfl info_cap) rfl ?_
    have h := HR.out
    rw [ggiven, if_neg (by decide), if_pos rfl, HU.out, HV.out] at h
    obtain ⟨rfl, rfl⟩ := Prod.mk.inj h
    exact ⟨rfl, kq.bx.old⟩
  have h3' : (o == 3) = false := by simpa using h3
  have HT : Hid (w3.there g2 0 (#[.int .i64 ty, .int .i64 th, .int .i64 ri, .int .i64 ba] : Array Value).size) := Lib.hid (K3.out.there (n := 4) rfl)
  have HO := Lib.hid (cap_one ty th ri ba)
  have kq := K3.out.setCells (vs := [.int .i64 ty, .int .i64 th, .int .i64 ri, .int .i64 ba]) rfl
  go_wp2_with ((with_reducible change wpList _ _ _ _ _ _); refine wpList_store_mid (by rfl) 62 (.tmp 4) (.tmp 25) (by rfl) g2 0 #[.int .i64 ty, .int .i64 th, .int .i64 ri, .int .i64 ba] (by rfl) (by rfl) HT.out info_cap HO.out ?_; change wpList _ _ _ _ _ (w3.setCells g2 0 [.int .i64 ty, .int .i64 th, .int .i64 ri, .int .i64 ba]); generalize w3.setCells g2 0 _ = w5 at kq ⊢)
  refine bodyPost_ret (results_ct rfl _ _ _ (b := g2) (by rfl) kq.bx.range Tryz.underlying62 rfl info_cap) rfl ?_
  have h := HR.out
  rw [ggiven, if_neg h2, if_neg h3] at h
  obtain ⟨rfl, rfl⟩ := Prod.mk.inj h
  exact ⟨rfl, kq.bx.old⟩

/-! ### may it be put in -/
theorem rings_is {s : St} {a b c : Int} {A C : Option Addr} {n ca m cc : Nat} {ty th ri ba z : Int} {r : Bool} {w : World} (hS : StH w s a b c A n ca C m cc) (hr : sinside s th z = r) : Calls Tryz.prog 168 #[.agg #[.int .i64 a, .int .i64 b, .int .i64 c, .slice A n ca, .slice C m cc], .agg #[.int .i64 ty, .int .i64 th, .int .i64 ri, .int .i64 ba], .int .i64 z] w fun e w' => e = .returned (.bool r) ∧ Below w.heap.size w w' := by
  obtain ⟨k1, k2⟩ := boxes2 w [.int .i64 a, .int .i64 b, .int .i64 c, .slice A n ca, .slice C m cc] [.int .i64 ty, .int .i64 th, .int .i64 ri, .int .i64 ba] 27 62
  obtain ⟨g1, hg1⟩ : ∃ g1, g1 = w.heap.size + 1 := ⟨_, rfl⟩
  have HS := Lib.hid hS
  have HR := Lib.hid hr
  clear hS hr
  go_enter Tryz.func168, Tryz.ntmps168
  go_upto_region 1 with fail
  rw [← hg1] at k2 ⊢
  clear hg1
  generalize (w.alloc _).alloc _ = w2 at k1 k2 ⊢
  have K1 := Lib.hid k1
  have t0 := k1.bx.c 0 _ rfl
  have t1 := k1.bx.c 1 _ rfl
  have t2 := k1.bx.c 2 _ rfl
  have t3 := k1.bx.c 3 _ rfl
  have t4 := k1.bx.c 4 _ rfl
  have p1 := k2.bx.c 1 _ rfl
  clear k1 k2
  go_wp2_with fail
  refine (pins_is (HS.out.on K1.out.bx.old) HR.out).mono ?_
  rintro e w3 ⟨rfl, hb⟩
  have HB := Lib.hid (below_on K1.out.bx.old hb)
  clear hb
  go_wp2
  go_ret
  exact ⟨rfl, HB.out⟩
def gmay (s : St) (f t : Int) (c : Cp) : Int :=
  if optI (sowner s t) = -1 then 1 else if f < 0 then 1 else if (s.sl.length : Int) ≤ f then 1 else if c.good = false then 1 else if c.non = true then 1
  else if (slAt s.sl f.toNat).c.non = true then 4 else if (slAt s.sl t.toNat).c.non = false then 5 else if (slAt s.sl f.toNat).c.ty = 1 then 7
  else if c.less (slAt s.sl f.toNat).c = false then 1 else if sinside s c.th t = true then 1 else 0
theorem owned_in {s : St} {n m : Nat} {w : World} {a b c : Int} {A C : Option Addr} {ca cc : Nat} (hS : StH w s a b c A n ca C m cc) {k : Int} (h : optI (sowner s k) ≠ -1) : ∃ j : Nat, k = j ∧ j < n ∧ (ownerN s.th k).isSome = true ∧ sgood s = true := by
  by_cases hk : 0 ≤ k ∧ k < n
  · refine ⟨k.toNat, by omega, by omega, ?_⟩
    rw [sowner] at h
    by_cases hg : sgood s = true
    · rw [if_pos hg] at h
      refine ⟨?_, hg⟩
      rcases ho : ownerN s.th k with _ | o
      · rw [ho] at h; exact absurd rfl h
      · rfl
    · rw [if_neg hg] at h; exact absurd rfl h
  · rw [sowner_out (fun hg => sgood_pk hS hg) hk] at h
    exact absurd rfl h
set_option maxRecDepth 100000 in
set_option maxHeartbeats 16000000 in
theorem maput_is {s : St} {a b c : Int} {A C : Option Addr} {n ca m cc : Nat} {f t ty th ri ba r : Int} {w : World} (hS : StH w s a b c A n ca C m cc) (hr : gmay s f t ⟨ty, th, ri, ba⟩ = r) : Calls Tryz.prog 171 #[.agg #[.int .i64 a, .int .i64 b, .int .i64 c, .slice A n ca, .slice C m cc], .int .i64 f, .int .i64 t, .agg #[.int .i64 ty, .int .i64 th, .int .i64 ri, .int .i64 ba]] w fun e w' => e = .returned (.int .i64 r) ∧ Below w.heap.size w w' := by
  obtain ⟨k1, k2⟩ := boxes2 w [.int .i64 a, .int .i64 b, .int .i64 c, .slice A n ca, .slice C m cc] [.int .i64 ty, .int .i64 th, .int .i64 ri, .int .i64 ba] 27 62
  obtain ⟨g1, hg1⟩ : ∃ g1, g1 = w.heap.size + 1 := ⟨_, rfl⟩
  obtain ⟨r0, hr0⟩ : ∃ r0, optI (sowner s t) = r0 := ⟨_, rfl⟩
  have HN := Lib.hid hS.hn
  have HS := Lib.hid hS
  have HR := Lib.hid hr
  have HR0 := Lib.hid hr0
  clear hS hr hr0
  go_enter Tryz.func171, Tryz.ntmps171
  go_upto_region 1 with fail
  rw [← hg1] at k2 ⊢
  clear hg1
  generalize (w.alloc _).alloc _ = w2 at k1 k2 ⊢
  have K1 := Lib.hid k1
  have K2 := Lib.hid k2
  have t0 := K1.out.bx.c 0 _ rfl
  have t1 := K1.out.bx.c 1 _ rfl
  have t2 := K1.out.bx.c 2 _ rfl
  have t3 := K1.out.bx.c 3 _ rfl
  have t4 := K1.out.bx.c 4 _ rfl
  clear k1 k2
  go_wp2_with fail
  refine (pown_is (HS.out.on K1.out.bx.old) HR0.out).mono ?_
  rintro e w3 ⟨rfl, hb⟩
  replace K1 := Lib.hid (K1.out.on hb)
  replace K2 := Lib.hid (K2.out.on hb)
  clear t0 t1 t2 t3 t4 hb
  by_cases h1 : r0 = -1
  · have HX : Hid (r = 1) := Lib.hid (by rw [← HR.out, gmay, if_pos (by rw [HR0.out, h1])])
    have h1' : (r0 == -1) = true := by rw [beq_iff_eq]; exact h1
    go_wp2
    go_ret
    exact ⟨by rw [HX.out]; rfl, K1.out.bx.old⟩
  have h1' : (r0 == -1) = false := by rw [beq_eq_false_iff_ne]; exact h1
  have H1 : Hid (¬ optI (sowner s t) = -1) := Lib.hid (by rw [HR0.out]; exact h1)
  clear h1
  by_cases h2 : f < 0
  · have HX : Hid (r = 1) := Lib.hid (by rw [← HR.out, gmay, if_neg H1.out, if_pos h2])
    have h2' : decide (f < 0) = true := decide_eq_true h2
    go_wp2
    go_ret
    exact ⟨by rw [HX.out]; rfl, K1.out.bx.old⟩
  have h2' : decide (f < 0) = false := decide_eq_false h2
  have H2 := Lib.hid h2
  obtain ⟨F, rfl⟩ : ∃ F : Nat, f = F := ⟨f.toNat, by omega⟩
  clear h2
  have t3 := K1.out.bx.c 3 _ rfl
  by_cases h3 : (n : Int) ≤ (F : Int)
  · have HX : Hid (r = 1) := Lib.hid (by rw [← HR.out, gmay, if_neg H1.out, if_neg (show ¬ ((F : Int) < 0) by omega), if_pos (by rw [← HN.out]; exact h3)])
    have h3' : decide ((n : Int) ≤ (F : Int)) = true := decide_eq_true h3
    have h3'' : decide (n ≤ F) = true := decide_eq_true (by omega)
    go_wp2
    go_ret
    exact ⟨by rw [HX.out]; rfl, K1.out.bx.old⟩
  have h3' : decide ((n : Int) ≤ (F : Int)) = false := decide_eq_false h3
  have h3'' : decide (n ≤ F) = false := decide_eq_false (by omega)
  have H3 : Hid (¬ (s.sl.length : Int) ≤ (F : Int)) := Lib.hid (by rw [← HN.out]; exact h3)
  have HF : Hid (F < s.sl.length) := Lib.hid (by have := H3.out; omega)
  clear h3
  have p0 := K2.out.bx.c 0 _ rfl
  have p1 := K2.out.bx.c 1 _ rfl
  have p2 := K2.out.bx.c 2 _ rfl
  have p3 := K2.out.bx.c 3 _ rfl
  go_wp2_with fail
  obtain ⟨z4, hz4⟩ : ∃ z4, Cp.good ⟨ty, th, ri, ba⟩ = z4 := ⟨_, rfl⟩
  have H4 := Lib.hid hz4
  refine (cgood_at hz4 w3).mono ?_
  rintro e w4 ⟨rfl, hb⟩
  clear hz4
  replace K1 := Lib.hid (K1.out.on hb)
  replace K2 := Lib.hid (K2.out.on hb)
  clear p0 p1 p2 p3 t3 hb
  cases z4 with
  | false =>
    have HX : Hid (r = 1) := Lib.hid (by rw [← HR.out, gmay, if_neg H1.out, if_neg (show ¬ ((F : Int) < 0) by omega), if_neg (show ¬ ((s.sl.length : Int) ≤ (F : Int)) by have := HF.out; omega), if_pos H4.out])
    go_wp2
    go_ret
    exact ⟨by rw [HX.out]; rfl, K1.out.bx.old⟩
  | true =>
    have p0 := K2.out.bx.c 0 _ rfl
    have p1 := K2.out.bx.c 1 _ rfl
    have p2 := K2.out.bx.c 2 _ rfl
    have p3 := K2.out.bx.c 3 _ rfl
    go_wp2_with fail
    obtain ⟨z5, hz5⟩ : ∃ z5, Cp.non ⟨ty, th, ri, ba⟩ = z5 := ⟨_, rfl⟩
    have H5 := Lib.hid hz5
    refine (non_at hz5 w4).mono ?_
    rintro e w5 ⟨rfl, hb⟩
    clear hz5
    replace K1 := Lib.hid (K1.out.on hb)
    replace K2 := Lib.hid (K2.out.on hb)
    clear p0 p1 p2 p3 hb
    have hG4 : ¬ Cp.good ⟨ty, th, ri, ba⟩ = false := by rw [H4.out]; decide
    have HGAY := Lib.hid hG4
    clear hG4
    cases z5 with
    | true =>
      have HX : Hid (r = 1) := Lib.hid (by rw [← HR.out, gmay, if_neg H1.out, if_neg (show ¬ ((F : Int) < 0) by omega), if_neg (show ¬ ((s.sl.length : Int) ≤ (F : Int)) by have := HF.out; omega), if_neg HGAY.out, if_pos H5.out])
      go_wp2
      go_ret
      exact ⟨by rw [HX.out]; rfl, K1.out.bx.old⟩
    | false =>
      have HN5 : Hid (¬ Cp.non ⟨ty, th, ri, ba⟩ = true) := Lib.hid (by rw [H5.out]; decide)
      have HR2 : Hid (r = if (slAt s.sl F).c.non = true then 4 else if (slAt s.sl t.toNat).c.non = false then 5 else if (slAt s.sl F).c.ty = 1 then 7 else if Cp.less ⟨ty, th, ri, ba⟩ (slAt s.sl F).c = false then 1 else if sinside s th t = true then 1 else 0) := Lib.hid (by rw [← HR.out, gmay, if_neg H1.out, if_neg (show ¬ ((F : Int) < 0) by omega), if_neg (show ¬ ((s.sl.length : Int) ≤ (F : Int)) by have := HF.out; omega), if_neg HGAY.out, if_neg HN5.out, Int.toNat_natCast])
      obtain ⟨t', rfl, ht', -, -⟩ := owned_in HS.out H1.out
      obtain ⟨sb, sp, rfl, hsb, hc⟩ := HS.out.lies.sl (Nat.lt_of_le_of_lt (Nat.zero_le _) HF.out)
      have HT' := Lib.hid ht'
      have HSB := Lib.hid hsb
      have HC := Lib.hid hc
      clear ht' hsb hc HR H1 H2 H3 HN5 HGAY H5 H4 HR0
      obtain ⟨⟨⟨hy, hh, hri, hba⟩, hup⟩, hsl⟩ : ∃ x, slAt s.sl F = x := ⟨_, rfl⟩
      have HSL := Lib.hid hsl
      have hX := HC.out F HF.out
      rw [hsl] at hX
      replace hX := hX.same (w' := w5) fun k => K1.out.bx.old.cell (p := ⟨sb, k, none⟩) HSB.out
      obtain ⟨y0, y1, y2, y3, -⟩ := hX
      simp only at y0 y1 y2 y3
      have hFn : (F : Int) < (n : Int) := by have := HF.out; rw [← HN.out] at this; omega
      have t0 := K1.out.bx.c 0 _ rfl
      have t1 := K1.out.bx.c 1 _ rfl
      have t2 := K1.out.bx.c 2 _ rfl
      have t3 := K1.out.bx.c 3 _ rfl
      have t4 := K1.out.bx.c 4 _ rfl
      clear hsl
      go_upto_region 4 with fail
      have N := Wbs.more K1.out.bx.old [.int .i64 hy, .int .i64 hh, .int .i64 hri, .int .i64 hba] 62
      have hal := below_alloc w5 (.cells #[.int .i64 hy, .int .i64 hh, .int .i64 hri, .int .i64 hba] 62)
      replace K1 := Lib.hid (K1.out.on hal)
      replace K2 := Lib.hid (K2.out.on hal)
      clear y0 y1 y2 y3 t0 t1 t2 t3 t4 hal
      obtain ⟨g9, hg9⟩ : ∃ g9, g9 = w5.heap.size := ⟨_, rfl⟩
      rw [← hg9] at N ⊢
      clear hg9
      generalize w5.alloc _ = w6 at N K1 K2 ⊢
      have N9 := Lib.hid N
      clear N
      have n0 := N9.out.bx.c 0 _ rfl
      have n1 := N9.out.bx.c 1 _ rfl
      have n2 := N9.out.bx.c 2 _ rfl
      have n3 := N9.out.bx.c 3 _ rfl
      go_wp2_with fail
      obtain ⟨z6, hz6⟩ : ∃ z6, Cp.non ⟨hy, hh, hri, hba⟩ = z6 := ⟨_, rfl⟩
      have H6 := Lib.hid hz6
      refine (non_at hz6 w6).mono ?_
      rintro e w7 ⟨rfl, hb⟩
      clear hz6
      replace K1 := Lib.hid (K1.out.on hb)
      replace K2 := Lib.hid (K2.out.on hb)
      replace N9 := Lib.hid (N9.out.on hb)
      clear n0 n1 n2 n3 hb
      rw [HSL.out] at HR2
      cases z6 with
      | true =>
        have HX : Hid (r = 4) := Lib.hid (by rw [HR2.out, if_pos H6.out])
        go_wp2
        go_ret
        exact ⟨by rw [HX.out]; rfl, K1.out.bx.old⟩
      | false =>
        have H6' : Hid (¬ Cp.non ⟨hy, hh, hri, hba⟩ = true) := Lib.hid (by rw [H6.out]; decide)
        obtain ⟨⟨⟨qy, qh, qri, qba⟩, qup⟩, hsl⟩ : ∃ x, slAt s.sl t' = x := ⟨_, rfl⟩
        have HTL := Lib.hid hsl
        have hX := HC.out t' (by rw [← HN.out]; exact HT'.out)
        rw [hsl] at hX
        replace hX := hX.same (w' := w7) fun k => K1.out.bx.old.cell (p := ⟨sb, k, none⟩) HSB.out
        obtain ⟨y0, y1, y2, y3, -⟩ := hX
        simp only at y0 y1 y2 y3
        have hFn : (t' : Int) < (n : Int) := by have := HT'.out; omega
        clear hsl
        rw [Int.toNat_natCast, HTL.out] at HR2
        have t0 := K1.out.bx.c 0 _ rfl
        have t1 := K1.out.bx.c 1 _ rfl
        have t2 := K1.out.bx.c 2 _ rfl
        have t3 := K1.out.bx.c 3 _ rfl
        have t4 := K1.out.bx.c 4 _ rfl
        go_wp2_with fail
        obtain ⟨z7, hz7⟩ : ∃ z7, Cp.non ⟨qy, qh, qri, qba⟩ = z7 := ⟨_, rfl⟩
        have H7 := Lib.hid hz7
        refine (non_at hz7 w7).mono ?_
        rintro e w8 ⟨rfl, hb⟩
        clear hz7
        replace K1 := Lib.hid (K1.out.on hb)
        replace K2 := Lib.hid (K2.out.on hb)
        replace N9 := Lib.hid (N9.out.on hb)
        clear y0 y1 y2 y3 t0 t1 t2 t3 t4 hb
        cases z7 with
        | false =>
          have HX : Hid (r = 5) := Lib.hid (by rw [HR2.out, if_neg H6'.out, if_pos H7.out])
          go_wp2
          go_ret
          exact ⟨by rw [HX.out]; rfl, K1.out.bx.old⟩
        | true =>
          have H7' : Hid (¬ Cp.non ⟨qy, qh, qri, qba⟩ = false) := Lib.hid (by rw [H7.out]; decide)
          have n0 := N9.out.bx.c 0 _ rfl
          by_cases h8 : hy = 1
          · have HX : Hid (r = 7) := Lib.hid (by rw [HR2.out, if_neg H6'.out, if_neg H7'.out, if_pos h8])
            have h8' : (hy == 1) = true := by rw [beq_iff_eq]; exact h8
            go_wp2
            go_ret
            exact ⟨by rw [HX.out]; rfl, K1.out.bx.old⟩
          have h8' : (hy == 1) = false := by rw [beq_eq_false_iff_ne]; exact h8
          have H8 := Lib.hid h8
          clear h8
          have n1 := N9.out.bx.c 1 _ rfl
          have n2 := N9.out.bx.c 2 _ rfl
          have n3 := N9.out.bx.c 3 _ rfl
          have p0 := K2.out.bx.c 0 _ rfl
          have p1 := K2.out.bx.c 1 _ rfl
          have p2 := K2.out.bx.c 2 _ rfl
          have p3 := K2.out.bx.c 3 _ rfl
          go_wp2_with fail
          obtain ⟨z9, hz9⟩ : ∃ z9, Cp.less ⟨ty, th, ri, ba⟩ ⟨hy, hh, hri, hba⟩ = z9 := ⟨_, rfl⟩
          have H9 := Lib.hid hz9
          refine (cless_any ⟨ty, th, ri, ba⟩ ⟨hy, hh, hri, hba⟩ w8).mono ?_
          rintro e w9 ⟨rfl, hb⟩
          rw [hz9]
          clear hz9
          replace K1 := Lib.hid (K1.out.on hb)
          replace K2 := Lib.hid (K2.out.on hb)
          clear n0 n1 n2 n3 p0 p1 p2 p3 hb N9
          cases z9 with
          | false =>
            have HX : Hid (r = 1) := Lib.hid (by rw [HR2.out, if_neg H6'.out, if_neg H7'.out, if_neg H8.out, if_pos H9.out])
            go_wp2
            go_ret
            exact ⟨by rw [HX.out]; rfl, K1.out.bx.old⟩
          | true =>
            have H9' : Hid (¬ Cp.less ⟨ty, th, ri, ba⟩ ⟨hy, hh, hri, hba⟩ = false) := Lib.hid (by rw [H9.out]; decide)
            have t0 := K1.out.bx.c 0 _ rfl
            have t1 := K1.out.bx.c 1 _ rfl
            have t2 := K1.out.bx.c 2 _ rfl
            have t3 := K1.out.bx.c 3 _ rfl
            have t4 := K1.out.bx.c 4 _ rfl
            have p0 := K2.out.bx.c 0 _ rfl
            have p1 := K2.out.bx.c 1 _ rfl
            have p2 := K2.out.bx.c 2 _ rfl
            have p3 := K2.out.bx.c 3 _ rfl
            go_wp2_with fail
            obtain ⟨z10, hz10⟩ : ∃ z10, sinside s th t' = z10 := ⟨_, rfl⟩
            have H10 := Lib.hid hz10
            refine (rings_is (HS.out.on K1.out.bx.old) hz10).mono ?_
            rintro e w10 ⟨rfl, hb⟩
            clear hz10
            have HB := Lib.hid (below_on K1.out.bx.old hb)
            clear t0 t1 t2 t3 t4 p0 p1 p2 p3 hb
            cases z10 with
            | true =>
              have HX : Hid (r = 1) := Lib.hid (by rw [HR2.out, if_neg H6'.out, if_neg H7'.out, if_neg H8.out, if_neg H9'.out, if_pos H10.out])
              go_wp2
              go_ret
              exact ⟨by rw [HX.out]; rfl, HB.out⟩
            | false =>
              have HX : Hid (r = 0) := Lib.hid (by rw [HR2.out, if_neg H6'.out, if_neg H7'.out, if_neg H8.out, if_neg H9'.out, if_neg (by rw [H10.out]; decide)])
              go_wp2
              go_ret
              exact ⟨by rw [HX.out]; rfl, HB.out⟩
end Go.Proofs.YtkpbfbmkolgmgaaGreat
