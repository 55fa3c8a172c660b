/-
  The walk of the law ForestSays. Conditions: the places lie in memory; what the program's calls answer is as Con tells.
-/
import Derived.Test.YtigljoafmefbnaaEy
import Derived.Test.YtigljoafmefbnaaEw
import Derived.Test.YtigljoafmefbnaaEh
namespace Go.Proofs.Ytigljoafmefbnaa
open Go.RowKit

theorem Gives.any {w w' : World} {e : Ending} {r : Option (List Int)} (h : Gives w w' e r) {n : Nat} {s : Bool} (hn : n = (r.getD []).length) (hs : s = r.isSome) : ∃ B cb, e = .returned (.tuple #[.slice B n cb, .bool s]) ∧ IntsAt w' w'.heap.size B (r.getD []) ∧ Below w.heap.size w w' := by
  subst hn
  subst hs
  exact h
set_option maxRecDepth 4000 in
set_option maxHeartbeats 4000000 in
theorem says_walk (K : Con) (A : Option Addr) (cap : Nat) (l : List Int) (i k : Int) (w : World) (hc : l.length ≤ cap) (hL : IntsAt w w.heap.size A l) :
    Calls Try.prog 4 #[.slice A l.length cap, .int .i64 i, .int .i64 k] w fun e w' => e = .returned (.bool true) ∧ Below w.heap.size w w' := by
  obtain ⟨n, hn⟩ : ∃ n, n = l.length := ⟨_, rfl⟩
  rw [← hn] at hc ⊢
  have HN := Lib.hid hn
  have HL := Lib.hid hL
  have HCP := Lib.hid hc
  clear hn hL hc
  go_enter Try.func4, Try.ntmps4
  go_wp2_with fail
  refine (awake_any K w).mono ?_
  rintro e w1 ⟨rfl, hb1⟩
  have HO := Lib.hid hb1
  have hL1 := HL.out.on hb1
  clear hb1 HL
  have HL := Lib.hid hL1
  clear hL1
  by_cases h100 : 100 < n
  · have h100' : (100 : Int) < (n : Int) := by omega
    go_wp2
    go_ret
    exact ⟨rfl, HO.out⟩
  have h100' : ¬ (100 : Int) < (n : Int) := by omega
  have H6 : Hid (n ≤ 100) := Lib.hid (by omega)
  have H7 : Hid (n ≤ 1000000) := Lib.hid (by omega)
  clear h100
  go_wp2_with fail
  refine (up_is _ _ _ w1).mono ?_
  rintro e v1 ⟨rfl, hb⟩
  replace HO := Lib.hid (below_on HO.out hb)
  replace HL := Lib.hid (HL.out.on hb)
  clear hb
  have hx := Fbx.new v1 (.slice A n cap) 25
  have hk := below_alloc v1 (.cells #[.slice A n cap] 25)
  have c_FX := hx.c
  go_wp2_with fail
  clear c_FX
  obtain ⟨FXP, hP⟩ : ∃ P, P = v1.heap.size := ⟨_, rfl⟩
  rw [← hP] at hx ⊢
  clear hP
  generalize v1.alloc (.cells #[.slice A n cap] 25) = v2 at hx hk ⊢
  replace HO := Lib.hid (below_on HO.out hk)
  replace HL := Lib.hid (HL.out.on hk)
  clear hk
  have FX := Lib.hid hx
  clear hx
  obtain ⟨An, hn⟩ : ∃ n, n = ((fadd l i k).getD []).length := ⟨_, rfl⟩
  obtain ⟨As, hs⟩ : ∃ s, s = (fadd l i k).isSome := ⟨_, rfl⟩
  have AN := Lib.hid hn
  have AS := Lib.hid hs
  clear hn hs
  refine (K.add (w := v2) HN.out HCP.out H7.out HL.out rfl).mono ?_
  intro e v3 hg
  obtain ⟨Ab, Ac, rfl, hcb, hi, hb⟩ := hg.any AN.out AS.out
  have AI := Lib.hid hi
  clear hi hcb
  replace HO := Lib.hid (below_on HO.out hb)
  replace HL := Lib.hid (HL.out.on hb)
  replace FX := Lib.hid (FX.out.on hb)
  clear hb
  have hx := Fbx.new v3 (.slice Ab An Ac) 25
  have hk := below_alloc v3 (.cells #[.slice Ab An Ac] 25)
  go_wp2_with fail
  obtain ⟨AXP, hP⟩ : ∃ P, P = v3.heap.size := ⟨_, rfl⟩
  rw [← hP] at hx ⊢
  clear hP
  generalize v3.alloc (.cells #[.slice Ab An Ac] 25) = v4 at hx hk ⊢
  replace HO := Lib.hid (below_on HO.out hk)
  replace HL := Lib.hid (HL.out.on hk)
  replace FX := Lib.hid (FX.out.on hk)
  replace AI := Lib.hid (AI.out.on hk)
  clear hk
  have AX := Lib.hid hx
  clear hx
  refine (radd_is (w := v4) HN.out HL.out rfl).mono ?_
  intro e v5 hg
  obtain ⟨Ad, Ae, rfl, hi, hb⟩ := hg.any AN.out AS.out
  have AJ := Lib.hid hi
  clear hi
  replace HO := Lib.hid (below_on HO.out hb)
  replace HL := Lib.hid (HL.out.on hb)
  replace FX := Lib.hid (FX.out.on hb)
  replace AI := Lib.hid (AI.out.on hb)
  replace AX := Lib.hid (AX.out.on hb)
  clear hb
  have c_FX := FX.out.c
  go_wp2_with fail
  clear c_FX
  obtain ⟨Dn, hn⟩ : ∃ n, n = ((fdrop l i).getD []).length := ⟨_, rfl⟩
  obtain ⟨Ds, hs⟩ : ∃ s, s = (fdrop l i).isSome := ⟨_, rfl⟩
  have DN := Lib.hid hn
  have DS := Lib.hid hs
  clear hn hs
  refine (K.drop (w := v5) HN.out HCP.out H7.out HL.out rfl).mono ?_
  intro e v6 hg
  obtain ⟨Db, Dc, rfl, hcb, hi, hb⟩ := hg.any DN.out DS.out
  have DI := Lib.hid hi
  clear hi hcb
  replace HO := Lib.hid (below_on HO.out hb)
  replace HL := Lib.hid (HL.out.on hb)
  replace FX := Lib.hid (FX.out.on hb)
  replace AI := Lib.hid (AI.out.on hb)
  replace AX := Lib.hid (AX.out.on hb)
  replace AJ := Lib.hid (AJ.out.on hb)
  clear hb
  have hx := Fbx.new v6 (.slice Db Dn Dc) 25
  have hk := below_alloc v6 (.cells #[.slice Db Dn Dc] 25)
  go_wp2_with fail
  obtain ⟨DXP, hP⟩ : ∃ P, P = v6.heap.size := ⟨_, rfl⟩
  rw [← hP] at hx ⊢
  clear hP
  generalize v6.alloc (.cells #[.slice Db Dn Dc] 25) = v7 at hx hk ⊢
  replace HO := Lib.hid (below_on HO.out hk)
  replace HL := Lib.hid (HL.out.on hk)
  replace FX := Lib.hid (FX.out.on hk)
  replace AI := Lib.hid (AI.out.on hk)
  replace AX := Lib.hid (AX.out.on hk)
  replace AJ := Lib.hid (AJ.out.on hk)
  replace DI := Lib.hid (DI.out.on hk)
  clear hk
  have DX := Lib.hid hx
  clear hx
  refine (rdrop_is (w := v7) HN.out HL.out rfl).mono ?_
  intro e v8 hg
  obtain ⟨Dd, De, rfl, hi, hb⟩ := hg.any DN.out DS.out
  have DJ := Lib.hid hi
  clear hi
  replace HO := Lib.hid (below_on HO.out hb)
  replace HL := Lib.hid (HL.out.on hb)
  replace FX := Lib.hid (FX.out.on hb)
  replace AI := Lib.hid (AI.out.on hb)
  replace AX := Lib.hid (AX.out.on hb)
  replace AJ := Lib.hid (AJ.out.on hb)
  replace DI := Lib.hid (DI.out.on hb)
  replace DX := Lib.hid (DX.out.on hb)
  clear hb
  have c_FX := FX.out.c
  go_wp2_with fail
  clear c_FX
  obtain ⟨Mn, hn⟩ : ∃ n, n = ((fmove l i k).getD []).length := ⟨_, rfl⟩
  obtain ⟨Ms, hs⟩ : ∃ s, s = (fmove l i k).isSome := ⟨_, rfl⟩
  have MN := Lib.hid hn
  have MS := Lib.hid hs
  clear hn hs
  refine (K.move (w := v8) HN.out HCP.out H7.out HL.out rfl).mono ?_
  intro e v9 hg
  obtain ⟨Mb, Mc, rfl, hcb, hi, hb⟩ := hg.any MN.out MS.out
  have MI := Lib.hid hi
  clear hi hcb
  replace HO := Lib.hid (below_on HO.out hb)
  replace HL := Lib.hid (HL.out.on hb)
  replace FX := Lib.hid (FX.out.on hb)
  replace AI := Lib.hid (AI.out.on hb)
  replace AX := Lib.hid (AX.out.on hb)
  replace AJ := Lib.hid (AJ.out.on hb)
  replace DI := Lib.hid (DI.out.on hb)
  replace DX := Lib.hid (DX.out.on hb)
  replace DJ := Lib.hid (DJ.out.on hb)
  clear hb
  have hx := Fbx.new v9 (.slice Mb Mn Mc) 25
  have hk := below_alloc v9 (.cells #[.slice Mb Mn Mc] 25)
  go_wp2_with fail
  obtain ⟨MXP, hP⟩ : ∃ P, P = v9.heap.size := ⟨_, rfl⟩
  rw [← hP] at hx ⊢
  clear hP
  generalize v9.alloc (.cells #[.slice Mb Mn Mc] 25) = v10 at hx hk ⊢
  replace HO := Lib.hid (below_on HO.out hk)
  replace HL := Lib.hid (HL.out.on hk)
  replace FX := Lib.hid (FX.out.on hk)
  replace AI := Lib.hid (AI.out.on hk)
  replace AX := Lib.hid (AX.out.on hk)
  replace AJ := Lib.hid (AJ.out.on hk)
  replace DI := Lib.hid (DI.out.on hk)
  replace DX := Lib.hid (DX.out.on hk)
  replace DJ := Lib.hid (DJ.out.on hk)
  replace MI := Lib.hid (MI.out.on hk)
  clear hk
  have MX := Lib.hid hx
  clear hx
  refine (rmove_is (w := v10) HN.out HL.out rfl).mono ?_
  intro e v11 hg
  obtain ⟨Md, Me, rfl, hi, hb⟩ := hg.any MN.out MS.out
  have MJ := Lib.hid hi
  clear hi
  replace HO := Lib.hid (below_on HO.out hb)
  replace HL := Lib.hid (HL.out.on hb)
  replace FX := Lib.hid (FX.out.on hb)
  replace AI := Lib.hid (AI.out.on hb)
  replace AX := Lib.hid (AX.out.on hb)
  replace AJ := Lib.hid (AJ.out.on hb)
  replace DI := Lib.hid (DI.out.on hb)
  replace DX := Lib.hid (DX.out.on hb)
  replace DJ := Lib.hid (DJ.out.on hb)
  replace MI := Lib.hid (MI.out.on hb)
  replace MX := Lib.hid (MX.out.on hb)
  clear hb
  have c_FX := FX.out.c
  go_wp2_with fail
  clear c_FX
  obtain ⟨Rn, hn⟩ : ∃ n, n = ((fprune l i).getD []).length := ⟨_, rfl⟩
  obtain ⟨Rs, hs⟩ : ∃ s, s = (fprune l i).isSome := ⟨_, rfl⟩
  have RN := Lib.hid hn
  have RS := Lib.hid hs
  clear hn hs
  refine (K.prune (w := v11) HN.out HCP.out H7.out HL.out rfl).mono ?_
  intro e v12 hg
  obtain ⟨Rb, Rc, rfl, hcb, hi, hb⟩ := hg.any RN.out RS.out
  have RI := Lib.hid hi
  clear hi hcb
  replace HO := Lib.hid (below_on HO.out hb)
  replace HL := Lib.hid (HL.out.on hb)
  replace FX := Lib.hid (FX.out.on hb)
  replace AI := Lib.hid (AI.out.on hb)
  replace AX := Lib.hid (AX.out.on hb)
  replace AJ := Lib.hid (AJ.out.on hb)
  replace DI := Lib.hid (DI.out.on hb)
  replace DX := Lib.hid (DX.out.on hb)
  replace DJ := Lib.hid (DJ.out.on hb)
  replace MI := Lib.hid (MI.out.on hb)
  replace MX := Lib.hid (MX.out.on hb)
  replace MJ := Lib.hid (MJ.out.on hb)
  clear hb
  have hx := Fbx.new v12 (.slice Rb Rn Rc) 25
  have hk := below_alloc v12 (.cells #[.slice Rb Rn Rc] 25)
  go_wp2_with fail
  obtain ⟨RXP, hP⟩ : ∃ P, P = v12.heap.size := ⟨_, rfl⟩
  rw [← hP] at hx ⊢
  clear hP
  generalize v12.alloc (.cells #[.slice Rb Rn Rc] 25) = v13 at hx hk ⊢
  replace HO := Lib.hid (below_on HO.out hk)
  replace HL := Lib.hid (HL.out.on hk)
  replace FX := Lib.hid (FX.out.on hk)
  replace AI := Lib.hid (AI.out.on hk)
  replace AX := Lib.hid (AX.out.on hk)
  replace AJ := Lib.hid (AJ.out.on hk)
  replace DI := Lib.hid (DI.out.on hk)
  replace DX := Lib.hid (DX.out.on hk)
  replace DJ := Lib.hid (DJ.out.on hk)
  replace MI := Lib.hid (MI.out.on hk)
  replace MX := Lib.hid (MX.out.on hk)
  replace MJ := Lib.hid (MJ.out.on hk)
  replace RI := Lib.hid (RI.out.on hk)
  clear hk
  have RX := Lib.hid hx
  clear hx
  refine (rprune_is (w := v13) HN.out HL.out rfl).mono ?_
  intro e v14 hg
  obtain ⟨Rd, Re, rfl, hi, hb⟩ := hg.any RN.out RS.out
  have RJ := Lib.hid hi
  clear hi
  replace HO := Lib.hid (below_on HO.out hb)
  replace HL := Lib.hid (HL.out.on hb)
  replace FX := Lib.hid (FX.out.on hb)
  replace AI := Lib.hid (AI.out.on hb)
  replace AX := Lib.hid (AX.out.on hb)
  replace AJ := Lib.hid (AJ.out.on hb)
  replace DI := Lib.hid (DI.out.on hb)
  replace DX := Lib.hid (DX.out.on hb)
  replace DJ := Lib.hid (DJ.out.on hb)
  replace MI := Lib.hid (MI.out.on hb)
  replace MX := Lib.hid (MX.out.on hb)
  replace MJ := Lib.hid (MJ.out.on hb)
  replace RI := Lib.hid (RI.out.on hb)
  replace RX := Lib.hid (RX.out.on hb)
  clear hb
  have c_FX := FX.out.c
  go_wp2_with fail
  clear c_FX
  obtain ⟨x, hx⟩ : ∃ x, fgood l = x := ⟨_, rfl⟩
  have HX := Lib.hid hx
  clear hx
  refine (K.good (w := v14) HN.out HCP.out H7.out HL.out HX.out).mono ?_
  rintro e v15 ⟨rfl, hb⟩
  replace HO := Lib.hid (below_on HO.out hb)
  replace HL := Lib.hid (HL.out.on hb)
  replace FX := Lib.hid (FX.out.on hb)
  replace AI := Lib.hid (AI.out.on hb)
  replace AX := Lib.hid (AX.out.on hb)
  replace AJ := Lib.hid (AJ.out.on hb)
  replace DI := Lib.hid (DI.out.on hb)
  replace DX := Lib.hid (DX.out.on hb)
  replace DJ := Lib.hid (DJ.out.on hb)
  replace MI := Lib.hid (MI.out.on hb)
  replace MX := Lib.hid (MX.out.on hb)
  replace MJ := Lib.hid (MJ.out.on hb)
  replace RI := Lib.hid (RI.out.on hb)
  replace RX := Lib.hid (RX.out.on hb)
  replace RJ := Lib.hid (RJ.out.on hb)
  clear hb
  go_wp2_with fail
  refine (rgoodf_is (w := v15) HN.out HL.out HX.out).mono ?_
  rintro e v16 ⟨rfl, hb⟩
  replace HO := Lib.hid (below_on HO.out hb)
  replace HL := Lib.hid (HL.out.on hb)
  replace FX := Lib.hid (FX.out.on hb)
  replace AI := Lib.hid (AI.out.on hb)
  replace AX := Lib.hid (AX.out.on hb)
  replace AJ := Lib.hid (AJ.out.on hb)
  replace DI := Lib.hid (DI.out.on hb)
  replace DX := Lib.hid (DX.out.on hb)
  replace DJ := Lib.hid (DJ.out.on hb)
  replace MI := Lib.hid (MI.out.on hb)
  replace MX := Lib.hid (MX.out.on hb)
  replace MJ := Lib.hid (MJ.out.on hb)
  replace RI := Lib.hid (RI.out.on hb)
  replace RX := Lib.hid (RX.out.on hb)
  replace RJ := Lib.hid (RJ.out.on hb)
  clear hb HX
  have hxx : (x == x) = true := by simp
  have c_FX := FX.out.c
  go_wp2_with fail
  clear c_FX
  obtain ⟨x, hx⟩ : ∃ x, fdepth l i = x := ⟨_, rfl⟩
  have HX := Lib.hid hx
  clear hx
  refine (K.depth (w := v16) HN.out HCP.out H7.out HL.out HX.out).mono ?_
  rintro e v17 ⟨rfl, hb⟩
  replace HO := Lib.hid (below_on HO.out hb)
  replace HL := Lib.hid (HL.out.on hb)
  replace FX := Lib.hid (FX.out.on hb)
  replace AI := Lib.hid (AI.out.on hb)
  replace AX := Lib.hid (AX.out.on hb)
  replace AJ := Lib.hid (AJ.out.on hb)
  replace DI := Lib.hid (DI.out.on hb)
  replace DX := Lib.hid (DX.out.on hb)
  replace DJ := Lib.hid (DJ.out.on hb)
  replace MI := Lib.hid (MI.out.on hb)
  replace MX := Lib.hid (MX.out.on hb)
  replace MJ := Lib.hid (MJ.out.on hb)
  replace RI := Lib.hid (RI.out.on hb)
  replace RX := Lib.hid (RX.out.on hb)
  replace RJ := Lib.hid (RJ.out.on hb)
  clear hb
  go_wp2_with fail
  refine (rdepth_is (w := v17) HN.out HL.out HX.out).mono ?_
  rintro e v18 ⟨rfl, hb⟩
  replace HO := Lib.hid (below_on HO.out hb)
  replace HL := Lib.hid (HL.out.on hb)
  replace FX := Lib.hid (FX.out.on hb)
  replace AI := Lib.hid (AI.out.on hb)
  replace AX := Lib.hid (AX.out.on hb)
  replace AJ := Lib.hid (AJ.out.on hb)
  replace DI := Lib.hid (DI.out.on hb)
  replace DX := Lib.hid (DX.out.on hb)
  replace DJ := Lib.hid (DJ.out.on hb)
  replace MI := Lib.hid (MI.out.on hb)
  replace MX := Lib.hid (MX.out.on hb)
  replace MJ := Lib.hid (MJ.out.on hb)
  replace RI := Lib.hid (RI.out.on hb)
  replace RX := Lib.hid (RX.out.on hb)
  replace RJ := Lib.hid (RJ.out.on hb)
  clear hb HX
  have hxx2 : decide (x = x) = true := by simp
  
  have c_FX := FX.out.c
  go_wp2_with fail
  clear c_FX
  obtain ⟨L, hx⟩ : ∃ L, fkids l i = L := ⟨_, rfl⟩
  obtain ⟨m, hm⟩ : ∃ m, m = L.length := ⟨_, rfl⟩
  have HX := Lib.hid hx
  have HM := Lib.hid hm
  clear hx hm
  refine (K.kids (w := v18) HN.out HCP.out H7.out HL.out HX.out).mono ?_
  intro e v19 hg
  obtain ⟨C, cc, rfl, hcb, hi, hb⟩ := hg.to HM.out
  have HI := Lib.hid hi
  clear hi hcb
  replace HO := Lib.hid (below_on HO.out hb)
  replace HL := Lib.hid (HL.out.on hb)
  replace FX := Lib.hid (FX.out.on hb)
  replace AI := Lib.hid (AI.out.on hb)
  replace AX := Lib.hid (AX.out.on hb)
  replace AJ := Lib.hid (AJ.out.on hb)
  replace DI := Lib.hid (DI.out.on hb)
  replace DX := Lib.hid (DX.out.on hb)
  replace DJ := Lib.hid (DJ.out.on hb)
  replace MI := Lib.hid (MI.out.on hb)
  replace MX := Lib.hid (MX.out.on hb)
  replace MJ := Lib.hid (MJ.out.on hb)
  replace RI := Lib.hid (RI.out.on hb)
  replace RX := Lib.hid (RX.out.on hb)
  replace RJ := Lib.hid (RJ.out.on hb)
  clear hb
  go_wp2_with fail
  refine (rkids_is (w := v19) HN.out H7.out HL.out HX.out).mono ?_
  rintro e v20 ⟨D, cd, rfl, hi, hb⟩
  rw [← HM.out]
  have HJ := Lib.hid hi
  clear hi
  replace HO := Lib.hid (below_on HO.out hb)
  replace HL := Lib.hid (HL.out.on hb)
  replace FX := Lib.hid (FX.out.on hb)
  replace AI := Lib.hid (AI.out.on hb)
  replace AX := Lib.hid (AX.out.on hb)
  replace AJ := Lib.hid (AJ.out.on hb)
  replace DI := Lib.hid (DI.out.on hb)
  replace DX := Lib.hid (DX.out.on hb)
  replace DJ := Lib.hid (DJ.out.on hb)
  replace MI := Lib.hid (MI.out.on hb)
  replace MX := Lib.hid (MX.out.on hb)
  replace MJ := Lib.hid (MJ.out.on hb)
  replace RI := Lib.hid (RI.out.on hb)
  replace RX := Lib.hid (RX.out.on hb)
  replace RJ := Lib.hid (RJ.out.on hb)
  replace HI := Lib.hid (HI.out.on hb)
  clear hb
  go_wp2_with fail
  refine (ints_is (w := v20) HM.out HM.out (by have := fkids_few l i; rw [HX.out, ← HM.out, ← HN.out] at this; have := H6.out; omega) HI.out HJ.out (same_ints _)).mono ?_
  rintro e v21 ⟨rfl, hb⟩
  clear HI HJ HX HM
  replace HO := Lib.hid (below_on HO.out hb)
  replace HL := Lib.hid (HL.out.on hb)
  replace FX := Lib.hid (FX.out.on hb)
  replace AI := Lib.hid (AI.out.on hb)
  replace AX := Lib.hid (AX.out.on hb)
  replace AJ := Lib.hid (AJ.out.on hb)
  replace DI := Lib.hid (DI.out.on hb)
  replace DX := Lib.hid (DX.out.on hb)
  replace DJ := Lib.hid (DJ.out.on hb)
  replace MI := Lib.hid (MI.out.on hb)
  replace MX := Lib.hid (MX.out.on hb)
  replace MJ := Lib.hid (MJ.out.on hb)
  replace RI := Lib.hid (RI.out.on hb)
  replace RX := Lib.hid (RX.out.on hb)
  replace RJ := Lib.hid (RJ.out.on hb)
  clear hb
  have c_FX := FX.out.c
  go_wp2_with fail
  clear c_FX
  obtain ⟨L, hx⟩ : ∃ L, fbelow l i = L := ⟨_, rfl⟩
  obtain ⟨m, hm⟩ : ∃ m, m = L.length := ⟨_, rfl⟩
  have HX := Lib.hid hx
  have HM := Lib.hid hm
  clear hx hm
  refine (K.below (w := v21) HN.out HCP.out H7.out HL.out HX.out).mono ?_
  intro e v22 hg
  obtain ⟨C, cc, rfl, hcb, hi, hb⟩ := hg.to HM.out
  have HI := Lib.hid hi
  clear hi hcb
  replace HO := Lib.hid (below_on HO.out hb)
  replace HL := Lib.hid (HL.out.on hb)
  replace FX := Lib.hid (FX.out.on hb)
  replace AI := Lib.hid (AI.out.on hb)
  replace AX := Lib.hid (AX.out.on hb)
  replace AJ := Lib.hid (AJ.out.on hb)
  replace DI := Lib.hid (DI.out.on hb)
  replace DX := Lib.hid (DX.out.on hb)
  replace DJ := Lib.hid (DJ.out.on hb)
  replace MI := Lib.hid (MI.out.on hb)
  replace MX := Lib.hid (MX.out.on hb)
  replace MJ := Lib.hid (MJ.out.on hb)
  replace RI := Lib.hid (RI.out.on hb)
  replace RX := Lib.hid (RX.out.on hb)
  replace RJ := Lib.hid (RJ.out.on hb)
  clear hb
  go_wp2_with fail
  refine (rbelow_is (w := v22) HN.out H7.out HL.out HX.out).mono ?_
  rintro e v23 ⟨v, rfl, hB⟩
  obtain ⟨D, cd, rfl, hi⟩ := hB.ints
  have hb := hB.old
  rw [← HM.out]
  clear hB
  have HJ := Lib.hid hi
  clear hi
  replace HO := Lib.hid (below_on HO.out hb)
  replace HL := Lib.hid (HL.out.on hb)
  replace FX := Lib.hid (FX.out.on hb)
  replace AI := Lib.hid (AI.out.on hb)
  replace AX := Lib.hid (AX.out.on hb)
  replace AJ := Lib.hid (AJ.out.on hb)
  replace DI := Lib.hid (DI.out.on hb)
  replace DX := Lib.hid (DX.out.on hb)
  replace DJ := Lib.hid (DJ.out.on hb)
  replace MI := Lib.hid (MI.out.on hb)
  replace MX := Lib.hid (MX.out.on hb)
  replace MJ := Lib.hid (MJ.out.on hb)
  replace RI := Lib.hid (RI.out.on hb)
  replace RX := Lib.hid (RX.out.on hb)
  replace RJ := Lib.hid (RJ.out.on hb)
  replace HI := Lib.hid (HI.out.on hb)
  clear hb
  go_wp2_with fail
  refine (ints_is (w := v23) HM.out HM.out (by have := fbelow_few l i; rw [HX.out, ← HM.out, ← HN.out] at this; have := H6.out; omega) HI.out HJ.out (same_ints _)).mono ?_
  rintro e v24 ⟨rfl, hb⟩
  clear HI HJ HX HM
  replace HO := Lib.hid (below_on HO.out hb)
  replace HL := Lib.hid (HL.out.on hb)
  replace FX := Lib.hid (FX.out.on hb)
  replace AI := Lib.hid (AI.out.on hb)
  replace AX := Lib.hid (AX.out.on hb)
  replace AJ := Lib.hid (AJ.out.on hb)
  replace DI := Lib.hid (DI.out.on hb)
  replace DX := Lib.hid (DX.out.on hb)
  replace DJ := Lib.hid (DJ.out.on hb)
  replace MI := Lib.hid (MI.out.on hb)
  replace MX := Lib.hid (MX.out.on hb)
  replace MJ := Lib.hid (MJ.out.on hb)
  replace RI := Lib.hid (RI.out.on hb)
  replace RX := Lib.hid (RX.out.on hb)
  replace RJ := Lib.hid (RJ.out.on hb)
  clear hb
  have c_FX := FX.out.c
  go_wp2_with fail
  clear c_FX
  obtain ⟨L, hx⟩ : ∃ L, forder l = L := ⟨_, rfl⟩
  obtain ⟨m, hm⟩ : ∃ m, m = L.length := ⟨_, rfl⟩
  have HX := Lib.hid hx
  have HM := Lib.hid hm
  clear hx hm
  refine (K.order (w := v24) HN.out HCP.out H7.out HL.out HX.out).mono ?_
  intro e v25 hg
  obtain ⟨C, cc, rfl, hcb, hi, hb⟩ := hg.to HM.out
  have HI := Lib.hid hi
  clear hi hcb
  replace HO := Lib.hid (below_on HO.out hb)
  replace HL := Lib.hid (HL.out.on hb)
  replace FX := Lib.hid (FX.out.on hb)
  replace AI := Lib.hid (AI.out.on hb)
  replace AX := Lib.hid (AX.out.on hb)
  replace AJ := Lib.hid (AJ.out.on hb)
  replace DI := Lib.hid (DI.out.on hb)
  replace DX := Lib.hid (DX.out.on hb)
  replace DJ := Lib.hid (DJ.out.on hb)
  replace MI := Lib.hid (MI.out.on hb)
  replace MX := Lib.hid (MX.out.on hb)
  replace MJ := Lib.hid (MJ.out.on hb)
  replace RI := Lib.hid (RI.out.on hb)
  replace RX := Lib.hid (RX.out.on hb)
  replace RJ := Lib.hid (RJ.out.on hb)
  clear hb
  go_wp2_with fail
  refine (rorder_is (w := v25) HN.out HL.out HX.out).mono ?_
  rintro e v26 ⟨D, cd, rfl, hi, hb⟩
  rw [← HM.out]
  have HJ := Lib.hid hi
  clear hi
  replace HO := Lib.hid (below_on HO.out hb)
  replace HL := Lib.hid (HL.out.on hb)
  replace FX := Lib.hid (FX.out.on hb)
  replace AI := Lib.hid (AI.out.on hb)
  replace AX := Lib.hid (AX.out.on hb)
  replace AJ := Lib.hid (AJ.out.on hb)
  replace DI := Lib.hid (DI.out.on hb)
  replace DX := Lib.hid (DX.out.on hb)
  replace DJ := Lib.hid (DJ.out.on hb)
  replace MI := Lib.hid (MI.out.on hb)
  replace MX := Lib.hid (MX.out.on hb)
  replace MJ := Lib.hid (MJ.out.on hb)
  replace RI := Lib.hid (RI.out.on hb)
  replace RX := Lib.hid (RX.out.on hb)
  replace RJ := Lib.hid (RJ.out.on hb)
  replace HI := Lib.hid (HI.out.on hb)
  clear hb
  go_wp2_with fail
  refine (ints_is (w := v26) HM.out HM.out (by have := forder_few l; rw [HX.out, ← HM.out, ← HN.out] at this; have := H6.out; omega) HI.out HJ.out (same_ints _)).mono ?_
  rintro e v27 ⟨rfl, hb⟩
  clear HI HJ HX HM
  replace HO := Lib.hid (below_on HO.out hb)
  replace HL := Lib.hid (HL.out.on hb)
  replace FX := Lib.hid (FX.out.on hb)
  replace AI := Lib.hid (AI.out.on hb)
  replace AX := Lib.hid (AX.out.on hb)
  replace AJ := Lib.hid (AJ.out.on hb)
  replace DI := Lib.hid (DI.out.on hb)
  replace DX := Lib.hid (DX.out.on hb)
  replace DJ := Lib.hid (DJ.out.on hb)
  replace MI := Lib.hid (MI.out.on hb)
  replace MX := Lib.hid (MX.out.on hb)
  replace MJ := Lib.hid (MJ.out.on hb)
  replace RI := Lib.hid (RI.out.on hb)
  replace RX := Lib.hid (RX.out.on hb)
  replace RJ := Lib.hid (RJ.out.on hb)
  clear hb
  have c_AX := AX.out.c
  go_wp2_with fail
  clear c_AX
  refine (ints_is (w := v27) AN.out AN.out (by have := fadd_few l i k; rw [← AN.out, ← HN.out] at this; have := H6.out; omega) AI.out AJ.out (same_ints _)).mono ?_
  rintro e v28 ⟨rfl, hb⟩
  replace HO := Lib.hid (below_on HO.out hb)
  replace HL := Lib.hid (HL.out.on hb)
  replace FX := Lib.hid (FX.out.on hb)
  replace AI := Lib.hid (AI.out.on hb)
  replace AX := Lib.hid (AX.out.on hb)
  replace AJ := Lib.hid (AJ.out.on hb)
  replace DI := Lib.hid (DI.out.on hb)
  replace DX := Lib.hid (DX.out.on hb)
  replace DJ := Lib.hid (DJ.out.on hb)
  replace MI := Lib.hid (MI.out.on hb)
  replace MX := Lib.hid (MX.out.on hb)
  replace MJ := Lib.hid (MJ.out.on hb)
  replace RI := Lib.hid (RI.out.on hb)
  replace RX := Lib.hid (RX.out.on hb)
  replace RJ := Lib.hid (RJ.out.on hb)
  clear hb
  have c_DX := DX.out.c
  go_wp2_with fail
  clear c_DX
  refine (ints_is (w := v28) DN.out DN.out (by have := fdrop_few l i; rw [← DN.out, ← HN.out] at this; have := H6.out; omega) DI.out DJ.out (same_ints _)).mono ?_
  rintro e v29 ⟨rfl, hb⟩
  replace HO := Lib.hid (below_on HO.out hb)
  replace HL := Lib.hid (HL.out.on hb)
  replace FX := Lib.hid (FX.out.on hb)
  replace AI := Lib.hid (AI.out.on hb)
  replace AX := Lib.hid (AX.out.on hb)
  replace AJ := Lib.hid (AJ.out.on hb)
  replace DI := Lib.hid (DI.out.on hb)
  replace DX := Lib.hid (DX.out.on hb)
  replace DJ := Lib.hid (DJ.out.on hb)
  replace MI := Lib.hid (MI.out.on hb)
  replace MX := Lib.hid (MX.out.on hb)
  replace MJ := Lib.hid (MJ.out.on hb)
  replace RI := Lib.hid (RI.out.on hb)
  replace RX := Lib.hid (RX.out.on hb)
  replace RJ := Lib.hid (RJ.out.on hb)
  clear hb
  have c_MX := MX.out.c
  go_wp2_with fail
  clear c_MX
  refine (ints_is (w := v29) MN.out MN.out (by have := fmove_few l i k; rw [← MN.out, ← HN.out] at this; have := H6.out; omega) MI.out MJ.out (same_ints _)).mono ?_
  rintro e v30 ⟨rfl, hb⟩
  replace HO := Lib.hid (below_on HO.out hb)
  replace HL := Lib.hid (HL.out.on hb)
  replace FX := Lib.hid (FX.out.on hb)
  replace AI := Lib.hid (AI.out.on hb)
  replace AX := Lib.hid (AX.out.on hb)
  replace AJ := Lib.hid (AJ.out.on hb)
  replace DI := Lib.hid (DI.out.on hb)
  replace DX := Lib.hid (DX.out.on hb)
  replace DJ := Lib.hid (DJ.out.on hb)
  replace MI := Lib.hid (MI.out.on hb)
  replace MX := Lib.hid (MX.out.on hb)
  replace MJ := Lib.hid (MJ.out.on hb)
  replace RI := Lib.hid (RI.out.on hb)
  replace RX := Lib.hid (RX.out.on hb)
  replace RJ := Lib.hid (RJ.out.on hb)
  clear hb
  have c_RX := RX.out.c
  go_wp2_with fail
  clear c_RX
  refine (ints_is (w := v30) RN.out RN.out (by have := fprune_few l i; rw [← RN.out, ← HN.out] at this; have := H6.out; omega) RI.out RJ.out (same_ints _)).mono ?_
  rintro e v31 ⟨rfl, hb⟩
  replace HO := Lib.hid (below_on HO.out hb)
  replace HL := Lib.hid (HL.out.on hb)
  replace FX := Lib.hid (FX.out.on hb)
  replace AI := Lib.hid (AI.out.on hb)
  replace AX := Lib.hid (AX.out.on hb)
  replace AJ := Lib.hid (AJ.out.on hb)
  replace DI := Lib.hid (DI.out.on hb)
  replace DX := Lib.hid (DX.out.on hb)
  replace DJ := Lib.hid (DJ.out.on hb)
  replace MI := Lib.hid (MI.out.on hb)
  replace MX := Lib.hid (MX.out.on hb)
  replace MJ := Lib.hid (MJ.out.on hb)
  replace RI := Lib.hid (RI.out.on hb)
  replace RX := Lib.hid (RX.out.on hb)
  replace RJ := Lib.hid (RJ.out.on hb)
  clear hb
  go_wp2
  go_ret
  exact ⟨rfl, HO.out⟩
end Go.Proofs.Ytigljoafmefbnaa
