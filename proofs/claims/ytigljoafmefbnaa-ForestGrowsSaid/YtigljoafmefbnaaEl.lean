/-
  The walk of the law ForestGrows. Conditions: the places lie in memory; what the program's calls answer is as Con tells.
-/
import Derived.Test.YtigljoafmefbnaaEu
import Derived.Test.YtigljoafmefbnaaEv
import Derived.Test.YtigljoafmefbnaaEe
import Derived.Deep.CutRange
import Derived.Deep.RegionHeld3
import Derived.BigQuiet
namespace Go.Proofs.Ytigljoafmefbnaa
open Go.RowKit

def RC (W : World) (n : Nat) (l : List Int) (k : Nat) (p q : Value) (wr : World) : Prop :=
  ∃ i : Nat, k + i = n ∧ p = .int .i64 (held l i : Nat) ∧ q = .int .i64 i ∧ Below W.heap.size W wr
set_option maxRecDepth 4000 in
set_option maxHeartbeats 4000000 in
theorem grows_walk (K : Con) (A : Option Addr) (cap : Nat) (l : List Int) (i k : Int) (w : World) (hc : l.length ≤ cap) (hL : IntsAt w w.heap.size A l) :
    Calls Try.prog 5 #[.slice A l.length cap, .int .i64 i, .int .i64 k] w fun e w' => e = .returned (.bool true) ∧ Below w.heap.size w w' := by
  obtain ⟨n, hn⟩ : ∃ n, n = l.length := ⟨_, rfl⟩
  rw [← hn] at hc ⊢
  have HN := Lib.hid hn
  have HL := Lib.hid hL
  have HCP := Lib.hid hc
  clear hn hL hc
  go_enter Try.func5, Try.ntmps5
  go_wp2_with fail
  refine (awake_any K w).mono ?_
  rintro e w1 ⟨rfl, hb1⟩
  have HO := Lib.hid hb1
  have hL1 := HL.out.on hb1
  clear hb1 HL
  have HL := Lib.hid hL1
  clear hL1
  go_wp2_with fail
  refine (up_is _ _ _ w1).mono ?_
  rintro e v1 ⟨rfl, hb⟩
  replace HO := Lib.hid (below_on HO.out hb)
  replace HL := Lib.hid (HL.out.on hb)
  clear hb
  by_cases h96 : 96 < n
  · have h96' : (96 : Int) < (n : Int) := by omega
    have h96d : decide ((96 : Int) < (n : Int)) = true := decide_eq_true h96'
    have hk := below_alloc v1 (.cells #[.slice A n cap] 25)
    go_wp2
    go_ret
    exact ⟨rfl, below_on HO.out hk⟩
  have h96' : ¬ (96 : Int) < (n : Int) := by omega
  have h96d : decide ((96 : Int) < (n : Int)) = false := decide_eq_false h96'
  have H96 : Hid (n ≤ 96) := Lib.hid (by omega)
  have H6 : Hid (n ≤ 1000000) := Lib.hid (by omega)
  clear h96
  have hx := Fbx.new v1 (.slice A n cap) 25
  have hk := below_alloc v1 (.cells #[.slice A n cap] 25)
  have c_FX := hx.c
  go_wp2_with fail
  clear c_FX
  obtain ⟨FXP, hP⟩ : ∃ P, P = v1.heap.size := ⟨_, rfl⟩
  rw [← hP] at hx ⊢
  clear hP
  generalize v1.alloc (.cells #[.slice A n cap] 25) = v3 at hx hk ⊢
  replace HO := Lib.hid (below_on HO.out hk)
  replace HL := Lib.hid (HL.out.on hk)
  clear hk
  have FX := Lib.hid hx
  clear hx
  clear h96' h96d
  rcases hg : fgood l with _ | _
  · refine (K.good (w := v3) HN.out HCP.out H6.out HL.out hg).mono ?_
    rintro e v4 ⟨rfl, hb⟩
    have HB := Lib.hid (below_on HO.out hb)
    clear hb hg
    go_wp2
    go_ret
    exact ⟨rfl, HB.out⟩
  have HG := Lib.hid hg
  refine (K.good (w := v3) HN.out HCP.out H6.out HL.out hg).mono ?_
  rintro e v4 ⟨rfl, hb⟩
  replace HO := Lib.hid (below_on HO.out hb)
  replace HL := Lib.hid (HL.out.on hb)
  replace FX := Lib.hid (FX.out.on hb)
  clear hb hg
  have c_FX := FX.out.c
  go_wp2_with fail
  clear c_FX
  have BO := HO
  have BX := FX
  have BL := HL
  obtain ⟨r, hr⟩ : ∃ r, fadd l i k = r := ⟨_, rfl⟩
  have HR := Lib.hid hr
  obtain ⟨m, hm⟩ : ∃ m, m = (r.getD []).length := ⟨_, rfl⟩
  obtain ⟨s, hs⟩ : ∃ s, s = r.isSome := ⟨_, rfl⟩
  have HM := Lib.hid hm
  have HS := Lib.hid hs
  clear hr hm hs
  refine (K.add (w := v4) HN.out HCP.out H6.out HL.out HR.out).mono ?_
  intro e v5 hg
  obtain ⟨Ab, Ac, rfl, hcb, hi, hb⟩ := hg.any HM.out HS.out
  have AI := Lib.hid hi
  have AC := Lib.hid hcb
  clear hi hcb
  have HW := Lib.hid (below_self v4)
  replace HO := Lib.hid (below_on HO.out hb)
  replace FX := Lib.hid (FX.out.on hb)
  replace HL := Lib.hid (HL.out.on hb)
  replace HW := Lib.hid (below_on HW.out hb)
  clear hb
  have hx := Fbx.new v5 (.slice Ab m Ac) 25
  have hk := below_alloc v5 (.cells #[.slice Ab m Ac] 25)
  go_upto_if 40 with fail
  obtain ⟨AXP, hP⟩ : ∃ P, P = v5.heap.size := ⟨_, rfl⟩
  rw [← hP] at hx ⊢
  clear hP
  generalize v5.alloc (.cells #[.slice Ab m Ac] 25) = v6 at hx hk ⊢
  replace HO := Lib.hid (below_on HO.out hk)
  replace FX := Lib.hid (FX.out.on hk)
  replace HL := Lib.hid (HL.out.on hk)
  replace HW := Lib.hid (below_on HW.out hk)
  replace AI := Lib.hid (AI.out.on hk)
  clear hk
  have AX := Lib.hid hx
  clear hx
  go_cut [] from 41 to 66 (fun wc => Below v4.heap.size v4 wc)
  case first =>
    rcases r with _ | m'
    · obtain rfl : s = false := HS.out
      go_wp2_with fail
      go_meet
      exact HW.out
    · obtain rfl : s = true := HS.out
      have HQ := Lib.hid (fadd_is HR.out)
      have hmn : m = n := by rw [HM.out, HN.out]; exact HQ.out.len
      subst hmn
      obtain ⟨d, hd⟩ := HQ.out.deep
      have HD := Lib.hid hd
      have d0 : ¬ (d : Int) < 0 := by omega
      clear hd
      have c_AX := AX.out.c
      go_wp2_with fail
      clear c_AX
      refine (K.drop (w := v6) HM.out AC.out H6.out AI.out HQ.out.drop).mono ?_
      intro e v7 hg
      obtain ⟨Eb, Ec, rfl, hcb, hi, hb⟩ := hg.yes HN.out
      have EI := Lib.hid hi
      have EC := Lib.hid hcb
      clear hi hcb
      replace HO := Lib.hid (below_on HO.out hb)
      replace FX := Lib.hid (FX.out.on hb)
      replace HL := Lib.hid (HL.out.on hb)
      replace HW := Lib.hid (below_on HW.out hb)
      replace AI := Lib.hid (AI.out.on hb)
      replace AX := Lib.hid (AX.out.on hb)
      clear hb
      have hx := Fbx.new v7 (.slice Eb m Ec) 25
      have hk := below_alloc v7 (.cells #[.slice Eb m Ec] 25)
      have c_AX := (AX.out.on hk).c
      go_wp2_with fail
      clear c_AX
      obtain ⟨EXP, hP⟩ : ∃ P, P = v7.heap.size := ⟨_, rfl⟩
      rw [← hP] at hx ⊢
      clear hP
      generalize v7.alloc (.cells #[.slice Eb m Ec] 25) = v8 at hx hk ⊢
      replace HO := Lib.hid (below_on HO.out hk)
      replace FX := Lib.hid (FX.out.on hk)
      replace HL := Lib.hid (HL.out.on hk)
      replace HW := Lib.hid (below_on HW.out hk)
      replace AI := Lib.hid (AI.out.on hk)
      replace AX := Lib.hid (AX.out.on hk)
      replace EI := Lib.hid (EI.out.on hk)
      clear hk
      have EX := Lib.hid hx
      clear hx
      refine (K.good (w := v8) HM.out AC.out H6.out AI.out HQ.out.good).mono ?_
      rintro e v9 ⟨rfl, hb⟩
      replace HO := Lib.hid (below_on HO.out hb)
      replace FX := Lib.hid (FX.out.on hb)
      replace HL := Lib.hid (HL.out.on hb)
      replace HW := Lib.hid (below_on HW.out hb)
      replace AI := Lib.hid (AI.out.on hb)
      replace AX := Lib.hid (AX.out.on hb)
      replace EI := Lib.hid (EI.out.on hb)
      replace EX := Lib.hid (EX.out.on hb)
      clear hb
      have c_EX := EX.out.c
      go_wp2_with fail
      clear c_EX
      refine (ints_is (w := v9) HN.out HN.out H6.out EI.out HL.out (same_ints l)).mono ?_
      rintro e v10 ⟨rfl, hb⟩
      replace HO := Lib.hid (below_on HO.out hb)
      replace FX := Lib.hid (FX.out.on hb)
      replace HL := Lib.hid (HL.out.on hb)
      replace HW := Lib.hid (below_on HW.out hb)
      replace AI := Lib.hid (AI.out.on hb)
      replace AX := Lib.hid (AX.out.on hb)
      replace EI := Lib.hid (EI.out.on hb)
      replace EX := Lib.hid (EX.out.on hb)
      clear hb
      have c_AX := AX.out.c
      go_wp2_with fail
      clear c_AX
      refine (K.depth (w := v10) HM.out AC.out H6.out AI.out HD.out).mono ?_
      rintro e v11 ⟨rfl, hb⟩
      replace HO := Lib.hid (below_on HO.out hb)
      replace FX := Lib.hid (FX.out.on hb)
      replace HL := Lib.hid (HL.out.on hb)
      replace HW := Lib.hid (below_on HW.out hb)
      replace AI := Lib.hid (AI.out.on hb)
      replace AX := Lib.hid (AX.out.on hb)
      replace EI := Lib.hid (EI.out.on hb)
      replace EX := Lib.hid (EX.out.on hb)
      clear hb
      go_wp2_with fail
      go_meet
      exact HW.out
  case rest =>
  clear HO FX HL HW HR HM HS AI AC AX
  have HW := Lib.hid hcut
  clear hcut
  have HO := Lib.hid (below_on BO.out HW.out)
  have FX := Lib.hid (BX.out.on HW.out)
  have HL := Lib.hid (BL.out.on HW.out)
  have c_FX := FX.out.c
  go_wp2_with fail
  clear c_FX
  obtain ⟨r2, hr⟩ : ∃ r, fmove l i k = r := ⟨_, rfl⟩
  have HR := Lib.hid hr
  obtain ⟨m2, hm⟩ : ∃ m, m = (r2.getD []).length := ⟨_, rfl⟩
  obtain ⟨s2, hs⟩ : ∃ s, s = r2.isSome := ⟨_, rfl⟩
  have HM := Lib.hid hm
  have HS := Lib.hid hs
  clear hr hm hs
  refine (K.move (w := wc) HN.out HCP.out H6.out HL.out HR.out).mono ?_
  intro e v12 hg
  obtain ⟨Mb, Mc, rfl, hcb, hi, hb⟩ := hg.any HM.out HS.out
  have MI := Lib.hid hi
  have MC := Lib.hid hcb
  clear hi hcb
  replace HO := Lib.hid (below_on HO.out hb)
  replace FX := Lib.hid (FX.out.on hb)
  replace HL := Lib.hid (HL.out.on hb)
  replace HW := Lib.hid (below_on HW.out hb)
  clear hb
  have hx := Fbx.new v12 (.slice Mb m2 Mc) 25
  have hk := below_alloc v12 (.cells #[.slice Mb m2 Mc] 25)
  go_upto_if 74 with fail
  obtain ⟨MXP, hP⟩ : ∃ P, P = v12.heap.size := ⟨_, rfl⟩
  rw [← hP] at hx ⊢
  clear hP
  generalize v12.alloc (.cells #[.slice Mb m2 Mc] 25) = v13 at hx hk ⊢
  replace HO := Lib.hid (below_on HO.out hk)
  replace FX := Lib.hid (FX.out.on hk)
  replace HL := Lib.hid (HL.out.on hk)
  replace HW := Lib.hid (below_on HW.out hk)
  replace MI := Lib.hid (MI.out.on hk)
  clear hk
  have MX := Lib.hid hx
  clear hx
  go_cut [] from 75 to 115 (fun wd => Below v4.heap.size v4 wd)
  case first =>
    rcases r2 with _ | m'
    · obtain rfl : s2 = false := HS.out
      go_wp2_with fail
      go_meet
      exact HW.out
    · obtain rfl : s2 = true := HS.out
      have HQ := Lib.hid (fmove_is HR.out)
      have hmn : m2 = n := by rw [HM.out, HN.out]; exact HQ.out.len
      subst hmn
      have c_MX := MX.out.c
      go_wp2_with fail
      clear c_MX
      refine (K.move (w := v13) HM.out MC.out H6.out MI.out HQ.out.back).mono ?_
      intro e v14 hg
      obtain ⟨Eb, Ec, rfl, hcb, hi, hb⟩ := hg.yes HN.out
      have EI := Lib.hid hi
      have EC := Lib.hid hcb
      clear hi hcb
      replace HO := Lib.hid (below_on HO.out hb)
      replace FX := Lib.hid (FX.out.on hb)
      replace HL := Lib.hid (HL.out.on hb)
      replace HW := Lib.hid (below_on HW.out hb)
      replace MI := Lib.hid (MI.out.on hb)
      replace MX := Lib.hid (MX.out.on hb)
      clear hb
      have hx := Fbx.new v14 (.slice Eb m2 Ec) 25
      have hk := below_alloc v14 (.cells #[.slice Eb m2 Ec] 25)
      go_upto_region 14 with fail
      obtain ⟨EXP, hP⟩ : ∃ P, P = v14.heap.size := ⟨_, rfl⟩
      rw [← hP] at hx ⊢
      clear hP
      generalize v14.alloc (.cells #[.slice Eb m2 Ec] 25) = v15 at hx hk ⊢
      replace HO := Lib.hid (below_on HO.out hk)
      replace FX := Lib.hid (FX.out.on hk)
      replace HL := Lib.hid (HL.out.on hk)
      replace HW := Lib.hid (below_on HW.out hk)
      replace MI := Lib.hid (MI.out.on hk)
      replace MX := Lib.hid (MX.out.on hk)
      replace EI := Lib.hid (EI.out.on hk)
      clear hk
      have EX := Lib.hid hx
      clear hx
      have y : Below v15.heap.size v15 v15.drew := (below_self v15).drew
      have c0 := (FX.out.on y).c
      have c1 := (MX.out.on y).c
      have c2 := (EX.out.on y).c
      obtain ⟨d, hd⟩ : ∃ d, fdepth l i = d := ⟨_, rfl⟩
      obtain ⟨nb, hnb⟩ : ∃ nb, nb = (fbelow l i).length := ⟨_, rfl⟩
      have IG : Hid (∀ w1, Below v15.heap.size v15 w1 → Calls Try.prog 13 #[.agg #[.slice Mb m2 Mc]] w1 fun e w' => e = .returned (.bool true) ∧ w'.cell? ⟨FXP, 0, none⟩ = some (.slice A m2 cap) ∧ w'.cell? ⟨MXP, 0, none⟩ = some (.slice Mb m2 Mc) ∧ w'.cell? ⟨EXP, 0, none⟩ = some (.slice Eb m2 Ec) ∧ Below v15.heap.size v15 w') := Lib.hid fun w1 h =>
        t3_use FX.out MX.out EX.out h (K.good HM.out MC.out H6.out (MI.out.on h) HQ.out.good)
      have II : Hid (∀ w1, Below v15.heap.size v15 w1 → Calls Try.prog 18 #[.slice Eb m2 Ec, .slice A m2 cap] w1 fun e w' => e = .returned (.bool true) ∧ w'.cell? ⟨FXP, 0, none⟩ = some (.slice A m2 cap) ∧ w'.cell? ⟨MXP, 0, none⟩ = some (.slice Mb m2 Mc) ∧ w'.cell? ⟨EXP, 0, none⟩ = some (.slice Eb m2 Ec) ∧ Below v15.heap.size v15 w') := Lib.hid fun w1 h =>
        t3_use FX.out MX.out EX.out h (ints_is HN.out HN.out H6.out (EI.out.on h) (HL.out.on h) (same_ints l))
      have ID : Hid (∀ w1, Below v15.heap.size v15 w1 → Calls Try.prog 14 #[.agg #[.slice Mb m2 Mc], .int .i64 k] w1 fun e w' => e = .returned (.int .i64 d) ∧ w'.cell? ⟨FXP, 0, none⟩ = some (.slice A m2 cap) ∧ w'.cell? ⟨MXP, 0, none⟩ = some (.slice Mb m2 Mc) ∧ w'.cell? ⟨EXP, 0, none⟩ = some (.slice Eb m2 Ec) ∧ Below v15.heap.size v15 w') := Lib.hid fun w1 h =>
        t3_use FX.out MX.out EX.out h (K.depth HM.out MC.out H6.out (MI.out.on h) (HQ.out.deep.trans hd))
      have IE : Hid (∀ w1, Below v15.heap.size v15 w1 → Calls Try.prog 14 #[.agg #[.slice A m2 cap], .int .i64 i] w1 fun e w' => e = .returned (.int .i64 d) ∧ w'.cell? ⟨FXP, 0, none⟩ = some (.slice A m2 cap) ∧ w'.cell? ⟨MXP, 0, none⟩ = some (.slice Mb m2 Mc) ∧ w'.cell? ⟨EXP, 0, none⟩ = some (.slice Eb m2 Ec) ∧ Below v15.heap.size v15 w') := Lib.hid fun w1 h =>
        t3_use FX.out MX.out EX.out h (K.depth HN.out HCP.out H6.out (HL.out.on h) hd)
      have IB : Hid (∀ w1, Below v15.heap.size v15 w1 → Calls Try.prog 16 #[.agg #[.slice Mb m2 Mc], .int .i64 k] w1 fun e w' => (∃ B cb, e = .returned (.slice B nb cb)) ∧ w'.cell? ⟨FXP, 0, none⟩ = some (.slice A m2 cap) ∧ w'.cell? ⟨MXP, 0, none⟩ = some (.slice Mb m2 Mc) ∧ w'.cell? ⟨EXP, 0, none⟩ = some (.slice Eb m2 Ec) ∧ Below v15.heap.size v15 w') := Lib.hid fun w1 h =>
        t3_use FX.out MX.out EX.out h (ListF.only (hnb.trans HQ.out.below.symm) (K.below HM.out MC.out H6.out (MI.out.on h) rfl))
      have IC : Hid (∀ w1, Below v15.heap.size v15 w1 → Calls Try.prog 16 #[.agg #[.slice A m2 cap], .int .i64 i] w1 fun e w' => (∃ B cb, e = .returned (.slice B nb cb)) ∧ w'.cell? ⟨FXP, 0, none⟩ = some (.slice A m2 cap) ∧ w'.cell? ⟨MXP, 0, none⟩ = some (.slice Mb m2 Mc) ∧ w'.cell? ⟨EXP, 0, none⟩ = some (.slice Eb m2 Ec) ∧ Below v15.heap.size v15 w') := Lib.hid fun w1 h =>
        t3_use FX.out MX.out EX.out h (ListF.only hnb (K.below HN.out HCP.out H6.out (HL.out.on h) rfl))
      clear hd hnb
      go_region_held3 (fun w' => w'.cell? ⟨FXP, 0, none⟩ = some (.slice A m2 cap) ∧ w'.cell? ⟨MXP, 0, none⟩ = some (.slice Mb m2 Mc) ∧ w'.cell? ⟨EXP, 0, none⟩ = some (.slice Eb m2 Ec) ∧ Below v15.heap.size v15 w')
        (first | exact ⟨by with_reducible assumption, by with_reducible assumption, by with_reducible assumption, by with_reducible assumption⟩ | fail)
        (first
          | (go_at_call 13; ((with_reducible refine (IG.out _ (by with_reducible assumption)).mono ?_); rintro e w' ⟨rfl, y0, y1, y2, y3⟩))
          | (go_at_call 18; ((with_reducible refine (II.out _ (by with_reducible assumption)).mono ?_); rintro e w' ⟨rfl, y0, y1, y2, y3⟩))
          | (go_at_call 14; ((with_reducible refine (ID.out _ (by with_reducible assumption)).mono ?_); rintro e w' ⟨rfl, y0, y1, y2, y3⟩))
          | (go_at_call 14; ((with_reducible refine (IE.out _ (by with_reducible assumption)).mono ?_); rintro e w' ⟨rfl, y0, y1, y2, y3⟩))
          | (go_at_call 16; ((with_reducible refine (IB.out _ (by with_reducible assumption)).mono ?_); rintro e w' ⟨⟨C, cc, rfl⟩, y0, y1, y2, y3⟩))
          | (go_at_call 16; ((with_reducible refine (IC.out _ (by with_reducible assumption)).mono ?_); rintro e w' ⟨⟨C, cc, rfl⟩, y0, y1, y2, y3⟩))
          | fail)
      go_wp2_with fail
      go_meet
      exact below_on HW.out y3
  case rest =>
  clear HO FX HL HW HR HM HS MI MC MX
  have HW := Lib.hid hcut
  clear hcut
  have HO := Lib.hid (below_on BO.out HW.out)
  have FX := Lib.hid (BX.out.on HW.out)
  have HL := Lib.hid (BL.out.on HW.out)
  have c_FX := FX.out.c
  go_wp2_with fail
  clear c_FX
  obtain ⟨no, hno⟩ : ∃ no, no = (forder l).length := ⟨_, rfl⟩
  have HNO := Lib.hid hno
  clear hno
  refine (K.order (w := wc) HN.out HCP.out H6.out HL.out rfl).mono ?_
  intro e v16 hg
  obtain ⟨Ob, Oc, rfl, hcb, hi, hb⟩ := hg.to HNO.out
  have OI := Lib.hid hi
  clear hi hcb
  replace HO := Lib.hid (below_on HO.out hb)
  replace FX := Lib.hid (FX.out.on hb)
  replace HL := Lib.hid (HL.out.on hb)
  replace HW := Lib.hid (below_on HW.out hb)
  clear hb
  clear FX HW BO BX BL
  go_wp2_with fail
  go_loopg [17, 18] n (fun kk p q wr => RC v16 n l kk p q wr)
  case atStart => exact ⟨0, by omega, by rw [held_zero]; rfl, rfl, below_self _⟩
  case round =>
    obtain ⟨j, hk, rfl, rfl, hb⟩ := hrel
    have HK := Lib.hid hk
    have HB := Lib.hid hb
    clear hk hb
    by_cases hlt : j < n
    · have HLT := Lib.hid hlt
      have hlt2 : (j : Int) < (n : Int) := by omega
      obtain ⟨b, o, rfl, hblk, hc⟩ := at_open HL.out (by rw [← HN.out]; omega)
      have c1 : wr.cell? ⟨b, o + j, none⟩ = some (.int .i64 (fu l j)) := by rw [HB.out.cell (p := ⟨b, _, none⟩) hblk]; exact hc j (by rw [← HN.out]; exact hlt)
      have hh := held_le l j
      by_cases hy : fu l j = -2
      · have HE : Hid (held l (j + 1) = held l j) := Lib.hid (by rw [held_succ, if_pos hy]; rfl)
        rw [hy] at c1
        clear hc hblk hh hy
        go_wp2
        go_roundg (n - (j + 1))
        case measure => have := HK.out; have := HLT.out; omega
        case rel => exact ⟨j + 1, by have := HLT.out; omega, by rw [HE.out], by refine congrArg _ ?_; have := H96.out; have := HLT.out; unfold wrap64; omega, HB.out⟩
      · have HE : Hid (held l (j + 1) = held l j + 1) := Lib.hid (by rw [held_succ, if_neg hy])
        obtain ⟨y, hy2⟩ : ∃ y, y = fu l j := ⟨_, rfl⟩
        rw [← hy2] at c1 hy
        obtain ⟨c, hc2⟩ : ∃ c, held l j = c := ⟨_, rfl⟩
        rw [hc2] at hh HE ⊢
        have hyb : (y == -2) = false := by simp [hy]
        have hch : c ≤ 96 := by have := H96.out; omega
        clear hc hblk hh hy2 hc2
        go_wp2
        go_roundg (n - (j + 1))
        case measure => have := HK.out; have := HLT.out; omega
        case rel => exact ⟨j + 1, by have := HLT.out; omega, by rw [HE.out]; go_num, by refine congrArg _ ?_; have := H96.out; have := HLT.out; unfold wrap64; omega, HB.out⟩
    · have hlt2 : ¬ (j : Int) < (n : Int) := by omega
      have hj : j = n := by have := HK.out; omega
      subst hj
      have HLL := Lib.hid (HL.out.on HB.out)
      have HOI := Lib.hid (OI.out.on HB.out)
      have HOO := Lib.hid (below_on HO.out HB.out)
      clear HL OI HO HB HK hlt
      have HO9 : Hid (no ≤ 96) := Lib.hid (by have := forder_few l; rw [← HNO.out, ← HN.out] at this; have := H96.out; omega)
      have hh : held l j = no := by rw [HNO.out, forder_held HG.out, ← HN.out]
      rw [hh]
      clear hh
      obtain ⟨zs, hzs, hz, hzn, hzl⟩ := zero44_is
      have hk := below_alloc wr (.cells zs 44)
      have hu := Sn.new wr zs 44 hzs
      clear hzs
      go_wp2_with fail
      obtain ⟨ZP, hP⟩ : ∃ P, P = wr.heap.size := ⟨_, rfl⟩
      rw [← hP] at hu ⊢
      clear hP
      generalize wr.alloc (.cells zs 44) = v20 at hk hu ⊢
      have HU := Lib.hid hu
      clear hk hu hz hzn hzl
      go_loopg [20] no (fun kk p wx => RD wr ZP (orderN l) no kk p wx)
      case atStart => exact ⟨0, by omega, rfl, HU.out.same fun x _ => by simp⟩
      case round =>
        obtain ⟨t, hk, rfl, hu⟩ := hrel
        have HK := Lib.hid hk
        replace HU := Lib.hid hu
        clear hk hu
        by_cases hlt : t < no
        · have HLT := Lib.hid hlt
          have hlt2 : (t : Int) < (no : Int) := by omega
          obtain ⟨x, h1, h2, h3, h4, h5, h6⟩ := forder_at HG.out (n := t) (by rw [← HNO.out]; exact hlt)
          rw [← HN.out] at h2 h4
          have H9 := H96.out
          obtain ⟨b, o, rfl, hblk, hc⟩ := HOI.out (by rw [← HNO.out]; omega)
          have c1 : wr.cell? ⟨b, o + t, none⟩ = some (.int .i64 (x : Int)) := by rw [HU.out.old.cell (p := ⟨b, _, none⟩) hblk]; exact hc t x h1
          clear hc hblk
          obtain ⟨b2, o2, rfl, hblk, hc⟩ := at_open HLL.out (by rw [← HN.out]; omega)
          have c2 : wr.cell? ⟨b2, o2 + x, none⟩ = some (.int .i64 (fu l x)) := by rw [HU.out.old.cell (p := ⟨b2, _, none⟩) hblk]; exact hc x (by rw [← HN.out]; exact h2)
          clear hc hblk
          have c3 : wr.cell? ⟨ZP, x, none⟩ = some (.bool false) := by rw [HU.out.cell x (by omega), decide_eq_false h3]
          have f3 := HU.out.free x
          have n1 : ¬ (x : Int) < 0 := by omega
          have n2 : ¬ (j : Int) ≤ (x : Int) := by omega
          have n3 : (x : Int) < 96 := by omega
          have n4 : (x : Int) < (j : Int) := by omega
          have n1d : decide ((x : Int) < 0) = false := decide_eq_false n1
          have n2d : decide ((j : Int) ≤ (x : Int)) = false := decide_eq_false n2
          have HE : Hid (∀ q, (decide (q ∈ (orderN l).take t) || decide (q = x)) = decide (q ∈ (orderN l).take (t + 1))) := Lib.hid fun q => by
            rw [h6, Bool.eq_iff_iff]; simp
          obtain ⟨y, hy⟩ : ∃ y, fu l x = y := ⟨_, rfl⟩
          rw [hy] at c2 h4
          by_cases h0 : 0 ≤ y
          · obtain ⟨a, rfl⟩ : ∃ a : Nat, y = a := ⟨y.toNat, by omega⟩
            have c4 : wr.cell? ⟨ZP, a, none⟩ = some (.bool true) := by rw [HU.out.cell a (by omega), decide_eq_true (h5 a hy)]
            have n5 : ¬ (95 : Int) < (a : Int) := by omega
            have n6 : (a : Int) < 96 := by omega
            have n5d : decide ((95 : Int) < (a : Int)) = false := decide_eq_false n5
            have n7 : decide (0 ≤ (a : Int)) = true := decide_eq_true h0
            clear h1 h2 h3 h4 h5 h6 hy H9
            go_wp2
            go_roundg (no - (t + 1))
            case measure => have := HK.out; have := HLT.out; omega
            case rel => exact ⟨t + 1, by have := HLT.out; omega, by refine congrArg _ ?_; have := HO9.out; have := HLT.out; unfold wrap64; omega, (HU.out.set x).same fun q _ => HE.out q⟩
          · have n7 : decide (0 ≤ y) = false := decide_eq_false h0
            clear h1 h2 h3 h4 h5 h6 hy H9
            go_wp2
            go_roundg (no - (t + 1))
            case measure => have := HK.out; have := HLT.out; omega
            case rel => exact ⟨t + 1, by have := HLT.out; omega, by refine congrArg _ ?_; have := HO9.out; have := HLT.out; unfold wrap64; omega, (HU.out.set x).same fun q _ => HE.out q⟩
        · have hlt2 : ¬ (t : Int) < (no : Int) := by omega
          clear hlt
          go_wp2
          go_ret
          exact ⟨rfl, below_on HOO.out HU.out.old⟩
end Go.Proofs.Ytigljoafmefbnaa
