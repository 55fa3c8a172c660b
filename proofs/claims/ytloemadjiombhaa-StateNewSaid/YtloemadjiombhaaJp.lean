/-
  The walk of the law StateGaps, over what the program's calls answer. Condition: the state lies in memory.
-/
import Derived.Test.YtloemadjiombhaaJo
namespace Go.Proofs.Ytloemadjiombhaa
open Go.RowKit

theorem gap_good {s : St} (h : sgood s = true) (x : Int) : sgap s x = gapN s x := by rw [sgap, if_pos h]
theorem own_good {s : St} (h : sgood s = true) (x : Int) : sowner s x = ownerN s.th x := by rw [sowner, if_pos h]
theorem hold_good {s : St} (h : sgood s = true) (x : Int) : shold s x = holdN s.sl x := by rw [shold, if_pos h]
theorem runOf_succ (own : Nat → Bool) (i : Nat) : runOf own (i + 1) = if own i = true then 0 else runOf own i + 1 := rfl
def SgRel (V : World) (n N : Nat) (own : Nat → Bool) (f : Nat) (p q : Value) (wr : World) : Prop :=
  ∃ i : Nat, f + i = n ∧ p = .int .i64 (runOf own i : Int) ∧ q = .int .i64 i ∧ (∀ j, j ≤ i → runOf own j < N) ∧ Below V.heap.size V wr
set_option maxHeartbeats 8000000 in
theorem sgaps_walk (K : Cos) {s : St} {a b c x : Int} {A C : Option Addr} {n ca m cc : Nat} {w : World} (hS : StAt w s A C) (hg : s.g = ⟨a, b, c⟩) (hn : n = s.sl.length) (hm : m = s.th.length) (hca : n ≤ ca) (hcc : m ≤ cc) :
    Calls Try.prog 6 #[.agg #[.int .i64 a, .int .i64 b, .int .i64 c, .slice A n ca, .slice C m cc], .int .i64 x] w fun e w' => e = .returned (.bool true) ∧ Below w.heap.size w w' := by
  have hK := Sbx.new w a b c A n ca C m cc 28
  have HS := Lib.hid (hS.on hK.old)
  have HG := Lib.hid hg
  have HN := Lib.hid hn
  have HM := Lib.hid hm
  have HCA := Lib.hid hca
  have HCC := Lib.hid hcc
  clear hS hg hn hm hca hcc
  go_enter Try.func6, Try.ntmps6
  go_wp2_with fail
  obtain ⟨g, hg⟩ : ∃ g, g = w.heap.size := ⟨_, rfl⟩
  rw [← hg] at hK ⊢
  clear hg
  generalize w.alloc _ = w1 at hK HS ⊢
  refine (awake_any K w1).mono ?_
  rintro e w2 ⟨rfl, hb⟩
  have HK := Lib.hid (hK.on hb)
  have HS2 := Lib.hid (HS.out.on hb)
  clear hK HS hb
  obtain ⟨b0, b1, b2, c3, c4, -, -, lt⟩ := HK.out
  obtain ⟨hv, hhv⟩ : ∃ z, (decide (100 < n) || decide (50 < m)) = z := ⟨_, rfl⟩
  have HHV := Lib.hid hhv
  clear hhv
  go_wp2_with fail
  refine (heavy_is HHV.out w2).mono ?_
  rintro e w3 ⟨rfl, hb⟩
  have HK3 := Lib.hid (HK.out.on hb)
  have HS3 := Lib.hid (HS2.out.on hb)
  clear HK HS2 hb b0 b1 b2 c3 c4 lt
  rcases hv with _ | _
  rotate_left
  · go_wp2
    go_ret
    exact ⟨rfl, HK3.out.old⟩
  have hfew : n ≤ 100 ∧ m ≤ 50 := by
    have := HHV.out
    rw [Bool.or_eq_false_iff, decide_eq_false_iff_not, decide_eq_false_iff_not] at this
    omega
  have HFEW := Lib.hid hfew
  have HH3 : Hid (StH w3 s a b c A n ca C m cc) := Lib.hid ⟨HS3.out, HG.out, HN.out, HM.out, by omega, by omega, HCA.out, HCC.out⟩
  obtain ⟨b0, b1, b2, c3, c4, -, -, lt⟩ := HK3.out
  obtain ⟨gd, hgd⟩ : ∃ z, sgood s = z := ⟨_, rfl⟩
  have HGD := Lib.hid hgd
  clear hgd hfew
  go_wp2_with fail
  refine (K.good HH3.out HGD.out).mono ?_
  rintro e w4 ⟨rfl, hb⟩
  have HK4 := Lib.hid (HK3.out.on hb)
  have HH4 := Lib.hid (HH3.out.on hb)
  clear HK3 HS3 HH3 hb b0 b1 b2 c3 c4 lt
  rcases gd with _ | _
  · go_wp2
    go_ret
    exact ⟨rfl, HK4.out.old⟩
  obtain ⟨r, hr⟩ : ∃ r, gapN s x = r := ⟨_, rfl⟩
  have HR := Lib.hid hr
  obtain ⟨gi, gb, hgv⟩ : ∃ (gi : Int) (gb : Bool), gi = ((r.getD 0 : Nat) : Int) ∧ gb = r.isSome := ⟨_, _, rfl, rfl⟩
  have HGV := Lib.hid hgv
  have hv : gv r = .tuple #[.int .i64 gi, .bool gb] := by rw [hgv.1, hgv.2]; rfl
  have HV := Lib.hid hv
  clear hr hgv hv
  obtain ⟨b0, b1, b2, c3, c4, -, -, lt⟩ := HK4.out
  go_wp2_with fail
  refine (K.gap HH4.out ((gap_good HGD.out x).trans HR.out)).mono ?_
  rw [HV.out]
  rintro e w5 ⟨rfl, hb⟩
  have HK5 := Lib.hid (HK4.out.on hb)
  have HH5 := Lib.hid (HH4.out.on hb)
  clear HK4 HH4 hb b0 b1 b2 c3 c4 lt
  rcases hx : inr3 x 1 4 with _ | _
  · have hnone : r = none := by rw [← HR.out, gapN, hx]; rfl
    obtain ⟨rfl, rfl⟩ : gi = 0 ∧ gb = false := by have := HGV.out; rw [hnone] at this; exact this
    by_cases h1 : x < 1
    · clear hx hnone
      go_wp2
      go_ret
      exact ⟨rfl, HK5.out.old⟩
    · have h2 : 4 < x := by
        have : ¬ (1 ≤ x ∧ x ≤ 4) := fun h => by rw [inr3_iff.2 h] at hx; cases hx
        omega
      clear hx hnone
      go_wp2
      go_ret
      exact ⟨rfl, HK5.out.old⟩
  have hx2 := inr3_iff.1 hx
  obtain ⟨hx3, hx4⟩ := hx2
  obtain ⟨N, hN, hN1, hN2⟩ := tw2_is hx3 hx4
  have HF : Hid (r = gapF (ownd s.th) n N) := Lib.hid (by rw [← HR.out, gapN, if_pos hx, hN, Int.toNat_natCast, HN.out])
  have hx5 : ¬ x < 1 := by omega
  have hx6 : ¬ 4 < x := by omega
  have HX := Lib.hid hN
  clear hx hN
  generalize hown : ownd s.th = own at HF
  have HOWN : Hid (∀ k : Nat, own k = (ownerN s.th k).isSome) := Lib.hid fun k => by rw [← hown]; rfl
  clear hown
  go_upto_region 8 with fail
  go_cut [7] from 37 to 39 (fun c wx => c = .int .i64 (N : Int) ∧ wx = w5)
  case first =>
    have hcase : x = 1 ∨ x = 2 ∨ x = 3 ∨ x = 4 := by omega
    have hN := HX.out
    clear HX hx3 hx4 hx5 hx6
    rcases hcase with h | h | h | h <;> subst h
    all_goals
      have HNN := Lib.hid hN
      clear hN
      go_wp2_with fail
      go_meet
      exact ⟨congrArg (Value.int .i64) HNN.out, rfl⟩
  obtain ⟨rfl, hw⟩ := hcut
  subst hw
  obtain ⟨w6, hw6⟩ : ∃ z, z = wc := ⟨_, rfl⟩
  subst hw6
  clear hx3 hx4 hx5 hx6
  go_wp2_with fail
  have hN100 : n ≤ 100 := HFEW.out.1
  have HZ0 : Hid (∀ j, j ≤ 0 → runOf own j < N) := Lib.hid fun j h => by
    obtain rfl : j = 0 := by omega
    show 0 < N
    omega
  go_loopg [8, 9] n (fun f p q wr => SgRel w6 n N own f p q wr)
  case atStart => exact ⟨0, by omega, rfl, rfl, HZ0.out, below_self _⟩
  case round =>
    obtain ⟨i, hk, rfl, rfl, ha, hb⟩ := hrel
    have HI := Lib.hid hk
    have HA := Lib.hid ha
    have HB := Lib.hid hb
    obtain ⟨b0, b1, b2, c3, c4, -, -, lt⟩ := HK5.out.on hb
    have hri := runOf_le own i
    have HRS := Lib.hid (runOf_succ own i)
    obtain ⟨k, hkk⟩ : ∃ k, runOf own i = k := ⟨_, rfl⟩
    rw [hkk] at hri ⊢
    have HKK := Lib.hid hkk
    clear hk hb ha hkk
    by_cases hlt : i < n
    · have HLT := Lib.hid hlt
      have hlt2 : (i : Int) < (n : Int) := by omega
      obtain ⟨o, ho⟩ : ∃ o, ownerN s.th i = o := ⟨_, rfl⟩
      have HO := Lib.hid ho
      clear ho
      go_wp2_with fail
      refine (K.owner (r := optI o) (HH5.out.on HB.out) (by rw [own_good HGD.out, HO.out])).mono ?_
      rintro e w7 ⟨rfl, hb⟩
      have HB7 := Lib.hid (below_on HB.out hb)
      clear hb b0 b1 b2 c3 c4 lt
      rcases o with _ | o
      · have hopt : optI none = -1 := rfl
        rw [hopt]
        have HR1 : Hid (runOf own (i + 1) = k + 1) := Lib.hid (by rw [HRS.out, if_neg (by rw [HOWN.out, HO.out]; decide), HKK.out])
        by_cases hrn : k + 1 = N
        · have hsome : r = some (i + 1 - N) := by rw [HF.out]; exact gap_of_run HA.out (by rw [HR1.out, hrn]) (by omega)
          obtain ⟨rfl, rfl⟩ : gi = ((i + 1 - N : Nat) : Int) ∧ gb = true := by have := HGV.out; rw [hsome] at this; exact this
          have hle : N ≤ i + 1 := by omega
          have h5 : (((i + 1 - N : Nat) : Int) == (i : Int) - (N : Int) + 1) = true := by
            rw [beq_iff_eq]; omega
          have h6 : ((i + 1 - N : Nat) : Int) = (i : Int) - (N : Int) + 1 := by omega
          rw [h6]
          have h7 : ((k : Int) + 1 == (N : Int)) = true := by rw [beq_iff_eq]; omega
          clear hsome hopt h5 h6
          go_wp2
          go_ret
          exact ⟨rfl, below_on HK5.out.old HB7.out⟩
        · have h7 : ((k : Int) + 1 == (N : Int)) = false := by rw [beq_eq_false_iff_ne]; omega
          have HRN : Hid (k + 1 < N) := Lib.hid (by have := HA.out i (Nat.le_refl _); have := HKK.out; omega)
          clear hrn hopt
          go_wp2
          go_roundg (n - (i + 1))
          case measure => have := HI.out; have := HLT.out; omega
          case rel =>
            refine ⟨i + 1, by have := HI.out; have := HLT.out; omega, by rw [HR1.out]; go_num, by go_num, fun j hj => ?_, HB7.out⟩
            by_cases e : j = i + 1
            · rw [e, HR1.out]; exact HRN.out
            · exact HA.out j (by omega)
      · have hopt : optI (some o) = (o : Int) := rfl
        rw [hopt]
        have ho0 : 0 ≤ (o : Int) := by omega
        have HR1 : Hid (runOf own (i + 1) = 0) := Lib.hid (by rw [HRS.out, if_pos (by rw [HOWN.out, HO.out]; rfl)])
        clear hopt
        go_wp2
        go_roundg (n - (i + 1))
        case measure => have := HI.out; have := HLT.out; omega
        case rel =>
          refine ⟨i + 1, by have := HI.out; have := HLT.out; omega, by rw [HR1.out]; rfl, by go_num, fun j hj => ?_, HB7.out⟩
          by_cases e : j = i + 1
          · rw [e, HR1.out]; omega
          · exact HA.out j (by omega)
    · have hlt2 : ¬ (i : Int) < (n : Int) := by omega
      have hnone : r = none := by rw [HF.out]; exact gap_none fun j hj => HA.out j (by have := HI.out; omega)
      obtain ⟨-, rfl⟩ : gi = 0 ∧ gb = false := by have := HGV.out; rw [hnone] at this; exact this
      clear hnone
      go_wp2
      go_ret
      exact ⟨rfl, below_on HK5.out.old HB.out⟩
end Go.Proofs.Ytloemadjiombhaa
