/-
  The walk of the law StateNew, over what the program's calls answer. No condition.
-/
import Derived.Test.YtloemadjiombhaaJq
namespace Go.Proofs.Ytloemadjiombhaa
open Go.RowKit

theorem snew_none {g : Gd} {x : Int} (h : snew g x = none) : g.ok = true → x < 1 ∨ 4096 < x := fun h1 => by
  rw [snew] at h
  split at h
  · cases h
  · rename_i h2
    have : ¬ (1 ≤ x ∧ x ≤ 4096) := fun q => h2 ⟨h1, inr3_iff.2 q⟩
    omega
theorem snew_some {g : Gd} {x : Int} {s : St} (h : snew g x = some s) : g.ok = true ∧ inr3 x 1 4096 = true ∧ s = snewS g x := by
  rw [snew] at h
  split at h
  · rename_i h2
    injection h with h
    exact ⟨h2.1, h2.2, h.symm⟩
  · cases h
def SnRel (V : World) (n : Nat) (f : Nat) (q : Value) (wr : World) : Prop := ∃ j : Nat, f + j = n ∧ q = .int .i64 j ∧ Below V.heap.size V wr
set_option maxRecDepth 100000 in
set_option maxHeartbeats 16000000 in
theorem snew_walk (KC : Cos) (a b c x : Int) (w : World) :
    Calls Try.prog 5 #[.agg #[.int .i64 a, .int .i64 b, .int .i64 c], .int .i64 x] w fun e w' => e = .returned (.bool true) ∧ Below w.heap.size w w' := by
  have hK := Bx.new w ⟨a, b, c⟩ 24
  have hO := below_alloc w (.cells #[.int .i64 a, .int .i64 b, .int .i64 c] 24)
  simp only at hK
  go_enter Try.func5, Try.ntmps5
  go_wp2_with fail
  obtain ⟨g, hg⟩ : ∃ g, g = w.heap.size := ⟨_, rfl⟩
  rw [← hg] at hK ⊢
  clear hg
  generalize w.alloc _ = w1 at hK hO ⊢
  refine (awake_any KC w1).mono ?_
  rintro e w2 ⟨rfl, hb⟩
  have HK := Lib.hid (hK.on hb)
  have HO := Lib.hid (below_on hO hb)
  clear hK hO hb
  have k0 := HK.out.t
  have k1 := HK.out.s
  have k2 := HK.out.k
  have klt := HK.out.lt
  simp only at k0 k1 k2
  obtain ⟨r, hr⟩ : ∃ r, snew ⟨a, b, c⟩ x = r := ⟨_, rfl⟩
  have HR := Lib.hid hr
  clear hr
  go_wp2_with fail
  refine (KC.new HR.out).mono ?_
  rcases r with _ | s
  · rintro e w3 ⟨A, ca, C, cc, rfl, hb⟩
    have HK3 := Lib.hid (HK.out.on hb)
    have HO3 := Lib.hid (below_on HO.out hb)
    clear hb k0 k1 k2 klt HK HO
    have hS := Sbx.new w3 0 0 0 A 0 ca C 0 cc 28
    have HK4 := Lib.hid (HK3.out.on hS.old)
    have k0 := (HK3.out.on hS.old).t
    have k1 := (HK3.out.on hS.old).s
    have k2 := (HK3.out.on hS.old).k
    have klt := HK3.out.lt
    have l0 := HK3.out.t
    have l1 := HK3.out.s
    have l2 := HK3.out.k
    simp only at k0 k1 k2 l0 l1 l2
    obtain ⟨z, hz⟩ : ∃ z, Gd.ok ⟨a, b, c⟩ = z := ⟨_, rfl⟩
    have HZ := Lib.hid hz
    clear hz
    go_wp2_with fail
    refine (good_to HZ.out _).mono ?_
    rintro e w4 ⟨rfl, hb⟩
    have HO4 := Lib.hid (below_on (below_on HO3.out hS.old) hb)
    clear hb hS k0 k1 k2 klt l0 l1 l2
    rcases z with _ | _
    · go_wp2
      go_ret
      exact ⟨rfl, HO4.out⟩
    · rcases snew_none HR.out HZ.out with h | h
      · go_wp2
        go_ret
        exact ⟨rfl, HO4.out⟩
      · have h1 : ¬ x < 1 := by omega
        go_wp2
        go_ret
        exact ⟨rfl, HO4.out⟩
  rintro e w3 ⟨A, ca, C, cc, rfl, hca, hcc, hF, hb⟩
  obtain ⟨hok, hrm, hs⟩ := snew_some HR.out
  have hsg : s.g = ⟨a, b, c⟩ := by rw [hs]; rfl
  have hgood : sgood s = true := by rw [hs]; exact snew_good hok hrm
  have hsl : (s.sl.length : Int) = b := by rw [hs]; exact new_sls hok
  have hth : (s.th.length : Int) = c := by rw [hs]; exact new_ths hok
  obtain ⟨n, hn⟩ : ∃ n, n = s.sl.length := ⟨_, rfl⟩
  obtain ⟨m, hm⟩ : ∃ m, m = s.th.length := ⟨_, rfl⟩
  rw [← hn] at hca hsl ⊢
  rw [← hm] at hcc hth ⊢
  obtain ⟨q1, q2, q3, q4, q5, q6, q7⟩ := Gd.ok_iff.1 hok
  simp only at q1 q2 q3 q4 q5 q6 q7
  obtain ⟨T, rfl⟩ : ∃ T : Nat, a = T := ⟨a.toNat, by omega⟩
  have HST : Hid (StH w3 s (T : Int) b c A n ca C m cc) := Lib.hid ⟨hF.lies, hsg, hn, hm, by omega, by omega, hca, hcc⟩
  have HGD := Lib.hid hgood
  have HSS := Lib.hid hs
  have HOK := Lib.hid hok
  have HN := Lib.hid hn
  have HNB := Lib.hid hsl
  have HMC := Lib.hid hth
  have HQ : Hid (1 ≤ T ∧ T ≤ 4 ∧ 8 * T ≤ n ∧ n ≤ 96 ∧ T + 2 ≤ m ∧ m ≤ 48) := Lib.hid (by omega)
  have e1 : ((n : Int) != b) = false := by rw [hsl]; simp
  have e2 : ((m : Int) != c) = false := by rw [hth]; simp
  have HK3 := Lib.hid (HK.out.on hb)
  have HO3 := Lib.hid (below_on HO.out hb)
  simp only [hsg]
  clear hb k0 k1 k2 klt HK HO hF hca hcc hok hrm hs hsg hgood hsl hth hn hm q1 q2 q3 q4 q5 q6 q7
  have hS := Sbx.new w3 (T : Int) b c A n ca C m cc 28
  have HK4 := Lib.hid (HK3.out.on hS.old)
  have HO4 := Lib.hid (below_on HO3.out hS.old)
  have HS4 := Lib.hid (HST.out.on hS.old)
  go_wp2_with fail
  obtain ⟨h, hh⟩ : ∃ h, h = w3.heap.size := ⟨_, rfl⟩
  rw [← hh] at hS ⊢
  clear hh HK3 HO3 HST
  generalize w3.alloc _ = w4 at hS HK4 HO4 HS4 ⊢
  have HH := Lib.hid hS
  clear hS
  refine (KC.good HS4.out HGD.out).mono ?_
  rintro e w5 ⟨rfl, hb⟩
  have HK5 := Lib.hid (HK4.out.on hb)
  have HO5 := Lib.hid (below_on HO4.out hb)
  have HS5 := Lib.hid (HS4.out.on hb)
  have HH5 := Lib.hid (HH.out.on hb)
  clear hb HK4 HO4 HS4 HH
  have k0 := HK5.out.t
  have k1 := HK5.out.s
  have k2 := HK5.out.k
  have klt := HK5.out.lt
  simp only at k0 k1 k2
  obtain ⟨-, -, -, c3, c4, -, -, lt⟩ := HH5.out
  have hT4 : T ≤ 4 := HQ.out.2.1
  go_wp2_with fail
  clear e1 e2 k0 k1 k2 klt c3 c4 lt
  go_loopg [7] T (fun f p wr => SnRel w5 T f p wr)
  case atStart => exact ⟨0, by omega, rfl, below_self _⟩
  case round =>
    obtain ⟨t, hk, rfl, hb⟩ := hrel
    have HI := Lib.hid hk
    have HB := Lib.hid hb
    have g0 := (HK5.out.on hb).t
    have g1 := (HK5.out.on hb).s
    have g2 := (HK5.out.on hb).k
    have glt := (HK5.out.on hb).lt
    simp only at g0 g1 g2
    obtain ⟨b0, b1, b2, c3, c4, -, -, lt⟩ := HH5.out.on hb
    clear hk hb
    by_cases hlt : t < T
    · have HLT := Lib.hid hlt
      have hlt2 : (t : Int) < (T : Int) := by omega
      obtain ⟨sb, sp, rfl, slt, hc⟩ := (HS5.out.on HB.out).lies.sl (by have := HQ.out; have := HN.out; omega)
      have hT := hc (8 * t + 1) (by have := HQ.out; have := HN.out; omega)
      have hcap : (slAt s.sl (8 * t + 1)).c = ⟨3, 1, 7, 0⟩ := by
        rw [HSS.out, new_sl HOK.out (by have := HQ.out; have := HNB.out; show ((8 * t + 1 : Nat) : Int) < b; omega), newS, if_neg (by omega), if_pos ⟨by omega, by have := HLT.out; show ((8 * t + 1) / 8 : Nat) < (T : Int); omega⟩]
      have HRT : Hid (Gd.root ⟨(T : Int), b, c⟩ t = 8 * (t : Int)) := Lib.hid (by
        rw [Gd.root, if_pos (Gd.has_iff.2 ⟨HOK.out, by omega, by show (t : Int) ≤ (T : Int) - 1; omega⟩)]
        omega)
      generalize slAt s.sl (8 * t + 1) = y at hT hcap
      obtain ⟨⟨cty, cth, cri, cba⟩, up⟩ := y
      obtain ⟨s0, s1, s2, s3, -⟩ := hT
      simp only at s0 s1 s2 s3 hcap
      have HCAP := Lib.hid hcap
      have e1 : IntKind.i64.wrap (8 * (t : Int) + 1) = 8 * (t : Int) + 1 := wrap_in (by omega) (by omega)
      have e2 : (8 * (t : Int) + 1).toNat = 8 * t + 1 := by omega
      have e3 : 0 ≤ 8 * (t : Int) + 1 := by omega
      have e4 : 8 * (t : Int) + 1 < (n : Int) := by have := HQ.out; omega
      clear hc hcap
      go_upto_region 11 with fail
      go_cut [8] from 55 to 63 (fun c wx => ∃ P, c = .pointer (some ⟨P, 0, none⟩) ∧ Fr wr wx P cty cth cri cba)
      case first =>
        refine wp_region_held_drew (S := (fun w' => w'.cell? ⟨g, 0, none⟩ = some (.int .i64 (T : Int)) ∧ w'.cell? ⟨g, 1, none⟩ = some (.int .i64 b) ∧ w'.cell? ⟨g, 2, none⟩ = some (.int .i64 c) ∧ w'.cell? ⟨h, 3, none⟩ = some (.slice (some ⟨sb, sp, none⟩) n ca) ∧ w'.cell? ⟨sb, sp + (8 * t + 1) * 5, none⟩ = some (.int .i64 cty) ∧ w'.cell? ⟨sb, sp + (8 * t + 1) * 5 + 1, none⟩ = some (.int .i64 cth) ∧ w'.cell? ⟨sb, sp + (8 * t + 1) * 5 + 2, none⟩ = some (.int .i64 cri) ∧ w'.cell? ⟨sb, sp + (8 * t + 1) * 5 + 3, none⟩ = some (.int .i64 cba) ∧ Below wr.heap.size wr w')) (by kernel_rfl) ⟨g0, g1, g2, c3, s0, s1, s2, s3, (below_self wr).drew⟩ (fun hHeld => ?_)
        refine wpAnyH_take (i := 0) (v := ?_) rfl (by kernel_rfl) (by kernel_rfl) (by kernel_rfl) (fun _ _ _ h => h) (Or.inl ⟨by rfl, ?_⟩) (by assumption) ?_
        rotate_left
        · intro w hSw; go_split_ands; go_simp; try with_reducible rfl
        simp only [Act.put, List.setIfInBounds_toArray, List.set_cons_zero, List.set_cons_succ, List.getElem_toArray, List.getElem_cons_zero]
        refine wpAnyH_take (i := 2) (v := ?_) rfl (by kernel_rfl) (by kernel_rfl) (by kernel_rfl) (fun _ _ _ h => h) (Or.inl ⟨by rfl, ?_⟩) (by assumption) ?_
        rotate_left
        · intro w hSw; go_split_ands; go_simp; try with_reducible rfl
        simp only [Act.put, List.setIfInBounds_toArray, List.set_cons_zero, List.set_cons_succ, List.getElem_toArray, List.getElem_cons_zero, List.getElem_cons_succ]
        refine wpAnyH_take (i := 3) (v := ?_) rfl (by kernel_rfl) (by kernel_rfl) (by kernel_rfl) (fun _ _ _ h => h) (Or.inl ⟨by rfl, ?_⟩) (by assumption) ?_
        rotate_left
        · intro w hSw; go_split_ands; go_simp; try with_reducible rfl
        simp only [Act.put, List.setIfInBounds_toArray, List.set_cons_zero, List.set_cons_succ, List.getElem_toArray, List.getElem_cons_zero, List.getElem_cons_succ]
        refine wpAnyH_take (i := 1) (v := ?_) rfl (by kernel_rfl) (by kernel_rfl) (by kernel_rfl) (fun _ _ _ h => h) (Or.inl ⟨by rfl, ?_⟩) (by assumption) ?_
        rotate_left
        · intro w hSw; go_split_ands; go_simp; try with_reducible rfl
        simp only [Act.put, List.setIfInBounds_toArray, List.set_cons_zero, List.set_cons_succ, List.getElem_toArray, List.getElem_cons_zero, List.getElem_cons_succ]
        refine wpAnyH_ready (rs := [4, 9]) (by kernel_rfl) (by simp) ?_
        refine AllReadyH.cons rfl (fun K hK => ?_) (AllReadyH.cons rfl (fun K hK => ?_) AllReadyH.nil)
        · go_simp
          refine (root_to HRT.out _).mono ?_
          rintro e w5 ⟨rfl, hb⟩
          have zb := below_on (below_self wr).drew hb
          refine hK.out _ _ ⟨(zb.cell (p := ⟨g, 0, none⟩) glt).trans g0, (zb.cell (p := ⟨g, 1, none⟩) glt).trans g1, (zb.cell (p := ⟨g, 2, none⟩) glt).trans g2, (zb.cell (p := ⟨h, 3, none⟩) lt).trans c3, (zb.cell (p := ⟨sb, sp + (8 * t + 1) * 5, none⟩) slt).trans s0, (zb.cell (p := ⟨sb, sp + (8 * t + 1) * 5 + 1, none⟩) slt).trans s1, (zb.cell (p := ⟨sb, sp + (8 * t + 1) * 5 + 2, none⟩) slt).trans s2, (zb.cell (p := ⟨sb, sp + (8 * t + 1) * 5 + 3, none⟩) slt).trans s3, zb⟩ (fun hHeld => ?_)
          clear hK K
          try simp only [Act.put, List.setIfInBounds_toArray, List.set_cons_zero, List.set_cons_succ, List.getElem_toArray, List.getElem_cons_zero, List.getElem_cons_succ]
          refine wpAnyH_take (i := 5) (v := ?_) rfl (by kernel_rfl) (by kernel_rfl) (by kernel_rfl) (fun _ _ _ h => h) (Or.inl ⟨by rfl, ?_⟩) (by assumption) ?_
          rotate_left
          · intro w hSw; go_split_ands; go_simp; try with_reducible rfl
          simp only [Act.put, List.setIfInBounds_toArray, List.set_cons_zero, List.set_cons_succ, List.getElem_toArray, List.getElem_cons_zero, List.getElem_cons_succ]
          refine wpAnyH_take (i := 6) (v := ?_) rfl (by kernel_rfl) (by kernel_rfl) (by kernel_rfl) (fun _ _ _ h => h) (Or.inl ⟨by rfl, ?_⟩) (by assumption) ?_
          rotate_left
          · intro w hSw; go_split_ands; go_simp; try with_reducible rfl
          simp only [Act.put, List.setIfInBounds_toArray, List.set_cons_zero, List.set_cons_succ, List.getElem_toArray, List.getElem_cons_zero, List.getElem_cons_succ]
          refine wpAnyH_take (i := 7) (v := ?_) rfl (by kernel_rfl) (by kernel_rfl) (by kernel_rfl) (fun _ _ _ h => h) (Or.inl ⟨by rfl, ?_⟩) (by assumption) ?_
          rotate_left
          · intro w hSw; go_split_ands; go_simp; try with_reducible rfl
          simp only [Act.put, List.setIfInBounds_toArray, List.set_cons_zero, List.set_cons_succ, List.getElem_toArray, List.getElem_cons_zero, List.getElem_cons_succ]
          refine wpAnyH_take (i := 8) (v := ?_) rfl (by kernel_rfl) (by kernel_rfl) (by kernel_rfl) (fun _ _ _ h => h) (Or.inl ⟨by rfl, ?_⟩) (by assumption) ?_
          rotate_left
          · intro w hSw; go_split_ands; go_simp; try with_reducible rfl
          simp only [Act.put, List.setIfInBounds_toArray, List.set_cons_zero, List.set_cons_succ, List.getElem_toArray, List.getElem_cons_zero, List.getElem_cons_succ]
          refine wpAnyH_ready (rs := [9]) (by kernel_rfl) (by simp) ?_
          refine AllReadyH.cons rfl (fun K hK => ?_) AllReadyH.nil
          go_simp
          have za := below_on zb (below_alloc w5 (.cells #[.int .i64 0, .int .i64 0, .int .i64 0, .int .i64 0] 35))
          refine hK.out _ _ ⟨(za.cell (p := ⟨g, 0, none⟩) glt).trans g0, (za.cell (p := ⟨g, 1, none⟩) glt).trans g1, (za.cell (p := ⟨g, 2, none⟩) glt).trans g2, (za.cell (p := ⟨h, 3, none⟩) lt).trans c3, (za.cell (p := ⟨sb, sp + (8 * t + 1) * 5, none⟩) slt).trans s0, (za.cell (p := ⟨sb, sp + (8 * t + 1) * 5 + 1, none⟩) slt).trans s1, (za.cell (p := ⟨sb, sp + (8 * t + 1) * 5 + 2, none⟩) slt).trans s2, (za.cell (p := ⟨sb, sp + (8 * t + 1) * 5 + 3, none⟩) slt).trans s3, za⟩ (fun hHeld => ?_)
          clear hK K
          try simp only [Act.put, List.setIfInBounds_toArray, List.set_cons_zero, List.set_cons_succ, List.getElem_toArray, List.getElem_cons_zero, List.getElem_cons_succ]
          refine wpAnyH_ready (rs := [10]) (by kernel_rfl) (by simp) ?_
          refine AllReadyH.cons rfl (fun K hK => ?_) AllReadyH.nil
          go_simp
          have zc := below_on zb (below_alloc w5 (.cells #[.int .i64 cty, .int .i64 cth, .int .i64 cri, .int .i64 cba] 35))
          refine hK.out _ _ ⟨(zc.cell (p := ⟨g, 0, none⟩) glt).trans g0, (zc.cell (p := ⟨g, 1, none⟩) glt).trans g1, (zc.cell (p := ⟨g, 2, none⟩) glt).trans g2, (zc.cell (p := ⟨h, 3, none⟩) lt).trans c3, (zc.cell (p := ⟨sb, sp + (8 * t + 1) * 5, none⟩) slt).trans s0, (zc.cell (p := ⟨sb, sp + (8 * t + 1) * 5 + 1, none⟩) slt).trans s1, (zc.cell (p := ⟨sb, sp + (8 * t + 1) * 5 + 2, none⟩) slt).trans s2, (zc.cell (p := ⟨sb, sp + (8 * t + 1) * 5 + 3, none⟩) slt).trans s3, zc⟩ (fun hHeld => ?_)
          clear hK K
          try simp only [Act.put, List.setIfInBounds_toArray, List.set_cons_zero, List.set_cons_succ, List.getElem_toArray, List.getElem_cons_zero, List.getElem_cons_succ]
          refine wpAnyH_done (by kernel_rfl) ?_ _
          go_wp2_with fail
          go_meet
          exact ⟨_, rfl, Fr.also zb cty cth cri cba 35⟩
        · go_simp
          have hF0 : Fr wr (wr.drew.alloc (.cells #[.int .i64 0, .int .i64 0, .int .i64 0, .int .i64 0] 35)) wr.heap.size 0 0 0 0 := (Fr.new wr 0 0 0 0 35).drew
          have za := below_on (below_self wr).drew (below_alloc wr.drew (.cells #[.int .i64 0, .int .i64 0, .int .i64 0, .int .i64 0] 35))
          refine hK.out _ _ ⟨(za.cell (p := ⟨g, 0, none⟩) glt).trans g0, (za.cell (p := ⟨g, 1, none⟩) glt).trans g1, (za.cell (p := ⟨g, 2, none⟩) glt).trans g2, (za.cell (p := ⟨h, 3, none⟩) lt).trans c3, (za.cell (p := ⟨sb, sp + (8 * t + 1) * 5, none⟩) slt).trans s0, (za.cell (p := ⟨sb, sp + (8 * t + 1) * 5 + 1, none⟩) slt).trans s1, (za.cell (p := ⟨sb, sp + (8 * t + 1) * 5 + 2, none⟩) slt).trans s2, (za.cell (p := ⟨sb, sp + (8 * t + 1) * 5 + 3, none⟩) slt).trans s3, za⟩ (fun hHeld => ?_)
          clear hK K
          try simp only [Act.put, List.setIfInBounds_toArray, List.set_cons_zero, List.set_cons_succ, List.getElem_toArray, List.getElem_cons_zero, List.getElem_cons_succ]
          refine wpAnyH_ready (rs := [4]) (by kernel_rfl) (by simp) ?_
          refine AllReadyH.cons rfl (fun K hK => ?_) AllReadyH.nil
          go_simp
          refine (root_to HRT.out _).mono ?_
          rintro e w5 ⟨rfl, hb⟩
          have zb := below_on za hb
          refine hK.out _ _ ⟨(zb.cell (p := ⟨g, 0, none⟩) glt).trans g0, (zb.cell (p := ⟨g, 1, none⟩) glt).trans g1, (zb.cell (p := ⟨g, 2, none⟩) glt).trans g2, (zb.cell (p := ⟨h, 3, none⟩) lt).trans c3, (zb.cell (p := ⟨sb, sp + (8 * t + 1) * 5, none⟩) slt).trans s0, (zb.cell (p := ⟨sb, sp + (8 * t + 1) * 5 + 1, none⟩) slt).trans s1, (zb.cell (p := ⟨sb, sp + (8 * t + 1) * 5 + 2, none⟩) slt).trans s2, (zb.cell (p := ⟨sb, sp + (8 * t + 1) * 5 + 3, none⟩) slt).trans s3, zb⟩ (fun hHeld => ?_)
          clear hK K
          try simp only [Act.put, List.setIfInBounds_toArray, List.set_cons_zero, List.set_cons_succ, List.getElem_toArray, List.getElem_cons_zero, List.getElem_cons_succ]
          refine wpAnyH_take (i := 5) (v := ?_) rfl (by kernel_rfl) (by kernel_rfl) (by kernel_rfl) (fun _ _ _ h => h) (Or.inl ⟨by rfl, ?_⟩) (by assumption) ?_
          rotate_left
          · intro w hSw; go_split_ands; go_simp; try with_reducible rfl
          simp only [Act.put, List.setIfInBounds_toArray, List.set_cons_zero, List.set_cons_succ, List.getElem_toArray, List.getElem_cons_zero, List.getElem_cons_succ]
          refine wpAnyH_take (i := 6) (v := ?_) rfl (by kernel_rfl) (by kernel_rfl) (by kernel_rfl) (fun _ _ _ h => h) (Or.inl ⟨by rfl, ?_⟩) (by assumption) ?_
          rotate_left
          · intro w hSw; go_split_ands; go_simp; try with_reducible rfl
          simp only [Act.put, List.setIfInBounds_toArray, List.set_cons_zero, List.set_cons_succ, List.getElem_toArray, List.getElem_cons_zero, List.getElem_cons_succ]
          refine wpAnyH_take (i := 7) (v := ?_) rfl (by kernel_rfl) (by kernel_rfl) (by kernel_rfl) (fun _ _ _ h => h) (Or.inl ⟨by rfl, ?_⟩) (by assumption) ?_
          rotate_left
          · intro w hSw; go_split_ands; go_simp; try with_reducible rfl
          simp only [Act.put, List.setIfInBounds_toArray, List.set_cons_zero, List.set_cons_succ, List.getElem_toArray, List.getElem_cons_zero, List.getElem_cons_succ]
          refine wpAnyH_take (i := 8) (v := ?_) rfl (by kernel_rfl) (by kernel_rfl) (by kernel_rfl) (fun _ _ _ h => h) (Or.inl ⟨by rfl, ?_⟩) (by assumption) ?_
          rotate_left
          · intro w hSw; go_split_ands; go_simp; try with_reducible rfl
          simp only [Act.put, List.setIfInBounds_toArray, List.set_cons_zero, List.set_cons_succ, List.getElem_toArray, List.getElem_cons_zero, List.getElem_cons_succ]
          have hF1 := hF0.on hb
          have j0 := hF1.c0
          have j1 := hF1.c1
          have j2 := hF1.c2
          have j3 := hF1.c3
          have jf0 := hF1.free 0
          have jf1 := hF1.free 1
          have jf2 := hF1.free 2
          have jf3 := hF1.free 3
          refine wpAnyH_ready (rs := [10]) (by kernel_rfl) (by simp) ?_
          refine AllReadyH.cons rfl (fun K hK => ?_) AllReadyH.nil
          go_simp
          have hF2 := hF1.put cty cth cri cba
          have zc : Below wr.heap.size wr (put4 w5 wr.heap.size cty cth cri cba) := hF2.old
          refine hK.out _ _ ⟨(zc.cell (p := ⟨g, 0, none⟩) glt).trans g0, (zc.cell (p := ⟨g, 1, none⟩) glt).trans g1, (zc.cell (p := ⟨g, 2, none⟩) glt).trans g2, (zc.cell (p := ⟨h, 3, none⟩) lt).trans c3, (zc.cell (p := ⟨sb, sp + (8 * t + 1) * 5, none⟩) slt).trans s0, (zc.cell (p := ⟨sb, sp + (8 * t + 1) * 5 + 1, none⟩) slt).trans s1, (zc.cell (p := ⟨sb, sp + (8 * t + 1) * 5 + 2, none⟩) slt).trans s2, (zc.cell (p := ⟨sb, sp + (8 * t + 1) * 5 + 3, none⟩) slt).trans s3, zc⟩ (fun hHeld => ?_)
          clear hK K
          try simp only [Act.put, List.setIfInBounds_toArray, List.set_cons_zero, List.set_cons_succ, List.getElem_toArray, List.getElem_cons_zero, List.getElem_cons_succ]
          refine wpAnyH_done (by kernel_rfl) ?_ _
          go_wp2_with fail
          go_meet
          exact ⟨_, rfl, hF2⟩
      obtain ⟨P, rfl, hF⟩ := hcut
      have hcc := HCAP.out
      injection hcc with h0 h1 h2 h3
      subst h0 h1 h2 h3
      obtain ⟨w6, hw6⟩ : ∃ z, z = wc := ⟨_, rfl⟩
      subst hw6
      have HB6 := Lib.hid (below_on HB.out hF.old)
      have HS6 := Lib.hid (HS5.out.on (below_on HB.out hF.old))
      have hk6 := HK5.out.on (below_on HB.out hF.old)
      have hh6 := HH5.out.on (below_on HB.out hF.old)
      obtain ⟨f0, f1, f2, f3, -, flt, -, -⟩ := hF
      clear g0 g1 g2 glt b0 b1 b2 c3 c4 lt s0 s1 s2 s3 slt e1 e2 e3 e4 HB
      have g0 := hk6.t
      have g1 := hk6.s
      have g2 := hk6.k
      have glt := hk6.lt
      simp only at g0 g1 g2
      obtain ⟨b0, b1, b2, c3, c4, -, -, lt⟩ := hh6
      have HOW : Hid (optI (sowner s (8 * (t : Int) + 7)) = 2 + (t : Int)) := Lib.hid (by
        have h1 := new_owner (room := x) HOK.out (t := t) (k := 8 * t + 7) (by have := HLT.out; show (t : Int) < (T : Int); omega) (by omega)
        rw [own_good HGD.out, HSS.out, show (8 * (t : Int) + 7) = ((8 * t + 7 : Nat) : Int) by omega, h1]
        show ((2 + t : Nat) : Int) = _
        omega)
      have heq : ∀ w, (Op.equalIn 10000 35 (.agg #[.int .i64 3, .int .i64 1, .int .i64 7, .int .i64 0]) (.agg #[.int .i64 3, .int .i64 1, .int .i64 7, .int .i64 0])).run Try.prog w = .ok true w := fun w => eq24 ⟨3, 1, 7, 0⟩ ⟨3, 1, 7, 0⟩ w
      have e5 : IntKind.i64.wrap (8 * (t : Int) + 7) = 8 * (t : Int) + 7 := wrap_in (by omega) (by omega)
      have e6 : IntKind.i64.wrap (2 + (t : Int)) = 2 + (t : Int) := wrap_in (by omega) (by omega)
      go_wp2_with fail
      refine wp_region_held_drew (S := (fun w' => w'.cell? ⟨P, 0, none⟩ = some (.int .i64 3) ∧ w'.cell? ⟨P, 1, none⟩ = some (.int .i64 1) ∧ w'.cell? ⟨P, 2, none⟩ = some (.int .i64 7) ∧ w'.cell? ⟨P, 3, none⟩ = some (.int .i64 0) ∧ w'.cell? ⟨g, 0, none⟩ = some (.int .i64 (T : Int)) ∧ w'.cell? ⟨g, 1, none⟩ = some (.int .i64 b) ∧ w'.cell? ⟨g, 2, none⟩ = some (.int .i64 c) ∧ w'.cell? ⟨h, 0, none⟩ = some (.int .i64 (T : Int)) ∧ w'.cell? ⟨h, 1, none⟩ = some (.int .i64 b) ∧ w'.cell? ⟨h, 2, none⟩ = some (.int .i64 c) ∧ w'.cell? ⟨h, 3, none⟩ = some (.slice (some ⟨sb, sp, none⟩) n ca) ∧ w'.cell? ⟨h, 4, none⟩ = some (.slice C m cc) ∧ Below w6.heap.size w6 w')) (by kernel_rfl) ⟨f0, f1, f2, f3, g0, g1, g2, b0, b1, b2, c3, c4, (below_self w6).drew⟩ (fun hHeld => ?_)
      refine wpAnyH_take (i := 0) (v := ?_) rfl (by kernel_rfl) (by kernel_rfl) (by kernel_rfl) (fun _ _ _ h => h) (Or.inl ⟨by rfl, ?_⟩) (by assumption) ?_
      rotate_left
      · intro w hSw; go_split_ands; go_simp; try with_reducible rfl
      simp only [Act.put, List.setIfInBounds_toArray, List.set_cons_zero, List.set_cons_succ, List.getElem_toArray, List.getElem_cons_zero]
      refine wpAnyH_take (i := 1) (v := ?_) rfl (by kernel_rfl) (by kernel_rfl) (by kernel_rfl) (fun _ _ _ h => h) (Or.inl ⟨by rfl, ?_⟩) (by assumption) ?_
      rotate_left
      · intro w hSw; go_split_ands; go_simp; try with_reducible rfl
      simp only [Act.put, List.setIfInBounds_toArray, List.set_cons_zero, List.set_cons_succ, List.getElem_toArray, List.getElem_cons_zero, List.getElem_cons_succ]
      refine wpAnyH_take (i := 2) (v := ?_) rfl (by kernel_rfl) (by kernel_rfl) (by kernel_rfl) (fun _ _ _ h => h) (Or.inl ⟨by rfl, ?_⟩) (by assumption) ?_
      rotate_left
      · intro w hSw; go_split_ands; go_simp; try with_reducible rfl
      simp only [Act.put, List.setIfInBounds_toArray, List.set_cons_zero, List.set_cons_succ, List.getElem_toArray, List.getElem_cons_zero, List.getElem_cons_succ]
      refine wpAnyH_take (i := 3) (v := ?_) rfl (by kernel_rfl) (by kernel_rfl) (by kernel_rfl) (fun _ _ _ h => h) (Or.inl ⟨by rfl, ?_⟩) (by assumption) ?_
      rotate_left
      · intro w hSw; go_split_ands; go_simp; try with_reducible rfl
      simp only [Act.put, List.setIfInBounds_toArray, List.set_cons_zero, List.set_cons_succ, List.getElem_toArray, List.getElem_cons_zero, List.getElem_cons_succ]
      refine wpAnyH_take (i := 4) (v := ?_) rfl (by kernel_rfl) (by kernel_rfl) (by kernel_rfl) (fun _ _ _ h => h) (Or.inl ⟨by rfl, ?_⟩) (by assumption) ?_
      rotate_left
      · intro w hSw; go_split_ands; go_simp; try with_reducible rfl
      simp only [Act.put, List.setIfInBounds_toArray, List.set_cons_zero, List.set_cons_succ, List.getElem_toArray, List.getElem_cons_zero, List.getElem_cons_succ]
      refine wpAnyH_take (i := 5) (v := ?_) rfl (by kernel_rfl) (by kernel_rfl) (by kernel_rfl) (fun _ _ _ h => h) (Or.inl ⟨by rfl, ?_⟩) (by assumption) ?_
      rotate_left
      · intro w hSw; go_split_ands; go_simp; try with_reducible rfl
      simp only [Act.put, List.setIfInBounds_toArray, List.set_cons_zero, List.set_cons_succ, List.getElem_toArray, List.getElem_cons_zero, List.getElem_cons_succ]
      refine wpAnyH_take (i := 6) (v := ?_) rfl (by kernel_rfl) (by kernel_rfl) (by kernel_rfl) (fun _ _ _ h => h) (Or.inl ⟨by rfl, ?_⟩) (by assumption) ?_
      rotate_left
      · intro w hSw; go_split_ands; go_simp; try with_reducible rfl
      simp only [Act.put, List.setIfInBounds_toArray, List.set_cons_zero, List.set_cons_succ, List.getElem_toArray, List.getElem_cons_zero, List.getElem_cons_succ]
      refine wpAnyH_take (i := 10) (v := ?_) rfl (by kernel_rfl) (by kernel_rfl) (by kernel_rfl) (fun _ _ _ h => h) (Or.inl ⟨by rfl, ?_⟩) (by assumption) ?_
      rotate_left
      · intro w hSw; go_split_ands; go_simp; try with_reducible rfl
      simp only [Act.put, List.setIfInBounds_toArray, List.set_cons_zero, List.set_cons_succ, List.getElem_toArray, List.getElem_cons_zero, List.getElem_cons_succ]
      refine wpAnyH_take (i := 11) (v := ?_) rfl (by kernel_rfl) (by kernel_rfl) (by kernel_rfl) (fun _ _ _ h => h) (Or.inl ⟨by rfl, ?_⟩) (by assumption) ?_
      rotate_left
      · intro w hSw; go_split_ands; go_simp; try with_reducible rfl
      simp only [Act.put, List.setIfInBounds_toArray, List.set_cons_zero, List.set_cons_succ, List.getElem_toArray, List.getElem_cons_zero, List.getElem_cons_succ]
      refine wpAnyH_ready (rs := [7]) (by kernel_rfl) (by simp) ?_
      refine AllReadyH.cons rfl (fun K hK => ?_) AllReadyH.nil
      go_simp
      refine (root_to HRT.out _).mono ?_
      rintro e w' ⟨rfl, hb⟩
      have zb := below_on (below_self w6).drew hb
      refine hK.out _ _ ⟨(zb.cell (p := ⟨P, 0, none⟩) flt).trans f0, (zb.cell (p := ⟨P, 1, none⟩) flt).trans f1, (zb.cell (p := ⟨P, 2, none⟩) flt).trans f2, (zb.cell (p := ⟨P, 3, none⟩) flt).trans f3, (zb.cell (p := ⟨g, 0, none⟩) glt).trans g0, (zb.cell (p := ⟨g, 1, none⟩) glt).trans g1, (zb.cell (p := ⟨g, 2, none⟩) glt).trans g2, (zb.cell (p := ⟨h, 0, none⟩) lt).trans b0, (zb.cell (p := ⟨h, 1, none⟩) lt).trans b1, (zb.cell (p := ⟨h, 2, none⟩) lt).trans b2, (zb.cell (p := ⟨h, 3, none⟩) lt).trans c3, (zb.cell (p := ⟨h, 4, none⟩) lt).trans c4, zb⟩ (fun hHeld => ?_)
      clear hK K
      try simp only [Act.put, List.setIfInBounds_toArray, List.set_cons_zero, List.set_cons_succ]
      refine wpAnyH_take (i := 8) (v := ?_) rfl (by kernel_rfl) (by kernel_rfl) (by kernel_rfl) (fun _ _ _ h => h) (Or.inl ⟨by rfl, ?_⟩) (by assumption) ?_
      rotate_left
      · intro w hSw; go_split_ands; go_simp; try with_reducible rfl
      simp only [Act.put, List.setIfInBounds_toArray, List.set_cons_zero, List.set_cons_succ, List.getElem_toArray, List.getElem_cons_zero, List.getElem_cons_succ]
      refine wpAnyH_ready (rs := [9]) (by kernel_rfl) (by simp) ?_
      refine AllReadyH.cons rfl (fun K hK => ?_) AllReadyH.nil
      go_simp
      refine (KC.owner (r := 2 + (t : Int)) (HS6.out.on zb) HOW.out).mono ?_
      rintro e w8 ⟨rfl, hb⟩
      have zc := below_on zb hb
      refine hK.out _ _ ⟨(zc.cell (p := ⟨P, 0, none⟩) flt).trans f0, (zc.cell (p := ⟨P, 1, none⟩) flt).trans f1, (zc.cell (p := ⟨P, 2, none⟩) flt).trans f2, (zc.cell (p := ⟨P, 3, none⟩) flt).trans f3, (zc.cell (p := ⟨g, 0, none⟩) glt).trans g0, (zc.cell (p := ⟨g, 1, none⟩) glt).trans g1, (zc.cell (p := ⟨g, 2, none⟩) glt).trans g2, (zc.cell (p := ⟨h, 0, none⟩) lt).trans b0, (zc.cell (p := ⟨h, 1, none⟩) lt).trans b1, (zc.cell (p := ⟨h, 2, none⟩) lt).trans b2, (zc.cell (p := ⟨h, 3, none⟩) lt).trans c3, (zc.cell (p := ⟨h, 4, none⟩) lt).trans c4, zc⟩ (fun hHeld => ?_)
      clear hK K
      try simp only [Act.put, List.setIfInBounds_toArray, List.set_cons_zero, List.set_cons_succ]
      refine wpAnyH_take (i := 12) (v := ?_) rfl (by kernel_rfl) (by kernel_rfl) (by kernel_rfl) (fun _ _ _ h => h) (Or.inl ⟨by rfl, ?_⟩) (by assumption) ?_
      rotate_left
      · intro w hSw; go_split_ands; go_simp; try with_reducible rfl
      simp only [Act.put, List.setIfInBounds_toArray, List.set_cons_zero, List.set_cons_succ, List.getElem_toArray, List.getElem_cons_zero, List.getElem_cons_succ]
      refine wpAnyH_take (i := 13) (v := ?_) rfl (by kernel_rfl) (by kernel_rfl) (by kernel_rfl) (fun _ _ _ h => h) (Or.inl ⟨by rfl, ?_⟩) (by assumption) ?_
      rotate_left
      · intro w hSw; go_split_ands; go_simp; try with_reducible rfl
      simp only [Act.put, List.setIfInBounds_toArray, List.set_cons_zero, List.set_cons_succ, List.getElem_toArray, List.getElem_cons_zero, List.getElem_cons_succ]
      refine wpAnyH_done (by kernel_rfl) ?_ _
      have HB9 := Lib.hid (below_on HB6.out zc)
      clear zb zc f0 f1 f2 f3 flt g0 g1 g2 glt b0 b1 b2 c3 c4 lt hk6 heq
      go_wp2
      go_roundg (T - (t + 1))
      case measure => have := HI.out; have := HLT.out; omega
      case rel => exact ⟨t + 1, by have := HI.out; have := HLT.out; omega, by go_num, HB9.out⟩
    · have hlt2 : ¬ (t : Int) < (T : Int) := by omega
      have HS6 := Lib.hid (HS5.out.on HB.out)
      have HO6 := Lib.hid (below_on HO5.out HB.out)
      obtain ⟨L, hL⟩ : ∃ L, toInts (shold s 1) = L := ⟨_, rfl⟩
      have HL := Lib.hid hL
      have HLT2 : Hid (L.length = T) := Lib.hid (by
        have h1 := new_hold (room := x) HOK.out
        rw [← HSS.out] at h1
        rw [← hL, toInts_length, hold_good HGD.out]
        simp only at h1
        omega)
      obtain ⟨fr, hfr⟩ : ∃ r, optI (sfree s) = r := ⟨_, rfl⟩
      have HFR := Lib.hid hfr
      have HFV : Hid ((fr == 2 + (T : Int)) = decide (2 + (T : Int) < c)) := Lib.hid (by
        have h1 := new_free (room := x) HOK.out
        rw [← hfr, sfree, if_pos HGD.out, HSS.out, h1]
        simp only
        by_cases hc : 2 + (T : Int) < c
        · rw [if_pos hc, decide_eq_true hc, beq_iff_eq]
          show ((2 + (T : Int).toNat : Nat) : Int) = _
          omega
        · rw [if_neg hc, decide_eq_false hc, beq_eq_false_iff_ne]
          show (-1 : Int) ≠ _
          omega)
      obtain ⟨z, hz⟩ : ∃ z, decide (2 + (T : Int) < c) = z := ⟨_, rfl⟩
      have e1 : (fr == 2 + (T : Int)) = z := by rw [HFV.out, hz]
      have e2 : IntKind.i64.wrap (2 + (T : Int)) = 2 + (T : Int) := wrap_in (by omega) (by omega)
      clear hL hfr
      go_wp2_with fail
      refine wp_region_held_drew (S := (fun w' => w'.cell? ⟨g, 0, none⟩ = some (.int .i64 (T : Int)) ∧ w'.cell? ⟨g, 1, none⟩ = some (.int .i64 b) ∧ w'.cell? ⟨g, 2, none⟩ = some (.int .i64 c) ∧ w'.cell? ⟨h, 0, none⟩ = some (.int .i64 (T : Int)) ∧ w'.cell? ⟨h, 1, none⟩ = some (.int .i64 b) ∧ w'.cell? ⟨h, 2, none⟩ = some (.int .i64 c) ∧ w'.cell? ⟨h, 3, none⟩ = some (.slice A n ca) ∧ w'.cell? ⟨h, 4, none⟩ = some (.slice C m cc) ∧ Below wr.heap.size wr w')) (by kernel_rfl) ⟨g0, g1, g2, b0, b1, b2, c3, c4, (below_self wr).drew⟩ (fun hHeld => ?_)
      refine wpAnyH_take (i := 0) (v := ?_) rfl (by kernel_rfl) (by kernel_rfl) (by kernel_rfl) (fun _ _ _ h => h) (Or.inl ⟨by rfl, ?_⟩) (by assumption) ?_
      rotate_left
      · intro w hSw; go_split_ands; go_simp; try with_reducible rfl
      simp only [Act.put, List.setIfInBounds_toArray, List.set_cons_zero, List.set_cons_succ, List.getElem_toArray, List.getElem_cons_zero]
      refine wpAnyH_take (i := 3) (v := ?_) rfl (by kernel_rfl) (by kernel_rfl) (by kernel_rfl) (fun _ _ _ h => h) (Or.inl ⟨by rfl, ?_⟩) (by assumption) ?_
      rotate_left
      · intro w hSw; go_split_ands; go_simp; try with_reducible rfl
      simp only [Act.put, List.setIfInBounds_toArray, List.set_cons_zero, List.set_cons_succ, List.getElem_toArray, List.getElem_cons_zero, List.getElem_cons_succ]
      refine wpAnyH_take (i := 4) (v := ?_) rfl (by kernel_rfl) (by kernel_rfl) (by kernel_rfl) (fun _ _ _ h => h) (Or.inl ⟨by rfl, ?_⟩) (by assumption) ?_
      rotate_left
      · intro w hSw; go_split_ands; go_simp; try with_reducible rfl
      simp only [Act.put, List.setIfInBounds_toArray, List.set_cons_zero, List.set_cons_succ, List.getElem_toArray, List.getElem_cons_zero, List.getElem_cons_succ]
      refine wpAnyH_ready (rs := [1]) (by kernel_rfl) (by simp) ?_
      refine AllReadyH.cons rfl (fun K hK => ?_) AllReadyH.nil
      go_simp
      refine (KC.hold (L := L) (HS6.out.on (below_self wr).drew) HL.out).mono ?_
      rintro e w' ⟨B, cb, rfl, hcb, hi, hb⟩
      have zb := below_on (below_self wr).drew hb
      rw [HLT2.out]
      refine hK.out _ _ ⟨(zb.cell (p := ⟨g, 0, none⟩) glt).trans g0, (zb.cell (p := ⟨g, 1, none⟩) glt).trans g1, (zb.cell (p := ⟨g, 2, none⟩) glt).trans g2, (zb.cell (p := ⟨h, 0, none⟩) lt).trans b0, (zb.cell (p := ⟨h, 1, none⟩) lt).trans b1, (zb.cell (p := ⟨h, 2, none⟩) lt).trans b2, (zb.cell (p := ⟨h, 3, none⟩) lt).trans c3, (zb.cell (p := ⟨h, 4, none⟩) lt).trans c4, zb⟩ (fun hHeld => ?_)
      clear hK K
      try simp only [Act.put, List.setIfInBounds_toArray, List.set_cons_zero, List.set_cons_succ]
      refine wpAnyH_take (i := 2) (v := ?_) rfl (by kernel_rfl) (by kernel_rfl) (by kernel_rfl) (fun _ _ _ h => h) (Or.inl ⟨by rfl, ?_⟩) (by assumption) ?_
      rotate_left
      · intro w hSw; go_split_ands; go_simp; try with_reducible rfl
      simp only [Act.put, List.setIfInBounds_toArray, List.set_cons_zero, List.set_cons_succ, List.getElem_toArray, List.getElem_cons_zero, List.getElem_cons_succ]
      refine wpAnyH_take (i := 5) (v := ?_) rfl (by kernel_rfl) (by kernel_rfl) (by kernel_rfl) (fun _ _ _ h => h) (Or.inl ⟨by rfl, ?_⟩) (by assumption) ?_
      rotate_left
      · intro w hSw; go_split_ands; go_simp; try with_reducible rfl
      simp only [Act.put, List.setIfInBounds_toArray, List.set_cons_zero, List.set_cons_succ, List.getElem_toArray, List.getElem_cons_zero, List.getElem_cons_succ]
      refine wpAnyH_take (i := 6) (v := ?_) rfl (by kernel_rfl) (by kernel_rfl) (by kernel_rfl) (fun _ _ _ h => h) (Or.inl ⟨by rfl, ?_⟩) (by assumption) ?_
      rotate_left
      · intro w hSw; go_split_ands; go_simp; try with_reducible rfl
      simp only [Act.put, List.setIfInBounds_toArray, List.set_cons_zero, List.set_cons_succ, List.getElem_toArray, List.getElem_cons_zero, List.getElem_cons_succ]
      refine wpAnyH_take (i := 7) (v := ?_) rfl (by kernel_rfl) (by kernel_rfl) (by kernel_rfl) (fun _ _ _ h => h) (Or.inl ⟨by rfl, ?_⟩) (by assumption) ?_
      rotate_left
      · intro w hSw; go_split_ands; go_simp; try with_reducible rfl
      simp only [Act.put, List.setIfInBounds_toArray, List.set_cons_zero, List.set_cons_succ, List.getElem_toArray, List.getElem_cons_zero, List.getElem_cons_succ]
      refine wpAnyH_take (i := 9) (v := ?_) rfl (by kernel_rfl) (by kernel_rfl) (by kernel_rfl) (fun _ _ _ h => h) (Or.inl ⟨by rfl, ?_⟩) (by assumption) ?_
      rotate_left
      · intro w hSw; go_split_ands; go_simp; try with_reducible rfl
      simp only [Act.put, List.setIfInBounds_toArray, List.set_cons_zero, List.set_cons_succ, List.getElem_toArray, List.getElem_cons_zero, List.getElem_cons_succ]
      refine wpAnyH_take (i := 10) (v := ?_) rfl (by kernel_rfl) (by kernel_rfl) (by kernel_rfl) (fun _ _ _ h => h) (Or.inl ⟨by rfl, ?_⟩) (by assumption) ?_
      rotate_left
      · intro w hSw; go_split_ands; go_simp; try with_reducible rfl
      simp only [Act.put, List.setIfInBounds_toArray, List.set_cons_zero, List.set_cons_succ, List.getElem_toArray, List.getElem_cons_zero, List.getElem_cons_succ]
      refine wpAnyH_take (i := 11) (v := ?_) rfl (by kernel_rfl) (by kernel_rfl) (by kernel_rfl) (fun _ _ _ h => h) (Or.inl ⟨by rfl, ?_⟩) (by assumption) ?_
      rotate_left
      · intro w hSw; go_split_ands; go_simp; try with_reducible rfl
      simp only [Act.put, List.setIfInBounds_toArray, List.set_cons_zero, List.set_cons_succ, List.getElem_toArray, List.getElem_cons_zero, List.getElem_cons_succ]
      refine wpAnyH_take (i := 13) (v := ?_) rfl (by kernel_rfl) (by kernel_rfl) (by kernel_rfl) (fun _ _ _ h => h) (Or.inl ⟨by rfl, ?_⟩) (by assumption) ?_
      rotate_left
      · intro w hSw; go_split_ands; go_simp; try with_reducible rfl
      simp only [Act.put, List.setIfInBounds_toArray, List.set_cons_zero, List.set_cons_succ, List.getElem_toArray, List.getElem_cons_zero, List.getElem_cons_succ]
      refine wpAnyH_take (i := 14) (v := ?_) rfl (by kernel_rfl) (by kernel_rfl) (by kernel_rfl) (fun _ _ _ h => h) (Or.inl ⟨by rfl, ?_⟩) (by assumption) ?_
      rotate_left
      · intro w hSw; go_split_ands; go_simp; try with_reducible rfl
      simp only [Act.put, List.setIfInBounds_toArray, List.set_cons_zero, List.set_cons_succ, List.getElem_toArray, List.getElem_cons_zero, List.getElem_cons_succ]
      refine wpAnyH_take (i := 15) (v := ?_) rfl (by kernel_rfl) (by kernel_rfl) (by kernel_rfl) (fun _ _ _ h => h) (Or.inl ⟨by rfl, ?_⟩) (by assumption) ?_
      rotate_left
      · intro w hSw; go_split_ands; go_simp; try with_reducible rfl
      simp only [Act.put, List.setIfInBounds_toArray, List.set_cons_zero, List.set_cons_succ, List.getElem_toArray, List.getElem_cons_zero, List.getElem_cons_succ]
      refine wpAnyH_take (i := 16) (v := ?_) rfl (by kernel_rfl) (by kernel_rfl) (by kernel_rfl) (fun _ _ _ h => h) (Or.inl ⟨by rfl, ?_⟩) (by assumption) ?_
      rotate_left
      · intro w hSw; go_split_ands; go_simp; try with_reducible rfl
      simp only [Act.put, List.setIfInBounds_toArray, List.set_cons_zero, List.set_cons_succ, List.getElem_toArray, List.getElem_cons_zero, List.getElem_cons_succ]
      refine wpAnyH_take (i := 17) (v := ?_) rfl (by kernel_rfl) (by kernel_rfl) (by kernel_rfl) (fun _ _ _ h => h) (Or.inl ⟨by rfl, ?_⟩) (by assumption) ?_
      rotate_left
      · intro w hSw; go_split_ands; go_simp; try with_reducible rfl
      simp only [Act.put, List.setIfInBounds_toArray, List.set_cons_zero, List.set_cons_succ, List.getElem_toArray, List.getElem_cons_zero, List.getElem_cons_succ]
      refine wpAnyH_take (i := 18) (v := ?_) rfl (by kernel_rfl) (by kernel_rfl) (by kernel_rfl) (fun _ _ _ h => h) (Or.inl ⟨by rfl, ?_⟩) (by assumption) ?_
      rotate_left
      · intro w hSw; go_split_ands; go_simp; try with_reducible rfl
      simp only [Act.put, List.setIfInBounds_toArray, List.set_cons_zero, List.set_cons_succ, List.getElem_toArray, List.getElem_cons_zero, List.getElem_cons_succ]
      refine wpAnyH_ready (rs := [8]) (by kernel_rfl) (by simp) ?_
      refine AllReadyH.cons rfl (fun K hK => ?_) AllReadyH.nil
      go_simp
      refine (KC.free (r := fr) (HS6.out.on zb) HFR.out).mono ?_
      rintro e w8 ⟨rfl, hb⟩
      have zc := below_on zb hb
      refine hK.out _ _ ⟨(zc.cell (p := ⟨g, 0, none⟩) glt).trans g0, (zc.cell (p := ⟨g, 1, none⟩) glt).trans g1, (zc.cell (p := ⟨g, 2, none⟩) glt).trans g2, (zc.cell (p := ⟨h, 0, none⟩) lt).trans b0, (zc.cell (p := ⟨h, 1, none⟩) lt).trans b1, (zc.cell (p := ⟨h, 2, none⟩) lt).trans b2, (zc.cell (p := ⟨h, 3, none⟩) lt).trans c3, (zc.cell (p := ⟨h, 4, none⟩) lt).trans c4, zc⟩ (fun hHeld => ?_)
      clear hK K
      try simp only [Act.put, List.setIfInBounds_toArray, List.set_cons_zero, List.set_cons_succ]
      refine wpAnyH_take (i := 12) (v := ?_) rfl (by kernel_rfl) (by kernel_rfl) (by kernel_rfl) (fun _ _ _ h => h) (Or.inl ⟨by rfl, ?_⟩) (by assumption) ?_
      rotate_left
      · intro w hSw; go_split_ands; go_simp; try with_reducible rfl
      simp only [Act.put, List.setIfInBounds_toArray, List.set_cons_zero, List.set_cons_succ, List.getElem_toArray, List.getElem_cons_zero, List.getElem_cons_succ]
      refine wpAnyH_take (i := 19) (v := ?_) rfl (by kernel_rfl) (by kernel_rfl) (by kernel_rfl) (fun _ _ _ h => h) (Or.inl ⟨by rfl, ?_⟩) (by assumption) ?_
      rotate_left
      · intro w hSw; go_split_ands; go_simp; try with_reducible rfl
      simp only [Act.put, List.setIfInBounds_toArray, List.set_cons_zero, List.set_cons_succ, List.getElem_toArray, List.getElem_cons_zero, List.getElem_cons_succ]
      refine wpAnyH_take (i := 20) (v := ?_) rfl (by kernel_rfl) (by kernel_rfl) (by kernel_rfl) (fun _ _ _ h => h) (Or.inl ⟨by rfl, ?_⟩) (by assumption) ?_
      rotate_left
      · intro w hSw; go_split_ands; go_simp; try with_reducible rfl
      simp only [Act.put, List.setIfInBounds_toArray, List.set_cons_zero, List.set_cons_succ, List.getElem_toArray, List.getElem_cons_zero, List.getElem_cons_succ]
      refine wpAnyH_take (i := 21) (v := ?_) rfl (by kernel_rfl) (by kernel_rfl) (by kernel_rfl) (fun _ _ _ h => h) (Or.inl ⟨by rfl, ?_⟩) (by assumption) ?_
      rotate_left
      · intro w hSw; go_split_ands; go_simp; try with_reducible rfl
      simp only [Act.put, List.setIfInBounds_toArray, List.set_cons_zero, List.set_cons_succ, List.getElem_toArray, List.getElem_cons_zero, List.getElem_cons_succ]
      refine wpAnyH_done (by kernel_rfl) ?_ _
      have HO9 := Lib.hid (below_on HO6.out zc)
      clear zb zc g0 g1 g2 glt b0 b1 b2 c3 c4 lt
      rw [hz] at *
      go_wp2
      go_ret
      exact ⟨by simp, HO9.out⟩
end Go.Proofs.Ytloemadjiombhaa
