/-
  The walk of the law ForestCuts. Conditions: the places lie in memory; what the program's calls answer is as Con tells.
-/
import Derived.Test.YtigljoafmefbnaaEu
import Derived.Test.YtigljoafmefbnaaEt
import Derived.Test.YtigljoafmefbnaaEe
import Derived.Deep.QuietTactic
import Derived.BigQuiet
namespace Go.Proofs.Ytigljoafmefbnaa
open Go.RowKit

set_option maxRecDepth 4000 in
set_option maxHeartbeats 40000000 in
theorem cuts_walk (K : Con) (A : Option Addr) (cap : Nat) (l : List Int) (i : Int) (w : World) (hc : l.length ≤ cap) (hL : IntsAt w w.heap.size A l) :
    Calls Try.prog 6 #[.slice A l.length cap, .int .i64 i] w fun e w' => e = .returned (.bool true) ∧ Below w.heap.size w w' := by
  obtain ⟨n, hn⟩ : ∃ n, n = l.length := ⟨_, rfl⟩
  rw [← hn] at hc ⊢
  have HN := Lib.hid hn
  have HL := Lib.hid hL
  have HCP := Lib.hid hc
  clear hn hL hc
  go_enter Try.func6, Try.ntmps6
  go_wp2_with fail
  refine (awake_any K w).mono ?_
  rintro e w1 ⟨rfl, hb1⟩
  have HO := Lib.hid hb1
  have hL1 := HL.out.on hb1
  clear hb1 HL
  have HL := Lib.hid hL1
  clear hL1
  go_wp2_with fail
  refine (up_is _ _ _ w1).mono ?_
  rintro e v1 ⟨rfl, hb⟩
  replace HO := Lib.hid (below_on HO.out hb)
  replace HL := Lib.hid (HL.out.on hb)
  clear hb
  by_cases h96 : 96 < n
  · have h96' : (96 : Int) < (n : Int) := by omega
    have h96d : decide ((96 : Int) < (n : Int)) = true := decide_eq_true h96'
    have hk := below_alloc v1 (.cells #[.slice A n cap] 25)
    go_wp2
    go_ret
    exact ⟨rfl, below_on HO.out hk⟩
  have h96' : ¬ (96 : Int) < (n : Int) := by omega
  have h96d : decide ((96 : Int) < (n : Int)) = false := decide_eq_false h96'
  have H6 : Hid (n ≤ 1000000) := Lib.hid (by omega)
  clear h96
  have hx := Fbx.new v1 (.slice A n cap) 25
  have hk := below_alloc v1 (.cells #[.slice A n cap] 25)
  have c_FX := hx.c
  go_wp2_with fail
  clear c_FX
  obtain ⟨FXP, hP⟩ : ∃ P, P = v1.heap.size := ⟨_, rfl⟩
  rw [← hP] at hx ⊢
  clear hP
  generalize v1.alloc (.cells #[.slice A n cap] 25) = v2 at hx hk ⊢
  replace HO := Lib.hid (below_on HO.out hk)
  replace HL := Lib.hid (HL.out.on hk)
  clear hk
  have FX := Lib.hid hx
  clear hx
  clear h96' h96d
  rcases hg : fgood l with _ | _
  · refine (K.good (w := v2) HN.out HCP.out H6.out HL.out hg).mono ?_
    rintro e v3 ⟨rfl, hb⟩
    have HB := Lib.hid (below_on HO.out hb)
    clear hb hg
    go_wp2
    go_ret
    exact ⟨rfl, HB.out⟩
  refine (K.good (w := v2) HN.out HCP.out H6.out HL.out hg).mono ?_
  rintro e v3 ⟨rfl, hb⟩
  replace HO := Lib.hid (below_on HO.out hb)
  replace HL := Lib.hid (HL.out.on hb)
  replace FX := Lib.hid (FX.out.on hb)
  clear hb hg
  have c_FX := FX.out.c
  go_wp2_with fail
  clear c_FX
  rcases ht : there l i with _ | _
  · refine (K.depth (w := v3) HN.out HCP.out H6.out HL.out (d := -1) (by rw [fdepth, ht]; rfl)).mono ?_
    rintro e v4 ⟨rfl, hb⟩
    have HB := Lib.hid (below_on HO.out hb)
    clear hb ht
    go_wp2
    go_ret
    exact ⟨rfl, HB.out⟩
  obtain ⟨d, hd⟩ : ∃ d : Nat, fdepth l i = d := ⟨dep l i.toNat, by rw [fdepth, if_pos ht]⟩
  obtain ⟨a, p, q, rfl, hcut⟩ := cutting ht
  have HQ := Lib.hid hcut
  refine (K.depth (w := v3) HN.out HCP.out H6.out HL.out hd).mono ?_
  rintro e v4 ⟨rfl, hb⟩
  replace HO := Lib.hid (below_on HO.out hb)
  replace HL := Lib.hid (HL.out.on hb)
  replace FX := Lib.hid (FX.out.on hb)
  clear hb ht hd hcut
  have d0 : ¬ (d : Int) < 0 := by omega
  have c_FX := FX.out.c
  go_wp2_with fail
  clear c_FX
  clear d0
  obtain ⟨nb, hnb⟩ : ∃ nb, nb = (fbelow l a).length := ⟨_, rfl⟩
  have HNB := Lib.hid hnb
  clear hnb
  refine (K.below (w := v4) HN.out HCP.out H6.out HL.out rfl).mono ?_
  intro e v5 hg
  obtain ⟨Bb, Bc, rfl, hcb, hi, hb⟩ := hg.to HNB.out
  have BI := Lib.hid hi
  clear hi hcb
  replace HO := Lib.hid (below_on HO.out hb)
  replace HL := Lib.hid (HL.out.on hb)
  replace FX := Lib.hid (FX.out.on hb)
  clear hb
  have HPN : Hid (n = p.length) := Lib.hid (by rw [HQ.out.plen]; exact HN.out)
  have HDN : Hid (n = q.length) := Lib.hid (by rw [HQ.out.dlen]; exact HN.out)
  have c_FX := FX.out.c
  go_wp2_with fail
  clear c_FX
  refine (K.prune (w := v5) HN.out HCP.out H6.out HL.out HQ.out.prune).mono ?_
  intro e v6 hg
  obtain ⟨Pb, Pc, rfl, hcb, hi, hb⟩ := hg.yes HPN.out
  have PI := Lib.hid hi
  have PC := Lib.hid hcb
  clear hi hcb
  replace HO := Lib.hid (below_on HO.out hb)
  replace HL := Lib.hid (HL.out.on hb)
  replace FX := Lib.hid (FX.out.on hb)
  replace BI := Lib.hid (BI.out.on hb)
  clear hb
  have hx := Fbx.new v6 (.slice Pb n Pc) 25
  have hk := below_alloc v6 (.cells #[.slice Pb n Pc] 25)
  have c_FX := (FX.out.on hk).c
  go_wp2_with fail
  clear c_FX
  obtain ⟨PXP, hP⟩ : ∃ P, P = v6.heap.size := ⟨_, rfl⟩
  rw [← hP] at hx ⊢
  clear hP
  generalize v6.alloc (.cells #[.slice Pb n Pc] 25) = v7 at hx hk ⊢
  replace HO := Lib.hid (below_on HO.out hk)
  replace HL := Lib.hid (HL.out.on hk)
  replace FX := Lib.hid (FX.out.on hk)
  replace BI := Lib.hid (BI.out.on hk)
  replace PI := Lib.hid (PI.out.on hk)
  clear hk
  have PX := Lib.hid hx
  clear hx
  refine (K.drop (w := v7) HN.out HCP.out H6.out HL.out HQ.out.drop).mono ?_
  intro e v8 hg
  obtain ⟨Db, Dc, rfl, hcb, hi, hb⟩ := hg.yes HDN.out
  have DI := Lib.hid hi
  have DC := Lib.hid hcb
  clear hi hcb
  replace HO := Lib.hid (below_on HO.out hb)
  replace HL := Lib.hid (HL.out.on hb)
  replace FX := Lib.hid (FX.out.on hb)
  replace BI := Lib.hid (BI.out.on hb)
  replace PI := Lib.hid (PI.out.on hb)
  replace PX := Lib.hid (PX.out.on hb)
  clear hb
  have hx := Fbx.new v8 (.slice Db n Dc) 25
  have hk := below_alloc v8 (.cells #[.slice Db n Dc] 25)
  have c_PX := (PX.out.on hk).c
  go_wp2_with fail
  clear c_PX
  obtain ⟨DXP, hP⟩ : ∃ P, P = v8.heap.size := ⟨_, rfl⟩
  rw [← hP] at hx ⊢
  clear hP
  generalize v8.alloc (.cells #[.slice Db n Dc] 25) = v9 at hx hk ⊢
  replace HO := Lib.hid (below_on HO.out hk)
  replace HL := Lib.hid (HL.out.on hk)
  replace FX := Lib.hid (FX.out.on hk)
  replace BI := Lib.hid (BI.out.on hk)
  replace PI := Lib.hid (PI.out.on hk)
  replace PX := Lib.hid (PX.out.on hk)
  replace DI := Lib.hid (DI.out.on hk)
  clear hk
  have DX := Lib.hid hx
  clear hx
  refine (K.good (w := v9) HPN.out PC.out H6.out PI.out HQ.out.pgood).mono ?_
  rintro e v10 ⟨rfl, hb⟩
  replace HO := Lib.hid (below_on HO.out hb)
  replace HL := Lib.hid (HL.out.on hb)
  replace FX := Lib.hid (FX.out.on hb)
  replace BI := Lib.hid (BI.out.on hb)
  replace PI := Lib.hid (PI.out.on hb)
  replace PX := Lib.hid (PX.out.on hb)
  replace DI := Lib.hid (DI.out.on hb)
  replace DX := Lib.hid (DX.out.on hb)
  clear hb
  have c_DX := DX.out.c
  go_wp2_with fail
  clear c_DX
  refine (K.good (w := v10) HDN.out DC.out H6.out DI.out HQ.out.dgood).mono ?_
  rintro e v11 ⟨rfl, hb⟩
  replace HO := Lib.hid (below_on HO.out hb)
  replace HL := Lib.hid (HL.out.on hb)
  replace FX := Lib.hid (FX.out.on hb)
  replace BI := Lib.hid (BI.out.on hb)
  replace PI := Lib.hid (PI.out.on hb)
  replace PX := Lib.hid (PX.out.on hb)
  replace DI := Lib.hid (DI.out.on hb)
  replace DX := Lib.hid (DX.out.on hb)
  clear hb
  have c_PX := PX.out.c
  go_wp2_with fail
  clear c_PX
  refine (K.below (w := v11) HPN.out PC.out H6.out PI.out HQ.out.pbelow).mono ?_
  intro e v12 hg
  obtain ⟨C, cc, rfl, hcb, hi, hb⟩ := hg.to (n := 0) rfl
  clear hcb hi
  replace HO := Lib.hid (below_on HO.out hb)
  replace HL := Lib.hid (HL.out.on hb)
  replace FX := Lib.hid (FX.out.on hb)
  replace BI := Lib.hid (BI.out.on hb)
  replace PI := Lib.hid (PI.out.on hb)
  replace PX := Lib.hid (PX.out.on hb)
  replace DI := Lib.hid (DI.out.on hb)
  replace DX := Lib.hid (DX.out.on hb)
  clear hb FX
  have c_PX := PX.out.c
  have c_DX := DX.out.c
  obtain ⟨zs, hzs, hz, hzn, hzl⟩ := zero44_is
  have hk := below_alloc v12 (.cells zs 44)
  have hu := Sn.new v12 zs 44 hzs
  clear hzs
  go_wp2_with fail
  clear c_PX c_DX
  obtain ⟨ZP, hP⟩ : ∃ P, P = v12.heap.size := ⟨_, rfl⟩
  rw [← hP] at hu ⊢
  clear hP
  generalize v12.alloc (.cells zs 44) = v13 at hk hu ⊢
  have HU := Lib.hid hu
  clear hk hu hz hzn hzl
  go_loopg [12] nb (fun kk p wx => RD v12 ZP (belowN l a) nb kk p wx)
  case atStart => exact ⟨0, by omega, rfl, HU.out.same fun x _ => by simp⟩
  case round =>
    obtain ⟨t, hk, rfl, hu⟩ := hrel
    have HK := Lib.hid hk
    replace HU := Lib.hid hu
    clear hk hu
    by_cases hlt : t < nb
    · have HLT := Lib.hid hlt
      have hlt2 : (t : Int) < (nb : Int) := by omega
      obtain ⟨x, h1, h2, h6⟩ := HQ.out.bfew t (by rw [← HNB.out]; exact hlt)
      rw [← HN.out] at h2
      have H9 := HQ.out.few
      rw [← HN.out] at H9
      obtain ⟨b, o, rfl, hblk, hc⟩ := BI.out (by rw [← HNB.out]; omega)
      have c1 : wr.cell? ⟨b, o + t, none⟩ = some (.int .i64 (x : Int)) := by rw [HU.out.old.cell (p := ⟨b, _, none⟩) hblk]; exact hc t x h1
      have c3 := HU.out.cell x (by omega)
      have f3 := HU.out.free x
      have n1 : ¬ (x : Int) < 0 := by omega
      have n2 : ¬ (n : Int) ≤ (x : Int) := by omega
      have n3 : (x : Int) < 96 := by omega
      have n1d : decide ((x : Int) < 0) = false := decide_eq_false n1
      have n2d : decide ((n : Int) ≤ (x : Int)) = false := decide_eq_false n2
      have HE : Hid (∀ q, (decide (q ∈ (belowN l a).take t) || decide (q = x)) = decide (q ∈ (belowN l a).take (t + 1))) := Lib.hid fun q => by
        rw [h6, Bool.eq_iff_iff]; simp
      have HB6 : Hid (nb ≤ 96) := Lib.hid (by rw [HNB.out]; exact HQ.out.bmost)
      clear h1 h2 h6 hblk hc H9
      go_wp2
      go_roundg (nb - (t + 1))
      case measure => have := HK.out; have := HLT.out; omega
      case rel => exact ⟨t + 1, by have := HLT.out; omega, by refine congrArg _ ?_; have := HB6.out; have := HLT.out; unfold wrap64; omega, (HU.out.set x).same fun q _ => HE.out q⟩
    · have hlt2 : ¬ (t : Int) < (nb : Int) := by omega
      have htn : t = nb := by have := HK.out; omega
      subst htn
      have hu := HU.out.same (v := fun x => decide (x ∈ belowN l a)) fun x _ => by rw [HNB.out, HQ.out.blen, List.take_length]
      have hold := HU.out.old
      replace HO := Lib.hid (below_on HO.out hold)
      replace HL := Lib.hid (HL.out.on hold)
      replace PI := Lib.hid (PI.out.on hold)
      replace DI := Lib.hid (DI.out.on hold)
      replace PX := Lib.hid (PX.out.on hold)
      replace DX := Lib.hid (DX.out.on hold)
      replace HU := Lib.hid hu
      clear hu hold hlt HK BI
      go_wp2_with fail
      go_loopg [13] n (fun kk p wx => KRel wr n kk p wx)
      case atStart => exact ⟨0, by omega, rfl, below_self _⟩
      case round =>
        obtain ⟨t, hk, rfl, hb⟩ := hrel
        have HK := Lib.hid hk
        have HB := Lib.hid hb
        clear hk hb
        have H9 := HQ.out.few
        rw [← HN.out] at H9
        have hat := HQ.out.lt
        rw [← HN.out] at hat
        obtain ⟨b1, o1, rfl, hk1, hc1⟩ := at_open HL.out (by rw [← HN.out]; omega)
        obtain ⟨b2, o2, rfl, hk2, hc2⟩ := at_open PI.out (by rw [← HPN.out]; omega)
        obtain ⟨b3, o3, rfl, hk3, hc3⟩ := at_open DI.out (by rw [← HDN.out]; omega)
        have e0 := (PX.out.on HB.out).c
        have e1 := (DX.out.on HB.out).c
        by_cases hlt : t < n
        · have HLT := Lib.hid hlt
          have hlt2 : (t : Int) < (n : Int) := by omega
          have n3 : (t : Int) < 96 := by omega
          have n4 : (a : Int) < (n : Int) := by omega
          have c0 := (HU.out.on HB.out).cell t (by omega)
          have c1 : wr.cell? ⟨b1, o1 + t, none⟩ = some (.int .i64 (fu l t)) := by rw [HB.out.cell (p := ⟨b1, _, none⟩) hk1]; exact hc1 t (by rw [← HN.out]; exact hlt)
          have c4 : wr.cell? ⟨b1, o1 + a, none⟩ = some (.int .i64 (fu l a)) := by rw [HB.out.cell (p := ⟨b1, _, none⟩) hk1]; exact hc1 a (by rw [← HN.out]; exact hat)
          have c2 : wr.cell? ⟨b2, o2 + t, none⟩ = some (.int .i64 (fu p t)) := by rw [HB.out.cell (p := ⟨b2, _, none⟩) hk2]; exact hc2 t (by rw [← HPN.out]; exact hlt)
          have c3 : wr.cell? ⟨b3, o3 + t, none⟩ = some (.int .i64 (fu q t)) := by rw [HB.out.cell (p := ⟨b3, _, none⟩) hk3]; exact hc3 t (by rw [← HDN.out]; exact hlt)
          clear hk1 hc1 hk2 hc2 hk3 hc3
          obtain ⟨y, hy⟩ : ∃ y, fu l t = y := ⟨_, rfl⟩
          obtain ⟨z, hz⟩ : ∃ z, fu l a = z := ⟨_, rfl⟩
          by_cases hin : t ∈ belowN l a
          · rw [decide_eq_true hin] at c0
            rw [HQ.out.pin t hin] at c2
            by_cases hta : t = a
            · subst hta
              have hyz : y = z := by rw [← hy, ← hz]
              subst hyz
              have hya : ¬ y = (t : Int) := fun e => HQ.out.self t (hy.trans e) rfl
              rw [HQ.out.dself] at c3
              rw [hy] at c4
              try rw [hy] at c1
              have g1 : ((t : Int) == (t : Int)) = true := by simp
              have g2 : (y == (t : Int)) = false := beq_eq_false_iff_ne.2 hya
              clear hy hz H9 hat hin
              go_wp2_with fail
              go_big_quiet (fail)
              go_wp2
              go_roundg (n - (t + 1))
              case measure => have := HK.out; have := HLT.out; omega
              case rel => exact ⟨t + 1, by have := HLT.out; omega, by first | go_num | (refine congrArg _ ?_; have := HQ.out.few; rw [← HN.out] at this; have := HLT.out; unfold wrap64; omega), below_draws HB.out _⟩
            by_cases hya : y = (a : Int)
            · rw [HQ.out.dkid t (hy.trans hya), hz] at c3
              rw [hz] at c4
              try rw [hy, hya] at c1
              try rw [hya] at c2
              have hta2 : ¬ (t : Int) = (a : Int) := by omega
              have g1 : ((t : Int) == (a : Int)) = false := beq_eq_false_iff_ne.2 hta2
              have g5 : ((t : Int) != (a : Int)) = true := by rw [bne, g1]; rfl
              have g6 : (t == a) = false := beq_eq_false_iff_ne.2 hta
              have g7 : decide (t = a) = false := decide_eq_false hta
              have g8 : (!decide (t = a)) = true := by rw [g7]; rfl
              have g2 : ((a : Int) == (a : Int)) = true := by simp
              have g3 : (z == z) = true := by simp
              subst hya
              clear hy hz H9 hat hin
              go_wp2_with fail
              go_big_quiet (fail)
              go_wp2
              go_roundg (n - (t + 1))
              case measure => have := HK.out; have := HLT.out; omega
              case rel => exact ⟨t + 1, by have := HLT.out; omega, by first | go_num | (refine congrArg _ ?_; have := HQ.out.few; rw [← HN.out] at this; have := HLT.out; unfold wrap64; omega), below_draws HB.out _⟩
            · rw [HQ.out.delse t hta (fun e => hya (hy.symm.trans e)), hy] at c3
              rw [hz] at c4
              try rw [hy] at c1
              have hta2 : ¬ (t : Int) = (a : Int) := by omega
              have g1 : ((t : Int) == (a : Int)) = false := beq_eq_false_iff_ne.2 hta2
              have g5 : ((t : Int) != (a : Int)) = true := by rw [bne, g1]; rfl
              have g6 : (t == a) = false := beq_eq_false_iff_ne.2 hta
              have g7 : decide (t = a) = false := decide_eq_false hta
              have g8 : (!decide (t = a)) = true := by rw [g7]; rfl
              have g2 : (y == (a : Int)) = false := beq_eq_false_iff_ne.2 hya
              have g9 : (y != (a : Int)) = true := by rw [bne, g2]; rfl
              have g10 : decide (y = (a : Int)) = false := decide_eq_false hya
              have g11 : (!decide (y = (a : Int))) = true := by rw [g10]; rfl
              have g3 : (y == y) = true := by simp
              clear hy hz H9 hat hin
              go_wp2_with fail
              go_big_quiet (fail)
              go_wp2
              go_roundg (n - (t + 1))
              case measure => have := HK.out; have := HLT.out; omega
              case rel => exact ⟨t + 1, by have := HLT.out; omega, by first | go_num | (refine congrArg _ ?_; have := HQ.out.few; rw [← HN.out] at this; have := HLT.out; unfold wrap64; omega), below_draws HB.out _⟩
          · rw [decide_eq_false hin] at c0
            rw [HQ.out.pout t (by rw [← HN.out]; exact hlt) hin, hy] at c2
            have g4 : (y == y) = true := by simp
            by_cases hta : t = a
            · subst hta
              have hyz : y = z := by rw [← hy, ← hz]
              subst hyz
              have hya : ¬ y = (t : Int) := fun e => HQ.out.self t (hy.trans e) rfl
              rw [HQ.out.dself] at c3
              rw [hy] at c4
              try rw [hy] at c1
              have g1 : ((t : Int) == (t : Int)) = true := by simp
              have g2 : (y == (t : Int)) = false := beq_eq_false_iff_ne.2 hya
              clear hy hz H9 hat hin
              go_wp2_with fail
              go_big_quiet (fail)
              go_wp2
              go_roundg (n - (t + 1))
              case measure => have := HK.out; have := HLT.out; omega
              case rel => exact ⟨t + 1, by have := HLT.out; omega, by first | go_num | (refine congrArg _ ?_; have := HQ.out.few; rw [← HN.out] at this; have := HLT.out; unfold wrap64; omega), below_draws HB.out _⟩
            by_cases hya : y = (a : Int)
            · rw [HQ.out.dkid t (hy.trans hya), hz] at c3
              rw [hz] at c4
              try rw [hy, hya] at c1
              try rw [hya] at c2
              have hta2 : ¬ (t : Int) = (a : Int) := by omega
              have g1 : ((t : Int) == (a : Int)) = false := beq_eq_false_iff_ne.2 hta2
              have g5 : ((t : Int) != (a : Int)) = true := by rw [bne, g1]; rfl
              have g6 : (t == a) = false := beq_eq_false_iff_ne.2 hta
              have g7 : decide (t = a) = false := decide_eq_false hta
              have g8 : (!decide (t = a)) = true := by rw [g7]; rfl
              have g2 : ((a : Int) == (a : Int)) = true := by simp
              have g3 : (z == z) = true := by simp
              subst hya
              clear hy hz H9 hat hin
              go_wp2_with fail
              go_big_quiet (fail)
              go_wp2
              go_roundg (n - (t + 1))
              case measure => have := HK.out; have := HLT.out; omega
              case rel => exact ⟨t + 1, by have := HLT.out; omega, by first | go_num | (refine congrArg _ ?_; have := HQ.out.few; rw [← HN.out] at this; have := HLT.out; unfold wrap64; omega), below_draws HB.out _⟩
            · rw [HQ.out.delse t hta (fun e => hya (hy.symm.trans e)), hy] at c3
              rw [hz] at c4
              try rw [hy] at c1
              have hta2 : ¬ (t : Int) = (a : Int) := by omega
              have g1 : ((t : Int) == (a : Int)) = false := beq_eq_false_iff_ne.2 hta2
              have g5 : ((t : Int) != (a : Int)) = true := by rw [bne, g1]; rfl
              have g6 : (t == a) = false := beq_eq_false_iff_ne.2 hta
              have g7 : decide (t = a) = false := decide_eq_false hta
              have g8 : (!decide (t = a)) = true := by rw [g7]; rfl
              have g2 : (y == (a : Int)) = false := beq_eq_false_iff_ne.2 hya
              have g9 : (y != (a : Int)) = true := by rw [bne, g2]; rfl
              have g10 : decide (y = (a : Int)) = false := decide_eq_false hya
              have g11 : (!decide (y = (a : Int))) = true := by rw [g10]; rfl
              have g3 : (y == y) = true := by simp
              clear hy hz H9 hat hin
              go_wp2_with fail
              go_big_quiet (fail)
              go_wp2
              go_roundg (n - (t + 1))
              case measure => have := HK.out; have := HLT.out; omega
              case rel => exact ⟨t + 1, by have := HLT.out; omega, by first | go_num | (refine congrArg _ ?_; have := HQ.out.few; rw [← HN.out] at this; have := HLT.out; unfold wrap64; omega), below_draws HB.out _⟩
        · have hlt2 : ¬ (t : Int) < (n : Int) := by omega
          have n4 : (a : Int) < (n : Int) := by omega
          have c3 : wr.cell? ⟨b3, o3 + a, none⟩ = some (.int .i64 (-2)) := by rw [HB.out.cell (p := ⟨b3, _, none⟩) hk3, ← HQ.out.dself]; exact hc3 a (by rw [← HDN.out]; exact hat)
          clear hk1 hc1 hk2 hc2 hk3 hc3 H9 hat hlt
          go_wp2
          go_ret
          exact ⟨rfl, below_on HO.out HB.out⟩
end Go.Proofs.Ytigljoafmefbnaa
