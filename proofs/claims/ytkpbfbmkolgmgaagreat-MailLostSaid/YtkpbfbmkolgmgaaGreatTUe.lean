/-
  The walks of take's toEmpty, Empty and Do. Condition: the state and the call's way lie in memory; Empty's state may be.
-/
import Derived.Test.YtkpbfbmkolgmgaaGreatTUd
import Derived.Test.YtkpbfbmkolgmgaaGreatTDb
namespace Go.Proofs.YtkpbfbmkolgmgaaGreat
open Go.RowKit
set_option linter.unusedSimpArgs false
set_option linter.unusedVariables false

theorem Wbs.fn2 {W w w' : World} {g P Q : Nat} {cs : List Value} (h : Wbs W w g cs) (f : Fn2 w w' P Q) (h1 : g ≠ P) (h2 : g ≠ Q) (hb : Below W.heap.size W w') : Wbs W w' g cs :=
  ⟨⟨fun k u hk => (f.cell h.bx.lt h1 h2).trans (h.bx.c k u hk), hb, h.bx.base, Nat.lt_of_lt_of_le h.bx.lt f.size⟩, fun j => (f.frozen h.bx.lt h1 h2).trans (h.free j)⟩

set_option maxRecDepth 100000 in
set_option maxHeartbeats 4000000 in
theorem toempty_is {s : St} {a b c : Int} {A C : Option Addr} {n ca m cc : Nat} {k op : Int} {L : List Int} {w : World} (hS : StH w s a b c A n ca C m cc) (hr : tslots s k op = L) :
    Calls Tryz.prog 79 #[.agg #[.int .i64 a, .int .i64 b, .int .i64 c, .slice A n ca, .slice C m cc], .int .i64 k, .int .i64 op] w fun e w' => ListF w w' e L := by
  have k1 := Sbx.new w a b c A n ca C m cc 27
  have HS := Lib.hid hS
  have few := hS.few
  have HN := Lib.hid hS.hn
  have HR := Lib.hid hr
  clear hS hr
  go_enter Tryz.func79, Tryz.ntmps79
  go_upto_region 1 with fail
  obtain ⟨g, hg⟩ : ∃ g, g = w.heap.size := ⟨_, rfl⟩
  rw [← hg] at k1 ⊢
  clear hg
  generalize w.alloc _ = w0 at k1 ⊢
  have HK := Lib.hid k1
  clear k1
  by_cases h6 : op = 6
  · subst h6
    have HX : Hid (L = fbelow (upsOf s.sl) k) := Lib.hid (by rw [← HR.out, tslots, if_pos rfl])
    obtain ⟨b0, b1, b2, c3, c4, -, -, lt⟩ := HK.out
    go_wp2_with fail
    refine (pforest_is (HS.out.on HK.out.old) rfl).mono ?_
    rintro e w1 ⟨B, cb, rfl, hcb, hI, hb⟩
    have HK1 := Lib.hid (HK.out.on hb)
    have hl : (upsOf s.sl).length = n := by rw [upsOf_length, HN.out]
    rw [hl] at hcb ⊢
    have HI := Lib.hid hI
    have HL := Lib.hid hl
    clear hb hI hcb hl b0 b1 b2 c3 c4 lt HK
    go_wp2_with fail
    refine (pbelow_is HL.out.symm (by omega) HI.out HX.out.symm).mono ?_
    rintro e w2 ⟨D, cd, rfl, hcd, hD, hb⟩
    have HD := Lib.hid hD
    have HB2 := Lib.hid (HK1.out.on hb).old
    have HCD := Lib.hid hcd
    clear hb hD hcd
    go_wp2
    go_ret
    exact ⟨D, cd, rfl, HCD.out, HD.out, HB2.out⟩
  · have h6' : (op == 6) = false := by rw [beq_eq_false_iff_ne]; exact h6
    have HX : Hid (L = [k]) := Lib.hid (by rw [← HR.out, tslots, if_neg h6])
    have hI := one_at w0 k
    have hal := below_alloc w0 (.cells #[.int .i64 k] 3)
    have HB2 := Lib.hid (HK.out.on hal).old
    have HI := Lib.hid hI
    clear h6 hal hI
    go_wp2
    go_ret
    rw [HX.out]
    exact ⟨_, 1, rfl, Nat.le_refl _, HI.out, HB2.out⟩

def EeRel (w : World) (g4 g6 : Nat) (ZS BS : List Value) (s : St) (l : List Int) (P Q q : Nat) (d : Nat) (p v : Value) (wr : World) : Prop :=
  ∃ i : Nat, d + i = q ∧ p = .int .i64 ((runE eAt (l.take i) s).2 : Int) ∧ v = .int .i64 i ∧ Ost w wr (runE eAt (l.take i) s).1 P Q ∧ Wbs w wr g4 ZS ∧ Bq wr g6 BS
set_option maxRecDepth 100000 in
set_option maxHeartbeats 4000000 in
theorem tempty_is {s : St} {a b c : Int} {A C B : Option Addr} {n ca m cc q cap : Nat} {l : List Int} {w : World} (hS : StH w s a b c A n ca C m cc) (hG : sgood s = true) (hq : q = l.length) (hcap : q ≤ cap) (hq6 : q ≤ 1000000) (hL : IntsAt w w.heap.size B l) :
    Calls Tryz.prog 78 #[.agg #[.int .i64 a, .int .i64 b, .int .i64 c, .slice A n ca, .slice C m cc], .slice B q cap] w fun e w' => ∃ P cp Q cq, e = .returned (.tuple #[.agg #[.int .i64 a, .int .i64 b, .int .i64 c, .slice (some ⟨P, 0, none⟩) n cp, .slice (some ⟨Q, 0, none⟩) m cq], .int .i64 ((empAll s l).2 : Int)]) ∧ n ≤ cp ∧ m ≤ cq ∧ Ost w w' (empAll s l).1 P Q := by
  obtain ⟨k1, k2⟩ := boxes2 w [.int .i64 a, .int .i64 b, .int .i64 c, .slice A n ca, .slice C m cc] [.int .i64 0, .int .i64 0, .int .i64 0, .slice none 0 0, .slice none 0 0] 27 27
  obtain ⟨g4, hg4⟩ : ∃ g4, g4 = w.heap.size + 1 := ⟨_, rfl⟩
  have G := sgood_iff.1 hG
  have hfew := G.few
  have HEA : Hid (empAll s l = runE eAt l s) := Lib.hid (by rw [empAll, if_pos hG])
  have HG := Lib.hid hG
  have HLV := Lib.hid (Liv.of G)
  have HFW : Hid (n ≤ 96 ∧ m ≤ 48) := Lib.hid ⟨by rw [hS.hn]; exact hfew.1, by rw [hS.hm]; exact hfew.2⟩
  have HPOS : Hid (0 < s.sl.length ∧ 0 < s.th.length) := Lib.hid (by
    have h := Gd.ok_iff.1 G.ok
    have e := G.lens
    omega)
  have HS := Lib.hid hS
  have HN := Lib.hid hS.hn
  have HM := Lib.hid hS.hm
  have HQL := Lib.hid hq
  have HQ6 := Lib.hid hq6
  have HL := Lib.hid hL
  rw [HEA.out]
  clear hS hG G hfew hq hcap hL hq6
  go_enter Tryz.func78, Tryz.ntmps78
  go_upto_region 1 with fail
  rw [← hg4] at k2 ⊢
  clear hg4
  generalize (w.alloc _).alloc _ = w2 at k1 k2 ⊢
  have K1 := Lib.hid k1
  have K2 := Lib.hid k2
  clear k1 k2
  have t0 := K1.out.bx.c 0 _ rfl
  have t1 := K1.out.bx.c 1 _ rfl
  have t2 := K1.out.bx.c 2 _ rfl
  have t3 := K1.out.bx.c 3 _ rfl
  have t4 := K1.out.bx.c 4 _ rfl
  go_wp2_with fail
  refine (sgood_is (HS.out.on K1.out.bx.old) HG.out).mono ?_
  rintro e w3 ⟨rfl, hb⟩
  replace K1 := Lib.hid (K1.out.on hb)
  replace K2 := Lib.hid (K2.out.on hb)
  clear hb t0 t1 t2 t3 t4
  have t0 := K1.out.bx.c 0 _ rfl
  have t1 := K1.out.bx.c 1 _ rfl
  have t2 := K1.out.bx.c 2 _ rfl
  have t3 := K1.out.bx.c 3 _ rfl
  have t4 := K1.out.bx.c 4 _ rfl
  go_wp2_with fail
  refine (pclone_is (HS.out.on K1.out.bx.old)).mono ?_
  rintro e w4 ⟨A2, cp, C2, cq, rfl, hcp, hcq, hF, hb⟩
  obtain ⟨P, Q, rfl, rfl, hO⟩ := hF.ost HPOS.out.1 HPOS.out.2 hb
  have HCP := Lib.hid hcp
  have HCQ := Lib.hid hcq
  have NE4 : Hid (g4 ≠ P ∧ g4 ≠ Q) := Lib.hid ⟨by have := hO.oP; have := K2.out.bx.lt; omega, by have := hO.oQ; have := K2.out.bx.lt; omega⟩
  replace hO := hO.base K1.out.bx.old
  replace K2 := Lib.hid (K2.out.on hb)
  clear hb hcp hcq hF t0 t1 t2 t3 t4 K1
  go_upto_region 4 with fail
  have N := Bq.new w4 [.int .i64 a, .int .i64 b, .int .i64 c, .slice (some ⟨P, 0, none⟩) n cp, .slice (some ⟨Q, 0, none⟩) m cq] 27
  have hal := below_alloc w4 (.cells #[.int .i64 a, .int .i64 b, .int .i64 c, .slice (some ⟨P, 0, none⟩) n cp, .slice (some ⟨Q, 0, none⟩) m cq] 27)
  have NE6 : Hid (w4.heap.size ≠ P ∧ w4.heap.size ≠ Q) := Lib.hid ⟨by have := hO.lP; omega, by have := hO.lQ; omega⟩
  replace K2 := Lib.hid (K2.out.on hal)
  replace hO := hO.on hal
  clear hal
  obtain ⟨g6, hg6⟩ : ∃ g6, g6 = w4.heap.size := ⟨_, rfl⟩
  rw [← hg6] at N NE6 ⊢
  clear hg6
  generalize w4.alloc _ = w5 at N K2 hO ⊢
  have HOW : Hid (OwH w w5 s a b c P n cp Q m cq) := Lib.hid ⟨hO, HS.out.hg, HN.out, HM.out, HFW.out.1, HFW.out.2, HCP.out, HCQ.out⟩
  have N6 := Lib.hid N
  clear N hO
  go_wp2_with fail
  go_loopg [7, 18] q (fun d p v wr => EeRel w g4 g6 [.int .i64 0, .int .i64 0, .int .i64 0, .slice none 0 0, .slice none 0 0] [.int .i64 a, .int .i64 b, .int .i64 c, .slice (some ⟨P, 0, none⟩) n cp, .slice (some ⟨Q, 0, none⟩) m cq] s l P Q q d p v wr)
  case atStart => exact ⟨0, by omega, rfl, rfl, HOW.out.o, K2.out, N6.out⟩
  case round =>
    clear K2 N6
    obtain ⟨i, hk, rfl, rfl, hO, hK, hN⟩ := hrel
    have HK := Lib.hid hk
    have E := runA_emd (l.take i) HLV.out
    obtain ⟨⟨s', mm⟩, hsx⟩ : ∃ r, runE eAt (l.take i) s = r := ⟨_, rfl⟩
    have HSX := Lib.hid hsx
    rw [hsx] at hO E ⊢
    simp only at hO E ⊢
    have ow := HOW.out.next hO E.g E.sl E.th
    have hful : fullN s'.sl ≤ 96 ∧ mm ≤ 96 := by
      have h1 := E.num
      have h3 := fullN_le s.sl
      have h4 := HN.out
      have h5 := HFW.out.1
      simp only at h1
      omega
    have OW := Lib.hid ow
    have HE := Lib.hid E
    have HFL := Lib.hid hful
    have K2 := Lib.hid hK
    have N6 := Lib.hid hN
    clear hk hO hK hN hsx E ow hful
    by_cases hlt : i < q
    · have HLT := Lib.hid hlt
      have hlt2 : (i : Int) < (q : Int) := by omega
      obtain ⟨sb, sp, rfl, hsb, hc⟩ := HL.out (by rw [← HQL.out]; omega)
      have hget := fu_get (l := l) (k := i) (by rw [← HQL.out]; exact hlt)
      obtain ⟨zz, hzz⟩ : ∃ zz, fu l i = zz := ⟨_, rfl⟩
      rw [hzz] at hget
      have c1 : wr.cell? ⟨sb, sp + i, none⟩ = some (.int .i64 zz) := (OW.out.o.old.cell (p := ⟨sb, sp + i, none⟩) hsb).trans (hc i zz hget)
      have HTK : Hid (l.take (i + 1) = l.take i ++ [zz]) := Lib.hid (by rw [List.take_add_one, hget]; rfl)
      have HW : Hid (wrap64 ((i : Int) + 1) = ((i + 1 : Nat) : Int)) := Lib.hid (by have := HQ6.out; rw [w64_in (by omega) (by omega)]; omega)
      have HSN : Hid (runE eAt (l.take (i + 1)) s = ((eAt s' zz).1, mm + (eAt s' zz).2)) := Lib.hid (by rw [HTK.out, runE_snoc, HSX.out])
      have HNS : Hid (n = s'.sl.length) := Lib.hid OW.out.hn
      have n3 := N6.out.c 3 _ rfl
      clear hc hsb hget hzz hlt
      by_cases h0 : 0 ≤ zz
      · have h0' : decide (0 ≤ zz) = true := decide_eq_true h0
        obtain ⟨kk, rfl⟩ : ∃ kk : Nat, zz = (kk : Int) := ⟨zz.toNat, by omega⟩
        by_cases hkn : kk < n
        · have hkn1 : (kk : Int) < (n : Int) := by omega
          have hkn2 : decide ((kk : Int) < (n : Int)) = true := decide_eq_true hkn1
          have HKN := Lib.hid hkn
          have HEQ : Hid (eAt s' (kk : Int) = empF 96 s' kk) := Lib.hid (by rw [eAt, if_pos ⟨by omega, by rw [← HNS.out]; exact hkn1⟩, Int.toNat_natCast])
          have u0 := N6.out.c 0 _ rfl
          have u1 := N6.out.c 1 _ rfl
          have u2 := N6.out.c 2 _ rfl
          have u4 := N6.out.c 4 _ rfl
          clear h0 hkn
          go_wp2_with fail
          refine (empty_all 96 OW.out HE.out.liv HKN.out HFL.out.1).mono ?_
          rintro e w7 ⟨rfl, o7, f7⟩
          have hy : (empF 96 s' kk).2 ≤ 96 := by
            have E2 := emp_emd 96 s' kk HE.out.liv (by rw [← HNS.out]; exact HKN.out)
            have h1 := E2.num
            have h3 := fullN_le s'.sl
            have h4 := HNS.out
            have h5 := HFW.out.1
            omega
          have HSN1 : Hid (runE eAt (l.take (i + 1)) s = ((empF 96 s' kk).1, mm + (empF 96 s' kk).2)) := Lib.hid (by rw [HSN.out, HEQ.out])
          obtain ⟨⟨s2, yy⟩, hsy⟩ : ∃ r, empF 96 s' kk = r := ⟨_, rfl⟩
          rw [hsy] at o7 hy ⊢
          have HSN2 : Hid (runE eAt (l.take (i + 1)) s = (s2, mm + yy)) := Lib.hid (by rw [HSN1.out, hsy])
          simp only at o7 hy ⊢
          have hw2 : wrap64 ((mm : Int) + (yy : Int)) = ((mm + yy : Nat) : Int) := wrap_two (by have := HFL.out.2; omega) (by omega)
          have O7 := Lib.hid o7
          have K7 := Lib.hid (K2.out.fn2 f7 NE4.out.1 NE4.out.2 o7.old)
          have N7 := Lib.hid (N6.out.fn2 f7 NE6.out.1 NE6.out.2)
          clear u0 u1 u2 n3 u4 o7 f7 hy hsy HSN HSN1 hlt2 c1 hkn1 hkn2 h0'
          go_wp2
          go_roundg (q - (i + 1))
          case measure => have := HK.out; have := HLT.out; omega
          case rel => exact ⟨i + 1, by have := HLT.out; omega, by rw [HSN2.out] <;> first | rfl | exact congrArg (Value.int .i64) hw2, by first | go_num | exact congrArg _ HW.out, by rw [HSN2.out]; exact O7.out, K7.out, N7.out⟩
        · have hkn1 : ¬ (kk : Int) < (n : Int) := by omega
          have hkn2 : decide ((kk : Int) < (n : Int)) = false := decide_eq_false hkn1
          have hkn3 : decide (kk < n) = false := decide_eq_false hkn
          have HSN2 : Hid (runE eAt (l.take (i + 1)) s = (s', mm)) := Lib.hid (by rw [HSN.out, eAt, if_neg (fun e => hkn1 (by rw [HNS.out]; exact e.2))]; rfl)
          clear h0 hkn HSN
          go_wp2
          go_roundg (q - (i + 1))
          case measure => have := HK.out; have := HLT.out; omega
          case rel => exact ⟨i + 1, by have := HLT.out; omega, by rw [HSN2.out] <;> first | rfl | exact congrArg (Value.int .i64) hw2, by first | go_num | exact congrArg _ HW.out, by rw [HSN2.out]; exact OW.out.o, K2.out, N6.out⟩
      · have h0' : decide (0 ≤ zz) = false := decide_eq_false h0
        have HSN2 : Hid (runE eAt (l.take (i + 1)) s = (s', mm)) := Lib.hid (by rw [HSN.out, eAt, if_neg (fun e => h0 e.1)]; rfl)
        clear h0 HSN
        go_wp2
        go_roundg (q - (i + 1))
        case measure => have := HK.out; have := HLT.out; omega
        case rel => exact ⟨i + 1, by have := HLT.out; omega, by rw [HSN2.out] <;> first | rfl | exact congrArg (Value.int .i64) hw2, by first | go_num | exact congrArg _ HW.out, by rw [HSN2.out]; exact OW.out.o, K2.out, N6.out⟩
    · have hlt2 : ¬ (i : Int) < (q : Int) := by omega
      have hiq : i = l.length := by rw [← HQL.out]; have := HK.out; omega
      have HALL : Hid (runE eAt l s = (s', mm)) := Lib.hid (by rw [← HSX.out, hiq, List.take_length])
      have HT : Hid (wr.there g4 0 (#[.int .i64 a, .int .i64 b, .int .i64 c, .slice (some ⟨P, 0, none⟩) n cp, .slice (some ⟨Q, 0, none⟩) m cq] : Array Value).size) := Lib.hid (K2.out.there (n := 5) rfl)
      have HO2 := Lib.hid (state_one a b c (some ⟨P, 0, none⟩) n cp (some ⟨Q, 0, none⟩) m cq)
      have R8 := K2.out.setCells (vs := [.int .i64 a, .int .i64 b, .int .i64 c, .slice (some ⟨P, 0, none⟩) n cp, .slice (some ⟨Q, 0, none⟩) m cq]) rfl
      have O8 := OW.out.o.step (Fnd.setCells g4 [.int .i64 a, .int .i64 b, .int .i64 c, .slice (some ⟨P, 0, none⟩) n cp, .slice (some ⟨Q, 0, none⟩) m cq] 0 wr) NE4.out.1.symm NE4.out.2.symm R8.bx.old
      have u0 := N6.out.c 0 _ rfl
      have u1 := N6.out.c 1 _ rfl
      have u2 := N6.out.c 2 _ rfl
      have u3 := N6.out.c 3 _ rfl
      have u4 := N6.out.c 4 _ rfl
      clear hlt hiq K2
      go_wp2_with ((with_reducible change wpList _ _ _ _ _ _); refine wpList_store_mid (by rfl) 27 (.tmp 4) (.tmp 37) (by rfl) g4 0 #[.int .i64 a, .int .i64 b, .int .i64 c, .slice (some ⟨P, 0, none⟩) n cp, .slice (some ⟨Q, 0, none⟩) m cq] (by rfl) (by rfl) HT.out info_state HO2.out ?_; change wpList _ _ _ _ _ (wr.setCells g4 0 [.int .i64 a, .int .i64 b, .int .i64 c, .slice (some ⟨P, 0, none⟩) n cp, .slice (some ⟨Q, 0, none⟩) m cq]); generalize wr.setCells g4 0 _ = w9 at R8 O8 ⊢)
      refine bodyPost_ret (results_ct rfl _ _ _ (b := g4) (by rfl) R8.bx.range Tryz.underlying27 rfl info_state) rfl ?_
      rw [HALL.out]
      exact ⟨P, cp, Q, cq, rfl, HCP.out, HCQ.out, O8⟩
end Go.Proofs.YtkpbfbmkolgmgaaGreat
