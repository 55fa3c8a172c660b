/-
  The walk of the law TakeAll. Condition: the state lies in memory.
-/
import Derived.Test.YtjnohbahjlidoaaGreatTUi
namespace Go.Proofs.YtjnohbahjlidoaaGreat
open Go.RowKit
set_option linter.unusedSimpArgs false
set_option linter.unusedVariables false

def TaRel (W w0 : World) (l : List Sl) (n : Nat) (d : Nat) (v p q : Value) (wr : World) : Prop :=
  ∃ i : Nat, d + i = n ∧ p = .int .i64 (fullN (l.take i) : Int) ∧ q = .int .i64 i ∧ Bi W wr v (tUpto i)
theorem fullN_take {l : List Sl} {i : Nat} (h : i < l.length) : fullN (l.take (i + 1)) = fullN (l.take i) + if (slAt l i).c.non = true then 0 else 1 := by
  rw [List.take_add_one, slAt_get h, fullN, List.countP_append]
  show _ = List.countP fullB (l.take i) + _
  congr 1
  show List.countP fullB [slAt l i] = _
  rw [List.countP_singleton, fullB]
  cases (slAt l i).c.non <;> rfl
def TbRel (W : World) (n : Nat) (d : Nat) (p : Value) (wr : World) : Prop := ∃ i : Nat, d + i = n ∧ p = .int .i64 i ∧ Below W.heap.size W wr
set_option maxRecDepth 100000 in
set_option maxHeartbeats 16000000 in
theorem take_all {s : St} {a b c : Int} {A C : Option Addr} {n ca m cc : Nat} {w : World} (hS : StAt w s A C) (hsg : s.g = ⟨a, b, c⟩) (hsn : n = s.sl.length) (hsm : m = s.th.length) (hsca : n ≤ ca) (hscc : m ≤ cc) :
    Calls Tryz.prog 5 #[.agg #[.int .i64 a, .int .i64 b, .int .i64 c, .slice A n ca, .slice C m cc]] w fun e w' => e = .returned (.bool true) ∧ Below w.heap.size w w' := by
  have HSA := Lib.hid hS
  have HSG := Lib.hid hsg
  have HSN := Lib.hid hsn
  have HSM := Lib.hid hsm
  have HSCA := Lib.hid hsca
  have HSCC := Lib.hid hscc
  clear hS hsg hsn hsm hsca hscc
  have k1 := Wbs.more (below_self w) [.int .i64 a, .int .i64 b, .int .i64 c, .slice A n ca, .slice C m cc] 28
  go_enter Tryz.func5, Tryz.ntmps5
  go_upto_region 1 with fail
  generalize w.alloc _ = w1 at k1 ⊢
  have K1 := Lib.hid k1
  clear k1
  go_wp2_with fail
  refine (awake17_is w1).mono ?_
  rintro e w2 ⟨rfl, hb⟩
  replace K1 := Lib.hid (K1.out.on hb)
  clear hb
  have t3 := K1.out.bx.c 3 _ rfl
  have t4 := K1.out.bx.c 4 _ rfl
  by_cases h1 : 100 < n
  case pos =>
    have h1' : (100 : Int) < (n : Int) := by omega
    have h1'' : decide ((100 : Int) < (n : Int)) = true := decide_eq_true h1'
    go_wp2
    go_ret
    exact ⟨rfl, K1.out.bx.old⟩
  have h1' : decide ((100 : Int) < (n : Int)) = false := decide_eq_false (by omega)
  by_cases h2 : 50 < m
  case pos =>
    have h2' : (50 : Int) < (m : Int) := by omega
    have h2'' : decide ((50 : Int) < (m : Int)) = true := decide_eq_true h2'
    clear h1
    go_wp2
    go_ret
    exact ⟨rfl, K1.out.bx.old⟩
  have h2' : decide ((50 : Int) < (m : Int)) = false := decide_eq_false (by omega)
  have HS : Hid (StH w s a b c A n ca C m cc) := Lib.hid ⟨HSA.out, HSG.out, HSN.out, HSM.out, by omega, by omega, HSCA.out, HSCC.out⟩
  clear h1 h2 HSA HSG HSM HSCA HSCC
  obtain ⟨gd, hgd⟩ : ∃ gd, sgood s = gd := ⟨_, rfl⟩
  have HGD := Lib.hid hgd
  clear hgd
  have t0 := K1.out.bx.c 0 _ rfl
  have t1 := K1.out.bx.c 1 _ rfl
  have t2 := K1.out.bx.c 2 _ rfl
  go_wp2_with fail
  refine (sgood_is (HS.out.on K1.out.bx.old) HGD.out).mono ?_
  rintro e w3 ⟨rfl, hb⟩
  replace K1 := Lib.hid (K1.out.on hb)
  clear hb t0 t1 t2 t3 t4 h1' h2'
  cases gd with
  | false =>
    go_wp2
    go_ret
    exact ⟨rfl, K1.out.bx.old⟩
  | true =>
    have G := sgood_iff.1 HGD.out
    have HFW : Hid (n ≤ 96 ∧ m ≤ 48) := Lib.hid ⟨by rw [HS.out.hn]; exact G.few.1, by rw [HS.out.hm]; exact G.few.2⟩
    have HAG := Lib.hid (agn_of G)
    have HGK := Lib.hid (Gd.ok_iff.1 G.ok)
    clear G
    have HO1 := Lib.hid K1.out.bx.old
    go_wp2_with fail
    go_loopg [3, 4, 5] n (fun d v p q wr => TaRel w3 w s.sl n d v p q wr)
    case atStart => exact ⟨0, by omega, rfl, rfl, Bi.none w3⟩
    case round =>
      obtain ⟨i, hk, rfl, rfl, hb⟩ := hrel
      have HI := Lib.hid hk
      have HB := Lib.hid hb
      have K := Lib.hid (K1.out.on hb.old)
      clear hk hb
      have t3 := K.out.bx.c 3 _ rfl
      by_cases hlt : i < n
      case pos =>
        have HLT := Lib.hid hlt
        have hlt2 : (i : Int) < (n : Int) := by omega
        have hlt3 : decide ((i : Int) < (n : Int)) = true := decide_eq_true hlt2
        have HIL : Hid (i < s.sl.length) := Lib.hid (by rw [← HSN.out]; exact hlt)
        have hq : (tUpto i).length ≤ 1000 := by rw [tUpto_len]; have := HFW.out.1; omega
        obtain ⟨u, hu⟩ : ∃ u, u = tUpto i := ⟨_, rfl⟩
        have HUU := Lib.hid hu
        have HB4 := HB.out
        rw [← hu] at HB4 hq
        clear hu
        have HU : Hid (tUpto (i + 1) = u ++ [(i : Int)]) := Lib.hid (by rw [tUpto_succ, ← HUU.out])
        have HB5 := Lib.hid (HB4.alloc (.cells #[.int .i64 (i : Int)] 3))
        have HNEW := Lib.hid (one_new wr (i : Int))
        have HSZ : Hid (w3.heap.size ≤ (wr.alloc (.cells #[.int .i64 (i : Int)] 3)).heap.size) := Lib.hid HB5.out.old.size
        obtain ⟨i0, hii, hz0, hz1, hz2⟩ := info3_parts
        have HONE := Lib.hid (one_plain (i : Int))
        have HW : Hid (wrap64 ((i : Int) + 1) = ((i + 1 : Nat) : Int)) := Lib.hid (by have := HFW.out.1; rw [w64_in (by omega) (by omega)]; omega)
        obtain ⟨x, hx⟩ : ∃ x, fullN (s.sl.take i) = x := ⟨_, rfl⟩
        have HX := Lib.hid hx
        rw [hx]
        have HXL : Hid (x ≤ 96) := Lib.hid (by rw [← hx]; have h := fullN_le (s.sl.take i); rw [List.length_take] at h; have := HFW.out.1; omega)
        clear hx HB4
        go_wp2_with (at_builtin; refine wpList_append_own _ rfl _ _ 36 rfl w3.heap.size 3 i0 (.int .i64 0) 1 8 Tryz.underlying36 hii hz0 hz1 hz2 rfl (by decide) _ _ _ rfl HB5.out.own ⟨wr.heap.size, 0, none⟩ 1 1 [.int .i64 (i : Int)] rfl rfl HNEW.out HONE.out ?c3 ?c4 HSZ.out ?_)
        case c3 => unfold maxLen; omega
        case c4 => omega
        intro v' w5 hown hgrow _
        have HB6 := Lib.hid (HB5.out.more (l' := tUpto (i + 1)) hgrow (by rw [HU.out, icells_append, List.length_append]; exact hown))
        clear hown hgrow HB5 HNEW HSZ HONE hq t3 hii hz0 hz1 hz2
        have K5 := Lib.hid (K1.out.on HB6.out.old)
        have t3 := K5.out.bx.c 3 _ rfl
        obtain ⟨sb, sp, rfl, hsb, hc⟩ := HS.out.lies.sl (Nat.lt_of_le_of_lt (Nat.zero_le _) HIL.out)
        have hX : SlC w5 sb (sp + i * 5) (slAt s.sl i) := (hc i HIL.out).same fun j => K5.out.bx.old.cell (p := ⟨sb, j, none⟩) hsb
        have HTK := Lib.hid (fullN_take HIL.out)
        generalize slAt s.sl i = y at hX HTK
        obtain ⟨⟨ty, th, ri, ba⟩, up⟩ := y
        obtain ⟨s0, s1, s2, s3, s4⟩ := hX
        simp only at s0 s1 s2 s3 s4
        obtain ⟨z, hz⟩ : ∃ z, Cp.non ⟨ty, th, ri, ba⟩ = z := ⟨_, rfl⟩
        have HZ := Lib.hid hz
        clear hc hsb hz
        go_wp2_with fail
        refine (non_at HZ.out w5).mono ?_
        rintro e w6 ⟨rfl, hb⟩
        have HB7 := Lib.hid (HB6.out.on hb)
        clear hb HB6 K5 t3 s0 s1 s2 s3 s4
        rcases z with _ | _
        · have HN : Hid (fullN (s.sl.take (i + 1)) = x + 1) := Lib.hid (by rw [HTK.out, HX.out, if_neg (by rw [HZ.out]; decide)])
          have hw2 : wrap64 ((x : Int) + 1) = ((x + 1 : Nat) : Int) := by have := HXL.out; rw [w64_in (by omega) (by omega)]; omega
          go_wp2
          go_roundg (n - (i + 1))
          case measure => have := HI.out; have := HLT.out; omega
          case rel => exact ⟨i + 1, by have := HI.out; have := HLT.out; omega, by rw [HN.out] <;> first | rfl | exact congrArg (Value.int .i64) hw2, by first | go_num | exact congrArg _ HW.out, HB7.out⟩
        · have HN : Hid (fullN (s.sl.take (i + 1)) = x) := Lib.hid (by rw [HTK.out, HX.out, if_pos HZ.out]; rfl)
          go_wp2
          go_roundg (n - (i + 1))
          case measure => have := HI.out; have := HLT.out; omega
          case rel => exact ⟨i + 1, by have := HI.out; have := HLT.out; omega, by rw [HN.out] <;> first | rfl | exact congrArg (Value.int .i64) hw2, by first | go_num | exact congrArg _ HW.out, HB7.out⟩
      case neg =>
        have hlt2 : ¬ (i : Int) < (n : Int) := by omega
        have hlt3 : decide ((i : Int) < (n : Int)) = false := decide_eq_false hlt2
        obtain rfl : i = n := by have := HI.out; omega
        obtain ⟨D, cd, rfl, hcd, hD⟩ := HB.out.intsc
        rw [tUpto_len] at hcd ⊢
        have HD := Lib.hid hD
        have HCD := Lib.hid hcd
        have HNI : Hid (fullN (s.sl.take i) = fullN s.sl) := Lib.hid (by rw [HSN.out, List.take_length])
        rw [HNI.out]
        clear hlt hcd hD HB
        have t0 := K.out.bx.c 0 _ rfl
        have t1 := K.out.bx.c 1 _ rfl
        have t2 := K.out.bx.c 2 _ rfl
        have t4 := K.out.bx.c 4 _ rfl
        go_wp2_with fail
        refine (tempty_is (HS.out.on K.out.bx.old) HGD.out (tUpto_len i).symm HCD.out (by have := HFW.out.1; omega) HD.out).mono ?_
        rintro e w7 ⟨P, cp, Q, cq, rfl, hcp, hcq, hO⟩
        have HAG2 : Hid (Agn s (empAll s (tUpto i))) := Lib.hid (by rw [HSN.out]; exact HAG.out)
        generalize empAll s (tUpto i) = r at hO HAG2 ⊢
        obtain ⟨s7, y7⟩ := r
        obtain rfl : y7 = fullN s.sl := HAG2.out.num
        simp only at hO ⊢
        have N7 := Wbs.more hO.old [.int .i64 a, .int .i64 b, .int .i64 c, .slice (some ⟨P, 0, none⟩) i cp, .slice (some ⟨Q, 0, none⟩) m cq] 28
        have hal := below_alloc w7 (.cells #[.int .i64 a, .int .i64 b, .int .i64 c, .slice (some ⟨P, 0, none⟩) i cp, .slice (some ⟨Q, 0, none⟩) m cq] 28)
        have o8 := hO.on hal
        replace K := Lib.hid ((K.out.on hO.old).on hal)
        have HCPQ := Lib.hid (⟨hcp, hcq⟩ : i ≤ cp ∧ m ≤ cq)
        clear hal hO hcp hcq HAG t0 t1 t2 t3 t4
        go_upto_region 14 with fail
        obtain ⟨g6, hg6⟩ : ∃ g6, g6 = w7.heap.size := ⟨_, rfl⟩
        rw [← hg6] at N7 ⊢
        clear hg6
        generalize w7.alloc _ = w8 at N7 o8 K ⊢
        have N8 := Lib.hid N7
        have O8 := Lib.hid o8
        clear N7 o8
        have n3 := N8.out.bx.c 3 _ rfl
        have n4 := N8.out.bx.c 4 _ rfl
        have t3 := K.out.bx.c 3 _ rfl
        have t4 := K.out.bx.c 4 _ rfl
        have hii : ((i : Int) != (i : Int)) = false := by simp
        have hmm : ((m : Int) != (m : Int)) = false := by simp
        have hff : ((fullN s.sl : Int) != (fullN s.sl : Int)) = false := by simp
        go_wp2_with fail
        clear n3 n4 t3 t4 hii hmm hff
        have HKO := Lib.hid K.out
        go_loopg [8] i (fun d p wr => TbRel w8 i d p wr)
        case atStart => exact ⟨0, by omega, rfl, below_self w8⟩
        case round =>
          obtain ⟨j, hk, rfl, hb⟩ := hrel
          have HJ := Lib.hid hk
          have HB := Lib.hid hb
          have NN := Lib.hid (N8.out.on hb)
          have OO := Lib.hid (O8.out.on hb)
          clear hk hb
          have n3 := NN.out.bx.c 3 _ rfl
          by_cases hlt : j < i
          case pos =>
            have HLT := Lib.hid hlt
            have hlt2 : (j : Int) < (i : Int) := by omega
            have hlt3 : decide ((j : Int) < (i : Int)) = true := decide_eq_true hlt2
            have HJL : Hid (j < s.sl.length) := Lib.hid (by rw [← HSN.out]; exact hlt)
            have hX := OO.out.slC (j := j) (by rw [HAG2.out.sl]; exact HJL.out)
            rw [HAG2.out.emp j HJL.out] at hX
            obtain ⟨s0, s1, s2, s3, s4⟩ := hX
            simp only [Cp.none] at s0 s1 s2 s3 s4
            have HW : Hid (wrap64 ((j : Int) + 1) = ((j + 1 : Nat) : Int)) := Lib.hid (by have := HFW.out.1; rw [w64_in (by omega) (by omega)]; omega)
            have heq : ∀ w, (Op.equalIn 10000 52 (.agg #[.int .i64 0, .int .i64 0, .int .i64 0, .int .i64 0, .int .i64 (-1)]) (.agg #[.int .i64 0, .int .i64 0, .int .i64 0, .int .i64 0, .int .i64 (-1)])).run Tryz.prog w = .ok true w := fun w => by
              have := peqslot ⟨.none, -1⟩ ⟨.none, -1⟩ w
              rw [Sl.eq_iff.2 rfl] at this
              exact this
            clear hlt
            go_wp2
            go_roundg (i - (j + 1))
            case measure => have := HJ.out; have := HLT.out; omega
            case rel => exact ⟨j + 1, by have := HJ.out; have := HLT.out; omega, by first | go_num | exact congrArg _ HW.out, HB.out⟩
          case neg =>
            have hlt2 : ¬ (j : Int) < (i : Int) := by omega
            have hlt3 : decide ((j : Int) < (i : Int)) = false := decide_eq_false hlt2
            have K9 := Lib.hid (HKO.out.on HB.out)
            obtain ⟨wt, hwt⟩ : ∃ x, x = wr := ⟨_, rfl⟩
            rw [← hwt] at NN OO K9 n3 ⊢
            clear hwt hlt HB
            go_wp2_with fail
            clear n3
            go_loopg [9] m (fun d p wr => TbRel wt m d p wr)
            case atStart => exact ⟨0, by omega, rfl, below_self wt⟩
            case round =>
              obtain ⟨k, hk, rfl, hb⟩ := hrel
              have HJ2 := Lib.hid hk
              have HB := Lib.hid hb
              have NM := Lib.hid (NN.out.on hb)
              have OM := Lib.hid (OO.out.on hb)
              have KM := Lib.hid (K9.out.on hb)
              clear hk hb
              have n4 := NM.out.bx.c 4 _ rfl
              by_cases hlt : k < m
              case pos =>
                have HLT := Lib.hid hlt
                have hlt2 : (k : Int) < (m : Int) := by omega
                have hlt3 : decide ((k : Int) < (m : Int)) = true := decide_eq_true hlt2
                have HKL : Hid (k < s.th.length) := Lib.hid (by rw [← HS.out.hm]; exact hlt)
                have s0 := (OM.out.thC (j := k) (by rw [HAG2.out.th]; exact HKL.out)).c0
                have hth := HAG2.out.thg k HKL.out
                have hrz : rootZ s (k : Int) = (decide ((2 : Int) ≤ (k : Int)) && decide ((k : Int) < 2 + a)) := by rw [rootZ, HS.out.hg]
                rw [hrz] at hth
                have hsg := HGK.out
                rw [HS.out.hg] at hsg
                simp only at hsg
                have HW : Hid (wrap64 ((k : Int) + 1) = ((k + 1 : Nat) : Int)) := Lib.hid (by have := HFW.out.2; rw [w64_in (by omega) (by omega)]; omega)
                have hwa : wrap64 (2 + a) = 2 + a := w64_in (by omega) (by omega)
                have t0 := KM.out.bx.c 0 _ rfl
                simp only at s0 hth
                generalize (thAt s7.th k).ty = ty at s0 hth
                clear hsg hrz hlt
                by_cases h2 : (2 : Int) ≤ (k : Int)
                case pos =>
                  have h2' : decide ((2 : Int) ≤ (k : Int)) = true := decide_eq_true h2
                  have h2n : decide (2 ≤ k) = true := decide_eq_true (by omega)
                  rw [h2', Bool.true_and] at hth
                  by_cases h3 : (k : Int) < 2 + a
                  case pos =>
                    have h3' : decide ((k : Int) < 2 + a) = true := decide_eq_true h3
                    rw [h3'] at hth
                    have hty : (ty != 0) = true := by rw [bne_iff_ne]; intro e; rw [e] at hth; cases hth
                    clear hth
                    go_wp2
                    go_roundg (m - (k + 1))
                    case measure => have := HJ2.out; have := HLT.out; omega
                    case rel => exact ⟨k + 1, by have := HJ2.out; have := HLT.out; omega, by first | go_num | exact congrArg _ HW.out, HB.out⟩
                  case neg =>
                    have h3' : decide ((k : Int) < 2 + a) = false := decide_eq_false h3
                    rw [h3'] at hth
                    obtain rfl : ty = 0 := by rw [Bool.not_eq_false'] at hth; exact of_decide_eq_true hth
                    clear hth
                    go_wp2
                    go_roundg (m - (k + 1))
                    case measure => have := HJ2.out; have := HLT.out; omega
                    case rel => exact ⟨k + 1, by have := HJ2.out; have := HLT.out; omega, by first | go_num | exact congrArg _ HW.out, HB.out⟩
                case neg =>
                  have h2' : decide ((2 : Int) ≤ (k : Int)) = false := decide_eq_false h2
                  have h2n : decide (2 ≤ k) = false := decide_eq_false (by omega)
                  rw [h2', Bool.false_and] at hth
                  obtain rfl : ty = 0 := by rw [Bool.not_eq_false'] at hth; exact of_decide_eq_true hth
                  clear hth
                  go_wp2
                  go_roundg (m - (k + 1))
                  case measure => have := HJ2.out; have := HLT.out; omega
                  case rel => exact ⟨k + 1, by have := HJ2.out; have := HLT.out; omega, by first | go_num | exact congrArg _ HW.out, HB.out⟩
              case neg =>
                have hlt2 : ¬ (k : Int) < (m : Int) := by omega
                have hlt3 : decide ((k : Int) < (m : Int)) = false := decide_eq_false hlt2
                clear hlt
                have n0 := NM.out.bx.c 0 _ rfl
                have n1 := NM.out.bx.c 1 _ rfl
                have n2 := NM.out.bx.c 2 _ rfl
                have n3 := NM.out.bx.c 3 _ rfl
                have HH : Hid (StH wr s7 a b c (some ⟨P, 0, none⟩) i cp (some ⟨Q, 0, none⟩) m cq) := Lib.hid ⟨OM.out.lies, HAG2.out.g.trans HS.out.hg, by rw [HAG2.out.sl]; exact HSN.out, by rw [HAG2.out.th]; exact HS.out.hm, by have := HFW.out.1; omega, by have := HFW.out.2; omega, HCPQ.out.1, HCPQ.out.2⟩
                go_wp2_with fail
                refine (sgood_is HH.out HAG2.out.good).mono ?_
                rintro e w9 ⟨rfl, hb⟩
                have HE := Lib.hid (KM.out.on hb).bx.old
                clear hb n0 n1 n2 n3 n4
                go_wp2
                go_ret
                exact ⟨rfl, HE.out⟩
end Go.Proofs.YtjnohbahjlidoaaGreat
