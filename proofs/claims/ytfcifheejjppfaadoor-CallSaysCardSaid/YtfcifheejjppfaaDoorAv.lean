/-
  The law CallSays. Conditions: the ways and the words lie in memory; the words are some; the library's table of tens is there.
-/
import Derived.Test.YtfcifheejjppfaaDoorAs
import Derived.Test.YtfcifheejjppfaaDoorAu
namespace Go.Proofs.YtfcifheejjppfaaDoor
open Go.RowKit

set_option maxHeartbeats 16000000 in
theorem says_walk {o x y : Int} {a b : List Int} {z : Nat} {A B : Option Addr} {na ca nb cb : Nat} {D : Option Addr} {n cd : Nat} {l : List Nat} {w : World} (hT : Tab w) (ha : na = a.length) (hb : nb = b.length) (hn : n = l.length) (hA : IntsAt w w.heap.size A a) (hB : IntsAt w w.heap.size B b) (hz : z < 18446744073709551616)
    (hD : Words w (.slice D n cd) (l.map fun (n : Nat) => (n : Int))) (hl : ∀ n ∈ l, n < 18446744073709551616) :
    Calls Tryd.prog 4 #[.agg #[.int .i64 o, .slice A na ca, .slice B nb cb, .int .i64 x, .int .i64 y, .int .u64 (z : Int)], .slice D n cd] w fun e w' => e = .returned (.bool true) ∧ Below w.heap.size w w' := by
  have K1 := Lib.hid (Bxs.new w [.int .i64 o, .slice A na ca, .slice B nb cb, .int .i64 x, .int .i64 y, .int .u64 (z : Int)] 29)
  have HT := Lib.hid (hT.on K1.out.old)
  have HC := Lib.hid (ClAt.on (c := ⟨o, a, b, x, y, z⟩) ⟨A, ca, B, cb, by rw [← ha, ← hb], hA, hB⟩ K1.out.old)
  have HD := Lib.hid (hD.below K1.out.old)
  have HL := Lib.hid hl
  have HZ := Lib.hid hz
  have NA := Lib.hid ha
  have NB := Lib.hid hb
  have NL := Lib.hid hn
  clear hT ha hb hn hA hB hz hD hl
  go_enter Tryd.func4, Tryd.ntmps4
  go_wp2_with fail
  obtain ⟨g, hg⟩ : ∃ g, g = w.heap.size := ⟨_, rfl⟩
  rw [← hg] at K1 ⊢
  clear hg
  generalize w.alloc _ = w1 at K1 HT HC HD ⊢
  refine (awake_any HT.out).mono ?_
  rintro e w2 ⟨rfl, hb⟩
  replace K1 := Lib.hid (K1.out.on hb)
  replace HT := Lib.hid (HT.out.on hb)
  replace HC := Lib.hid (HC.out.on hb)
  replace HD := Lib.hid (HD.out.below hb)
  clear hb
  have c0 := K1.out.c 0 _ rfl
  have c1 := K1.out.c 1 _ rfl
  have c2 := K1.out.c 2 _ rfl
  have c3 := K1.out.c 3 _ rfl
  have c4 := K1.out.c 4 _ rfl
  have c5 := K1.out.c 5 _ rfl
  by_cases h1 : 20 < na
  · have h1' : (20 : Int) < (na : Int) := by omega
    go_wp2
    go_ret
    exact ⟨rfl, K1.out.old⟩
  by_cases h2 : 20 < nb
  · have h2' : (20 : Int) < (nb : Int) := by omega
    go_wp2
    go_ret
    exact ⟨rfl, K1.out.old⟩
  by_cases h3 : 20 < n
  · have h3' : (20 : Int) < (n : Int) := by omega
    go_wp2
    go_ret
    exact ⟨rfl, K1.out.old⟩
  have FA : Hid (a.length ≤ 1000000 ∧ b.length ≤ 1000000) := Lib.hid (by have := NA.out; have := NB.out; omega)
  go_wp2_with fail
  clear h1 h2 h3
  refine (callof_at HC.out).mono ?_
  rintro e w3 ⟨rfl, hb⟩
  clear c0 c1 c2 c3 c4 c5
  replace K1 := Lib.hid (K1.out.on hb)
  replace HT := Lib.hid (HT.out.on hb)
  replace HC := Lib.hid (HC.out.on hb)
  replace HD := Lib.hid (HD.out.below hb)
  clear hb
  have K5 := Lib.hid (Bxs.new w3 [.int .i64 o, .slice A na ca, .slice B nb cb, .int .i64 x, .int .i64 y, .int .u64 (z : Int)] 39)
  have hb := below_alloc w3 (.cells #[.int .i64 o, .slice A na ca, .slice B nb cb, .int .i64 x, .int .i64 y, .int .u64 (z : Int)] 39)
  replace K1 := Lib.hid (K1.out.on hb)
  replace HT := Lib.hid (HT.out.on hb)
  replace HC := Lib.hid (HC.out.on hb)
  replace HD := Lib.hid (HD.out.below hb)
  clear hb
  go_upto_region 6 with fail
  obtain ⟨g5, hg⟩ : ∃ g, g = w3.heap.size := ⟨_, rfl⟩
  rw [← hg] at K5 ⊢
  clear hg
  generalize w3.alloc _ = w4 at K1 HT HC HD K5 ⊢
  go_wp2_with fail
  refine (cget_any HD.out HL.out).mono ?_
  rintro e w5 ⟨⟨v2, rfl, hx⟩, hb⟩
  replace K1 := Lib.hid (K1.out.on hb)
  replace HT := Lib.hid (HT.out.on hb)
  replace HC := Lib.hid (HC.out.on hb)
  replace HD := Lib.hid (HD.out.below hb)
  replace K5 := Lib.hid (K5.out.on hb)
  clear hb
  obtain ⟨c2, hc2⟩ : ∃ c2, c2 = (cget l).getD Cl.zero := ⟨_, rfl⟩
  have HF2 := Lib.hid (zero_few l)
  obtain ⟨s, hs⟩ : ∃ s, s = (cget l).isSome := ⟨_, rfl⟩
  rw [← hc2] at hx HF2
  rw [← hs]
  have HC2 := Lib.hid hc2
  have HS := Lib.hid hs
  clear hc2 hs
  obtain ⟨A2, ca2, B2, cb2, rfl, hx1, hx2⟩ := hx
  have HX := Lib.hid (show ClAt w5 _ c2 from ⟨A2, ca2, B2, cb2, rfl, hx1, hx2⟩)
  clear hx1 hx2
  obtain ⟨o2, a2, b2, x2, y2, z2⟩ := c2
  dsimp only at HX ⊢
  obtain ⟨na2, hna2⟩ : ∃ n, n = a2.length := ⟨_, rfl⟩
  obtain ⟨nb2, hnb2⟩ : ∃ n, n = b2.length := ⟨_, rfl⟩
  rw [← hna2, ← hnb2] at HX ⊢
  have HNA2 := Lib.hid hna2
  have HNB2 := Lib.hid hnb2
  clear hna2 hnb2
  have K6 := Lib.hid (Bxs.new w5 [.int .i64 o2, .slice A2 na2 ca2, .slice B2 nb2 cb2, .int .i64 x2, .int .i64 y2, .int .u64 (z2 : Int)] 29)
  have hb := below_alloc w5 (.cells #[.int .i64 o2, .slice A2 na2 ca2, .slice B2 nb2 cb2, .int .i64 x2, .int .i64 y2, .int .u64 (z2 : Int)] 29)
  replace K1 := Lib.hid (K1.out.on hb)
  replace HT := Lib.hid (HT.out.on hb)
  replace HC := Lib.hid (HC.out.on hb)
  replace HD := Lib.hid (HD.out.below hb)
  replace K5 := Lib.hid (K5.out.on hb)
  replace HX := Lib.hid (HX.out.on hb)
  clear hb
  go_upto_region 7 with fail
  obtain ⟨g6, hg⟩ : ∃ g, g = w5.heap.size := ⟨_, rfl⟩
  rw [← hg] at K6 ⊢
  clear hg
  generalize w5.alloc _ = w6 at K1 HT HC HD K5 HX K6 ⊢
  go_wp2_with fail
  refine (rcget_any HD.out HL.out).mono ?_
  rintro e w7 ⟨⟨v3, rfl, hx⟩, hb⟩
  replace K1 := Lib.hid (K1.out.on hb)
  replace HT := Lib.hid (HT.out.on hb)
  replace HC := Lib.hid (HC.out.on hb)
  replace HD := Lib.hid (HD.out.below hb)
  replace K5 := Lib.hid (K5.out.on hb)
  replace HX := Lib.hid (HX.out.on hb)
  replace K6 := Lib.hid (K6.out.on hb)
  clear hb
  rw [← HC2.out] at hx
  rw [← HS.out]
  obtain ⟨A3, ca3, B3, cb3, rfl, hx1, hx2⟩ := hx
  have HY := Lib.hid (show ClAt w7 _ ⟨o2, a2, b2, x2, y2, z2⟩ from ⟨A3, ca3, B3, cb3, rfl, hx1, hx2⟩)
  clear hx1 hx2
  dsimp only at HY ⊢
  rw [← HNA2.out, ← HNB2.out] at HY ⊢
  have K8 := Lib.hid (Bxs.new w7 [.int .i64 o2, .slice A3 na2 ca3, .slice B3 nb2 cb3, .int .i64 x2, .int .i64 y2, .int .u64 (z2 : Int)] 39)
  have hb := below_alloc w7 (.cells #[.int .i64 o2, .slice A3 na2 ca3, .slice B3 nb2 cb3, .int .i64 x2, .int .i64 y2, .int .u64 (z2 : Int)] 39)
  replace K1 := Lib.hid (K1.out.on hb)
  replace HT := Lib.hid (HT.out.on hb)
  replace HC := Lib.hid (HC.out.on hb)
  replace HD := Lib.hid (HD.out.below hb)
  replace K5 := Lib.hid (K5.out.on hb)
  replace HX := Lib.hid (HX.out.on hb)
  replace K6 := Lib.hid (K6.out.on hb)
  replace HY := Lib.hid (HY.out.on hb)
  clear hb
  go_upto_region 8 with fail
  obtain ⟨g8, hg⟩ : ∃ g, g = w7.heap.size := ⟨_, rfl⟩
  rw [← hg] at K8 ⊢
  clear hg
  generalize w7.alloc _ = w8 at K1 HT HC HD K5 HX K6 HY K8 ⊢
  have HALL : Hid (∀ w', Below w8.heap.size w8 w' → w'.cell? ⟨g, 0, none⟩ = some (.int .i64 o) ∧ w'.cell? ⟨g, 1, none⟩ = some (.slice A na ca) ∧ w'.cell? ⟨g, 2, none⟩ = some (.slice B nb cb) ∧ w'.cell? ⟨g, 3, none⟩ = some (.int .i64 x) ∧ w'.cell? ⟨g, 4, none⟩ = some (.int .i64 y) ∧ w'.cell? ⟨g, 5, none⟩ = some (.int .u64 (z : Int)) ∧ w'.cell? ⟨g5, 0, none⟩ = some (.int .i64 o) ∧ w'.cell? ⟨g5, 1, none⟩ = some (.slice A na ca) ∧ w'.cell? ⟨g5, 2, none⟩ = some (.slice B nb cb) ∧ w'.cell? ⟨g5, 3, none⟩ = some (.int .i64 x) ∧ w'.cell? ⟨g5, 4, none⟩ = some (.int .i64 y) ∧ w'.cell? ⟨g5, 5, none⟩ = some (.int .u64 (z : Int)) ∧ w'.cell? ⟨g6, 0, none⟩ = some (.int .i64 o2) ∧ w'.cell? ⟨g6, 1, none⟩ = some (.slice A2 na2 ca2) ∧ w'.cell? ⟨g6, 2, none⟩ = some (.slice B2 nb2 cb2) ∧ w'.cell? ⟨g6, 3, none⟩ = some (.int .i64 x2) ∧ w'.cell? ⟨g6, 4, none⟩ = some (.int .i64 y2) ∧ w'.cell? ⟨g6, 5, none⟩ = some (.int .u64 (z2 : Int)) ∧ w'.cell? ⟨g8, 0, none⟩ = some (.int .i64 o2) ∧ w'.cell? ⟨g8, 1, none⟩ = some (.slice A3 na2 ca3) ∧ w'.cell? ⟨g8, 2, none⟩ = some (.slice B3 nb2 cb3) ∧ w'.cell? ⟨g8, 3, none⟩ = some (.int .i64 x2) ∧ w'.cell? ⟨g8, 4, none⟩ = some (.int .i64 y2) ∧ w'.cell? ⟨g8, 5, none⟩ = some (.int .u64 (z2 : Int)) ∧ Below w8.heap.size w8 w') := Lib.hid fun w' h => by
    have a := (K1.out.on h).c
    have b := (K5.out.on h).c
    have c := (K6.out.on h).c
    have d := (K8.out.on h).c
    exact ⟨a 0 _ rfl, a 1 _ rfl, a 2 _ rfl, a 3 _ rfl, a 4 _ rfl, a 5 _ rfl, b 0 _ rfl, b 1 _ rfl, b 2 _ rfl, b 3 _ rfl, b 4 _ rfl, b 5 _ rfl, c 0 _ rfl, c 1 _ rfl, c 2 _ rfl, c 3 _ rfl, c 4 _ rfl, c 5 _ rfl, d 0 _ rfl, d 1 _ rfl, d 2 _ rfl, d 3 _ rfl, d 4 _ rfl, d 5 _ rfl, h⟩
  obtain ⟨gd, hgd⟩ : ∃ gd, cgood ⟨o, a, b, x, y, z⟩ = gd := ⟨_, rfl⟩
  obtain ⟨q, hq⟩ : ∃ q, cwords ⟨o, a, b, x, y, z⟩ = q := ⟨_, rfl⟩
  obtain ⟨t, ht⟩ : ∃ t, bar (ctext ⟨o, a, b, x, y, z⟩) = t := ⟨_, rfl⟩
  have HGD := Lib.hid hgd
  have HQ := Lib.hid hq
  have HQN := Lib.hid (show q.length ≤ 1000000 by rw [← hq]; exact cwords_len _)
  have HTX := Lib.hid ht
  clear hgd hq ht
  have G1 := Lib.hid fun w' (h : Below w8.heap.size w8 w') => (good_at (HC.out.on h) HGD.out).mono fun e w'' he => (⟨he.1, HALL.out w'' (below_on h he.2)⟩ : _ ∧ _)
  have G2 := Lib.hid fun w' (h : Below w8.heap.size w8 w') => (rgoodc_at (HC.out.on h) FA.out.1 FA.out.2 HGD.out).mono fun e w'' he => (⟨he.1, HALL.out w'' (below_on h he.2)⟩ : _ ∧ _)
  have V1 := Lib.hid fun w' (h : Below w8.heap.size w8 w') => (words_of (HC.out.on h) HQ.out).mono fun e w'' he => (he.1.elim fun v hv => ⟨v, hv.1, hv.2, HALL.out w'' (below_on h he.2)⟩ : ∃ v, e = .returned v ∧ Words w'' v (q.map fun (n : Nat) => (n : Int)) ∧ _)
  have V2 := Lib.hid fun w' v1 (h : Below w8.heap.size w8 w') (hv1 : Words w' v1 (q.map fun (n : Nat) => (n : Int))) => (rcwords_at (HC.out.on h) FA.out.1 FA.out.2 HQ.out).mono fun e w'' he => (he.1.elim fun v hv => ⟨v, hv.1, hv.2.1, hv1.below he.2, HALL.out w'' (below_on h he.2)⟩ : ∃ v, e = .returned v ∧ Words w'' v (q.map fun (n : Nat) => (n : Int)) ∧ Words w'' v1 (q.map fun (n : Nat) => (n : Int)) ∧ _)
  have VW := Lib.hid fun w' v1 v2 (h : Below w8.heap.size w8 w') (hv1 : Words w' v1 (q.map fun (n : Nat) => (n : Int))) (hv2 : Words w' v2 (q.map fun (n : Nat) => (n : Int))) => (words_eq hv1 hv2 HQN.out (decide_eq_true rfl)).mono fun e w'' he => (⟨he.1, HALL.out w'' (below_on h he.2)⟩ : _ ∧ _)
  have X1 := Lib.hid fun w' (h : Below w8.heap.size w8 w') => (text_of (HT.out.on h) (HC.out.on h) HZ.out HTX.out).mono fun e w'' he => (⟨he.1, HALL.out w'' (below_on h he.2)⟩ : _ ∧ _)
  have X2 := Lib.hid fun w' (h : Below w8.heap.size w8 w') => (rctext_at (HC.out.on h) FA.out.1 FA.out.2 HZ.out HTX.out).mono fun e w'' he => (⟨he.1, HALL.out w'' (below_on h he.2)⟩ : _ ∧ _)
  have CX := Lib.hid fun w' (h : Below w8.heap.size w8 w') => (callof_at (HX.out.on h)).mono fun e w'' he => (⟨he.1, HALL.out w'' (below_on h he.2)⟩ : _ ∧ _)
  have SS := Lib.hid fun w' (h : Below w8.heap.size w8 w') => (same_at (HX.out.on h) (HY.out.on h) HF2.out.1 HF2.out.2 (Cl.eq_iff.2 rfl)).mono fun e w'' he => (⟨he.1, HALL.out w'' (below_on h he.2)⟩ : _ ∧ _)
  have htt : (t.toList == t.toList) = true := by simp
  obtain ⟨p0, p1, p2, p3, p4, p5, p6, p7, p8, p9, p10, p11, p12, p13, p14, p15, p16, p17, p18, p19, p20, p21, p22, p23, p24⟩ := HALL.out w8.drew (below_self w8).drew
  clear HC2 HS
  cases gd
  case false =>
    cases s
    case false =>
      go_wp2_with fail
      go_region_held3 (fun w' => w'.cell? ⟨g, 0, none⟩ = some (.int .i64 o) ∧ w'.cell? ⟨g, 1, none⟩ = some (.slice A na ca) ∧ w'.cell? ⟨g, 2, none⟩ = some (.slice B nb cb) ∧ w'.cell? ⟨g, 3, none⟩ = some (.int .i64 x) ∧ w'.cell? ⟨g, 4, none⟩ = some (.int .i64 y) ∧ w'.cell? ⟨g, 5, none⟩ = some (.int .u64 (z : Int)) ∧ w'.cell? ⟨g5, 0, none⟩ = some (.int .i64 o) ∧ w'.cell? ⟨g5, 1, none⟩ = some (.slice A na ca) ∧ w'.cell? ⟨g5, 2, none⟩ = some (.slice B nb cb) ∧ w'.cell? ⟨g5, 3, none⟩ = some (.int .i64 x) ∧ w'.cell? ⟨g5, 4, none⟩ = some (.int .i64 y) ∧ w'.cell? ⟨g5, 5, none⟩ = some (.int .u64 (z : Int)) ∧ w'.cell? ⟨g6, 0, none⟩ = some (.int .i64 o2) ∧ w'.cell? ⟨g6, 1, none⟩ = some (.slice A2 na2 ca2) ∧ w'.cell? ⟨g6, 2, none⟩ = some (.slice B2 nb2 cb2) ∧ w'.cell? ⟨g6, 3, none⟩ = some (.int .i64 x2) ∧ w'.cell? ⟨g6, 4, none⟩ = some (.int .i64 y2) ∧ w'.cell? ⟨g6, 5, none⟩ = some (.int .u64 (z2 : Int)) ∧ w'.cell? ⟨g8, 0, none⟩ = some (.int .i64 o2) ∧ w'.cell? ⟨g8, 1, none⟩ = some (.slice A3 na2 ca3) ∧ w'.cell? ⟨g8, 2, none⟩ = some (.slice B3 nb2 cb3) ∧ w'.cell? ⟨g8, 3, none⟩ = some (.int .i64 x2) ∧ w'.cell? ⟨g8, 4, none⟩ = some (.int .i64 y2) ∧ w'.cell? ⟨g8, 5, none⟩ = some (.int .u64 (z2 : Int)) ∧ Below w8.heap.size w8 w')
        (first | exact ⟨by with_reducible assumption, by with_reducible assumption, by with_reducible assumption, by with_reducible assumption, by with_reducible assumption, by with_reducible assumption, by with_reducible assumption, by with_reducible assumption, by with_reducible assumption, by with_reducible assumption, by with_reducible assumption, by with_reducible assumption, by with_reducible assumption, by with_reducible assumption, by with_reducible assumption, by with_reducible assumption, by with_reducible assumption, by with_reducible assumption, by with_reducible assumption, by with_reducible assumption, by with_reducible assumption, by with_reducible assumption, by with_reducible assumption, by with_reducible assumption, by with_reducible assumption⟩ | fail)
        (first
          | (go_at_call 9; ((with_reducible refine (G1.out _ (by with_reducible assumption)).mono ?_); clear p0 p1 p2 p3 p4 p5 p6 p7 p8 p9 p10 p11 p12 p13 p14 p15 p16 p17 p18 p19 p20 p21 p22 p23 p24; rintro e w' ⟨rfl, p0, p1, p2, p3, p4, p5, p6, p7, p8, p9, p10, p11, p12, p13, p14, p15, p16, p17, p18, p19, p20, p21, p22, p23, p24⟩))
          | (go_at_call 16; ((with_reducible refine (G2.out _ (by with_reducible assumption)).mono ?_); clear p0 p1 p2 p3 p4 p5 p6 p7 p8 p9 p10 p11 p12 p13 p14 p15 p16 p17 p18 p19 p20 p21 p22 p23 p24; rintro e w' ⟨rfl, p0, p1, p2, p3, p4, p5, p6, p7, p8, p9, p10, p11, p12, p13, p14, p15, p16, p17, p18, p19, p20, p21, p22, p23, p24⟩))
          | (go_at_call 10; ((with_reducible refine (V1.out _ (by with_reducible assumption)).mono ?_); clear p0 p1 p2 p3 p4 p5 p6 p7 p8 p9 p10 p11 p12 p13 p14 p15 p16 p17 p18 p19 p20 p21 p22 p23 p24; rintro e w' ⟨v1, rfl, hv1, p0, p1, p2, p3, p4, p5, p6, p7, p8, p9, p10, p11, p12, p13, p14, p15, p16, p17, p18, p19, p20, p21, p22, p23, p24⟩))
          | (go_at_call 17; ((with_reducible refine (V2.out _ _ (by with_reducible assumption) (by with_reducible assumption)).mono ?_); clear hv1 p0 p1 p2 p3 p4 p5 p6 p7 p8 p9 p10 p11 p12 p13 p14 p15 p16 p17 p18 p19 p20 p21 p22 p23 p24; rintro e w' ⟨v2, rfl, hv2, hv1, p0, p1, p2, p3, p4, p5, p6, p7, p8, p9, p10, p11, p12, p13, p14, p15, p16, p17, p18, p19, p20, p21, p22, p23, p24⟩))
          | (go_at_call 13; ((with_reducible refine (VW.out _ _ _ (by with_reducible assumption) (by with_reducible assumption) (by with_reducible assumption)).mono ?_); clear hv1 hv2 p0 p1 p2 p3 p4 p5 p6 p7 p8 p9 p10 p11 p12 p13 p14 p15 p16 p17 p18 p19 p20 p21 p22 p23 p24; rintro e w' ⟨rfl, p0, p1, p2, p3, p4, p5, p6, p7, p8, p9, p10, p11, p12, p13, p14, p15, p16, p17, p18, p19, p20, p21, p22, p23, p24⟩))
          | (go_at_call 11; ((with_reducible refine (X1.out _ (by with_reducible assumption)).mono ?_); clear p0 p1 p2 p3 p4 p5 p6 p7 p8 p9 p10 p11 p12 p13 p14 p15 p16 p17 p18 p19 p20 p21 p22 p23 p24; rintro e w' ⟨rfl, p0, p1, p2, p3, p4, p5, p6, p7, p8, p9, p10, p11, p12, p13, p14, p15, p16, p17, p18, p19, p20, p21, p22, p23, p24⟩))
          | (go_at_call 18; ((with_reducible refine (X2.out _ (by with_reducible assumption)).mono ?_); clear p0 p1 p2 p3 p4 p5 p6 p7 p8 p9 p10 p11 p12 p13 p14 p15 p16 p17 p18 p19 p20 p21 p22 p23 p24; rintro e w' ⟨rfl, p0, p1, p2, p3, p4, p5, p6, p7, p8, p9, p10, p11, p12, p13, p14, p15, p16, p17, p18, p19, p20, p21, p22, p23, p24⟩))
          | (go_at_call 14; ((with_reducible refine (CX.out _ (by with_reducible assumption)).mono ?_); clear p0 p1 p2 p3 p4 p5 p6 p7 p8 p9 p10 p11 p12 p13 p14 p15 p16 p17 p18 p19 p20 p21 p22 p23 p24; rintro e w' ⟨rfl, p0, p1, p2, p3, p4, p5, p6, p7, p8, p9, p10, p11, p12, p13, p14, p15, p16, p17, p18, p19, p20, p21, p22, p23, p24⟩))
          | (go_at_call 19; ((with_reducible refine (SS.out _ (by with_reducible assumption)).mono ?_); clear p0 p1 p2 p3 p4 p5 p6 p7 p8 p9 p10 p11 p12 p13 p14 p15 p16 p17 p18 p19 p20 p21 p22 p23 p24; rintro e w' ⟨rfl, p0, p1, p2, p3, p4, p5, p6, p7, p8, p9, p10, p11, p12, p13, p14, p15, p16, p17, p18, p19, p20, p21, p22, p23, p24⟩))
          | fail)
      go_wp2
      go_ret
      exact ⟨rfl, below_on K1.out.old p24⟩
    case true =>
      go_wp2_with fail
      go_region_held3 (fun w' => w'.cell? ⟨g, 0, none⟩ = some (.int .i64 o) ∧ w'.cell? ⟨g, 1, none⟩ = some (.slice A na ca) ∧ w'.cell? ⟨g, 2, none⟩ = some (.slice B nb cb) ∧ w'.cell? ⟨g, 3, none⟩ = some (.int .i64 x) ∧ w'.cell? ⟨g, 4, none⟩ = some (.int .i64 y) ∧ w'.cell? ⟨g, 5, none⟩ = some (.int .u64 (z : Int)) ∧ w'.cell? ⟨g5, 0, none⟩ = some (.int .i64 o) ∧ w'.cell? ⟨g5, 1, none⟩ = some (.slice A na ca) ∧ w'.cell? ⟨g5, 2, none⟩ = some (.slice B nb cb) ∧ w'.cell? ⟨g5, 3, none⟩ = some (.int .i64 x) ∧ w'.cell? ⟨g5, 4, none⟩ = some (.int .i64 y) ∧ w'.cell? ⟨g5, 5, none⟩ = some (.int .u64 (z : Int)) ∧ w'.cell? ⟨g6, 0, none⟩ = some (.int .i64 o2) ∧ w'.cell? ⟨g6, 1, none⟩ = some (.slice A2 na2 ca2) ∧ w'.cell? ⟨g6, 2, none⟩ = some (.slice B2 nb2 cb2) ∧ w'.cell? ⟨g6, 3, none⟩ = some (.int .i64 x2) ∧ w'.cell? ⟨g6, 4, none⟩ = some (.int .i64 y2) ∧ w'.cell? ⟨g6, 5, none⟩ = some (.int .u64 (z2 : Int)) ∧ w'.cell? ⟨g8, 0, none⟩ = some (.int .i64 o2) ∧ w'.cell? ⟨g8, 1, none⟩ = some (.slice A3 na2 ca3) ∧ w'.cell? ⟨g8, 2, none⟩ = some (.slice B3 nb2 cb3) ∧ w'.cell? ⟨g8, 3, none⟩ = some (.int .i64 x2) ∧ w'.cell? ⟨g8, 4, none⟩ = some (.int .i64 y2) ∧ w'.cell? ⟨g8, 5, none⟩ = some (.int .u64 (z2 : Int)) ∧ Below w8.heap.size w8 w')
        (first | exact ⟨by with_reducible assumption, by with_reducible assumption, by with_reducible assumption, by with_reducible assumption, by with_reducible assumption, by with_reducible assumption, by with_reducible assumption, by with_reducible assumption, by with_reducible assumption, by with_reducible assumption, by with_reducible assumption, by with_reducible assumption, by with_reducible assumption, by with_reducible assumption, by with_reducible assumption, by with_reducible assumption, by with_reducible assumption, by with_reducible assumption, by with_reducible assumption, by with_reducible assumption, by with_reducible assumption, by with_reducible assumption, by with_reducible assumption, by with_reducible assumption, by with_reducible assumption⟩ | fail)
        (first
          | (go_at_call 9; ((with_reducible refine (G1.out _ (by with_reducible assumption)).mono ?_); clear p0 p1 p2 p3 p4 p5 p6 p7 p8 p9 p10 p11 p12 p13 p14 p15 p16 p17 p18 p19 p20 p21 p22 p23 p24; rintro e w' ⟨rfl, p0, p1, p2, p3, p4, p5, p6, p7, p8, p9, p10, p11, p12, p13, p14, p15, p16, p17, p18, p19, p20, p21, p22, p23, p24⟩))
          | (go_at_call 16; ((with_reducible refine (G2.out _ (by with_reducible assumption)).mono ?_); clear p0 p1 p2 p3 p4 p5 p6 p7 p8 p9 p10 p11 p12 p13 p14 p15 p16 p17 p18 p19 p20 p21 p22 p23 p24; rintro e w' ⟨rfl, p0, p1, p2, p3, p4, p5, p6, p7, p8, p9, p10, p11, p12, p13, p14, p15, p16, p17, p18, p19, p20, p21, p22, p23, p24⟩))
          | (go_at_call 10; ((with_reducible refine (V1.out _ (by with_reducible assumption)).mono ?_); clear p0 p1 p2 p3 p4 p5 p6 p7 p8 p9 p10 p11 p12 p13 p14 p15 p16 p17 p18 p19 p20 p21 p22 p23 p24; rintro e w' ⟨v1, rfl, hv1, p0, p1, p2, p3, p4, p5, p6, p7, p8, p9, p10, p11, p12, p13, p14, p15, p16, p17, p18, p19, p20, p21, p22, p23, p24⟩))
          | (go_at_call 17; ((with_reducible refine (V2.out _ _ (by with_reducible assumption) (by with_reducible assumption)).mono ?_); clear hv1 p0 p1 p2 p3 p4 p5 p6 p7 p8 p9 p10 p11 p12 p13 p14 p15 p16 p17 p18 p19 p20 p21 p22 p23 p24; rintro e w' ⟨v2, rfl, hv2, hv1, p0, p1, p2, p3, p4, p5, p6, p7, p8, p9, p10, p11, p12, p13, p14, p15, p16, p17, p18, p19, p20, p21, p22, p23, p24⟩))
          | (go_at_call 13; ((with_reducible refine (VW.out _ _ _ (by with_reducible assumption) (by with_reducible assumption) (by with_reducible assumption)).mono ?_); clear hv1 hv2 p0 p1 p2 p3 p4 p5 p6 p7 p8 p9 p10 p11 p12 p13 p14 p15 p16 p17 p18 p19 p20 p21 p22 p23 p24; rintro e w' ⟨rfl, p0, p1, p2, p3, p4, p5, p6, p7, p8, p9, p10, p11, p12, p13, p14, p15, p16, p17, p18, p19, p20, p21, p22, p23, p24⟩))
          | (go_at_call 11; ((with_reducible refine (X1.out _ (by with_reducible assumption)).mono ?_); clear p0 p1 p2 p3 p4 p5 p6 p7 p8 p9 p10 p11 p12 p13 p14 p15 p16 p17 p18 p19 p20 p21 p22 p23 p24; rintro e w' ⟨rfl, p0, p1, p2, p3, p4, p5, p6, p7, p8, p9, p10, p11, p12, p13, p14, p15, p16, p17, p18, p19, p20, p21, p22, p23, p24⟩))
          | (go_at_call 18; ((with_reducible refine (X2.out _ (by with_reducible assumption)).mono ?_); clear p0 p1 p2 p3 p4 p5 p6 p7 p8 p9 p10 p11 p12 p13 p14 p15 p16 p17 p18 p19 p20 p21 p22 p23 p24; rintro e w' ⟨rfl, p0, p1, p2, p3, p4, p5, p6, p7, p8, p9, p10, p11, p12, p13, p14, p15, p16, p17, p18, p19, p20, p21, p22, p23, p24⟩))
          | (go_at_call 14; ((with_reducible refine (CX.out _ (by with_reducible assumption)).mono ?_); clear p0 p1 p2 p3 p4 p5 p6 p7 p8 p9 p10 p11 p12 p13 p14 p15 p16 p17 p18 p19 p20 p21 p22 p23 p24; rintro e w' ⟨rfl, p0, p1, p2, p3, p4, p5, p6, p7, p8, p9, p10, p11, p12, p13, p14, p15, p16, p17, p18, p19, p20, p21, p22, p23, p24⟩))
          | (go_at_call 19; ((with_reducible refine (SS.out _ (by with_reducible assumption)).mono ?_); clear p0 p1 p2 p3 p4 p5 p6 p7 p8 p9 p10 p11 p12 p13 p14 p15 p16 p17 p18 p19 p20 p21 p22 p23 p24; rintro e w' ⟨rfl, p0, p1, p2, p3, p4, p5, p6, p7, p8, p9, p10, p11, p12, p13, p14, p15, p16, p17, p18, p19, p20, p21, p22, p23, p24⟩))
          | fail)
      go_wp2
      go_ret
      exact ⟨rfl, below_on K1.out.old p24⟩
  case true =>
    cases s
    case false =>
      go_wp2_with fail
      go_region_held3 (fun w' => w'.cell? ⟨g, 0, none⟩ = some (.int .i64 o) ∧ w'.cell? ⟨g, 1, none⟩ = some (.slice A na ca) ∧ w'.cell? ⟨g, 2, none⟩ = some (.slice B nb cb) ∧ w'.cell? ⟨g, 3, none⟩ = some (.int .i64 x) ∧ w'.cell? ⟨g, 4, none⟩ = some (.int .i64 y) ∧ w'.cell? ⟨g, 5, none⟩ = some (.int .u64 (z : Int)) ∧ w'.cell? ⟨g5, 0, none⟩ = some (.int .i64 o) ∧ w'.cell? ⟨g5, 1, none⟩ = some (.slice A na ca) ∧ w'.cell? ⟨g5, 2, none⟩ = some (.slice B nb cb) ∧ w'.cell? ⟨g5, 3, none⟩ = some (.int .i64 x) ∧ w'.cell? ⟨g5, 4, none⟩ = some (.int .i64 y) ∧ w'.cell? ⟨g5, 5, none⟩ = some (.int .u64 (z : Int)) ∧ w'.cell? ⟨g6, 0, none⟩ = some (.int .i64 o2) ∧ w'.cell? ⟨g6, 1, none⟩ = some (.slice A2 na2 ca2) ∧ w'.cell? ⟨g6, 2, none⟩ = some (.slice B2 nb2 cb2) ∧ w'.cell? ⟨g6, 3, none⟩ = some (.int .i64 x2) ∧ w'.cell? ⟨g6, 4, none⟩ = some (.int .i64 y2) ∧ w'.cell? ⟨g6, 5, none⟩ = some (.int .u64 (z2 : Int)) ∧ w'.cell? ⟨g8, 0, none⟩ = some (.int .i64 o2) ∧ w'.cell? ⟨g8, 1, none⟩ = some (.slice A3 na2 ca3) ∧ w'.cell? ⟨g8, 2, none⟩ = some (.slice B3 nb2 cb3) ∧ w'.cell? ⟨g8, 3, none⟩ = some (.int .i64 x2) ∧ w'.cell? ⟨g8, 4, none⟩ = some (.int .i64 y2) ∧ w'.cell? ⟨g8, 5, none⟩ = some (.int .u64 (z2 : Int)) ∧ Below w8.heap.size w8 w')
        (first | exact ⟨by with_reducible assumption, by with_reducible assumption, by with_reducible assumption, by with_reducible assumption, by with_reducible assumption, by with_reducible assumption, by with_reducible assumption, by with_reducible assumption, by with_reducible assumption, by with_reducible assumption, by with_reducible assumption, by with_reducible assumption, by with_reducible assumption, by with_reducible assumption, by with_reducible assumption, by with_reducible assumption, by with_reducible assumption, by with_reducible assumption, by with_reducible assumption, by with_reducible assumption, by with_reducible assumption, by with_reducible assumption, by with_reducible assumption, by with_reducible assumption, by with_reducible assumption⟩ | fail)
        (first
          | (go_at_call 9; ((with_reducible refine (G1.out _ (by with_reducible assumption)).mono ?_); clear p0 p1 p2 p3 p4 p5 p6 p7 p8 p9 p10 p11 p12 p13 p14 p15 p16 p17 p18 p19 p20 p21 p22 p23 p24; rintro e w' ⟨rfl, p0, p1, p2, p3, p4, p5, p6, p7, p8, p9, p10, p11, p12, p13, p14, p15, p16, p17, p18, p19, p20, p21, p22, p23, p24⟩))
          | (go_at_call 16; ((with_reducible refine (G2.out _ (by with_reducible assumption)).mono ?_); clear p0 p1 p2 p3 p4 p5 p6 p7 p8 p9 p10 p11 p12 p13 p14 p15 p16 p17 p18 p19 p20 p21 p22 p23 p24; rintro e w' ⟨rfl, p0, p1, p2, p3, p4, p5, p6, p7, p8, p9, p10, p11, p12, p13, p14, p15, p16, p17, p18, p19, p20, p21, p22, p23, p24⟩))
          | (go_at_call 10; ((with_reducible refine (V1.out _ (by with_reducible assumption)).mono ?_); clear p0 p1 p2 p3 p4 p5 p6 p7 p8 p9 p10 p11 p12 p13 p14 p15 p16 p17 p18 p19 p20 p21 p22 p23 p24; rintro e w' ⟨v1, rfl, hv1, p0, p1, p2, p3, p4, p5, p6, p7, p8, p9, p10, p11, p12, p13, p14, p15, p16, p17, p18, p19, p20, p21, p22, p23, p24⟩))
          | (go_at_call 17; ((with_reducible refine (V2.out _ _ (by with_reducible assumption) (by with_reducible assumption)).mono ?_); clear hv1 p0 p1 p2 p3 p4 p5 p6 p7 p8 p9 p10 p11 p12 p13 p14 p15 p16 p17 p18 p19 p20 p21 p22 p23 p24; rintro e w' ⟨v2, rfl, hv2, hv1, p0, p1, p2, p3, p4, p5, p6, p7, p8, p9, p10, p11, p12, p13, p14, p15, p16, p17, p18, p19, p20, p21, p22, p23, p24⟩))
          | (go_at_call 13; ((with_reducible refine (VW.out _ _ _ (by with_reducible assumption) (by with_reducible assumption) (by with_reducible assumption)).mono ?_); clear hv1 hv2 p0 p1 p2 p3 p4 p5 p6 p7 p8 p9 p10 p11 p12 p13 p14 p15 p16 p17 p18 p19 p20 p21 p22 p23 p24; rintro e w' ⟨rfl, p0, p1, p2, p3, p4, p5, p6, p7, p8, p9, p10, p11, p12, p13, p14, p15, p16, p17, p18, p19, p20, p21, p22, p23, p24⟩))
          | (go_at_call 11; ((with_reducible refine (X1.out _ (by with_reducible assumption)).mono ?_); clear p0 p1 p2 p3 p4 p5 p6 p7 p8 p9 p10 p11 p12 p13 p14 p15 p16 p17 p18 p19 p20 p21 p22 p23 p24; rintro e w' ⟨rfl, p0, p1, p2, p3, p4, p5, p6, p7, p8, p9, p10, p11, p12, p13, p14, p15, p16, p17, p18, p19, p20, p21, p22, p23, p24⟩))
          | (go_at_call 18; ((with_reducible refine (X2.out _ (by with_reducible assumption)).mono ?_); clear p0 p1 p2 p3 p4 p5 p6 p7 p8 p9 p10 p11 p12 p13 p14 p15 p16 p17 p18 p19 p20 p21 p22 p23 p24; rintro e w' ⟨rfl, p0, p1, p2, p3, p4, p5, p6, p7, p8, p9, p10, p11, p12, p13, p14, p15, p16, p17, p18, p19, p20, p21, p22, p23, p24⟩))
          | (go_at_call 14; ((with_reducible refine (CX.out _ (by with_reducible assumption)).mono ?_); clear p0 p1 p2 p3 p4 p5 p6 p7 p8 p9 p10 p11 p12 p13 p14 p15 p16 p17 p18 p19 p20 p21 p22 p23 p24; rintro e w' ⟨rfl, p0, p1, p2, p3, p4, p5, p6, p7, p8, p9, p10, p11, p12, p13, p14, p15, p16, p17, p18, p19, p20, p21, p22, p23, p24⟩))
          | (go_at_call 19; ((with_reducible refine (SS.out _ (by with_reducible assumption)).mono ?_); clear p0 p1 p2 p3 p4 p5 p6 p7 p8 p9 p10 p11 p12 p13 p14 p15 p16 p17 p18 p19 p20 p21 p22 p23 p24; rintro e w' ⟨rfl, p0, p1, p2, p3, p4, p5, p6, p7, p8, p9, p10, p11, p12, p13, p14, p15, p16, p17, p18, p19, p20, p21, p22, p23, p24⟩))
          | fail)
      go_wp2
      go_ret
      exact ⟨rfl, below_on K1.out.old p24⟩
    case true =>
      go_wp2_with fail
      go_region_held3 (fun w' => w'.cell? ⟨g, 0, none⟩ = some (.int .i64 o) ∧ w'.cell? ⟨g, 1, none⟩ = some (.slice A na ca) ∧ w'.cell? ⟨g, 2, none⟩ = some (.slice B nb cb) ∧ w'.cell? ⟨g, 3, none⟩ = some (.int .i64 x) ∧ w'.cell? ⟨g, 4, none⟩ = some (.int .i64 y) ∧ w'.cell? ⟨g, 5, none⟩ = some (.int .u64 (z : Int)) ∧ w'.cell? ⟨g5, 0, none⟩ = some (.int .i64 o) ∧ w'.cell? ⟨g5, 1, none⟩ = some (.slice A na ca) ∧ w'.cell? ⟨g5, 2, none⟩ = some (.slice B nb cb) ∧ w'.cell? ⟨g5, 3, none⟩ = some (.int .i64 x) ∧ w'.cell? ⟨g5, 4, none⟩ = some (.int .i64 y) ∧ w'.cell? ⟨g5, 5, none⟩ = some (.int .u64 (z : Int)) ∧ w'.cell? ⟨g6, 0, none⟩ = some (.int .i64 o2) ∧ w'.cell? ⟨g6, 1, none⟩ = some (.slice A2 na2 ca2) ∧ w'.cell? ⟨g6, 2, none⟩ = some (.slice B2 nb2 cb2) ∧ w'.cell? ⟨g6, 3, none⟩ = some (.int .i64 x2) ∧ w'.cell? ⟨g6, 4, none⟩ = some (.int .i64 y2) ∧ w'.cell? ⟨g6, 5, none⟩ = some (.int .u64 (z2 : Int)) ∧ w'.cell? ⟨g8, 0, none⟩ = some (.int .i64 o2) ∧ w'.cell? ⟨g8, 1, none⟩ = some (.slice A3 na2 ca3) ∧ w'.cell? ⟨g8, 2, none⟩ = some (.slice B3 nb2 cb3) ∧ w'.cell? ⟨g8, 3, none⟩ = some (.int .i64 x2) ∧ w'.cell? ⟨g8, 4, none⟩ = some (.int .i64 y2) ∧ w'.cell? ⟨g8, 5, none⟩ = some (.int .u64 (z2 : Int)) ∧ Below w8.heap.size w8 w')
        (first | exact ⟨by with_reducible assumption, by with_reducible assumption, by with_reducible assumption, by with_reducible assumption, by with_reducible assumption, by with_reducible assumption, by with_reducible assumption, by with_reducible assumption, by with_reducible assumption, by with_reducible assumption, by with_reducible assumption, by with_reducible assumption, by with_reducible assumption, by with_reducible assumption, by with_reducible assumption, by with_reducible assumption, by with_reducible assumption, by with_reducible assumption, by with_reducible assumption, by with_reducible assumption, by with_reducible assumption, by with_reducible assumption, by with_reducible assumption, by with_reducible assumption, by with_reducible assumption⟩ | fail)
        (first
          | (go_at_call 9; ((with_reducible refine (G1.out _ (by with_reducible assumption)).mono ?_); clear p0 p1 p2 p3 p4 p5 p6 p7 p8 p9 p10 p11 p12 p13 p14 p15 p16 p17 p18 p19 p20 p21 p22 p23 p24; rintro e w' ⟨rfl, p0, p1, p2, p3, p4, p5, p6, p7, p8, p9, p10, p11, p12, p13, p14, p15, p16, p17, p18, p19, p20, p21, p22, p23, p24⟩))
          | (go_at_call 16; ((with_reducible refine (G2.out _ (by with_reducible assumption)).mono ?_); clear p0 p1 p2 p3 p4 p5 p6 p7 p8 p9 p10 p11 p12 p13 p14 p15 p16 p17 p18 p19 p20 p21 p22 p23 p24; rintro e w' ⟨rfl, p0, p1, p2, p3, p4, p5, p6, p7, p8, p9, p10, p11, p12, p13, p14, p15, p16, p17, p18, p19, p20, p21, p22, p23, p24⟩))
          | (go_at_call 10; ((with_reducible refine (V1.out _ (by with_reducible assumption)).mono ?_); clear p0 p1 p2 p3 p4 p5 p6 p7 p8 p9 p10 p11 p12 p13 p14 p15 p16 p17 p18 p19 p20 p21 p22 p23 p24; rintro e w' ⟨v1, rfl, hv1, p0, p1, p2, p3, p4, p5, p6, p7, p8, p9, p10, p11, p12, p13, p14, p15, p16, p17, p18, p19, p20, p21, p22, p23, p24⟩))
          | (go_at_call 17; ((with_reducible refine (V2.out _ _ (by with_reducible assumption) (by with_reducible assumption)).mono ?_); clear hv1 p0 p1 p2 p3 p4 p5 p6 p7 p8 p9 p10 p11 p12 p13 p14 p15 p16 p17 p18 p19 p20 p21 p22 p23 p24; rintro e w' ⟨v2, rfl, hv2, hv1, p0, p1, p2, p3, p4, p5, p6, p7, p8, p9, p10, p11, p12, p13, p14, p15, p16, p17, p18, p19, p20, p21, p22, p23, p24⟩))
          | (go_at_call 13; ((with_reducible refine (VW.out _ _ _ (by with_reducible assumption) (by with_reducible assumption) (by with_reducible assumption)).mono ?_); clear hv1 hv2 p0 p1 p2 p3 p4 p5 p6 p7 p8 p9 p10 p11 p12 p13 p14 p15 p16 p17 p18 p19 p20 p21 p22 p23 p24; rintro e w' ⟨rfl, p0, p1, p2, p3, p4, p5, p6, p7, p8, p9, p10, p11, p12, p13, p14, p15, p16, p17, p18, p19, p20, p21, p22, p23, p24⟩))
          | (go_at_call 11; ((with_reducible refine (X1.out _ (by with_reducible assumption)).mono ?_); clear p0 p1 p2 p3 p4 p5 p6 p7 p8 p9 p10 p11 p12 p13 p14 p15 p16 p17 p18 p19 p20 p21 p22 p23 p24; rintro e w' ⟨rfl, p0, p1, p2, p3, p4, p5, p6, p7, p8, p9, p10, p11, p12, p13, p14, p15, p16, p17, p18, p19, p20, p21, p22, p23, p24⟩))
          | (go_at_call 18; ((with_reducible refine (X2.out _ (by with_reducible assumption)).mono ?_); clear p0 p1 p2 p3 p4 p5 p6 p7 p8 p9 p10 p11 p12 p13 p14 p15 p16 p17 p18 p19 p20 p21 p22 p23 p24; rintro e w' ⟨rfl, p0, p1, p2, p3, p4, p5, p6, p7, p8, p9, p10, p11, p12, p13, p14, p15, p16, p17, p18, p19, p20, p21, p22, p23, p24⟩))
          | (go_at_call 14; ((with_reducible refine (CX.out _ (by with_reducible assumption)).mono ?_); clear p0 p1 p2 p3 p4 p5 p6 p7 p8 p9 p10 p11 p12 p13 p14 p15 p16 p17 p18 p19 p20 p21 p22 p23 p24; rintro e w' ⟨rfl, p0, p1, p2, p3, p4, p5, p6, p7, p8, p9, p10, p11, p12, p13, p14, p15, p16, p17, p18, p19, p20, p21, p22, p23, p24⟩))
          | (go_at_call 19; ((with_reducible refine (SS.out _ (by with_reducible assumption)).mono ?_); clear p0 p1 p2 p3 p4 p5 p6 p7 p8 p9 p10 p11 p12 p13 p14 p15 p16 p17 p18 p19 p20 p21 p22 p23 p24; rintro e w' ⟨rfl, p0, p1, p2, p3, p4, p5, p6, p7, p8, p9, p10, p11, p12, p13, p14, p15, p16, p17, p18, p19, p20, p21, p22, p23, p24⟩))
          | fail)
      go_wp2
      go_ret
      exact ⟨rfl, below_on K1.out.old p24⟩
end Go.Proofs.YtfcifheejjppfaaDoor
