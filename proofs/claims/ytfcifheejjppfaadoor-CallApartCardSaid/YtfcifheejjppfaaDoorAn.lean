/-
  The law CallApart. Conditions: the ways lie in memory; the library's table of tens is there.
-/
import Derived.Test.YtfcifheejjppfaaDoorAl
namespace Go.Proofs.YtfcifheejjppfaaDoor
open Go.RowKit

theorem bar_beq {l m : List UInt8} {s t : ByteArray} {r : Bool} (h1 : bar l = s) (h2 : bar m = t) (hr : decide (l = m) = r) : (s.toList == t.toList) = r := by
  subst h1 h2 hr
  rw [ByteArray.toList_eq, ByteArray.toList_eq]
  show (l.toArray.toList == m.toArray.toList) = _
  by_cases h : l = m <;> simp [h]
set_option maxHeartbeats 16000000 in
theorem apart_walk {o x y o' x' y' : Int} {a b a' b' : List Int} {z z' : Nat} {A B A' B' : Option Addr} {na ca nb cb na' ca' nb' cb' : Nat} {w : World} (hT : Tab w) (ha : na = a.length) (hb : nb = b.length) (ha' : na' = a'.length) (hb' : nb' = b'.length)
    (hA : IntsAt w w.heap.size A a) (hB : IntsAt w w.heap.size B b) (hz : z < 18446744073709551616) (hA' : IntsAt w w.heap.size A' a') (hB' : IntsAt w w.heap.size B' b') (hz' : z' < 18446744073709551616) :
    Calls Tryd.prog 6 #[.agg #[.int .i64 o, .slice A na ca, .slice B nb cb, .int .i64 x, .int .i64 y, .int .u64 (z : Int)], .agg #[.int .i64 o', .slice A' na' ca', .slice B' nb' cb', .int .i64 x', .int .i64 y', .int .u64 (z' : Int)]] w fun e w' => e = .returned (.bool true) ∧ Below w.heap.size w w' := by
  have K1' := Bxs.new w [.int .i64 o, .slice A na ca, .slice B nb cb, .int .i64 x, .int .i64 y, .int .u64 (z : Int)] 29
  have K2' := Bxs.next w (.cells #[.int .i64 o, .slice A na ca, .slice B nb cb, .int .i64 x, .int .i64 y, .int .u64 (z : Int)] 29) [.int .i64 o', .slice A' na' ca', .slice B' nb' cb', .int .i64 x', .int .i64 y', .int .u64 (z' : Int)] 29
  have K1 := Lib.hid (K1'.on (below_alloc _ (.cells #[.int .i64 o', .slice A' na' ca', .slice B' nb' cb', .int .i64 x', .int .i64 y', .int .u64 (z' : Int)] 29)))
  have K2 := Lib.hid K2'
  clear K1' K2'
  have HT := Lib.hid (hT.on K1.out.old)
  have HC := Lib.hid (ClAt.on (c := ⟨o, a, b, x, y, z⟩) ⟨A, ca, B, cb, by rw [← ha, ← hb], hA, hB⟩ K1.out.old)
  have HD := Lib.hid (ClAt.on (c := ⟨o', a', b', x', y', z'⟩) ⟨A', ca', B', cb', by rw [← ha', ← hb'], hA', hB'⟩ K1.out.old)
  have HZ := Lib.hid hz
  have HZ' := Lib.hid hz'
  have NA := Lib.hid ha
  have NB := Lib.hid hb
  clear hT ha hb ha' hb' hA hB hA' hB' hz hz'
  go_enter Tryd.func6, Tryd.ntmps6
  go_wp2_with fail
  obtain ⟨g, hg⟩ : ∃ g, g = w.heap.size := ⟨_, rfl⟩
  rw [← hg] at K1 K2 ⊢
  clear hg
  obtain ⟨g2, hg⟩ : ∃ g2, g2 = g + 1 := ⟨_, rfl⟩
  rw [← hg] at K2 ⊢
  clear hg
  generalize (w.alloc _).alloc _ = w1 at K1 K2 HT HC HD ⊢
  refine (awake_any HT.out).mono ?_
  rintro e w2 ⟨rfl, hb⟩
  replace K1 := Lib.hid (K1.out.on hb)
  replace K2 := Lib.hid (K2.out.on hb)
  replace HT := Lib.hid (HT.out.on hb)
  replace HC := Lib.hid (HC.out.on hb)
  replace HD := Lib.hid (HD.out.on hb)
  clear hb
  have c0 := K1.out.c 0 _ rfl
  have c1 := K1.out.c 1 _ rfl
  have c2 := K1.out.c 2 _ rfl
  have c3 := K1.out.c 3 _ rfl
  have c4 := K1.out.c 4 _ rfl
  have c5 := K1.out.c 5 _ rfl
  have d0 := K2.out.c 0 _ rfl
  have d1 := K2.out.c 1 _ rfl
  have d2 := K2.out.c 2 _ rfl
  have d3 := K2.out.c 3 _ rfl
  have d4 := K2.out.c 4 _ rfl
  have d5 := K2.out.c 5 _ rfl
  by_cases h_na : 9 < na
  · have h1' : (9 : Int) < (na : Int) := by omega
    go_wp2
    go_ret
    exact ⟨rfl, K1.out.old⟩
  by_cases h_nb : 9 < nb
  · have h1' : (9 : Int) < (nb : Int) := by omega
    go_wp2
    go_ret
    exact ⟨rfl, K1.out.old⟩
  by_cases h_na' : 9 < na'
  · have h1' : (9 : Int) < (na' : Int) := by omega
    go_wp2
    go_ret
    exact ⟨rfl, K1.out.old⟩
  by_cases h_nb' : 9 < nb'
  · have h1' : (9 : Int) < (nb' : Int) := by omega
    go_wp2
    go_ret
    exact ⟨rfl, K1.out.old⟩
  have FA : Hid (a.length ≤ 1000000 ∧ b.length ≤ 1000000) := Lib.hid (by have := NA.out; have := NB.out; omega)
  obtain ⟨gd, hgd⟩ : ∃ gd, cgood (⟨o, a, b, x, y, z⟩ : Cl) = gd := ⟨_, rfl⟩
  have GD := Lib.hid hgd
  clear hgd
  go_wp2_with fail
  clear h_na h_nb h_na' h_nb'
  refine (good_at HC.out GD.out).mono ?_
  rintro e w3 ⟨rfl, hb⟩
  clear c0 c1 c2 c3 c4 c5 d0 d1 d2 d3 d4 d5
  replace K1 := Lib.hid (K1.out.on hb)
  replace K2 := Lib.hid (K2.out.on hb)
  replace HT := Lib.hid (HT.out.on hb)
  replace HC := Lib.hid (HC.out.on hb)
  replace HD := Lib.hid (HD.out.on hb)
  clear hb
  have c0 := K1.out.c 0 _ rfl
  have c1 := K1.out.c 1 _ rfl
  have c2 := K1.out.c 2 _ rfl
  have c3 := K1.out.c 3 _ rfl
  have c4 := K1.out.c 4 _ rfl
  have c5 := K1.out.c 5 _ rfl
  have d0 := K2.out.c 0 _ rfl
  have d1 := K2.out.c 1 _ rfl
  have d2 := K2.out.c 2 _ rfl
  have d3 := K2.out.c 3 _ rfl
  have d4 := K2.out.c 4 _ rfl
  have d5 := K2.out.c 5 _ rfl
  cases gd
  case false =>
    go_wp2
    go_ret
    exact ⟨rfl, K1.out.old⟩
  case true =>
    obtain ⟨gd, hgd⟩ : ∃ gd, cgood (⟨o', a', b', x', y', z'⟩ : Cl) = gd := ⟨_, rfl⟩
    have GD' := Lib.hid hgd
    clear hgd
    go_wp2_with fail
    refine (good_at HD.out GD'.out).mono ?_
    rintro e w4 ⟨rfl, hb⟩
    clear c0 c1 c2 c3 c4 c5 d0 d1 d2 d3 d4 d5
    replace K1 := Lib.hid (K1.out.on hb)
    replace K2 := Lib.hid (K2.out.on hb)
    replace HT := Lib.hid (HT.out.on hb)
    replace HC := Lib.hid (HC.out.on hb)
    replace HD := Lib.hid (HD.out.on hb)
    clear hb
    have c0 := K1.out.c 0 _ rfl
    have c1 := K1.out.c 1 _ rfl
    have c2 := K1.out.c 2 _ rfl
    have c3 := K1.out.c 3 _ rfl
    have c4 := K1.out.c 4 _ rfl
    have c5 := K1.out.c 5 _ rfl
    have d0 := K2.out.c 0 _ rfl
    have d1 := K2.out.c 1 _ rfl
    have d2 := K2.out.c 2 _ rfl
    have d3 := K2.out.c 3 _ rfl
    have d4 := K2.out.c 4 _ rfl
    have d5 := K2.out.c 5 _ rfl
    cases gd
    case false =>
      go_wp2
      go_ret
      exact ⟨rfl, K1.out.old⟩
    case true =>
      obtain ⟨s, hs⟩ : ∃ s, Cl.eq (⟨o, a, b, x, y, z⟩ : Cl) (⟨o', a', b', x', y', z'⟩ : Cl) = s := ⟨_, rfl⟩
      have HS := Lib.hid hs
      have HSW := Lib.hid (show decide (cwords (⟨o, a, b, x, y, z⟩ : Cl) = cwords (⟨o', a', b', x', y', z'⟩ : Cl)) = s by rw [cwords_iff GD.out GD'.out, hs])
      have HST := Lib.hid (show decide (ctext (⟨o, a, b, x, y, z⟩ : Cl) = ctext (⟨o', a', b', x', y', z'⟩ : Cl)) = s by rw [ctext_iff GD.out GD'.out, hs])
      clear hs
      have HALL : Hid (∀ w', Below w4.heap.size w4 w' → w'.cell? ⟨g, 0, none⟩ = some (.int .i64 o) ∧ w'.cell? ⟨g, 1, none⟩ = some (.slice A na ca) ∧ w'.cell? ⟨g, 2, none⟩ = some (.slice B nb cb) ∧ w'.cell? ⟨g, 3, none⟩ = some (.int .i64 x) ∧ w'.cell? ⟨g, 4, none⟩ = some (.int .i64 y) ∧ w'.cell? ⟨g, 5, none⟩ = some (.int .u64 (z : Int)) ∧ w'.cell? ⟨g2, 0, none⟩ = some (.int .i64 o') ∧ w'.cell? ⟨g2, 1, none⟩ = some (.slice A' na' ca') ∧ w'.cell? ⟨g2, 2, none⟩ = some (.slice B' nb' cb') ∧ w'.cell? ⟨g2, 3, none⟩ = some (.int .i64 x') ∧ w'.cell? ⟨g2, 4, none⟩ = some (.int .i64 y') ∧ w'.cell? ⟨g2, 5, none⟩ = some (.int .u64 (z' : Int)) ∧ Below w4.heap.size w4 w') := Lib.hid fun w' h => by
        have a := (K1.out.on h).c
        have b := (K2.out.on h).c
        exact ⟨a 0 _ rfl, a 1 _ rfl, a 2 _ rfl, a 3 _ rfl, a 4 _ rfl, a 5 _ rfl, b 0 _ rfl, b 1 _ rfl, b 2 _ rfl, b 3 _ rfl, b 4 _ rfl, b 5 _ rfl, h⟩
      have WC := Lib.hid fun w' (h : Below w4.heap.size w4 w') => (callof_at (HC.out.on h)).mono fun e w'' he => (⟨he.1, HALL.out w'' (below_on h he.2)⟩ : _ ∧ _)
      have WX := Lib.hid fun w' (h : Below w4.heap.size w4 w') => (callof_at (HD.out.on h)).mono fun e w'' he => (⟨he.1, HALL.out w'' (below_on h he.2)⟩ : _ ∧ _)
      have WS := Lib.hid fun w' (h : Below w4.heap.size w4 w') => (same_at (HC.out.on h) (HD.out.on h) FA.out.1 FA.out.2 HS.out).mono fun e w'' he => (⟨he.1, HALL.out w'' (below_on h he.2)⟩ : _ ∧ _)
      clear c0 c1 c2 c3 c4 c5 d0 d1 d2 d3 d4 d5
      obtain ⟨p0, p1, p2, p3, p4, p5, p6, p7, p8, p9, p10, p11, p12⟩ := HALL.out w4.drew (below_self w4).drew
      go_upto_region 5 with fail
      go_wp2_with fail
      go_region_held3 (fun w' => w'.cell? ⟨g, 0, none⟩ = some (.int .i64 o) ∧ w'.cell? ⟨g, 1, none⟩ = some (.slice A na ca) ∧ w'.cell? ⟨g, 2, none⟩ = some (.slice B nb cb) ∧ w'.cell? ⟨g, 3, none⟩ = some (.int .i64 x) ∧ w'.cell? ⟨g, 4, none⟩ = some (.int .i64 y) ∧ w'.cell? ⟨g, 5, none⟩ = some (.int .u64 (z : Int)) ∧ w'.cell? ⟨g2, 0, none⟩ = some (.int .i64 o') ∧ w'.cell? ⟨g2, 1, none⟩ = some (.slice A' na' ca') ∧ w'.cell? ⟨g2, 2, none⟩ = some (.slice B' nb' cb') ∧ w'.cell? ⟨g2, 3, none⟩ = some (.int .i64 x') ∧ w'.cell? ⟨g2, 4, none⟩ = some (.int .i64 y') ∧ w'.cell? ⟨g2, 5, none⟩ = some (.int .u64 (z' : Int)) ∧ Below w4.heap.size w4 w')
        (first | exact ⟨by with_reducible assumption, by with_reducible assumption, by with_reducible assumption, by with_reducible assumption, by with_reducible assumption, by with_reducible assumption, by with_reducible assumption, by with_reducible assumption, by with_reducible assumption, by with_reducible assumption, by with_reducible assumption, by with_reducible assumption, by with_reducible assumption⟩ | fail)
        (first
          | (go_at_call 14; ((with_reducible refine (WC.out _ (by with_reducible assumption)).mono ?_); clear p0 p1 p2 p3 p4 p5 p6 p7 p8 p9 p10 p11 p12; rintro e w' ⟨rfl, p0, p1, p2, p3, p4, p5, p6, p7, p8, p9, p10, p11, p12⟩))
          | (go_at_call 14; ((with_reducible refine (WX.out _ (by with_reducible assumption)).mono ?_); clear p0 p1 p2 p3 p4 p5 p6 p7 p8 p9 p10 p11 p12; rintro e w' ⟨rfl, p0, p1, p2, p3, p4, p5, p6, p7, p8, p9, p10, p11, p12⟩))
          | (go_at_call 19; ((with_reducible refine (WS.out _ (by with_reducible assumption)).mono ?_); clear p0 p1 p2 p3 p4 p5 p6 p7 p8 p9 p10 p11 p12; rintro e w' ⟨rfl, p0, p1, p2, p3, p4, p5, p6, p7, p8, p9, p10, p11, p12⟩))
          | fail)
      rename_i hHeld
      clear hHeld HALL WC WX WS
      have hb := p12
      clear p0 p1 p2 p3 p4 p5 p6 p7 p8 p9 p10 p11 p12
      replace K1 := Lib.hid (K1.out.on hb)
      replace K2 := Lib.hid (K2.out.on hb)
      replace HT := Lib.hid (HT.out.on hb)
      replace HC := Lib.hid (HC.out.on hb)
      replace HD := Lib.hid (HD.out.on hb)
      clear hb
      go_upto_region 6 with fail
      obtain ⟨q1, hq1⟩ : ∃ q, cwords (⟨o, a, b, x, y, z⟩ : Cl) = q := ⟨_, rfl⟩
      obtain ⟨q2, hq2⟩ : ∃ q, cwords (⟨o', a', b', x', y', z'⟩ : Cl) = q := ⟨_, rfl⟩
      obtain ⟨t1, ht1⟩ : ∃ t, bar (ctext (⟨o, a, b, x, y, z⟩ : Cl)) = t := ⟨_, rfl⟩
      obtain ⟨t2, ht2⟩ : ∃ t, bar (ctext (⟨o', a', b', x', y', z'⟩ : Cl)) = t := ⟨_, rfl⟩
      have htt := bar_beq ht1 ht2 HST.out
      have HQ1 := Lib.hid hq1
      have HQ2 := Lib.hid hq2
      have HQ := Lib.hid (show decide (q1 = q2) = s by rw [← hq1, ← hq2]; exact HSW.out)
      have HQN := Lib.hid (show q1.length ≤ 1000000 by rw [← hq1]; exact cwords_len _)
      have HT1 := Lib.hid ht1
      have HT2 := Lib.hid ht2
      clear hq1 hq2 ht1 ht2
      obtain ⟨w5, hw5⟩ : ∃ w5, w5 = w' := ⟨_, rfl⟩
      subst hw5
      have HALL : Hid (∀ w', Below w5.heap.size w5 w' → w'.cell? ⟨g, 0, none⟩ = some (.int .i64 o) ∧ w'.cell? ⟨g, 1, none⟩ = some (.slice A na ca) ∧ w'.cell? ⟨g, 2, none⟩ = some (.slice B nb cb) ∧ w'.cell? ⟨g, 3, none⟩ = some (.int .i64 x) ∧ w'.cell? ⟨g, 4, none⟩ = some (.int .i64 y) ∧ w'.cell? ⟨g, 5, none⟩ = some (.int .u64 (z : Int)) ∧ w'.cell? ⟨g2, 0, none⟩ = some (.int .i64 o') ∧ w'.cell? ⟨g2, 1, none⟩ = some (.slice A' na' ca') ∧ w'.cell? ⟨g2, 2, none⟩ = some (.slice B' nb' cb') ∧ w'.cell? ⟨g2, 3, none⟩ = some (.int .i64 x') ∧ w'.cell? ⟨g2, 4, none⟩ = some (.int .i64 y') ∧ w'.cell? ⟨g2, 5, none⟩ = some (.int .u64 (z' : Int)) ∧ Below w5.heap.size w5 w') := Lib.hid fun w' h => by
        have a := (K1.out.on h).c
        have b := (K2.out.on h).c
        exact ⟨a 0 _ rfl, a 1 _ rfl, a 2 _ rfl, a 3 _ rfl, a 4 _ rfl, a 5 _ rfl, b 0 _ rfl, b 1 _ rfl, b 2 _ rfl, b 3 _ rfl, b 4 _ rfl, b 5 _ rfl, h⟩
      have V1 := Lib.hid fun w' (h : Below w5.heap.size w5 w') => (words_of (HC.out.on h) HQ1.out).mono fun e w'' he => (he.1.elim fun v hv => ⟨v, hv.1, hv.2, HALL.out w'' (below_on h he.2)⟩ : ∃ v, e = .returned v ∧ Words w'' v (q1.map fun (n : Nat) => (n : Int)) ∧ _)
      have V2 := Lib.hid fun w' v1 (h : Below w5.heap.size w5 w') (hv1 : Words w' v1 (q1.map fun (n : Nat) => (n : Int))) => (words_of (HD.out.on h) HQ2.out).mono fun e w'' he => (he.1.elim fun v hv => ⟨v, hv.1, hv.2, hv1.below he.2, HALL.out w'' (below_on h he.2)⟩ : ∃ v, e = .returned v ∧ Words w'' v (q2.map fun (n : Nat) => (n : Int)) ∧ Words w'' v1 (q1.map fun (n : Nat) => (n : Int)) ∧ _)
      have VW := Lib.hid fun w' v1 v2 (h : Below w5.heap.size w5 w') (hv1 : Words w' v1 (q1.map fun (n : Nat) => (n : Int))) (hv2 : Words w' v2 (q2.map fun (n : Nat) => (n : Int))) => (words_eq hv1 hv2 HQN.out HQ.out).mono fun e w'' he => (⟨he.1, HALL.out w'' (below_on h he.2)⟩ : _ ∧ _)
      have X1 := Lib.hid fun w' (h : Below w5.heap.size w5 w') => (text_of (HT.out.on h) (HC.out.on h) HZ.out HT1.out).mono fun e w'' he => (⟨he.1, HALL.out w'' (below_on h he.2)⟩ : _ ∧ _)
      have X2 := Lib.hid fun w' (h : Below w5.heap.size w5 w') => (text_of (HT.out.on h) (HD.out.on h) HZ'.out HT2.out).mono fun e w'' he => (⟨he.1, HALL.out w'' (below_on h he.2)⟩ : _ ∧ _)
      obtain ⟨p0, p1, p2, p3, p4, p5, p6, p7, p8, p9, p10, p11, p12⟩ := HALL.out w5.drew (below_self w5).drew
      cases s
      case false =>
        go_wp2_with fail
        go_region_held3 (fun w' => w'.cell? ⟨g, 0, none⟩ = some (.int .i64 o) ∧ w'.cell? ⟨g, 1, none⟩ = some (.slice A na ca) ∧ w'.cell? ⟨g, 2, none⟩ = some (.slice B nb cb) ∧ w'.cell? ⟨g, 3, none⟩ = some (.int .i64 x) ∧ w'.cell? ⟨g, 4, none⟩ = some (.int .i64 y) ∧ w'.cell? ⟨g, 5, none⟩ = some (.int .u64 (z : Int)) ∧ w'.cell? ⟨g2, 0, none⟩ = some (.int .i64 o') ∧ w'.cell? ⟨g2, 1, none⟩ = some (.slice A' na' ca') ∧ w'.cell? ⟨g2, 2, none⟩ = some (.slice B' nb' cb') ∧ w'.cell? ⟨g2, 3, none⟩ = some (.int .i64 x') ∧ w'.cell? ⟨g2, 4, none⟩ = some (.int .i64 y') ∧ w'.cell? ⟨g2, 5, none⟩ = some (.int .u64 (z' : Int)) ∧ Below w5.heap.size w5 w')
          (first | exact ⟨by with_reducible assumption, by with_reducible assumption, by with_reducible assumption, by with_reducible assumption, by with_reducible assumption, by with_reducible assumption, by with_reducible assumption, by with_reducible assumption, by with_reducible assumption, by with_reducible assumption, by with_reducible assumption, by with_reducible assumption, by with_reducible assumption⟩ | fail)
          (first
            | (go_at_call 10; ((with_reducible refine (V1.out _ (by with_reducible assumption)).mono ?_); clear p0 p1 p2 p3 p4 p5 p6 p7 p8 p9 p10 p11 p12; rintro e w' ⟨v1, rfl, hv1, p0, p1, p2, p3, p4, p5, p6, p7, p8, p9, p10, p11, p12⟩))
            | (go_at_call 10; ((with_reducible refine (V2.out _ _ (by with_reducible assumption) (by with_reducible assumption)).mono ?_); clear hv1 p0 p1 p2 p3 p4 p5 p6 p7 p8 p9 p10 p11 p12; rintro e w' ⟨v2, rfl, hv2, hv1, p0, p1, p2, p3, p4, p5, p6, p7, p8, p9, p10, p11, p12⟩))
            | (go_at_call 13; ((with_reducible refine (VW.out _ _ _ (by with_reducible assumption) (by with_reducible assumption) (by with_reducible assumption)).mono ?_); clear hv1 hv2 p0 p1 p2 p3 p4 p5 p6 p7 p8 p9 p10 p11 p12; rintro e w' ⟨rfl, p0, p1, p2, p3, p4, p5, p6, p7, p8, p9, p10, p11, p12⟩))
            | (go_at_call 11; ((with_reducible refine (X1.out _ (by with_reducible assumption)).mono ?_); clear p0 p1 p2 p3 p4 p5 p6 p7 p8 p9 p10 p11 p12; rintro e w' ⟨rfl, p0, p1, p2, p3, p4, p5, p6, p7, p8, p9, p10, p11, p12⟩))
            | (go_at_call 11; ((with_reducible refine (X2.out _ (by with_reducible assumption)).mono ?_); clear p0 p1 p2 p3 p4 p5 p6 p7 p8 p9 p10 p11 p12; rintro e w' ⟨rfl, p0, p1, p2, p3, p4, p5, p6, p7, p8, p9, p10, p11, p12⟩))
            | fail)
        go_wp2
        go_ret
        exact ⟨rfl, below_on K1.out.old p12⟩
      case true =>
        go_wp2_with fail
        go_region_held3 (fun w' => w'.cell? ⟨g, 0, none⟩ = some (.int .i64 o) ∧ w'.cell? ⟨g, 1, none⟩ = some (.slice A na ca) ∧ w'.cell? ⟨g, 2, none⟩ = some (.slice B nb cb) ∧ w'.cell? ⟨g, 3, none⟩ = some (.int .i64 x) ∧ w'.cell? ⟨g, 4, none⟩ = some (.int .i64 y) ∧ w'.cell? ⟨g, 5, none⟩ = some (.int .u64 (z : Int)) ∧ w'.cell? ⟨g2, 0, none⟩ = some (.int .i64 o') ∧ w'.cell? ⟨g2, 1, none⟩ = some (.slice A' na' ca') ∧ w'.cell? ⟨g2, 2, none⟩ = some (.slice B' nb' cb') ∧ w'.cell? ⟨g2, 3, none⟩ = some (.int .i64 x') ∧ w'.cell? ⟨g2, 4, none⟩ = some (.int .i64 y') ∧ w'.cell? ⟨g2, 5, none⟩ = some (.int .u64 (z' : Int)) ∧ Below w5.heap.size w5 w')
          (first | exact ⟨by with_reducible assumption, by with_reducible assumption, by with_reducible assumption, by with_reducible assumption, by with_reducible assumption, by with_reducible assumption, by with_reducible assumption, by with_reducible assumption, by with_reducible assumption, by with_reducible assumption, by with_reducible assumption, by with_reducible assumption, by with_reducible assumption⟩ | fail)
          (first
            | (go_at_call 10; ((with_reducible refine (V1.out _ (by with_reducible assumption)).mono ?_); clear p0 p1 p2 p3 p4 p5 p6 p7 p8 p9 p10 p11 p12; rintro e w' ⟨v1, rfl, hv1, p0, p1, p2, p3, p4, p5, p6, p7, p8, p9, p10, p11, p12⟩))
            | (go_at_call 10; ((with_reducible refine (V2.out _ _ (by with_reducible assumption) (by with_reducible assumption)).mono ?_); clear hv1 p0 p1 p2 p3 p4 p5 p6 p7 p8 p9 p10 p11 p12; rintro e w' ⟨v2, rfl, hv2, hv1, p0, p1, p2, p3, p4, p5, p6, p7, p8, p9, p10, p11, p12⟩))
            | (go_at_call 13; ((with_reducible refine (VW.out _ _ _ (by with_reducible assumption) (by with_reducible assumption) (by with_reducible assumption)).mono ?_); clear hv1 hv2 p0 p1 p2 p3 p4 p5 p6 p7 p8 p9 p10 p11 p12; rintro e w' ⟨rfl, p0, p1, p2, p3, p4, p5, p6, p7, p8, p9, p10, p11, p12⟩))
            | (go_at_call 11; ((with_reducible refine (X1.out _ (by with_reducible assumption)).mono ?_); clear p0 p1 p2 p3 p4 p5 p6 p7 p8 p9 p10 p11 p12; rintro e w' ⟨rfl, p0, p1, p2, p3, p4, p5, p6, p7, p8, p9, p10, p11, p12⟩))
            | (go_at_call 11; ((with_reducible refine (X2.out _ (by with_reducible assumption)).mono ?_); clear p0 p1 p2 p3 p4 p5 p6 p7 p8 p9 p10 p11 p12; rintro e w' ⟨rfl, p0, p1, p2, p3, p4, p5, p6, p7, p8, p9, p10, p11, p12⟩))
            | fail)
        go_wp2
        go_ret
        exact ⟨rfl, below_on K1.out.old p12⟩
end Go.Proofs.YtfcifheejjppfaaDoor
