/-
  The walk of the reference's CallText. Conditions: the ways lie in memory, of at most a million steps.
-/
import Derived.Test.YtfcifheejjppfaaDoorAr
namespace Go.Proofs.YtfcifheejjppfaaDoor
open Go.RowKit

theorem rctext_none {o x y : Int} {a l : List Int} {z : Nat} {A B : Option Addr} {na ca nb cb : Nat} {w : World} (ha : na = a.length) (hb : nb = l.length) (la : na ≤ 1000000) (lb : nb ≤ 1000000) (hA : IntsAt w w.heap.size A a) (hB : IntsAt w w.heap.size B l) (hg : cgood ⟨o, a, l, x, y, z⟩ = false) :
    Calls Tryd.prog 18 #[.agg #[.int .i64 o, .slice A na ca, .slice B nb cb, .int .i64 x, .int .i64 y, .int .u64 (z : Int)]] w fun e w' => e = .returned (.string ⟨#[]⟩) ∧ Below w.heap.size w w' := by
  have HB := Lib.hid (below_alloc w (.cells #[.int .i64 o, .slice A na ca, .slice B nb cb, .int .i64 x, .int .i64 y, .int .u64 (z : Int)] 39))
  have LA := Lib.hid hA
  have LB := Lib.hid hB
  have NA := Lib.hid ha
  have NB := Lib.hid hb
  have MA := Lib.hid la
  have MB := Lib.hid lb
  have HG := Lib.hid hg
  clear ha hb la lb hA hB hg
  go_enter Tryd.func18, Tryd.ntmps18
  go_wp2_with fail
  generalize w.alloc _ = w1 at HB ⊢
  refine (rcgood_at (w := w1) NA.out NB.out MA.out MB.out (LA.out.on HB.out) (LB.out.on HB.out) HG.out).mono ?_
  rintro e w2 ⟨rfl, hb⟩
  replace HB := Lib.hid (below_on HB.out hb)
  clear hb
  go_wp2
  go_ret
  exact ⟨rfl, HB.out⟩
theorem rnum_is {n : Nat} {s : ByteArray} (hn : n < 65536) (hs : dct n = s) (w : World) : Calls Tryd.prog 38 #[.int .i64 (n : Int)] w fun e w' => e = .returned (.string s) ∧ Below w.heap.size w w' := hs ▸ num_any n hn w
theorem rdig_is {n : Nat} {s : ByteArray} (hn : n < 18446744073709551616) (hs : dct n = s) (w : World) : Calls Tryd.prog 39 #[.int .u64 (n : Int)] w fun e w' => e = .returned (.string s) ∧ Below w.heap.size w w' := hs ▸ digits_any n hn w
set_option maxHeartbeats 8000000 in
theorem rctext_1 {a l : List Int} {x y z : Nat} {A B : Option Addr} {na ca nb cb : Nat} {s2 s3 s4 s5 s6 : ByteArray} {w : World} (ha : na = a.length) (hb : nb = l.length) (la : na ≤ 1000000) (lb : nb ≤ 1000000) (hA : IntsAt w w.heap.size A a) (hB : IntsAt w w.heap.size B l) (hg : cgood ⟨1, a, l, x, y, z⟩ = true)
    (hx : x < 65536) (hy : y < 65536) (hz : z < 18446744073709551616) (e2 : (⟨(ptext a).toArray⟩ : ByteArray) = s2) (e3 : (⟨(ptext l).toArray⟩ : ByteArray) = s3) (e4 : dct x = s4) (e5 : dct y = s5) (e6 : dct z = s6) (hsz : s2.size ≤ 20 ∧ s3.size ≤ 20 ∧ s4.size ≤ 20 ∧ s5.size ≤ 20 ∧ s6.size ≤ 20) :
    Calls Tryd.prog 18 #[.agg #[.int .i64 1, .slice A na ca, .slice B nb cb, .int .i64 (x : Int), .int .i64 (y : Int), .int .u64 (z : Int)]] w fun e w' => e = .returned (.string (((((⟨#[109, 97, 107, 101]⟩ : ByteArray) ++ ⟨#[32]⟩ ++ s2) ++ ⟨#[32]⟩ ++ s3) ++ ⟨#[32]⟩ ++ s4) ++ ⟨#[32]⟩ ++ s5)) ∧ Below w.heap.size w w' := by
  obtain ⟨z2, z3, z4, z5, z6⟩ := hsz
  have K1 := Lib.hid (Bxs.new w [.int .i64 1, .slice A na ca, .slice B nb cb, .int .i64 (x : Int), .int .i64 (y : Int), .int .u64 (z : Int)] 39)
  have LA := Lib.hid hA
  have LB := Lib.hid hB
  have NA := Lib.hid ha
  have NB := Lib.hid hb
  have MA := Lib.hid la
  have MB := Lib.hid lb
  have HG := Lib.hid hg
  have HX := Lib.hid hx
  have HY := Lib.hid hy
  have HZ := Lib.hid hz
  have E2 := Lib.hid e2
  have E3 := Lib.hid e3
  have E4 := Lib.hid e4
  have E5 := Lib.hid e5
  have E6 := Lib.hid e6
  clear ha hb la lb hA hB hg hx hy hz e2 e3 e4 e5 e6
  go_enter Tryd.func18, Tryd.ntmps18
  go_wp2_with fail
  obtain ⟨g, hg⟩ : ∃ g, g = w.heap.size := ⟨_, rfl⟩
  rw [← hg] at K1 ⊢
  clear hg
  generalize w.alloc _ = w1 at K1 ⊢
  refine (rcgood_at (w := w1) NA.out NB.out MA.out MB.out (LA.out.on K1.out.old) (LB.out.on K1.out.old) HG.out).mono ?_
  rintro e w2 ⟨rfl, hb⟩
  replace K1 := Lib.hid (K1.out.on hb)
  clear hb
  have K2 := Lib.hid (Bxs.more (below_self w2) [.string ⟨#[]⟩, .string ⟨#[109, 97, 107, 101]⟩, .string ⟨#[99, 111, 112, 121]⟩, .string ⟨#[109, 105, 110, 116]⟩, .string ⟨#[109, 111, 118, 101]⟩, .string ⟨#[100, 101, 108, 101, 116, 101]⟩, .string ⟨#[114, 101, 118, 111, 107, 101]⟩, .string ⟨#[115, 101, 110, 100]⟩, .string ⟨#[114, 101, 99, 118]⟩, .string ⟨#[114, 105, 110, 103]⟩, .string ⟨#[112, 111, 108, 108]⟩, .string ⟨#[119, 114, 105, 116, 101]⟩, .string ⟨#[114, 101, 97, 100]⟩, .string ⟨#[116, 101, 108, 108]⟩] 9)
  replace K1 := Lib.hid (K1.out.on K2.out.old)
  go_upto_region 4 with fail
  obtain ⟨g2, hg⟩ : ∃ g, g = w2.heap.size := ⟨_, rfl⟩
  rw [← hg] at K2 ⊢
  clear hg
  generalize w2.alloc _ = w3 at K1 K2 ⊢
  have HK2 := Lib.hid (K2.out.c 1 _ rfl)
  have HLT := Lib.hid K2.out.lt
  clear K2
  have HALL : Hid (∀ w', Below w3.heap.size w3 w' → w'.cell? ⟨g, 0, none⟩ = some (.int .i64 1) ∧ w'.cell? ⟨g, 1, none⟩ = some (.slice A na ca) ∧ w'.cell? ⟨g2, 1, none⟩ = some (.string ⟨#[109, 97, 107, 101]⟩) ∧ Below w3.heap.size w3 w') := Lib.hid fun w' h => ⟨(K1.out.on h).c 0 _ rfl, (K1.out.on h).c 1 _ rfl, (h.cell (p := ⟨g2, 1, none⟩) HLT.out).trans HK2.out, h⟩
  have WP := Lib.hid fun w' (h : Below w3.heap.size w3 w') => (rtext_is (w := w') (cap := ca) NA.out MA.out (LA.out.on (below_on K1.out.old h)) E2.out).mono fun e w'' he => (⟨he.1, HALL.out w'' (below_on h he.2)⟩ : _ ∧ _)
  obtain ⟨p0, p1, p2, p3⟩ := HALL.out w3.drew (below_self w3).drew
  have l0 : ¬ 9223372036854775807 < 5 + s2.size := by omega
  go_wp2_with fail
  go_region_held3 (fun w' => w'.cell? ⟨g, 0, none⟩ = some (.int .i64 1) ∧ w'.cell? ⟨g, 1, none⟩ = some (.slice A na ca) ∧ w'.cell? ⟨g2, 1, none⟩ = some (.string ⟨#[109, 97, 107, 101]⟩) ∧ Below w3.heap.size w3 w')
    (first | exact ⟨by with_reducible assumption, by with_reducible assumption, by with_reducible assumption, by with_reducible assumption⟩ | fail)
    (first
      | (go_at_call 37; ((with_reducible refine (WP.out _ (by with_reducible assumption)).mono ?_); clear p0 p1 p2 p3; rintro e w' ⟨rfl, p0, p1, p2, p3⟩))
      | fail)
  rename_i hHeld
  clear hHeld HALL WP HK2 HLT p0 p1 p2 l0
  replace K1 := Lib.hid (K1.out.on p3)
  clear p3
  obtain ⟨u0, hu0⟩ : ∃ u, u = (⟨#[109, 97, 107, 101]⟩ : ByteArray) ++ ⟨#[32]⟩ ++ s2 := ⟨_, rfl⟩
  have hz0 : u0.size ≤ 40 := by
    rw [hu0, ByteArray.size_append, ByteArray.size_append]
    show 4 + 1 + s2.size ≤ 40
    omega
  rw [← hu0]
  have HU0 := Lib.hid hu0
  clear hu0
  
  have hgl : pgood l = true := by
    have h := HG.out
    rw [cg_1] at h
    simp only [Bool.and_eq_true] at h
    exact h.2.1
  have hn0 : ¬ (nb : Int) = 0 := by
    have h1 := (pgood_len hgl).1
    have h2 := NB.out
    omega
  clear hgl
  have c0 := K1.out.c 0 _ rfl
  have c1 := K1.out.c 1 _ rfl
  have c2 := K1.out.c 2 _ rfl
  have c3 := K1.out.c 3 _ rfl
  have c4 := K1.out.c 4 _ rfl
  have c5 := K1.out.c 5 _ rfl
  have q1 : ¬ 9223372036854775807 < u0.size + 1 := by omega
  have q2 : ¬ 9223372036854775807 < u0.size + 1 + s3.size := by omega
  go_wp2_with fail
  refine (rtext_is (w := w') (cap := cb) NB.out MB.out (LB.out.on K1.out.old) E3.out).mono ?_
  rintro e wn1 ⟨rfl, hb⟩
  clear c0 c1 c2 c3 c4 c5
  replace K1 := Lib.hid (K1.out.on hb)
  clear hb
  go_upto_region 9 with fail
  obtain ⟨u1, hu1⟩ : ∃ u, u = u0 ++ ⟨#[32]⟩ ++ s3 := ⟨_, rfl⟩
  have hz1 : u1.size ≤ 61 := by
    rw [hu1]
    simp only [ByteArray.size_append]
    show u0.size + 1 + s3.size ≤ 61
    omega
  rw [← hu1]
  have HU1 := Lib.hid hu1
  clear hu1 hz0
  clear q1 q2
  have c0 := K1.out.c 0 _ rfl
  have c1 := K1.out.c 1 _ rfl
  have c2 := K1.out.c 2 _ rfl
  have c3 := K1.out.c 3 _ rfl
  have c4 := K1.out.c 4 _ rfl
  have c5 := K1.out.c 5 _ rfl
  have q1 : ¬ 9223372036854775807 < u1.size + 1 := by omega
  have q2 : ¬ 9223372036854775807 < u1.size + 1 + s4.size := by omega
  go_wp2_with fail
  refine (rnum_is HX.out E4.out wn1).mono ?_
  rintro e wn2 ⟨rfl, hb⟩
  clear c0 c1 c2 c3 c4 c5
  replace K1 := Lib.hid (K1.out.on hb)
  clear hb
  go_upto_region 11 with fail
  obtain ⟨u2, hu2⟩ : ∃ u, u = u1 ++ ⟨#[32]⟩ ++ s4 := ⟨_, rfl⟩
  have hz2 : u2.size ≤ 82 := by
    rw [hu2]
    simp only [ByteArray.size_append]
    show u1.size + 1 + s4.size ≤ 82
    omega
  rw [← hu2]
  have HU2 := Lib.hid hu2
  clear hu2 hz1
  clear q1 q2
  have c0 := K1.out.c 0 _ rfl
  have c1 := K1.out.c 1 _ rfl
  have c2 := K1.out.c 2 _ rfl
  have c3 := K1.out.c 3 _ rfl
  have c4 := K1.out.c 4 _ rfl
  have c5 := K1.out.c 5 _ rfl
  have q1 : ¬ 9223372036854775807 < u2.size + 1 := by omega
  have q2 : ¬ 9223372036854775807 < u2.size + 1 + s5.size := by omega
  go_wp2_with fail
  refine (rnum_is HY.out E5.out wn2).mono ?_
  rintro e wn3 ⟨rfl, hb⟩
  clear c0 c1 c2 c3 c4 c5
  replace K1 := Lib.hid (K1.out.on hb)
  clear hb
  go_upto_region 13 with fail
  obtain ⟨u3, hu3⟩ : ∃ u, u = u2 ++ ⟨#[32]⟩ ++ s5 := ⟨_, rfl⟩
  have hz3 : u3.size ≤ 103 := by
    rw [hu3]
    simp only [ByteArray.size_append]
    show u2.size + 1 + s5.size ≤ 103
    omega
  rw [← hu3]
  have HU3 := Lib.hid hu3
  clear hu3 hz2
  clear q1 q2
  have c0 := K1.out.c 0 _ rfl
  have c1 := K1.out.c 1 _ rfl
  have c2 := K1.out.c 2 _ rfl
  have c3 := K1.out.c 3 _ rfl
  have c4 := K1.out.c 4 _ rfl
  have c5 := K1.out.c 5 _ rfl
  go_wp2
  go_ret
  refine ⟨?_, K1.out.old⟩
  show Ending.returned (.string u3) = _
  rw [HU3.out, HU2.out, HU1.out, HU0.out]
set_option maxHeartbeats 8000000 in
theorem rctext_2 {a l : List Int} {x y z : Nat} {A B : Option Addr} {na ca nb cb : Nat} {s2 s3 s4 s5 s6 : ByteArray} {w : World} (ha : na = a.length) (hb : nb = l.length) (la : na ≤ 1000000) (lb : nb ≤ 1000000) (hA : IntsAt w w.heap.size A a) (hB : IntsAt w w.heap.size B l) (hg : cgood ⟨2, a, l, x, y, z⟩ = true)
    (hx : x < 65536) (hy : y < 65536) (hz : z < 18446744073709551616) (e2 : (⟨(ptext a).toArray⟩ : ByteArray) = s2) (e3 : (⟨(ptext l).toArray⟩ : ByteArray) = s3) (e4 : dct x = s4) (e5 : dct y = s5) (e6 : dct z = s6) (hsz : s2.size ≤ 20 ∧ s3.size ≤ 20 ∧ s4.size ≤ 20 ∧ s5.size ≤ 20 ∧ s6.size ≤ 20) :
    Calls Tryd.prog 18 #[.agg #[.int .i64 2, .slice A na ca, .slice B nb cb, .int .i64 (x : Int), .int .i64 (y : Int), .int .u64 (z : Int)]] w fun e w' => e = .returned (.string ((((⟨#[99, 111, 112, 121]⟩ : ByteArray) ++ ⟨#[32]⟩ ++ s2) ++ ⟨#[32]⟩ ++ s3) ++ ⟨#[32]⟩ ++ s4)) ∧ Below w.heap.size w w' := by
  obtain ⟨z2, z3, z4, z5, z6⟩ := hsz
  have K1 := Lib.hid (Bxs.new w [.int .i64 2, .slice A na ca, .slice B nb cb, .int .i64 (x : Int), .int .i64 (y : Int), .int .u64 (z : Int)] 39)
  have LA := Lib.hid hA
  have LB := Lib.hid hB
  have NA := Lib.hid ha
  have NB := Lib.hid hb
  have MA := Lib.hid la
  have MB := Lib.hid lb
  have HG := Lib.hid hg
  have HX := Lib.hid hx
  have HY := Lib.hid hy
  have HZ := Lib.hid hz
  have E2 := Lib.hid e2
  have E3 := Lib.hid e3
  have E4 := Lib.hid e4
  have E5 := Lib.hid e5
  have E6 := Lib.hid e6
  clear ha hb la lb hA hB hg hx hy hz e2 e3 e4 e5 e6
  go_enter Tryd.func18, Tryd.ntmps18
  go_wp2_with fail
  obtain ⟨g, hg⟩ : ∃ g, g = w.heap.size := ⟨_, rfl⟩
  rw [← hg] at K1 ⊢
  clear hg
  generalize w.alloc _ = w1 at K1 ⊢
  refine (rcgood_at (w := w1) NA.out NB.out MA.out MB.out (LA.out.on K1.out.old) (LB.out.on K1.out.old) HG.out).mono ?_
  rintro e w2 ⟨rfl, hb⟩
  replace K1 := Lib.hid (K1.out.on hb)
  clear hb
  have K2 := Lib.hid (Bxs.more (below_self w2) [.string ⟨#[]⟩, .string ⟨#[109, 97, 107, 101]⟩, .string ⟨#[99, 111, 112, 121]⟩, .string ⟨#[109, 105, 110, 116]⟩, .string ⟨#[109, 111, 118, 101]⟩, .string ⟨#[100, 101, 108, 101, 116, 101]⟩, .string ⟨#[114, 101, 118, 111, 107, 101]⟩, .string ⟨#[115, 101, 110, 100]⟩, .string ⟨#[114, 101, 99, 118]⟩, .string ⟨#[114, 105, 110, 103]⟩, .string ⟨#[112, 111, 108, 108]⟩, .string ⟨#[119, 114, 105, 116, 101]⟩, .string ⟨#[114, 101, 97, 100]⟩, .string ⟨#[116, 101, 108, 108]⟩] 9)
  replace K1 := Lib.hid (K1.out.on K2.out.old)
  go_upto_region 4 with fail
  obtain ⟨g2, hg⟩ : ∃ g, g = w2.heap.size := ⟨_, rfl⟩
  rw [← hg] at K2 ⊢
  clear hg
  generalize w2.alloc _ = w3 at K1 K2 ⊢
  have HK2 := Lib.hid (K2.out.c 2 _ rfl)
  have HLT := Lib.hid K2.out.lt
  clear K2
  have HALL : Hid (∀ w', Below w3.heap.size w3 w' → w'.cell? ⟨g, 0, none⟩ = some (.int .i64 2) ∧ w'.cell? ⟨g, 1, none⟩ = some (.slice A na ca) ∧ w'.cell? ⟨g2, 2, none⟩ = some (.string ⟨#[99, 111, 112, 121]⟩) ∧ Below w3.heap.size w3 w') := Lib.hid fun w' h => ⟨(K1.out.on h).c 0 _ rfl, (K1.out.on h).c 1 _ rfl, (h.cell (p := ⟨g2, 2, none⟩) HLT.out).trans HK2.out, h⟩
  have WP := Lib.hid fun w' (h : Below w3.heap.size w3 w') => (rtext_is (w := w') (cap := ca) NA.out MA.out (LA.out.on (below_on K1.out.old h)) E2.out).mono fun e w'' he => (⟨he.1, HALL.out w'' (below_on h he.2)⟩ : _ ∧ _)
  obtain ⟨p0, p1, p2, p3⟩ := HALL.out w3.drew (below_self w3).drew
  have l0 : ¬ 9223372036854775807 < 5 + s2.size := by omega
  go_wp2_with fail
  go_region_held3 (fun w' => w'.cell? ⟨g, 0, none⟩ = some (.int .i64 2) ∧ w'.cell? ⟨g, 1, none⟩ = some (.slice A na ca) ∧ w'.cell? ⟨g2, 2, none⟩ = some (.string ⟨#[99, 111, 112, 121]⟩) ∧ Below w3.heap.size w3 w')
    (first | exact ⟨by with_reducible assumption, by with_reducible assumption, by with_reducible assumption, by with_reducible assumption⟩ | fail)
    (first
      | (go_at_call 37; ((with_reducible refine (WP.out _ (by with_reducible assumption)).mono ?_); clear p0 p1 p2 p3; rintro e w' ⟨rfl, p0, p1, p2, p3⟩))
      | fail)
  rename_i hHeld
  clear hHeld HALL WP HK2 HLT p0 p1 p2 l0
  replace K1 := Lib.hid (K1.out.on p3)
  clear p3
  obtain ⟨u0, hu0⟩ : ∃ u, u = (⟨#[99, 111, 112, 121]⟩ : ByteArray) ++ ⟨#[32]⟩ ++ s2 := ⟨_, rfl⟩
  have hz0 : u0.size ≤ 40 := by
    rw [hu0, ByteArray.size_append, ByteArray.size_append]
    show 4 + 1 + s2.size ≤ 40
    omega
  rw [← hu0]
  have HU0 := Lib.hid hu0
  clear hu0
  
  have hgl : pgood l = true := by
    have h := HG.out
    rw [cg_2] at h
    simp only [Bool.and_eq_true] at h
    exact h.2.1
  have hn0 : ¬ (nb : Int) = 0 := by
    have h1 := (pgood_len hgl).1
    have h2 := NB.out
    omega
  clear hgl
  have c0 := K1.out.c 0 _ rfl
  have c1 := K1.out.c 1 _ rfl
  have c2 := K1.out.c 2 _ rfl
  have c3 := K1.out.c 3 _ rfl
  have c4 := K1.out.c 4 _ rfl
  have c5 := K1.out.c 5 _ rfl
  have q1 : ¬ 9223372036854775807 < u0.size + 1 := by omega
  have q2 : ¬ 9223372036854775807 < u0.size + 1 + s3.size := by omega
  go_wp2_with fail
  refine (rtext_is (w := w') (cap := cb) NB.out MB.out (LB.out.on K1.out.old) E3.out).mono ?_
  rintro e wn1 ⟨rfl, hb⟩
  clear c0 c1 c2 c3 c4 c5
  replace K1 := Lib.hid (K1.out.on hb)
  clear hb
  go_upto_region 9 with fail
  obtain ⟨u1, hu1⟩ : ∃ u, u = u0 ++ ⟨#[32]⟩ ++ s3 := ⟨_, rfl⟩
  have hz1 : u1.size ≤ 61 := by
    rw [hu1]
    simp only [ByteArray.size_append]
    show u0.size + 1 + s3.size ≤ 61
    omega
  rw [← hu1]
  have HU1 := Lib.hid hu1
  clear hu1 hz0
  clear q1 q2
  have c0 := K1.out.c 0 _ rfl
  have c1 := K1.out.c 1 _ rfl
  have c2 := K1.out.c 2 _ rfl
  have c3 := K1.out.c 3 _ rfl
  have c4 := K1.out.c 4 _ rfl
  have c5 := K1.out.c 5 _ rfl
  have q1 : ¬ 9223372036854775807 < u1.size + 1 := by omega
  have q2 : ¬ 9223372036854775807 < u1.size + 1 + s4.size := by omega
  go_wp2_with fail
  refine (rnum_is HX.out E4.out wn1).mono ?_
  rintro e wn2 ⟨rfl, hb⟩
  clear c0 c1 c2 c3 c4 c5
  replace K1 := Lib.hid (K1.out.on hb)
  clear hb
  go_upto_region 11 with fail
  obtain ⟨u2, hu2⟩ : ∃ u, u = u1 ++ ⟨#[32]⟩ ++ s4 := ⟨_, rfl⟩
  have hz2 : u2.size ≤ 82 := by
    rw [hu2]
    simp only [ByteArray.size_append]
    show u1.size + 1 + s4.size ≤ 82
    omega
  rw [← hu2]
  have HU2 := Lib.hid hu2
  clear hu2 hz1
  clear q1 q2
  have c0 := K1.out.c 0 _ rfl
  have c1 := K1.out.c 1 _ rfl
  have c2 := K1.out.c 2 _ rfl
  have c3 := K1.out.c 3 _ rfl
  have c4 := K1.out.c 4 _ rfl
  have c5 := K1.out.c 5 _ rfl
  go_wp2
  go_ret
  refine ⟨?_, K1.out.old⟩
  show Ending.returned (.string u2) = _
  rw [HU2.out, HU1.out, HU0.out]
set_option maxHeartbeats 8000000 in
theorem rctext_3 {a l : List Int} {x y z : Nat} {A B : Option Addr} {na ca nb cb : Nat} {s2 s3 s4 s5 s6 : ByteArray} {w : World} (ha : na = a.length) (hb : nb = l.length) (la : na ≤ 1000000) (lb : nb ≤ 1000000) (hA : IntsAt w w.heap.size A a) (hB : IntsAt w w.heap.size B l) (hg : cgood ⟨3, a, l, x, y, z⟩ = true)
    (hx : x < 65536) (hy : y < 65536) (hz : z < 18446744073709551616) (e2 : (⟨(ptext a).toArray⟩ : ByteArray) = s2) (e3 : (⟨(ptext l).toArray⟩ : ByteArray) = s3) (e4 : dct x = s4) (e5 : dct y = s5) (e6 : dct z = s6) (hsz : s2.size ≤ 20 ∧ s3.size ≤ 20 ∧ s4.size ≤ 20 ∧ s5.size ≤ 20 ∧ s6.size ≤ 20) :
    Calls Tryd.prog 18 #[.agg #[.int .i64 3, .slice A na ca, .slice B nb cb, .int .i64 (x : Int), .int .i64 (y : Int), .int .u64 (z : Int)]] w fun e w' => e = .returned (.string (((((⟨#[109, 105, 110, 116]⟩ : ByteArray) ++ ⟨#[32]⟩ ++ s2) ++ ⟨#[32]⟩ ++ s3) ++ ⟨#[32]⟩ ++ s4) ++ ⟨#[32]⟩ ++ s5)) ∧ Below w.heap.size w w' := by
  obtain ⟨z2, z3, z4, z5, z6⟩ := hsz
  have K1 := Lib.hid (Bxs.new w [.int .i64 3, .slice A na ca, .slice B nb cb, .int .i64 (x : Int), .int .i64 (y : Int), .int .u64 (z : Int)] 39)
  have LA := Lib.hid hA
  have LB := Lib.hid hB
  have NA := Lib.hid ha
  have NB := Lib.hid hb
  have MA := Lib.hid la
  have MB := Lib.hid lb
  have HG := Lib.hid hg
  have HX := Lib.hid hx
  have HY := Lib.hid hy
  have HZ := Lib.hid hz
  have E2 := Lib.hid e2
  have E3 := Lib.hid e3
  have E4 := Lib.hid e4
  have E5 := Lib.hid e5
  have E6 := Lib.hid e6
  clear ha hb la lb hA hB hg hx hy hz e2 e3 e4 e5 e6
  go_enter Tryd.func18, Tryd.ntmps18
  go_wp2_with fail
  obtain ⟨g, hg⟩ : ∃ g, g = w.heap.size := ⟨_, rfl⟩
  rw [← hg] at K1 ⊢
  clear hg
  generalize w.alloc _ = w1 at K1 ⊢
  refine (rcgood_at (w := w1) NA.out NB.out MA.out MB.out (LA.out.on K1.out.old) (LB.out.on K1.out.old) HG.out).mono ?_
  rintro e w2 ⟨rfl, hb⟩
  replace K1 := Lib.hid (K1.out.on hb)
  clear hb
  have K2 := Lib.hid (Bxs.more (below_self w2) [.string ⟨#[]⟩, .string ⟨#[109, 97, 107, 101]⟩, .string ⟨#[99, 111, 112, 121]⟩, .string ⟨#[109, 105, 110, 116]⟩, .string ⟨#[109, 111, 118, 101]⟩, .string ⟨#[100, 101, 108, 101, 116, 101]⟩, .string ⟨#[114, 101, 118, 111, 107, 101]⟩, .string ⟨#[115, 101, 110, 100]⟩, .string ⟨#[114, 101, 99, 118]⟩, .string ⟨#[114, 105, 110, 103]⟩, .string ⟨#[112, 111, 108, 108]⟩, .string ⟨#[119, 114, 105, 116, 101]⟩, .string ⟨#[114, 101, 97, 100]⟩, .string ⟨#[116, 101, 108, 108]⟩] 9)
  replace K1 := Lib.hid (K1.out.on K2.out.old)
  go_upto_region 4 with fail
  obtain ⟨g2, hg⟩ : ∃ g, g = w2.heap.size := ⟨_, rfl⟩
  rw [← hg] at K2 ⊢
  clear hg
  generalize w2.alloc _ = w3 at K1 K2 ⊢
  have HK2 := Lib.hid (K2.out.c 3 _ rfl)
  have HLT := Lib.hid K2.out.lt
  clear K2
  have HALL : Hid (∀ w', Below w3.heap.size w3 w' → w'.cell? ⟨g, 0, none⟩ = some (.int .i64 3) ∧ w'.cell? ⟨g, 1, none⟩ = some (.slice A na ca) ∧ w'.cell? ⟨g2, 3, none⟩ = some (.string ⟨#[109, 105, 110, 116]⟩) ∧ Below w3.heap.size w3 w') := Lib.hid fun w' h => ⟨(K1.out.on h).c 0 _ rfl, (K1.out.on h).c 1 _ rfl, (h.cell (p := ⟨g2, 3, none⟩) HLT.out).trans HK2.out, h⟩
  have WP := Lib.hid fun w' (h : Below w3.heap.size w3 w') => (rtext_is (w := w') (cap := ca) NA.out MA.out (LA.out.on (below_on K1.out.old h)) E2.out).mono fun e w'' he => (⟨he.1, HALL.out w'' (below_on h he.2)⟩ : _ ∧ _)
  obtain ⟨p0, p1, p2, p3⟩ := HALL.out w3.drew (below_self w3).drew
  have l0 : ¬ 9223372036854775807 < 5 + s2.size := by omega
  go_wp2_with fail
  go_region_held3 (fun w' => w'.cell? ⟨g, 0, none⟩ = some (.int .i64 3) ∧ w'.cell? ⟨g, 1, none⟩ = some (.slice A na ca) ∧ w'.cell? ⟨g2, 3, none⟩ = some (.string ⟨#[109, 105, 110, 116]⟩) ∧ Below w3.heap.size w3 w')
    (first | exact ⟨by with_reducible assumption, by with_reducible assumption, by with_reducible assumption, by with_reducible assumption⟩ | fail)
    (first
      | (go_at_call 37; ((with_reducible refine (WP.out _ (by with_reducible assumption)).mono ?_); clear p0 p1 p2 p3; rintro e w' ⟨rfl, p0, p1, p2, p3⟩))
      | fail)
  rename_i hHeld
  clear hHeld HALL WP HK2 HLT p0 p1 p2 l0
  replace K1 := Lib.hid (K1.out.on p3)
  clear p3
  obtain ⟨u0, hu0⟩ : ∃ u, u = (⟨#[109, 105, 110, 116]⟩ : ByteArray) ++ ⟨#[32]⟩ ++ s2 := ⟨_, rfl⟩
  have hz0 : u0.size ≤ 40 := by
    rw [hu0, ByteArray.size_append, ByteArray.size_append]
    show 4 + 1 + s2.size ≤ 40
    omega
  rw [← hu0]
  have HU0 := Lib.hid hu0
  clear hu0
  
  have hgl : pgood l = true := by
    have h := HG.out
    rw [cg_3] at h
    simp only [Bool.and_eq_true] at h
    exact h.2.1
  have hn0 : ¬ (nb : Int) = 0 := by
    have h1 := (pgood_len hgl).1
    have h2 := NB.out
    omega
  clear hgl
  have c0 := K1.out.c 0 _ rfl
  have c1 := K1.out.c 1 _ rfl
  have c2 := K1.out.c 2 _ rfl
  have c3 := K1.out.c 3 _ rfl
  have c4 := K1.out.c 4 _ rfl
  have c5 := K1.out.c 5 _ rfl
  have q1 : ¬ 9223372036854775807 < u0.size + 1 := by omega
  have q2 : ¬ 9223372036854775807 < u0.size + 1 + s3.size := by omega
  go_wp2_with fail
  refine (rtext_is (w := w') (cap := cb) NB.out MB.out (LB.out.on K1.out.old) E3.out).mono ?_
  rintro e wn1 ⟨rfl, hb⟩
  clear c0 c1 c2 c3 c4 c5
  replace K1 := Lib.hid (K1.out.on hb)
  clear hb
  go_upto_region 9 with fail
  obtain ⟨u1, hu1⟩ : ∃ u, u = u0 ++ ⟨#[32]⟩ ++ s3 := ⟨_, rfl⟩
  have hz1 : u1.size ≤ 61 := by
    rw [hu1]
    simp only [ByteArray.size_append]
    show u0.size + 1 + s3.size ≤ 61
    omega
  rw [← hu1]
  have HU1 := Lib.hid hu1
  clear hu1 hz0
  clear q1 q2
  have c0 := K1.out.c 0 _ rfl
  have c1 := K1.out.c 1 _ rfl
  have c2 := K1.out.c 2 _ rfl
  have c3 := K1.out.c 3 _ rfl
  have c4 := K1.out.c 4 _ rfl
  have c5 := K1.out.c 5 _ rfl
  have q1 : ¬ 9223372036854775807 < u1.size + 1 := by omega
  have q2 : ¬ 9223372036854775807 < u1.size + 1 + s4.size := by omega
  go_wp2_with fail
  refine (rnum_is HX.out E4.out wn1).mono ?_
  rintro e wn2 ⟨rfl, hb⟩
  clear c0 c1 c2 c3 c4 c5
  replace K1 := Lib.hid (K1.out.on hb)
  clear hb
  go_upto_region 11 with fail
  obtain ⟨u2, hu2⟩ : ∃ u, u = u1 ++ ⟨#[32]⟩ ++ s4 := ⟨_, rfl⟩
  have hz2 : u2.size ≤ 82 := by
    rw [hu2]
    simp only [ByteArray.size_append]
    show u1.size + 1 + s4.size ≤ 82
    omega
  rw [← hu2]
  have HU2 := Lib.hid hu2
  clear hu2 hz1
  clear q1 q2
  have c0 := K1.out.c 0 _ rfl
  have c1 := K1.out.c 1 _ rfl
  have c2 := K1.out.c 2 _ rfl
  have c3 := K1.out.c 3 _ rfl
  have c4 := K1.out.c 4 _ rfl
  have c5 := K1.out.c 5 _ rfl
  have q1 : ¬ 9223372036854775807 < u2.size + 1 := by omega
  have q2 : ¬ 9223372036854775807 < u2.size + 1 + s5.size := by omega
  go_wp2_with fail
  refine (rnum_is HY.out E5.out wn2).mono ?_
  rintro e wn3 ⟨rfl, hb⟩
  clear c0 c1 c2 c3 c4 c5
  replace K1 := Lib.hid (K1.out.on hb)
  clear hb
  go_upto_region 13 with fail
  obtain ⟨u3, hu3⟩ : ∃ u, u = u2 ++ ⟨#[32]⟩ ++ s5 := ⟨_, rfl⟩
  have hz3 : u3.size ≤ 103 := by
    rw [hu3]
    simp only [ByteArray.size_append]
    show u2.size + 1 + s5.size ≤ 103
    omega
  rw [← hu3]
  have HU3 := Lib.hid hu3
  clear hu3 hz2
  clear q1 q2
  have c0 := K1.out.c 0 _ rfl
  have c1 := K1.out.c 1 _ rfl
  have c2 := K1.out.c 2 _ rfl
  have c3 := K1.out.c 3 _ rfl
  have c4 := K1.out.c 4 _ rfl
  have c5 := K1.out.c 5 _ rfl
  go_wp2
  go_ret
  refine ⟨?_, K1.out.old⟩
  show Ending.returned (.string u3) = _
  rw [HU3.out, HU2.out, HU1.out, HU0.out]
set_option maxHeartbeats 8000000 in
theorem rctext_4 {a l : List Int} {x y z : Nat} {A B : Option Addr} {na ca nb cb : Nat} {s2 s3 s4 s5 s6 : ByteArray} {w : World} (ha : na = a.length) (hb : nb = l.length) (la : na ≤ 1000000) (lb : nb ≤ 1000000) (hA : IntsAt w w.heap.size A a) (hB : IntsAt w w.heap.size B l) (hg : cgood ⟨4, a, l, x, y, z⟩ = true)
    (hx : x < 65536) (hy : y < 65536) (hz : z < 18446744073709551616) (e2 : (⟨(ptext a).toArray⟩ : ByteArray) = s2) (e3 : (⟨(ptext l).toArray⟩ : ByteArray) = s3) (e4 : dct x = s4) (e5 : dct y = s5) (e6 : dct z = s6) (hsz : s2.size ≤ 20 ∧ s3.size ≤ 20 ∧ s4.size ≤ 20 ∧ s5.size ≤ 20 ∧ s6.size ≤ 20) :
    Calls Tryd.prog 18 #[.agg #[.int .i64 4, .slice A na ca, .slice B nb cb, .int .i64 (x : Int), .int .i64 (y : Int), .int .u64 (z : Int)]] w fun e w' => e = .returned (.string (((⟨#[109, 111, 118, 101]⟩ : ByteArray) ++ ⟨#[32]⟩ ++ s2) ++ ⟨#[32]⟩ ++ s3)) ∧ Below w.heap.size w w' := by
  obtain ⟨z2, z3, z4, z5, z6⟩ := hsz
  have K1 := Lib.hid (Bxs.new w [.int .i64 4, .slice A na ca, .slice B nb cb, .int .i64 (x : Int), .int .i64 (y : Int), .int .u64 (z : Int)] 39)
  have LA := Lib.hid hA
  have LB := Lib.hid hB
  have NA := Lib.hid ha
  have NB := Lib.hid hb
  have MA := Lib.hid la
  have MB := Lib.hid lb
  have HG := Lib.hid hg
  have HX := Lib.hid hx
  have HY := Lib.hid hy
  have HZ := Lib.hid hz
  have E2 := Lib.hid e2
  have E3 := Lib.hid e3
  have E4 := Lib.hid e4
  have E5 := Lib.hid e5
  have E6 := Lib.hid e6
  clear ha hb la lb hA hB hg hx hy hz e2 e3 e4 e5 e6
  go_enter Tryd.func18, Tryd.ntmps18
  go_wp2_with fail
  obtain ⟨g, hg⟩ : ∃ g, g = w.heap.size := ⟨_, rfl⟩
  rw [← hg] at K1 ⊢
  clear hg
  generalize w.alloc _ = w1 at K1 ⊢
  refine (rcgood_at (w := w1) NA.out NB.out MA.out MB.out (LA.out.on K1.out.old) (LB.out.on K1.out.old) HG.out).mono ?_
  rintro e w2 ⟨rfl, hb⟩
  replace K1 := Lib.hid (K1.out.on hb)
  clear hb
  have K2 := Lib.hid (Bxs.more (below_self w2) [.string ⟨#[]⟩, .string ⟨#[109, 97, 107, 101]⟩, .string ⟨#[99, 111, 112, 121]⟩, .string ⟨#[109, 105, 110, 116]⟩, .string ⟨#[109, 111, 118, 101]⟩, .string ⟨#[100, 101, 108, 101, 116, 101]⟩, .string ⟨#[114, 101, 118, 111, 107, 101]⟩, .string ⟨#[115, 101, 110, 100]⟩, .string ⟨#[114, 101, 99, 118]⟩, .string ⟨#[114, 105, 110, 103]⟩, .string ⟨#[112, 111, 108, 108]⟩, .string ⟨#[119, 114, 105, 116, 101]⟩, .string ⟨#[114, 101, 97, 100]⟩, .string ⟨#[116, 101, 108, 108]⟩] 9)
  replace K1 := Lib.hid (K1.out.on K2.out.old)
  go_upto_region 4 with fail
  obtain ⟨g2, hg⟩ : ∃ g, g = w2.heap.size := ⟨_, rfl⟩
  rw [← hg] at K2 ⊢
  clear hg
  generalize w2.alloc _ = w3 at K1 K2 ⊢
  have HK2 := Lib.hid (K2.out.c 4 _ rfl)
  have HLT := Lib.hid K2.out.lt
  clear K2
  have HALL : Hid (∀ w', Below w3.heap.size w3 w' → w'.cell? ⟨g, 0, none⟩ = some (.int .i64 4) ∧ w'.cell? ⟨g, 1, none⟩ = some (.slice A na ca) ∧ w'.cell? ⟨g2, 4, none⟩ = some (.string ⟨#[109, 111, 118, 101]⟩) ∧ Below w3.heap.size w3 w') := Lib.hid fun w' h => ⟨(K1.out.on h).c 0 _ rfl, (K1.out.on h).c 1 _ rfl, (h.cell (p := ⟨g2, 4, none⟩) HLT.out).trans HK2.out, h⟩
  have WP := Lib.hid fun w' (h : Below w3.heap.size w3 w') => (rtext_is (w := w') (cap := ca) NA.out MA.out (LA.out.on (below_on K1.out.old h)) E2.out).mono fun e w'' he => (⟨he.1, HALL.out w'' (below_on h he.2)⟩ : _ ∧ _)
  obtain ⟨p0, p1, p2, p3⟩ := HALL.out w3.drew (below_self w3).drew
  have l0 : ¬ 9223372036854775807 < 5 + s2.size := by omega
  go_wp2_with fail
  go_region_held3 (fun w' => w'.cell? ⟨g, 0, none⟩ = some (.int .i64 4) ∧ w'.cell? ⟨g, 1, none⟩ = some (.slice A na ca) ∧ w'.cell? ⟨g2, 4, none⟩ = some (.string ⟨#[109, 111, 118, 101]⟩) ∧ Below w3.heap.size w3 w')
    (first | exact ⟨by with_reducible assumption, by with_reducible assumption, by with_reducible assumption, by with_reducible assumption⟩ | fail)
    (first
      | (go_at_call 37; ((with_reducible refine (WP.out _ (by with_reducible assumption)).mono ?_); clear p0 p1 p2 p3; rintro e w' ⟨rfl, p0, p1, p2, p3⟩))
      | fail)
  rename_i hHeld
  clear hHeld HALL WP HK2 HLT p0 p1 p2 l0
  replace K1 := Lib.hid (K1.out.on p3)
  clear p3
  obtain ⟨u0, hu0⟩ : ∃ u, u = (⟨#[109, 111, 118, 101]⟩ : ByteArray) ++ ⟨#[32]⟩ ++ s2 := ⟨_, rfl⟩
  have hz0 : u0.size ≤ 40 := by
    rw [hu0, ByteArray.size_append, ByteArray.size_append]
    show 4 + 1 + s2.size ≤ 40
    omega
  rw [← hu0]
  have HU0 := Lib.hid hu0
  clear hu0
  
  have hgl : pgood l = true := by
    have h := HG.out
    rw [cg_4] at h
    simp only [Bool.and_eq_true] at h
    exact h.2.1
  have hn0 : ¬ (nb : Int) = 0 := by
    have h1 := (pgood_len hgl).1
    have h2 := NB.out
    omega
  clear hgl
  have c0 := K1.out.c 0 _ rfl
  have c1 := K1.out.c 1 _ rfl
  have c2 := K1.out.c 2 _ rfl
  have c3 := K1.out.c 3 _ rfl
  have c4 := K1.out.c 4 _ rfl
  have c5 := K1.out.c 5 _ rfl
  have q1 : ¬ 9223372036854775807 < u0.size + 1 := by omega
  have q2 : ¬ 9223372036854775807 < u0.size + 1 + s3.size := by omega
  go_wp2_with fail
  refine (rtext_is (w := w') (cap := cb) NB.out MB.out (LB.out.on K1.out.old) E3.out).mono ?_
  rintro e wn1 ⟨rfl, hb⟩
  clear c0 c1 c2 c3 c4 c5
  replace K1 := Lib.hid (K1.out.on hb)
  clear hb
  go_upto_region 9 with fail
  obtain ⟨u1, hu1⟩ : ∃ u, u = u0 ++ ⟨#[32]⟩ ++ s3 := ⟨_, rfl⟩
  have hz1 : u1.size ≤ 61 := by
    rw [hu1]
    simp only [ByteArray.size_append]
    show u0.size + 1 + s3.size ≤ 61
    omega
  rw [← hu1]
  have HU1 := Lib.hid hu1
  clear hu1 hz0
  clear q1 q2
  have c0 := K1.out.c 0 _ rfl
  have c1 := K1.out.c 1 _ rfl
  have c2 := K1.out.c 2 _ rfl
  have c3 := K1.out.c 3 _ rfl
  have c4 := K1.out.c 4 _ rfl
  have c5 := K1.out.c 5 _ rfl
  go_wp2
  go_ret
  refine ⟨?_, K1.out.old⟩
  show Ending.returned (.string u1) = _
  rw [HU1.out, HU0.out]
set_option maxHeartbeats 8000000 in
theorem rctext_5 {a l : List Int} {x y z : Nat} {A B : Option Addr} {na ca nb cb : Nat} {s2 s3 s4 s5 s6 : ByteArray} {w : World} (ha : na = a.length) (hb : nb = l.length) (la : na ≤ 1000000) (lb : nb ≤ 1000000) (hA : IntsAt w w.heap.size A a) (hB : IntsAt w w.heap.size B l) (hg : cgood ⟨5, a, l, x, y, z⟩ = true)
    (hx : x < 65536) (hy : y < 65536) (hz : z < 18446744073709551616) (e2 : (⟨(ptext a).toArray⟩ : ByteArray) = s2) (e3 : (⟨(ptext l).toArray⟩ : ByteArray) = s3) (e4 : dct x = s4) (e5 : dct y = s5) (e6 : dct z = s6) (hsz : s2.size ≤ 20 ∧ s3.size ≤ 20 ∧ s4.size ≤ 20 ∧ s5.size ≤ 20 ∧ s6.size ≤ 20) :
    Calls Tryd.prog 18 #[.agg #[.int .i64 5, .slice A na ca, .slice B nb cb, .int .i64 (x : Int), .int .i64 (y : Int), .int .u64 (z : Int)]] w fun e w' => e = .returned (.string ((⟨#[100, 101, 108, 101, 116, 101]⟩ : ByteArray) ++ ⟨#[32]⟩ ++ s2)) ∧ Below w.heap.size w w' := by
  obtain ⟨z2, z3, z4, z5, z6⟩ := hsz
  have K1 := Lib.hid (Bxs.new w [.int .i64 5, .slice A na ca, .slice B nb cb, .int .i64 (x : Int), .int .i64 (y : Int), .int .u64 (z : Int)] 39)
  have LA := Lib.hid hA
  have LB := Lib.hid hB
  have NA := Lib.hid ha
  have NB := Lib.hid hb
  have MA := Lib.hid la
  have MB := Lib.hid lb
  have HG := Lib.hid hg
  have HX := Lib.hid hx
  have HY := Lib.hid hy
  have HZ := Lib.hid hz
  have E2 := Lib.hid e2
  have E3 := Lib.hid e3
  have E4 := Lib.hid e4
  have E5 := Lib.hid e5
  have E6 := Lib.hid e6
  clear ha hb la lb hA hB hg hx hy hz e2 e3 e4 e5 e6
  go_enter Tryd.func18, Tryd.ntmps18
  go_wp2_with fail
  obtain ⟨g, hg⟩ : ∃ g, g = w.heap.size := ⟨_, rfl⟩
  rw [← hg] at K1 ⊢
  clear hg
  generalize w.alloc _ = w1 at K1 ⊢
  refine (rcgood_at (w := w1) NA.out NB.out MA.out MB.out (LA.out.on K1.out.old) (LB.out.on K1.out.old) HG.out).mono ?_
  rintro e w2 ⟨rfl, hb⟩
  replace K1 := Lib.hid (K1.out.on hb)
  clear hb
  have K2 := Lib.hid (Bxs.more (below_self w2) [.string ⟨#[]⟩, .string ⟨#[109, 97, 107, 101]⟩, .string ⟨#[99, 111, 112, 121]⟩, .string ⟨#[109, 105, 110, 116]⟩, .string ⟨#[109, 111, 118, 101]⟩, .string ⟨#[100, 101, 108, 101, 116, 101]⟩, .string ⟨#[114, 101, 118, 111, 107, 101]⟩, .string ⟨#[115, 101, 110, 100]⟩, .string ⟨#[114, 101, 99, 118]⟩, .string ⟨#[114, 105, 110, 103]⟩, .string ⟨#[112, 111, 108, 108]⟩, .string ⟨#[119, 114, 105, 116, 101]⟩, .string ⟨#[114, 101, 97, 100]⟩, .string ⟨#[116, 101, 108, 108]⟩] 9)
  replace K1 := Lib.hid (K1.out.on K2.out.old)
  go_upto_region 4 with fail
  obtain ⟨g2, hg⟩ : ∃ g, g = w2.heap.size := ⟨_, rfl⟩
  rw [← hg] at K2 ⊢
  clear hg
  generalize w2.alloc _ = w3 at K1 K2 ⊢
  have HK2 := Lib.hid (K2.out.c 5 _ rfl)
  have HLT := Lib.hid K2.out.lt
  clear K2
  have HALL : Hid (∀ w', Below w3.heap.size w3 w' → w'.cell? ⟨g, 0, none⟩ = some (.int .i64 5) ∧ w'.cell? ⟨g, 1, none⟩ = some (.slice A na ca) ∧ w'.cell? ⟨g2, 5, none⟩ = some (.string ⟨#[100, 101, 108, 101, 116, 101]⟩) ∧ Below w3.heap.size w3 w') := Lib.hid fun w' h => ⟨(K1.out.on h).c 0 _ rfl, (K1.out.on h).c 1 _ rfl, (h.cell (p := ⟨g2, 5, none⟩) HLT.out).trans HK2.out, h⟩
  have WP := Lib.hid fun w' (h : Below w3.heap.size w3 w') => (rtext_is (w := w') (cap := ca) NA.out MA.out (LA.out.on (below_on K1.out.old h)) E2.out).mono fun e w'' he => (⟨he.1, HALL.out w'' (below_on h he.2)⟩ : _ ∧ _)
  obtain ⟨p0, p1, p2, p3⟩ := HALL.out w3.drew (below_self w3).drew
  have l0 : ¬ 9223372036854775807 < 7 + s2.size := by omega
  go_wp2_with fail
  go_region_held3 (fun w' => w'.cell? ⟨g, 0, none⟩ = some (.int .i64 5) ∧ w'.cell? ⟨g, 1, none⟩ = some (.slice A na ca) ∧ w'.cell? ⟨g2, 5, none⟩ = some (.string ⟨#[100, 101, 108, 101, 116, 101]⟩) ∧ Below w3.heap.size w3 w')
    (first | exact ⟨by with_reducible assumption, by with_reducible assumption, by with_reducible assumption, by with_reducible assumption⟩ | fail)
    (first
      | (go_at_call 37; ((with_reducible refine (WP.out _ (by with_reducible assumption)).mono ?_); clear p0 p1 p2 p3; rintro e w' ⟨rfl, p0, p1, p2, p3⟩))
      | fail)
  rename_i hHeld
  clear hHeld HALL WP HK2 HLT p0 p1 p2 l0
  replace K1 := Lib.hid (K1.out.on p3)
  clear p3
  obtain ⟨u0, hu0⟩ : ∃ u, u = (⟨#[100, 101, 108, 101, 116, 101]⟩ : ByteArray) ++ ⟨#[32]⟩ ++ s2 := ⟨_, rfl⟩
  have hz0 : u0.size ≤ 40 := by
    rw [hu0, ByteArray.size_append, ByteArray.size_append]
    show 6 + 1 + s2.size ≤ 40
    omega
  rw [← hu0]
  have HU0 := Lib.hid hu0
  clear hu0
  
  have c0 := K1.out.c 0 _ rfl
  have c1 := K1.out.c 1 _ rfl
  have c2 := K1.out.c 2 _ rfl
  have c3 := K1.out.c 3 _ rfl
  have c4 := K1.out.c 4 _ rfl
  have c5 := K1.out.c 5 _ rfl
  go_wp2
  go_ret
  refine ⟨?_, K1.out.old⟩
  show Ending.returned (.string u0) = _
  rw [HU0.out]
set_option maxHeartbeats 8000000 in
theorem rctext_6 {a l : List Int} {x y z : Nat} {A B : Option Addr} {na ca nb cb : Nat} {s2 s3 s4 s5 s6 : ByteArray} {w : World} (ha : na = a.length) (hb : nb = l.length) (la : na ≤ 1000000) (lb : nb ≤ 1000000) (hA : IntsAt w w.heap.size A a) (hB : IntsAt w w.heap.size B l) (hg : cgood ⟨6, a, l, x, y, z⟩ = true)
    (hx : x < 65536) (hy : y < 65536) (hz : z < 18446744073709551616) (e2 : (⟨(ptext a).toArray⟩ : ByteArray) = s2) (e3 : (⟨(ptext l).toArray⟩ : ByteArray) = s3) (e4 : dct x = s4) (e5 : dct y = s5) (e6 : dct z = s6) (hsz : s2.size ≤ 20 ∧ s3.size ≤ 20 ∧ s4.size ≤ 20 ∧ s5.size ≤ 20 ∧ s6.size ≤ 20) :
    Calls Tryd.prog 18 #[.agg #[.int .i64 6, .slice A na ca, .slice B nb cb, .int .i64 (x : Int), .int .i64 (y : Int), .int .u64 (z : Int)]] w fun e w' => e = .returned (.string ((⟨#[114, 101, 118, 111, 107, 101]⟩ : ByteArray) ++ ⟨#[32]⟩ ++ s2)) ∧ Below w.heap.size w w' := by
  obtain ⟨z2, z3, z4, z5, z6⟩ := hsz
  have K1 := Lib.hid (Bxs.new w [.int .i64 6, .slice A na ca, .slice B nb cb, .int .i64 (x : Int), .int .i64 (y : Int), .int .u64 (z : Int)] 39)
  have LA := Lib.hid hA
  have LB := Lib.hid hB
  have NA := Lib.hid ha
  have NB := Lib.hid hb
  have MA := Lib.hid la
  have MB := Lib.hid lb
  have HG := Lib.hid hg
  have HX := Lib.hid hx
  have HY := Lib.hid hy
  have HZ := Lib.hid hz
  have E2 := Lib.hid e2
  have E3 := Lib.hid e3
  have E4 := Lib.hid e4
  have E5 := Lib.hid e5
  have E6 := Lib.hid e6
  clear ha hb la lb hA hB hg hx hy hz e2 e3 e4 e5 e6
  go_enter Tryd.func18, Tryd.ntmps18
  go_wp2_with fail
  obtain ⟨g, hg⟩ : ∃ g, g = w.heap.size := ⟨_, rfl⟩
  rw [← hg] at K1 ⊢
  clear hg
  generalize w.alloc _ = w1 at K1 ⊢
  refine (rcgood_at (w := w1) NA.out NB.out MA.out MB.out (LA.out.on K1.out.old) (LB.out.on K1.out.old) HG.out).mono ?_
  rintro e w2 ⟨rfl, hb⟩
  replace K1 := Lib.hid (K1.out.on hb)
  clear hb
  have K2 := Lib.hid (Bxs.more (below_self w2) [.string ⟨#[]⟩, .string ⟨#[109, 97, 107, 101]⟩, .string ⟨#[99, 111, 112, 121]⟩, .string ⟨#[109, 105, 110, 116]⟩, .string ⟨#[109, 111, 118, 101]⟩, .string ⟨#[100, 101, 108, 101, 116, 101]⟩, .string ⟨#[114, 101, 118, 111, 107, 101]⟩, .string ⟨#[115, 101, 110, 100]⟩, .string ⟨#[114, 101, 99, 118]⟩, .string ⟨#[114, 105, 110, 103]⟩, .string ⟨#[112, 111, 108, 108]⟩, .string ⟨#[119, 114, 105, 116, 101]⟩, .string ⟨#[114, 101, 97, 100]⟩, .string ⟨#[116, 101, 108, 108]⟩] 9)
  replace K1 := Lib.hid (K1.out.on K2.out.old)
  go_upto_region 4 with fail
  obtain ⟨g2, hg⟩ : ∃ g, g = w2.heap.size := ⟨_, rfl⟩
  rw [← hg] at K2 ⊢
  clear hg
  generalize w2.alloc _ = w3 at K1 K2 ⊢
  have HK2 := Lib.hid (K2.out.c 6 _ rfl)
  have HLT := Lib.hid K2.out.lt
  clear K2
  have HALL : Hid (∀ w', Below w3.heap.size w3 w' → w'.cell? ⟨g, 0, none⟩ = some (.int .i64 6) ∧ w'.cell? ⟨g, 1, none⟩ = some (.slice A na ca) ∧ w'.cell? ⟨g2, 6, none⟩ = some (.string ⟨#[114, 101, 118, 111, 107, 101]⟩) ∧ Below w3.heap.size w3 w') := Lib.hid fun w' h => ⟨(K1.out.on h).c 0 _ rfl, (K1.out.on h).c 1 _ rfl, (h.cell (p := ⟨g2, 6, none⟩) HLT.out).trans HK2.out, h⟩
  have WP := Lib.hid fun w' (h : Below w3.heap.size w3 w') => (rtext_is (w := w') (cap := ca) NA.out MA.out (LA.out.on (below_on K1.out.old h)) E2.out).mono fun e w'' he => (⟨he.1, HALL.out w'' (below_on h he.2)⟩ : _ ∧ _)
  obtain ⟨p0, p1, p2, p3⟩ := HALL.out w3.drew (below_self w3).drew
  have l0 : ¬ 9223372036854775807 < 7 + s2.size := by omega
  go_wp2_with fail
  go_region_held3 (fun w' => w'.cell? ⟨g, 0, none⟩ = some (.int .i64 6) ∧ w'.cell? ⟨g, 1, none⟩ = some (.slice A na ca) ∧ w'.cell? ⟨g2, 6, none⟩ = some (.string ⟨#[114, 101, 118, 111, 107, 101]⟩) ∧ Below w3.heap.size w3 w')
    (first | exact ⟨by with_reducible assumption, by with_reducible assumption, by with_reducible assumption, by with_reducible assumption⟩ | fail)
    (first
      | (go_at_call 37; ((with_reducible refine (WP.out _ (by with_reducible assumption)).mono ?_); clear p0 p1 p2 p3; rintro e w' ⟨rfl, p0, p1, p2, p3⟩))
      | fail)
  rename_i hHeld
  clear hHeld HALL WP HK2 HLT p0 p1 p2 l0
  replace K1 := Lib.hid (K1.out.on p3)
  clear p3
  obtain ⟨u0, hu0⟩ : ∃ u, u = (⟨#[114, 101, 118, 111, 107, 101]⟩ : ByteArray) ++ ⟨#[32]⟩ ++ s2 := ⟨_, rfl⟩
  have hz0 : u0.size ≤ 40 := by
    rw [hu0, ByteArray.size_append, ByteArray.size_append]
    show 6 + 1 + s2.size ≤ 40
    omega
  rw [← hu0]
  have HU0 := Lib.hid hu0
  clear hu0
  
  have c0 := K1.out.c 0 _ rfl
  have c1 := K1.out.c 1 _ rfl
  have c2 := K1.out.c 2 _ rfl
  have c3 := K1.out.c 3 _ rfl
  have c4 := K1.out.c 4 _ rfl
  have c5 := K1.out.c 5 _ rfl
  go_wp2
  go_ret
  refine ⟨?_, K1.out.old⟩
  show Ending.returned (.string u0) = _
  rw [HU0.out]
set_option maxHeartbeats 8000000 in
theorem rctext_7 {a l : List Int} {x y z : Nat} {A B : Option Addr} {na ca nb cb : Nat} {s2 s3 s4 s5 s6 : ByteArray} {w : World} (ha : na = a.length) (hb : nb = l.length) (la : na ≤ 1000000) (lb : nb ≤ 1000000) (hA : IntsAt w w.heap.size A a) (hB : IntsAt w w.heap.size B l) (hg : cgood ⟨7, a, l, x, y, z⟩ = true)
    (hx : x < 65536) (hy : y < 65536) (hz : z < 18446744073709551616) (e2 : (⟨(ptext a).toArray⟩ : ByteArray) = s2) (e3 : (⟨(ptext l).toArray⟩ : ByteArray) = s3) (e4 : dct x = s4) (e5 : dct y = s5) (e6 : dct z = s6) (hsz : s2.size ≤ 20 ∧ s3.size ≤ 20 ∧ s4.size ≤ 20 ∧ s5.size ≤ 20 ∧ s6.size ≤ 20) :
    Calls Tryd.prog 18 #[.agg #[.int .i64 7, .slice A na ca, .slice B nb cb, .int .i64 (x : Int), .int .i64 (y : Int), .int .u64 (z : Int)]] w fun e w' => e = .returned (.string ((if nb = 0 then ((⟨#[115, 101, 110, 100]⟩ : ByteArray) ++ ⟨#[32]⟩ ++ s2) ++ ⟨#[32, 45]⟩ else ((⟨#[115, 101, 110, 100]⟩ : ByteArray) ++ ⟨#[32]⟩ ++ s2) ++ ⟨#[32]⟩ ++ s3) ++ ⟨#[32]⟩ ++ s6)) ∧ Below w.heap.size w w' := by
  obtain ⟨z2, z3, z4, z5, z6⟩ := hsz
  have K1 := Lib.hid (Bxs.new w [.int .i64 7, .slice A na ca, .slice B nb cb, .int .i64 (x : Int), .int .i64 (y : Int), .int .u64 (z : Int)] 39)
  have LA := Lib.hid hA
  have LB := Lib.hid hB
  have NA := Lib.hid ha
  have NB := Lib.hid hb
  have MA := Lib.hid la
  have MB := Lib.hid lb
  have HG := Lib.hid hg
  have HX := Lib.hid hx
  have HY := Lib.hid hy
  have HZ := Lib.hid hz
  have E2 := Lib.hid e2
  have E3 := Lib.hid e3
  have E4 := Lib.hid e4
  have E5 := Lib.hid e5
  have E6 := Lib.hid e6
  clear ha hb la lb hA hB hg hx hy hz e2 e3 e4 e5 e6
  go_enter Tryd.func18, Tryd.ntmps18
  go_wp2_with fail
  obtain ⟨g, hg⟩ : ∃ g, g = w.heap.size := ⟨_, rfl⟩
  rw [← hg] at K1 ⊢
  clear hg
  generalize w.alloc _ = w1 at K1 ⊢
  refine (rcgood_at (w := w1) NA.out NB.out MA.out MB.out (LA.out.on K1.out.old) (LB.out.on K1.out.old) HG.out).mono ?_
  rintro e w2 ⟨rfl, hb⟩
  replace K1 := Lib.hid (K1.out.on hb)
  clear hb
  have K2 := Lib.hid (Bxs.more (below_self w2) [.string ⟨#[]⟩, .string ⟨#[109, 97, 107, 101]⟩, .string ⟨#[99, 111, 112, 121]⟩, .string ⟨#[109, 105, 110, 116]⟩, .string ⟨#[109, 111, 118, 101]⟩, .string ⟨#[100, 101, 108, 101, 116, 101]⟩, .string ⟨#[114, 101, 118, 111, 107, 101]⟩, .string ⟨#[115, 101, 110, 100]⟩, .string ⟨#[114, 101, 99, 118]⟩, .string ⟨#[114, 105, 110, 103]⟩, .string ⟨#[112, 111, 108, 108]⟩, .string ⟨#[119, 114, 105, 116, 101]⟩, .string ⟨#[114, 101, 97, 100]⟩, .string ⟨#[116, 101, 108, 108]⟩] 9)
  replace K1 := Lib.hid (K1.out.on K2.out.old)
  go_upto_region 4 with fail
  obtain ⟨g2, hg⟩ : ∃ g, g = w2.heap.size := ⟨_, rfl⟩
  rw [← hg] at K2 ⊢
  clear hg
  generalize w2.alloc _ = w3 at K1 K2 ⊢
  have HK2 := Lib.hid (K2.out.c 7 _ rfl)
  have HLT := Lib.hid K2.out.lt
  clear K2
  have HALL : Hid (∀ w', Below w3.heap.size w3 w' → w'.cell? ⟨g, 0, none⟩ = some (.int .i64 7) ∧ w'.cell? ⟨g, 1, none⟩ = some (.slice A na ca) ∧ w'.cell? ⟨g2, 7, none⟩ = some (.string ⟨#[115, 101, 110, 100]⟩) ∧ Below w3.heap.size w3 w') := Lib.hid fun w' h => ⟨(K1.out.on h).c 0 _ rfl, (K1.out.on h).c 1 _ rfl, (h.cell (p := ⟨g2, 7, none⟩) HLT.out).trans HK2.out, h⟩
  have WP := Lib.hid fun w' (h : Below w3.heap.size w3 w') => (rtext_is (w := w') (cap := ca) NA.out MA.out (LA.out.on (below_on K1.out.old h)) E2.out).mono fun e w'' he => (⟨he.1, HALL.out w'' (below_on h he.2)⟩ : _ ∧ _)
  obtain ⟨p0, p1, p2, p3⟩ := HALL.out w3.drew (below_self w3).drew
  have l0 : ¬ 9223372036854775807 < 5 + s2.size := by omega
  go_wp2_with fail
  go_region_held3 (fun w' => w'.cell? ⟨g, 0, none⟩ = some (.int .i64 7) ∧ w'.cell? ⟨g, 1, none⟩ = some (.slice A na ca) ∧ w'.cell? ⟨g2, 7, none⟩ = some (.string ⟨#[115, 101, 110, 100]⟩) ∧ Below w3.heap.size w3 w')
    (first | exact ⟨by with_reducible assumption, by with_reducible assumption, by with_reducible assumption, by with_reducible assumption⟩ | fail)
    (first
      | (go_at_call 37; ((with_reducible refine (WP.out _ (by with_reducible assumption)).mono ?_); clear p0 p1 p2 p3; rintro e w' ⟨rfl, p0, p1, p2, p3⟩))
      | fail)
  rename_i hHeld
  clear hHeld HALL WP HK2 HLT p0 p1 p2 l0
  replace K1 := Lib.hid (K1.out.on p3)
  clear p3
  obtain ⟨u0, hu0⟩ : ∃ u, u = (⟨#[115, 101, 110, 100]⟩ : ByteArray) ++ ⟨#[32]⟩ ++ s2 := ⟨_, rfl⟩
  have hz0 : u0.size ≤ 40 := by
    rw [hu0, ByteArray.size_append, ByteArray.size_append]
    show 4 + 1 + s2.size ≤ 40
    omega
  rw [← hu0]
  have HU0 := Lib.hid hu0
  clear hu0
  
  by_cases hn : nb = 0
  case pos =>
    have hn0 : (nb : Int) = 0 := by omega
    have c0 := K1.out.c 0 _ rfl
    have c1 := K1.out.c 1 _ rfl
    have c2 := K1.out.c 2 _ rfl
    have c3 := K1.out.c 3 _ rfl
    have c4 := K1.out.c 4 _ rfl
    have c5 := K1.out.c 5 _ rfl
    have q1 : ¬ 9223372036854775807 < u0.size + 2 := by omega
    go_upto_region 9 with fail
    obtain ⟨u1, hu1⟩ : ∃ u, u = u0 ++ ⟨#[32, 45]⟩ := ⟨_, rfl⟩
    have hz1 : u1.size ≤ 42 := by
      rw [hu1]
      simp only [ByteArray.size_append]
      show u0.size + 2 ≤ 42
      omega
    rw [← hu1]
    have HU1 := Lib.hid hu1
    clear hu1 hz0
    clear q1
    clear c0 c1 c2 c3 c4 c5
    have c0 := K1.out.c 0 _ rfl
    have c1 := K1.out.c 1 _ rfl
    have c2 := K1.out.c 2 _ rfl
    have c3 := K1.out.c 3 _ rfl
    have c4 := K1.out.c 4 _ rfl
    have c5 := K1.out.c 5 _ rfl
    have q1 : ¬ 9223372036854775807 < u1.size + 1 := by omega
    have q2 : ¬ 9223372036854775807 < u1.size + 1 + s6.size := by omega
    go_wp2_with fail
    refine (rdig_is HZ.out E6.out w').mono ?_
    rintro e wn1 ⟨rfl, hb⟩
    clear c0 c1 c2 c3 c4 c5
    replace K1 := Lib.hid (K1.out.on hb)
    clear hb
    go_upto_region 15 with fail
    obtain ⟨u2, hu2⟩ : ∃ u, u = u1 ++ ⟨#[32]⟩ ++ s6 := ⟨_, rfl⟩
    have hz2 : u2.size ≤ 63 := by
      rw [hu2]
      simp only [ByteArray.size_append]
      show u1.size + 1 + s6.size ≤ 63
      omega
    rw [← hu2]
    have HU2 := Lib.hid hu2
    clear hu2 hz1
    clear q1 q2
    have c0 := K1.out.c 0 _ rfl
    have c1 := K1.out.c 1 _ rfl
    have c2 := K1.out.c 2 _ rfl
    have c3 := K1.out.c 3 _ rfl
    have c4 := K1.out.c 4 _ rfl
    have c5 := K1.out.c 5 _ rfl
    go_wp2
    go_ret
    refine ⟨?_, K1.out.old⟩
    show Ending.returned (.string u2) = _
    rw [HU2.out, HU1.out, HU0.out]
  case neg =>
    have hn0 : ¬ (nb : Int) = 0 := by omega
    have c0 := K1.out.c 0 _ rfl
    have c1 := K1.out.c 1 _ rfl
    have c2 := K1.out.c 2 _ rfl
    have c3 := K1.out.c 3 _ rfl
    have c4 := K1.out.c 4 _ rfl
    have c5 := K1.out.c 5 _ rfl
    have q1 : ¬ 9223372036854775807 < u0.size + 1 := by omega
    have q2 : ¬ 9223372036854775807 < u0.size + 1 + s3.size := by omega
    go_wp2_with fail
    refine (rtext_is (w := w') (cap := cb) NB.out MB.out (LB.out.on K1.out.old) E3.out).mono ?_
    rintro e wn2 ⟨rfl, hb⟩
    clear c0 c1 c2 c3 c4 c5
    replace K1 := Lib.hid (K1.out.on hb)
    clear hb
    go_upto_region 9 with fail
    obtain ⟨u1, hu1⟩ : ∃ u, u = u0 ++ ⟨#[32]⟩ ++ s3 := ⟨_, rfl⟩
    have hz1 : u1.size ≤ 61 := by
      rw [hu1]
      simp only [ByteArray.size_append]
      show u0.size + 1 + s3.size ≤ 61
      omega
    rw [← hu1]
    have HU1 := Lib.hid hu1
    clear hu1 hz0
    clear q1 q2
    have c0 := K1.out.c 0 _ rfl
    have c1 := K1.out.c 1 _ rfl
    have c2 := K1.out.c 2 _ rfl
    have c3 := K1.out.c 3 _ rfl
    have c4 := K1.out.c 4 _ rfl
    have c5 := K1.out.c 5 _ rfl
    have q1 : ¬ 9223372036854775807 < u1.size + 1 := by omega
    have q2 : ¬ 9223372036854775807 < u1.size + 1 + s6.size := by omega
    go_wp2_with fail
    refine (rdig_is HZ.out E6.out wn2).mono ?_
    rintro e wn3 ⟨rfl, hb⟩
    clear c0 c1 c2 c3 c4 c5
    replace K1 := Lib.hid (K1.out.on hb)
    clear hb
    go_upto_region 15 with fail
    obtain ⟨u2, hu2⟩ : ∃ u, u = u1 ++ ⟨#[32]⟩ ++ s6 := ⟨_, rfl⟩
    have hz2 : u2.size ≤ 82 := by
      rw [hu2]
      simp only [ByteArray.size_append]
      show u1.size + 1 + s6.size ≤ 82
      omega
    rw [← hu2]
    have HU2 := Lib.hid hu2
    clear hu2 hz1
    clear q1 q2
    have c0 := K1.out.c 0 _ rfl
    have c1 := K1.out.c 1 _ rfl
    have c2 := K1.out.c 2 _ rfl
    have c3 := K1.out.c 3 _ rfl
    have c4 := K1.out.c 4 _ rfl
    have c5 := K1.out.c 5 _ rfl
    go_wp2
    go_ret
    refine ⟨?_, K1.out.old⟩
    show Ending.returned (.string u2) = _
    rw [HU2.out, HU1.out, HU0.out]
set_option maxHeartbeats 8000000 in
theorem rctext_8 {a l : List Int} {x y z : Nat} {A B : Option Addr} {na ca nb cb : Nat} {s2 s3 s4 s5 s6 : ByteArray} {w : World} (ha : na = a.length) (hb : nb = l.length) (la : na ≤ 1000000) (lb : nb ≤ 1000000) (hA : IntsAt w w.heap.size A a) (hB : IntsAt w w.heap.size B l) (hg : cgood ⟨8, a, l, x, y, z⟩ = true)
    (hx : x < 65536) (hy : y < 65536) (hz : z < 18446744073709551616) (e2 : (⟨(ptext a).toArray⟩ : ByteArray) = s2) (e3 : (⟨(ptext l).toArray⟩ : ByteArray) = s3) (e4 : dct x = s4) (e5 : dct y = s5) (e6 : dct z = s6) (hsz : s2.size ≤ 20 ∧ s3.size ≤ 20 ∧ s4.size ≤ 20 ∧ s5.size ≤ 20 ∧ s6.size ≤ 20) :
    Calls Tryd.prog 18 #[.agg #[.int .i64 8, .slice A na ca, .slice B nb cb, .int .i64 (x : Int), .int .i64 (y : Int), .int .u64 (z : Int)]] w fun e w' => e = .returned (.string (if nb = 0 then ((⟨#[114, 101, 99, 118]⟩ : ByteArray) ++ ⟨#[32]⟩ ++ s2) ++ ⟨#[32, 45]⟩ else ((⟨#[114, 101, 99, 118]⟩ : ByteArray) ++ ⟨#[32]⟩ ++ s2) ++ ⟨#[32]⟩ ++ s3)) ∧ Below w.heap.size w w' := by
  obtain ⟨z2, z3, z4, z5, z6⟩ := hsz
  have K1 := Lib.hid (Bxs.new w [.int .i64 8, .slice A na ca, .slice B nb cb, .int .i64 (x : Int), .int .i64 (y : Int), .int .u64 (z : Int)] 39)
  have LA := Lib.hid hA
  have LB := Lib.hid hB
  have NA := Lib.hid ha
  have NB := Lib.hid hb
  have MA := Lib.hid la
  have MB := Lib.hid lb
  have HG := Lib.hid hg
  have HX := Lib.hid hx
  have HY := Lib.hid hy
  have HZ := Lib.hid hz
  have E2 := Lib.hid e2
  have E3 := Lib.hid e3
  have E4 := Lib.hid e4
  have E5 := Lib.hid e5
  have E6 := Lib.hid e6
  clear ha hb la lb hA hB hg hx hy hz e2 e3 e4 e5 e6
  go_enter Tryd.func18, Tryd.ntmps18
  go_wp2_with fail
  obtain ⟨g, hg⟩ : ∃ g, g = w.heap.size := ⟨_, rfl⟩
  rw [← hg] at K1 ⊢
  clear hg
  generalize w.alloc _ = w1 at K1 ⊢
  refine (rcgood_at (w := w1) NA.out NB.out MA.out MB.out (LA.out.on K1.out.old) (LB.out.on K1.out.old) HG.out).mono ?_
  rintro e w2 ⟨rfl, hb⟩
  replace K1 := Lib.hid (K1.out.on hb)
  clear hb
  have K2 := Lib.hid (Bxs.more (below_self w2) [.string ⟨#[]⟩, .string ⟨#[109, 97, 107, 101]⟩, .string ⟨#[99, 111, 112, 121]⟩, .string ⟨#[109, 105, 110, 116]⟩, .string ⟨#[109, 111, 118, 101]⟩, .string ⟨#[100, 101, 108, 101, 116, 101]⟩, .string ⟨#[114, 101, 118, 111, 107, 101]⟩, .string ⟨#[115, 101, 110, 100]⟩, .string ⟨#[114, 101, 99, 118]⟩, .string ⟨#[114, 105, 110, 103]⟩, .string ⟨#[112, 111, 108, 108]⟩, .string ⟨#[119, 114, 105, 116, 101]⟩, .string ⟨#[114, 101, 97, 100]⟩, .string ⟨#[116, 101, 108, 108]⟩] 9)
  replace K1 := Lib.hid (K1.out.on K2.out.old)
  go_upto_region 4 with fail
  obtain ⟨g2, hg⟩ : ∃ g, g = w2.heap.size := ⟨_, rfl⟩
  rw [← hg] at K2 ⊢
  clear hg
  generalize w2.alloc _ = w3 at K1 K2 ⊢
  have HK2 := Lib.hid (K2.out.c 8 _ rfl)
  have HLT := Lib.hid K2.out.lt
  clear K2
  have HALL : Hid (∀ w', Below w3.heap.size w3 w' → w'.cell? ⟨g, 0, none⟩ = some (.int .i64 8) ∧ w'.cell? ⟨g, 1, none⟩ = some (.slice A na ca) ∧ w'.cell? ⟨g2, 8, none⟩ = some (.string ⟨#[114, 101, 99, 118]⟩) ∧ Below w3.heap.size w3 w') := Lib.hid fun w' h => ⟨(K1.out.on h).c 0 _ rfl, (K1.out.on h).c 1 _ rfl, (h.cell (p := ⟨g2, 8, none⟩) HLT.out).trans HK2.out, h⟩
  have WP := Lib.hid fun w' (h : Below w3.heap.size w3 w') => (rtext_is (w := w') (cap := ca) NA.out MA.out (LA.out.on (below_on K1.out.old h)) E2.out).mono fun e w'' he => (⟨he.1, HALL.out w'' (below_on h he.2)⟩ : _ ∧ _)
  obtain ⟨p0, p1, p2, p3⟩ := HALL.out w3.drew (below_self w3).drew
  have l0 : ¬ 9223372036854775807 < 5 + s2.size := by omega
  go_wp2_with fail
  go_region_held3 (fun w' => w'.cell? ⟨g, 0, none⟩ = some (.int .i64 8) ∧ w'.cell? ⟨g, 1, none⟩ = some (.slice A na ca) ∧ w'.cell? ⟨g2, 8, none⟩ = some (.string ⟨#[114, 101, 99, 118]⟩) ∧ Below w3.heap.size w3 w')
    (first | exact ⟨by with_reducible assumption, by with_reducible assumption, by with_reducible assumption, by with_reducible assumption⟩ | fail)
    (first
      | (go_at_call 37; ((with_reducible refine (WP.out _ (by with_reducible assumption)).mono ?_); clear p0 p1 p2 p3; rintro e w' ⟨rfl, p0, p1, p2, p3⟩))
      | fail)
  rename_i hHeld
  clear hHeld HALL WP HK2 HLT p0 p1 p2 l0
  replace K1 := Lib.hid (K1.out.on p3)
  clear p3
  obtain ⟨u0, hu0⟩ : ∃ u, u = (⟨#[114, 101, 99, 118]⟩ : ByteArray) ++ ⟨#[32]⟩ ++ s2 := ⟨_, rfl⟩
  have hz0 : u0.size ≤ 40 := by
    rw [hu0, ByteArray.size_append, ByteArray.size_append]
    show 4 + 1 + s2.size ≤ 40
    omega
  rw [← hu0]
  have HU0 := Lib.hid hu0
  clear hu0
  
  by_cases hn : nb = 0
  case pos =>
    have hn0 : (nb : Int) = 0 := by omega
    have c0 := K1.out.c 0 _ rfl
    have c1 := K1.out.c 1 _ rfl
    have c2 := K1.out.c 2 _ rfl
    have c3 := K1.out.c 3 _ rfl
    have c4 := K1.out.c 4 _ rfl
    have c5 := K1.out.c 5 _ rfl
    have q1 : ¬ 9223372036854775807 < u0.size + 2 := by omega
    go_upto_region 9 with fail
    obtain ⟨u1, hu1⟩ : ∃ u, u = u0 ++ ⟨#[32, 45]⟩ := ⟨_, rfl⟩
    have hz1 : u1.size ≤ 42 := by
      rw [hu1]
      simp only [ByteArray.size_append]
      show u0.size + 2 ≤ 42
      omega
    rw [← hu1]
    have HU1 := Lib.hid hu1
    clear hu1 hz0
    clear q1
    clear c0 c1 c2 c3 c4 c5
    have c0 := K1.out.c 0 _ rfl
    have c1 := K1.out.c 1 _ rfl
    have c2 := K1.out.c 2 _ rfl
    have c3 := K1.out.c 3 _ rfl
    have c4 := K1.out.c 4 _ rfl
    have c5 := K1.out.c 5 _ rfl
    go_wp2
    go_ret
    refine ⟨?_, K1.out.old⟩
    show Ending.returned (.string u1) = _
    rw [HU1.out, HU0.out]
  case neg =>
    have hn0 : ¬ (nb : Int) = 0 := by omega
    have c0 := K1.out.c 0 _ rfl
    have c1 := K1.out.c 1 _ rfl
    have c2 := K1.out.c 2 _ rfl
    have c3 := K1.out.c 3 _ rfl
    have c4 := K1.out.c 4 _ rfl
    have c5 := K1.out.c 5 _ rfl
    have q1 : ¬ 9223372036854775807 < u0.size + 1 := by omega
    have q2 : ¬ 9223372036854775807 < u0.size + 1 + s3.size := by omega
    go_wp2_with fail
    refine (rtext_is (w := w') (cap := cb) NB.out MB.out (LB.out.on K1.out.old) E3.out).mono ?_
    rintro e wn1 ⟨rfl, hb⟩
    clear c0 c1 c2 c3 c4 c5
    replace K1 := Lib.hid (K1.out.on hb)
    clear hb
    go_upto_region 9 with fail
    obtain ⟨u1, hu1⟩ : ∃ u, u = u0 ++ ⟨#[32]⟩ ++ s3 := ⟨_, rfl⟩
    have hz1 : u1.size ≤ 61 := by
      rw [hu1]
      simp only [ByteArray.size_append]
      show u0.size + 1 + s3.size ≤ 61
      omega
    rw [← hu1]
    have HU1 := Lib.hid hu1
    clear hu1 hz0
    clear q1 q2
    have c0 := K1.out.c 0 _ rfl
    have c1 := K1.out.c 1 _ rfl
    have c2 := K1.out.c 2 _ rfl
    have c3 := K1.out.c 3 _ rfl
    have c4 := K1.out.c 4 _ rfl
    have c5 := K1.out.c 5 _ rfl
    go_wp2
    go_ret
    refine ⟨?_, K1.out.old⟩
    show Ending.returned (.string u1) = _
    rw [HU1.out, HU0.out]
set_option maxHeartbeats 8000000 in
theorem rctext_9 {a l : List Int} {x y z : Nat} {A B : Option Addr} {na ca nb cb : Nat} {s2 s3 s4 s5 s6 : ByteArray} {w : World} (ha : na = a.length) (hb : nb = l.length) (la : na ≤ 1000000) (lb : nb ≤ 1000000) (hA : IntsAt w w.heap.size A a) (hB : IntsAt w w.heap.size B l) (hg : cgood ⟨9, a, l, x, y, z⟩ = true)
    (hx : x < 65536) (hy : y < 65536) (hz : z < 18446744073709551616) (e2 : (⟨(ptext a).toArray⟩ : ByteArray) = s2) (e3 : (⟨(ptext l).toArray⟩ : ByteArray) = s3) (e4 : dct x = s4) (e5 : dct y = s5) (e6 : dct z = s6) (hsz : s2.size ≤ 20 ∧ s3.size ≤ 20 ∧ s4.size ≤ 20 ∧ s5.size ≤ 20 ∧ s6.size ≤ 20) :
    Calls Tryd.prog 18 #[.agg #[.int .i64 9, .slice A na ca, .slice B nb cb, .int .i64 (x : Int), .int .i64 (y : Int), .int .u64 (z : Int)]] w fun e w' => e = .returned (.string ((⟨#[114, 105, 110, 103]⟩ : ByteArray) ++ ⟨#[32]⟩ ++ s2)) ∧ Below w.heap.size w w' := by
  obtain ⟨z2, z3, z4, z5, z6⟩ := hsz
  have K1 := Lib.hid (Bxs.new w [.int .i64 9, .slice A na ca, .slice B nb cb, .int .i64 (x : Int), .int .i64 (y : Int), .int .u64 (z : Int)] 39)
  have LA := Lib.hid hA
  have LB := Lib.hid hB
  have NA := Lib.hid ha
  have NB := Lib.hid hb
  have MA := Lib.hid la
  have MB := Lib.hid lb
  have HG := Lib.hid hg
  have HX := Lib.hid hx
  have HY := Lib.hid hy
  have HZ := Lib.hid hz
  have E2 := Lib.hid e2
  have E3 := Lib.hid e3
  have E4 := Lib.hid e4
  have E5 := Lib.hid e5
  have E6 := Lib.hid e6
  clear ha hb la lb hA hB hg hx hy hz e2 e3 e4 e5 e6
  go_enter Tryd.func18, Tryd.ntmps18
  go_wp2_with fail
  obtain ⟨g, hg⟩ : ∃ g, g = w.heap.size := ⟨_, rfl⟩
  rw [← hg] at K1 ⊢
  clear hg
  generalize w.alloc _ = w1 at K1 ⊢
  refine (rcgood_at (w := w1) NA.out NB.out MA.out MB.out (LA.out.on K1.out.old) (LB.out.on K1.out.old) HG.out).mono ?_
  rintro e w2 ⟨rfl, hb⟩
  replace K1 := Lib.hid (K1.out.on hb)
  clear hb
  have K2 := Lib.hid (Bxs.more (below_self w2) [.string ⟨#[]⟩, .string ⟨#[109, 97, 107, 101]⟩, .string ⟨#[99, 111, 112, 121]⟩, .string ⟨#[109, 105, 110, 116]⟩, .string ⟨#[109, 111, 118, 101]⟩, .string ⟨#[100, 101, 108, 101, 116, 101]⟩, .string ⟨#[114, 101, 118, 111, 107, 101]⟩, .string ⟨#[115, 101, 110, 100]⟩, .string ⟨#[114, 101, 99, 118]⟩, .string ⟨#[114, 105, 110, 103]⟩, .string ⟨#[112, 111, 108, 108]⟩, .string ⟨#[119, 114, 105, 116, 101]⟩, .string ⟨#[114, 101, 97, 100]⟩, .string ⟨#[116, 101, 108, 108]⟩] 9)
  replace K1 := Lib.hid (K1.out.on K2.out.old)
  go_upto_region 4 with fail
  obtain ⟨g2, hg⟩ : ∃ g, g = w2.heap.size := ⟨_, rfl⟩
  rw [← hg] at K2 ⊢
  clear hg
  generalize w2.alloc _ = w3 at K1 K2 ⊢
  have HK2 := Lib.hid (K2.out.c 9 _ rfl)
  have HLT := Lib.hid K2.out.lt
  clear K2
  have HALL : Hid (∀ w', Below w3.heap.size w3 w' → w'.cell? ⟨g, 0, none⟩ = some (.int .i64 9) ∧ w'.cell? ⟨g, 1, none⟩ = some (.slice A na ca) ∧ w'.cell? ⟨g2, 9, none⟩ = some (.string ⟨#[114, 105, 110, 103]⟩) ∧ Below w3.heap.size w3 w') := Lib.hid fun w' h => ⟨(K1.out.on h).c 0 _ rfl, (K1.out.on h).c 1 _ rfl, (h.cell (p := ⟨g2, 9, none⟩) HLT.out).trans HK2.out, h⟩
  have WP := Lib.hid fun w' (h : Below w3.heap.size w3 w') => (rtext_is (w := w') (cap := ca) NA.out MA.out (LA.out.on (below_on K1.out.old h)) E2.out).mono fun e w'' he => (⟨he.1, HALL.out w'' (below_on h he.2)⟩ : _ ∧ _)
  obtain ⟨p0, p1, p2, p3⟩ := HALL.out w3.drew (below_self w3).drew
  have l0 : ¬ 9223372036854775807 < 5 + s2.size := by omega
  go_wp2_with fail
  go_region_held3 (fun w' => w'.cell? ⟨g, 0, none⟩ = some (.int .i64 9) ∧ w'.cell? ⟨g, 1, none⟩ = some (.slice A na ca) ∧ w'.cell? ⟨g2, 9, none⟩ = some (.string ⟨#[114, 105, 110, 103]⟩) ∧ Below w3.heap.size w3 w')
    (first | exact ⟨by with_reducible assumption, by with_reducible assumption, by with_reducible assumption, by with_reducible assumption⟩ | fail)
    (first
      | (go_at_call 37; ((with_reducible refine (WP.out _ (by with_reducible assumption)).mono ?_); clear p0 p1 p2 p3; rintro e w' ⟨rfl, p0, p1, p2, p3⟩))
      | fail)
  rename_i hHeld
  clear hHeld HALL WP HK2 HLT p0 p1 p2 l0
  replace K1 := Lib.hid (K1.out.on p3)
  clear p3
  obtain ⟨u0, hu0⟩ : ∃ u, u = (⟨#[114, 105, 110, 103]⟩ : ByteArray) ++ ⟨#[32]⟩ ++ s2 := ⟨_, rfl⟩
  have hz0 : u0.size ≤ 40 := by
    rw [hu0, ByteArray.size_append, ByteArray.size_append]
    show 4 + 1 + s2.size ≤ 40
    omega
  rw [← hu0]
  have HU0 := Lib.hid hu0
  clear hu0
  
  have c0 := K1.out.c 0 _ rfl
  have c1 := K1.out.c 1 _ rfl
  have c2 := K1.out.c 2 _ rfl
  have c3 := K1.out.c 3 _ rfl
  have c4 := K1.out.c 4 _ rfl
  have c5 := K1.out.c 5 _ rfl
  go_wp2
  go_ret
  refine ⟨?_, K1.out.old⟩
  show Ending.returned (.string u0) = _
  rw [HU0.out]
set_option maxHeartbeats 8000000 in
theorem rctext_10 {a l : List Int} {x y z : Nat} {A B : Option Addr} {na ca nb cb : Nat} {s2 s3 s4 s5 s6 : ByteArray} {w : World} (ha : na = a.length) (hb : nb = l.length) (la : na ≤ 1000000) (lb : nb ≤ 1000000) (hA : IntsAt w w.heap.size A a) (hB : IntsAt w w.heap.size B l) (hg : cgood ⟨10, a, l, x, y, z⟩ = true)
    (hx : x < 65536) (hy : y < 65536) (hz : z < 18446744073709551616) (e2 : (⟨(ptext a).toArray⟩ : ByteArray) = s2) (e3 : (⟨(ptext l).toArray⟩ : ByteArray) = s3) (e4 : dct x = s4) (e5 : dct y = s5) (e6 : dct z = s6) (hsz : s2.size ≤ 20 ∧ s3.size ≤ 20 ∧ s4.size ≤ 20 ∧ s5.size ≤ 20 ∧ s6.size ≤ 20) :
    Calls Tryd.prog 18 #[.agg #[.int .i64 10, .slice A na ca, .slice B nb cb, .int .i64 (x : Int), .int .i64 (y : Int), .int .u64 (z : Int)]] w fun e w' => e = .returned (.string ((⟨#[112, 111, 108, 108]⟩ : ByteArray) ++ ⟨#[32]⟩ ++ s2)) ∧ Below w.heap.size w w' := by
  obtain ⟨z2, z3, z4, z5, z6⟩ := hsz
  have K1 := Lib.hid (Bxs.new w [.int .i64 10, .slice A na ca, .slice B nb cb, .int .i64 (x : Int), .int .i64 (y : Int), .int .u64 (z : Int)] 39)
  have LA := Lib.hid hA
  have LB := Lib.hid hB
  have NA := Lib.hid ha
  have NB := Lib.hid hb
  have MA := Lib.hid la
  have MB := Lib.hid lb
  have HG := Lib.hid hg
  have HX := Lib.hid hx
  have HY := Lib.hid hy
  have HZ := Lib.hid hz
  have E2 := Lib.hid e2
  have E3 := Lib.hid e3
  have E4 := Lib.hid e4
  have E5 := Lib.hid e5
  have E6 := Lib.hid e6
  clear ha hb la lb hA hB hg hx hy hz e2 e3 e4 e5 e6
  go_enter Tryd.func18, Tryd.ntmps18
  go_wp2_with fail
  obtain ⟨g, hg⟩ : ∃ g, g = w.heap.size := ⟨_, rfl⟩
  rw [← hg] at K1 ⊢
  clear hg
  generalize w.alloc _ = w1 at K1 ⊢
  refine (rcgood_at (w := w1) NA.out NB.out MA.out MB.out (LA.out.on K1.out.old) (LB.out.on K1.out.old) HG.out).mono ?_
  rintro e w2 ⟨rfl, hb⟩
  replace K1 := Lib.hid (K1.out.on hb)
  clear hb
  have K2 := Lib.hid (Bxs.more (below_self w2) [.string ⟨#[]⟩, .string ⟨#[109, 97, 107, 101]⟩, .string ⟨#[99, 111, 112, 121]⟩, .string ⟨#[109, 105, 110, 116]⟩, .string ⟨#[109, 111, 118, 101]⟩, .string ⟨#[100, 101, 108, 101, 116, 101]⟩, .string ⟨#[114, 101, 118, 111, 107, 101]⟩, .string ⟨#[115, 101, 110, 100]⟩, .string ⟨#[114, 101, 99, 118]⟩, .string ⟨#[114, 105, 110, 103]⟩, .string ⟨#[112, 111, 108, 108]⟩, .string ⟨#[119, 114, 105, 116, 101]⟩, .string ⟨#[114, 101, 97, 100]⟩, .string ⟨#[116, 101, 108, 108]⟩] 9)
  replace K1 := Lib.hid (K1.out.on K2.out.old)
  go_upto_region 4 with fail
  obtain ⟨g2, hg⟩ : ∃ g, g = w2.heap.size := ⟨_, rfl⟩
  rw [← hg] at K2 ⊢
  clear hg
  generalize w2.alloc _ = w3 at K1 K2 ⊢
  have HK2 := Lib.hid (K2.out.c 10 _ rfl)
  have HLT := Lib.hid K2.out.lt
  clear K2
  have HALL : Hid (∀ w', Below w3.heap.size w3 w' → w'.cell? ⟨g, 0, none⟩ = some (.int .i64 10) ∧ w'.cell? ⟨g, 1, none⟩ = some (.slice A na ca) ∧ w'.cell? ⟨g2, 10, none⟩ = some (.string ⟨#[112, 111, 108, 108]⟩) ∧ Below w3.heap.size w3 w') := Lib.hid fun w' h => ⟨(K1.out.on h).c 0 _ rfl, (K1.out.on h).c 1 _ rfl, (h.cell (p := ⟨g2, 10, none⟩) HLT.out).trans HK2.out, h⟩
  have WP := Lib.hid fun w' (h : Below w3.heap.size w3 w') => (rtext_is (w := w') (cap := ca) NA.out MA.out (LA.out.on (below_on K1.out.old h)) E2.out).mono fun e w'' he => (⟨he.1, HALL.out w'' (below_on h he.2)⟩ : _ ∧ _)
  obtain ⟨p0, p1, p2, p3⟩ := HALL.out w3.drew (below_self w3).drew
  have l0 : ¬ 9223372036854775807 < 5 + s2.size := by omega
  go_wp2_with fail
  go_region_held3 (fun w' => w'.cell? ⟨g, 0, none⟩ = some (.int .i64 10) ∧ w'.cell? ⟨g, 1, none⟩ = some (.slice A na ca) ∧ w'.cell? ⟨g2, 10, none⟩ = some (.string ⟨#[112, 111, 108, 108]⟩) ∧ Below w3.heap.size w3 w')
    (first | exact ⟨by with_reducible assumption, by with_reducible assumption, by with_reducible assumption, by with_reducible assumption⟩ | fail)
    (first
      | (go_at_call 37; ((with_reducible refine (WP.out _ (by with_reducible assumption)).mono ?_); clear p0 p1 p2 p3; rintro e w' ⟨rfl, p0, p1, p2, p3⟩))
      | fail)
  rename_i hHeld
  clear hHeld HALL WP HK2 HLT p0 p1 p2 l0
  replace K1 := Lib.hid (K1.out.on p3)
  clear p3
  obtain ⟨u0, hu0⟩ : ∃ u, u = (⟨#[112, 111, 108, 108]⟩ : ByteArray) ++ ⟨#[32]⟩ ++ s2 := ⟨_, rfl⟩
  have hz0 : u0.size ≤ 40 := by
    rw [hu0, ByteArray.size_append, ByteArray.size_append]
    show 4 + 1 + s2.size ≤ 40
    omega
  rw [← hu0]
  have HU0 := Lib.hid hu0
  clear hu0
  
  have c0 := K1.out.c 0 _ rfl
  have c1 := K1.out.c 1 _ rfl
  have c2 := K1.out.c 2 _ rfl
  have c3 := K1.out.c 3 _ rfl
  have c4 := K1.out.c 4 _ rfl
  have c5 := K1.out.c 5 _ rfl
  go_wp2
  go_ret
  refine ⟨?_, K1.out.old⟩
  show Ending.returned (.string u0) = _
  rw [HU0.out]
set_option maxHeartbeats 8000000 in
theorem rctext_11 {a l : List Int} {x y z : Nat} {A B : Option Addr} {na ca nb cb : Nat} {s2 s3 s4 s5 s6 : ByteArray} {w : World} (ha : na = a.length) (hb : nb = l.length) (la : na ≤ 1000000) (lb : nb ≤ 1000000) (hA : IntsAt w w.heap.size A a) (hB : IntsAt w w.heap.size B l) (hg : cgood ⟨11, a, l, x, y, z⟩ = true)
    (hx : x < 65536) (hy : y < 65536) (hz : z < 18446744073709551616) (e2 : (⟨(ptext a).toArray⟩ : ByteArray) = s2) (e3 : (⟨(ptext l).toArray⟩ : ByteArray) = s3) (e4 : dct x = s4) (e5 : dct y = s5) (e6 : dct z = s6) (hsz : s2.size ≤ 20 ∧ s3.size ≤ 20 ∧ s4.size ≤ 20 ∧ s5.size ≤ 20 ∧ s6.size ≤ 20) :
    Calls Tryd.prog 18 #[.agg #[.int .i64 11, .slice A na ca, .slice B nb cb, .int .i64 (x : Int), .int .i64 (y : Int), .int .u64 (z : Int)]] w fun e w' => e = .returned (.string ((((⟨#[119, 114, 105, 116, 101]⟩ : ByteArray) ++ ⟨#[32]⟩ ++ s2) ++ ⟨#[32]⟩ ++ s4) ++ ⟨#[32]⟩ ++ s6)) ∧ Below w.heap.size w w' := by
  obtain ⟨z2, z3, z4, z5, z6⟩ := hsz
  have K1 := Lib.hid (Bxs.new w [.int .i64 11, .slice A na ca, .slice B nb cb, .int .i64 (x : Int), .int .i64 (y : Int), .int .u64 (z : Int)] 39)
  have LA := Lib.hid hA
  have LB := Lib.hid hB
  have NA := Lib.hid ha
  have NB := Lib.hid hb
  have MA := Lib.hid la
  have MB := Lib.hid lb
  have HG := Lib.hid hg
  have HX := Lib.hid hx
  have HY := Lib.hid hy
  have HZ := Lib.hid hz
  have E2 := Lib.hid e2
  have E3 := Lib.hid e3
  have E4 := Lib.hid e4
  have E5 := Lib.hid e5
  have E6 := Lib.hid e6
  clear ha hb la lb hA hB hg hx hy hz e2 e3 e4 e5 e6
  go_enter Tryd.func18, Tryd.ntmps18
  go_wp2_with fail
  obtain ⟨g, hg⟩ : ∃ g, g = w.heap.size := ⟨_, rfl⟩
  rw [← hg] at K1 ⊢
  clear hg
  generalize w.alloc _ = w1 at K1 ⊢
  refine (rcgood_at (w := w1) NA.out NB.out MA.out MB.out (LA.out.on K1.out.old) (LB.out.on K1.out.old) HG.out).mono ?_
  rintro e w2 ⟨rfl, hb⟩
  replace K1 := Lib.hid (K1.out.on hb)
  clear hb
  have K2 := Lib.hid (Bxs.more (below_self w2) [.string ⟨#[]⟩, .string ⟨#[109, 97, 107, 101]⟩, .string ⟨#[99, 111, 112, 121]⟩, .string ⟨#[109, 105, 110, 116]⟩, .string ⟨#[109, 111, 118, 101]⟩, .string ⟨#[100, 101, 108, 101, 116, 101]⟩, .string ⟨#[114, 101, 118, 111, 107, 101]⟩, .string ⟨#[115, 101, 110, 100]⟩, .string ⟨#[114, 101, 99, 118]⟩, .string ⟨#[114, 105, 110, 103]⟩, .string ⟨#[112, 111, 108, 108]⟩, .string ⟨#[119, 114, 105, 116, 101]⟩, .string ⟨#[114, 101, 97, 100]⟩, .string ⟨#[116, 101, 108, 108]⟩] 9)
  replace K1 := Lib.hid (K1.out.on K2.out.old)
  go_upto_region 4 with fail
  obtain ⟨g2, hg⟩ : ∃ g, g = w2.heap.size := ⟨_, rfl⟩
  rw [← hg] at K2 ⊢
  clear hg
  generalize w2.alloc _ = w3 at K1 K2 ⊢
  have HK2 := Lib.hid (K2.out.c 11 _ rfl)
  have HLT := Lib.hid K2.out.lt
  clear K2
  have HALL : Hid (∀ w', Below w3.heap.size w3 w' → w'.cell? ⟨g, 0, none⟩ = some (.int .i64 11) ∧ w'.cell? ⟨g, 1, none⟩ = some (.slice A na ca) ∧ w'.cell? ⟨g2, 11, none⟩ = some (.string ⟨#[119, 114, 105, 116, 101]⟩) ∧ Below w3.heap.size w3 w') := Lib.hid fun w' h => ⟨(K1.out.on h).c 0 _ rfl, (K1.out.on h).c 1 _ rfl, (h.cell (p := ⟨g2, 11, none⟩) HLT.out).trans HK2.out, h⟩
  have WP := Lib.hid fun w' (h : Below w3.heap.size w3 w') => (rtext_is (w := w') (cap := ca) NA.out MA.out (LA.out.on (below_on K1.out.old h)) E2.out).mono fun e w'' he => (⟨he.1, HALL.out w'' (below_on h he.2)⟩ : _ ∧ _)
  obtain ⟨p0, p1, p2, p3⟩ := HALL.out w3.drew (below_self w3).drew
  have l0 : ¬ 9223372036854775807 < 6 + s2.size := by omega
  go_wp2_with fail
  go_region_held3 (fun w' => w'.cell? ⟨g, 0, none⟩ = some (.int .i64 11) ∧ w'.cell? ⟨g, 1, none⟩ = some (.slice A na ca) ∧ w'.cell? ⟨g2, 11, none⟩ = some (.string ⟨#[119, 114, 105, 116, 101]⟩) ∧ Below w3.heap.size w3 w')
    (first | exact ⟨by with_reducible assumption, by with_reducible assumption, by with_reducible assumption, by with_reducible assumption⟩ | fail)
    (first
      | (go_at_call 37; ((with_reducible refine (WP.out _ (by with_reducible assumption)).mono ?_); clear p0 p1 p2 p3; rintro e w' ⟨rfl, p0, p1, p2, p3⟩))
      | fail)
  rename_i hHeld
  clear hHeld HALL WP HK2 HLT p0 p1 p2 l0
  replace K1 := Lib.hid (K1.out.on p3)
  clear p3
  obtain ⟨u0, hu0⟩ : ∃ u, u = (⟨#[119, 114, 105, 116, 101]⟩ : ByteArray) ++ ⟨#[32]⟩ ++ s2 := ⟨_, rfl⟩
  have hz0 : u0.size ≤ 40 := by
    rw [hu0, ByteArray.size_append, ByteArray.size_append]
    show 5 + 1 + s2.size ≤ 40
    omega
  rw [← hu0]
  have HU0 := Lib.hid hu0
  clear hu0
  
  have c0 := K1.out.c 0 _ rfl
  have c1 := K1.out.c 1 _ rfl
  have c2 := K1.out.c 2 _ rfl
  have c3 := K1.out.c 3 _ rfl
  have c4 := K1.out.c 4 _ rfl
  have c5 := K1.out.c 5 _ rfl
  have q1 : ¬ 9223372036854775807 < u0.size + 1 := by omega
  have q2 : ¬ 9223372036854775807 < u0.size + 1 + s4.size := by omega
  go_wp2_with fail
  refine (rnum_is HX.out E4.out w').mono ?_
  rintro e wn1 ⟨rfl, hb⟩
  clear c0 c1 c2 c3 c4 c5
  replace K1 := Lib.hid (K1.out.on hb)
  clear hb
  go_upto_region 11 with fail
  obtain ⟨u1, hu1⟩ : ∃ u, u = u0 ++ ⟨#[32]⟩ ++ s4 := ⟨_, rfl⟩
  have hz1 : u1.size ≤ 61 := by
    rw [hu1]
    simp only [ByteArray.size_append]
    show u0.size + 1 + s4.size ≤ 61
    omega
  rw [← hu1]
  have HU1 := Lib.hid hu1
  clear hu1 hz0
  clear q1 q2
  have c0 := K1.out.c 0 _ rfl
  have c1 := K1.out.c 1 _ rfl
  have c2 := K1.out.c 2 _ rfl
  have c3 := K1.out.c 3 _ rfl
  have c4 := K1.out.c 4 _ rfl
  have c5 := K1.out.c 5 _ rfl
  have q1 : ¬ 9223372036854775807 < u1.size + 1 := by omega
  have q2 : ¬ 9223372036854775807 < u1.size + 1 + s6.size := by omega
  go_wp2_with fail
  refine (rdig_is HZ.out E6.out wn1).mono ?_
  rintro e wn2 ⟨rfl, hb⟩
  clear c0 c1 c2 c3 c4 c5
  replace K1 := Lib.hid (K1.out.on hb)
  clear hb
  go_upto_region 15 with fail
  obtain ⟨u2, hu2⟩ : ∃ u, u = u1 ++ ⟨#[32]⟩ ++ s6 := ⟨_, rfl⟩
  have hz2 : u2.size ≤ 82 := by
    rw [hu2]
    simp only [ByteArray.size_append]
    show u1.size + 1 + s6.size ≤ 82
    omega
  rw [← hu2]
  have HU2 := Lib.hid hu2
  clear hu2 hz1
  clear q1 q2
  have c0 := K1.out.c 0 _ rfl
  have c1 := K1.out.c 1 _ rfl
  have c2 := K1.out.c 2 _ rfl
  have c3 := K1.out.c 3 _ rfl
  have c4 := K1.out.c 4 _ rfl
  have c5 := K1.out.c 5 _ rfl
  go_wp2
  go_ret
  refine ⟨?_, K1.out.old⟩
  show Ending.returned (.string u2) = _
  rw [HU2.out, HU1.out, HU0.out]
set_option maxHeartbeats 8000000 in
theorem rctext_12 {a l : List Int} {x y z : Nat} {A B : Option Addr} {na ca nb cb : Nat} {s2 s3 s4 s5 s6 : ByteArray} {w : World} (ha : na = a.length) (hb : nb = l.length) (la : na ≤ 1000000) (lb : nb ≤ 1000000) (hA : IntsAt w w.heap.size A a) (hB : IntsAt w w.heap.size B l) (hg : cgood ⟨12, a, l, x, y, z⟩ = true)
    (hx : x < 65536) (hy : y < 65536) (hz : z < 18446744073709551616) (e2 : (⟨(ptext a).toArray⟩ : ByteArray) = s2) (e3 : (⟨(ptext l).toArray⟩ : ByteArray) = s3) (e4 : dct x = s4) (e5 : dct y = s5) (e6 : dct z = s6) (hsz : s2.size ≤ 20 ∧ s3.size ≤ 20 ∧ s4.size ≤ 20 ∧ s5.size ≤ 20 ∧ s6.size ≤ 20) :
    Calls Tryd.prog 18 #[.agg #[.int .i64 12, .slice A na ca, .slice B nb cb, .int .i64 (x : Int), .int .i64 (y : Int), .int .u64 (z : Int)]] w fun e w' => e = .returned (.string (((⟨#[114, 101, 97, 100]⟩ : ByteArray) ++ ⟨#[32]⟩ ++ s2) ++ ⟨#[32]⟩ ++ s4)) ∧ Below w.heap.size w w' := by
  obtain ⟨z2, z3, z4, z5, z6⟩ := hsz
  have K1 := Lib.hid (Bxs.new w [.int .i64 12, .slice A na ca, .slice B nb cb, .int .i64 (x : Int), .int .i64 (y : Int), .int .u64 (z : Int)] 39)
  have LA := Lib.hid hA
  have LB := Lib.hid hB
  have NA := Lib.hid ha
  have NB := Lib.hid hb
  have MA := Lib.hid la
  have MB := Lib.hid lb
  have HG := Lib.hid hg
  have HX := Lib.hid hx
  have HY := Lib.hid hy
  have HZ := Lib.hid hz
  have E2 := Lib.hid e2
  have E3 := Lib.hid e3
  have E4 := Lib.hid e4
  have E5 := Lib.hid e5
  have E6 := Lib.hid e6
  clear ha hb la lb hA hB hg hx hy hz e2 e3 e4 e5 e6
  go_enter Tryd.func18, Tryd.ntmps18
  go_wp2_with fail
  obtain ⟨g, hg⟩ : ∃ g, g = w.heap.size := ⟨_, rfl⟩
  rw [← hg] at K1 ⊢
  clear hg
  generalize w.alloc _ = w1 at K1 ⊢
  refine (rcgood_at (w := w1) NA.out NB.out MA.out MB.out (LA.out.on K1.out.old) (LB.out.on K1.out.old) HG.out).mono ?_
  rintro e w2 ⟨rfl, hb⟩
  replace K1 := Lib.hid (K1.out.on hb)
  clear hb
  have K2 := Lib.hid (Bxs.more (below_self w2) [.string ⟨#[]⟩, .string ⟨#[109, 97, 107, 101]⟩, .string ⟨#[99, 111, 112, 121]⟩, .string ⟨#[109, 105, 110, 116]⟩, .string ⟨#[109, 111, 118, 101]⟩, .string ⟨#[100, 101, 108, 101, 116, 101]⟩, .string ⟨#[114, 101, 118, 111, 107, 101]⟩, .string ⟨#[115, 101, 110, 100]⟩, .string ⟨#[114, 101, 99, 118]⟩, .string ⟨#[114, 105, 110, 103]⟩, .string ⟨#[112, 111, 108, 108]⟩, .string ⟨#[119, 114, 105, 116, 101]⟩, .string ⟨#[114, 101, 97, 100]⟩, .string ⟨#[116, 101, 108, 108]⟩] 9)
  replace K1 := Lib.hid (K1.out.on K2.out.old)
  go_upto_region 4 with fail
  obtain ⟨g2, hg⟩ : ∃ g, g = w2.heap.size := ⟨_, rfl⟩
  rw [← hg] at K2 ⊢
  clear hg
  generalize w2.alloc _ = w3 at K1 K2 ⊢
  have HK2 := Lib.hid (K2.out.c 12 _ rfl)
  have HLT := Lib.hid K2.out.lt
  clear K2
  have HALL : Hid (∀ w', Below w3.heap.size w3 w' → w'.cell? ⟨g, 0, none⟩ = some (.int .i64 12) ∧ w'.cell? ⟨g, 1, none⟩ = some (.slice A na ca) ∧ w'.cell? ⟨g2, 12, none⟩ = some (.string ⟨#[114, 101, 97, 100]⟩) ∧ Below w3.heap.size w3 w') := Lib.hid fun w' h => ⟨(K1.out.on h).c 0 _ rfl, (K1.out.on h).c 1 _ rfl, (h.cell (p := ⟨g2, 12, none⟩) HLT.out).trans HK2.out, h⟩
  have WP := Lib.hid fun w' (h : Below w3.heap.size w3 w') => (rtext_is (w := w') (cap := ca) NA.out MA.out (LA.out.on (below_on K1.out.old h)) E2.out).mono fun e w'' he => (⟨he.1, HALL.out w'' (below_on h he.2)⟩ : _ ∧ _)
  obtain ⟨p0, p1, p2, p3⟩ := HALL.out w3.drew (below_self w3).drew
  have l0 : ¬ 9223372036854775807 < 5 + s2.size := by omega
  go_wp2_with fail
  go_region_held3 (fun w' => w'.cell? ⟨g, 0, none⟩ = some (.int .i64 12) ∧ w'.cell? ⟨g, 1, none⟩ = some (.slice A na ca) ∧ w'.cell? ⟨g2, 12, none⟩ = some (.string ⟨#[114, 101, 97, 100]⟩) ∧ Below w3.heap.size w3 w')
    (first | exact ⟨by with_reducible assumption, by with_reducible assumption, by with_reducible assumption, by with_reducible assumption⟩ | fail)
    (first
      | (go_at_call 37; ((with_reducible refine (WP.out _ (by with_reducible assumption)).mono ?_); clear p0 p1 p2 p3; rintro e w' ⟨rfl, p0, p1, p2, p3⟩))
      | fail)
  rename_i hHeld
  clear hHeld HALL WP HK2 HLT p0 p1 p2 l0
  replace K1 := Lib.hid (K1.out.on p3)
  clear p3
  obtain ⟨u0, hu0⟩ : ∃ u, u = (⟨#[114, 101, 97, 100]⟩ : ByteArray) ++ ⟨#[32]⟩ ++ s2 := ⟨_, rfl⟩
  have hz0 : u0.size ≤ 40 := by
    rw [hu0, ByteArray.size_append, ByteArray.size_append]
    show 4 + 1 + s2.size ≤ 40
    omega
  rw [← hu0]
  have HU0 := Lib.hid hu0
  clear hu0
  
  have c0 := K1.out.c 0 _ rfl
  have c1 := K1.out.c 1 _ rfl
  have c2 := K1.out.c 2 _ rfl
  have c3 := K1.out.c 3 _ rfl
  have c4 := K1.out.c 4 _ rfl
  have c5 := K1.out.c 5 _ rfl
  have q1 : ¬ 9223372036854775807 < u0.size + 1 := by omega
  have q2 : ¬ 9223372036854775807 < u0.size + 1 + s4.size := by omega
  go_wp2_with fail
  refine (rnum_is HX.out E4.out w').mono ?_
  rintro e wn1 ⟨rfl, hb⟩
  clear c0 c1 c2 c3 c4 c5
  replace K1 := Lib.hid (K1.out.on hb)
  clear hb
  go_upto_region 11 with fail
  obtain ⟨u1, hu1⟩ : ∃ u, u = u0 ++ ⟨#[32]⟩ ++ s4 := ⟨_, rfl⟩
  have hz1 : u1.size ≤ 61 := by
    rw [hu1]
    simp only [ByteArray.size_append]
    show u0.size + 1 + s4.size ≤ 61
    omega
  rw [← hu1]
  have HU1 := Lib.hid hu1
  clear hu1 hz0
  clear q1 q2
  have c0 := K1.out.c 0 _ rfl
  have c1 := K1.out.c 1 _ rfl
  have c2 := K1.out.c 2 _ rfl
  have c3 := K1.out.c 3 _ rfl
  have c4 := K1.out.c 4 _ rfl
  have c5 := K1.out.c 5 _ rfl
  go_wp2
  go_ret
  refine ⟨?_, K1.out.old⟩
  show Ending.returned (.string u1) = _
  rw [HU1.out, HU0.out]
set_option maxHeartbeats 8000000 in
theorem rctext_13 {a l : List Int} {x y z : Nat} {A B : Option Addr} {na ca nb cb : Nat} {s2 s3 s4 s5 s6 : ByteArray} {w : World} (ha : na = a.length) (hb : nb = l.length) (la : na ≤ 1000000) (lb : nb ≤ 1000000) (hA : IntsAt w w.heap.size A a) (hB : IntsAt w w.heap.size B l) (hg : cgood ⟨13, a, l, x, y, z⟩ = true)
    (hx : x < 65536) (hy : y < 65536) (hz : z < 18446744073709551616) (e2 : (⟨(ptext a).toArray⟩ : ByteArray) = s2) (e3 : (⟨(ptext l).toArray⟩ : ByteArray) = s3) (e4 : dct x = s4) (e5 : dct y = s5) (e6 : dct z = s6) (hsz : s2.size ≤ 20 ∧ s3.size ≤ 20 ∧ s4.size ≤ 20 ∧ s5.size ≤ 20 ∧ s6.size ≤ 20) :
    Calls Tryd.prog 18 #[.agg #[.int .i64 13, .slice A na ca, .slice B nb cb, .int .i64 (x : Int), .int .i64 (y : Int), .int .u64 (z : Int)]] w fun e w' => e = .returned (.string ((⟨#[116, 101, 108, 108]⟩ : ByteArray) ++ ⟨#[32]⟩ ++ s2)) ∧ Below w.heap.size w w' := by
  obtain ⟨z2, z3, z4, z5, z6⟩ := hsz
  have K1 := Lib.hid (Bxs.new w [.int .i64 13, .slice A na ca, .slice B nb cb, .int .i64 (x : Int), .int .i64 (y : Int), .int .u64 (z : Int)] 39)
  have LA := Lib.hid hA
  have LB := Lib.hid hB
  have NA := Lib.hid ha
  have NB := Lib.hid hb
  have MA := Lib.hid la
  have MB := Lib.hid lb
  have HG := Lib.hid hg
  have HX := Lib.hid hx
  have HY := Lib.hid hy
  have HZ := Lib.hid hz
  have E2 := Lib.hid e2
  have E3 := Lib.hid e3
  have E4 := Lib.hid e4
  have E5 := Lib.hid e5
  have E6 := Lib.hid e6
  clear ha hb la lb hA hB hg hx hy hz e2 e3 e4 e5 e6
  go_enter Tryd.func18, Tryd.ntmps18
  go_wp2_with fail
  obtain ⟨g, hg⟩ : ∃ g, g = w.heap.size := ⟨_, rfl⟩
  rw [← hg] at K1 ⊢
  clear hg
  generalize w.alloc _ = w1 at K1 ⊢
  refine (rcgood_at (w := w1) NA.out NB.out MA.out MB.out (LA.out.on K1.out.old) (LB.out.on K1.out.old) HG.out).mono ?_
  rintro e w2 ⟨rfl, hb⟩
  replace K1 := Lib.hid (K1.out.on hb)
  clear hb
  have K2 := Lib.hid (Bxs.more (below_self w2) [.string ⟨#[]⟩, .string ⟨#[109, 97, 107, 101]⟩, .string ⟨#[99, 111, 112, 121]⟩, .string ⟨#[109, 105, 110, 116]⟩, .string ⟨#[109, 111, 118, 101]⟩, .string ⟨#[100, 101, 108, 101, 116, 101]⟩, .string ⟨#[114, 101, 118, 111, 107, 101]⟩, .string ⟨#[115, 101, 110, 100]⟩, .string ⟨#[114, 101, 99, 118]⟩, .string ⟨#[114, 105, 110, 103]⟩, .string ⟨#[112, 111, 108, 108]⟩, .string ⟨#[119, 114, 105, 116, 101]⟩, .string ⟨#[114, 101, 97, 100]⟩, .string ⟨#[116, 101, 108, 108]⟩] 9)
  replace K1 := Lib.hid (K1.out.on K2.out.old)
  go_upto_region 4 with fail
  obtain ⟨g2, hg⟩ : ∃ g, g = w2.heap.size := ⟨_, rfl⟩
  rw [← hg] at K2 ⊢
  clear hg
  generalize w2.alloc _ = w3 at K1 K2 ⊢
  have HK2 := Lib.hid (K2.out.c 13 _ rfl)
  have HLT := Lib.hid K2.out.lt
  clear K2
  have HALL : Hid (∀ w', Below w3.heap.size w3 w' → w'.cell? ⟨g, 0, none⟩ = some (.int .i64 13) ∧ w'.cell? ⟨g, 1, none⟩ = some (.slice A na ca) ∧ w'.cell? ⟨g2, 13, none⟩ = some (.string ⟨#[116, 101, 108, 108]⟩) ∧ Below w3.heap.size w3 w') := Lib.hid fun w' h => ⟨(K1.out.on h).c 0 _ rfl, (K1.out.on h).c 1 _ rfl, (h.cell (p := ⟨g2, 13, none⟩) HLT.out).trans HK2.out, h⟩
  have WP := Lib.hid fun w' (h : Below w3.heap.size w3 w') => (rtext_is (w := w') (cap := ca) NA.out MA.out (LA.out.on (below_on K1.out.old h)) E2.out).mono fun e w'' he => (⟨he.1, HALL.out w'' (below_on h he.2)⟩ : _ ∧ _)
  obtain ⟨p0, p1, p2, p3⟩ := HALL.out w3.drew (below_self w3).drew
  have l0 : ¬ 9223372036854775807 < 5 + s2.size := by omega
  go_wp2_with fail
  go_region_held3 (fun w' => w'.cell? ⟨g, 0, none⟩ = some (.int .i64 13) ∧ w'.cell? ⟨g, 1, none⟩ = some (.slice A na ca) ∧ w'.cell? ⟨g2, 13, none⟩ = some (.string ⟨#[116, 101, 108, 108]⟩) ∧ Below w3.heap.size w3 w')
    (first | exact ⟨by with_reducible assumption, by with_reducible assumption, by with_reducible assumption, by with_reducible assumption⟩ | fail)
    (first
      | (go_at_call 37; ((with_reducible refine (WP.out _ (by with_reducible assumption)).mono ?_); clear p0 p1 p2 p3; rintro e w' ⟨rfl, p0, p1, p2, p3⟩))
      | fail)
  rename_i hHeld
  clear hHeld HALL WP HK2 HLT p0 p1 p2 l0
  replace K1 := Lib.hid (K1.out.on p3)
  clear p3
  obtain ⟨u0, hu0⟩ : ∃ u, u = (⟨#[116, 101, 108, 108]⟩ : ByteArray) ++ ⟨#[32]⟩ ++ s2 := ⟨_, rfl⟩
  have hz0 : u0.size ≤ 40 := by
    rw [hu0, ByteArray.size_append, ByteArray.size_append]
    show 4 + 1 + s2.size ≤ 40
    omega
  rw [← hu0]
  have HU0 := Lib.hid hu0
  clear hu0
  
  have c0 := K1.out.c 0 _ rfl
  have c1 := K1.out.c 1 _ rfl
  have c2 := K1.out.c 2 _ rfl
  have c3 := K1.out.c 3 _ rfl
  have c4 := K1.out.c 4 _ rfl
  have c5 := K1.out.c 5 _ rfl
  go_wp2
  go_ret
  refine ⟨?_, K1.out.old⟩
  show Ending.returned (.string u0) = _
  rw [HU0.out]
end Go.Proofs.YtfcifheejjppfaaDoor
