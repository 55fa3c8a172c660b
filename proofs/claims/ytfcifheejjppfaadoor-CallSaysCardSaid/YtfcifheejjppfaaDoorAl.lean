/-
  The law CallBack. Conditions: the ways and the words lie in memory; the words are some; the library's table of tens is there.
-/
import Derived.Test.YtfcifheejjppfaaDoorAk
namespace Go.Proofs.YtfcifheejjppfaaDoor
open Go.RowKit

theorem words_eq {v1 v2 : Value} {l m : List Nat} {w : World} {r : Bool} (h1 : Words w v1 (l.map fun (n : Nat) => (n : Int))) (h2 : Words w v2 (m.map fun (n : Nat) => (n : Int))) (hl : l.length ≤ 1000000) (hr : decide (l = m) = r) :
    Calls Tryd.prog 13 #[v1, v2] w fun e w' => e = .returned (.bool r) ∧ Below w.heap.size w w' := by
  refine words_at h1 h2 (by simpa using hl) ?_
  rw [← hr]
  by_cases h : l = m
  · rw [decide_eq_true h, h]; simp
  · rw [decide_eq_false h, decide_eq_false fun e => h (cast_inj e)]
theorem cget_some_len {l : List Nat} {c : Cl} (h : cget l = some c) : cwords c = l := (cget_some h).2
theorem cwords_len (c : Cl) : (cwords c).length ≤ 1000000 := by
  unfold cwords
  split <;> simp
theorem pgood_few {l : List Int} (h : pgood l = true) : l.length ≤ 1000000 := by have := pgood_len h; omega
theorem cgood_few {c : Cl} (h : cgood c = true) : c.a.length ≤ 1000000 ∧ c.b.length ≤ 1000000 ∧ c.a.length ≤ 3 ∧ c.b.length ≤ 3 := by
  obtain ⟨k, -, h1, h2, -, ha, hf⟩ := cgood_some h
  have F := fits_fit hf
  have hl := forms_le k (by omega)
  have := pgood_len ha
  have := F.b
  omega
theorem cwords_lt {c : Cl} (h : c.w < 18446744073709551616) : ∀ n ∈ cwords c, n < 18446744073709551616 := by
  cases hg : cgood c
  · simp [cwords, hg]
  · obtain ⟨k, hk, h1, h2, -, ha, hf⟩ := cgood_some hg
    have F := fits_fit hf
    have hl := forms_le k (by omega)
    have hx := F.x
    have hy := F.y
    have e : cwords c = [c.op.toNat + 256 * c.x.toNat + 16777216 * c.y.toNat, pword c.a, bword c.b, c.w] := if_pos hg
    rw [e]
    intro n hn
    simp only [List.mem_cons, List.not_mem_nil, or_false] at hn
    have hpa := pword_lt ha
    rcases hn with rfl | rfl | rfl | rfl
    · omega
    · omega
    · unfold bword
      split
      · have := pword_lt (by assumption); omega
      · omega
    · exact h
theorem zero_few (l : List Nat) : ((cget l).getD Cl.zero).a.length ≤ 1000000 ∧ ((cget l).getD Cl.zero).b.length ≤ 1000000 := by
  cases h : cget l with
  | none => simp [Cl.zero]
  | some c =>
    have := cgood_few (cget_some h).1
    exact ⟨this.1, this.2.1⟩
set_option maxHeartbeats 8000000 in
theorem back_walk {o x y : Int} {a b : List Int} {z : Nat} {A B : Option Addr} {na ca nb cb : Nat} {D : Option Addr} {n cd : Nat} {l : List Nat} {w : World} (hT : Tab w) (ha : na = a.length) (hb : nb = b.length) (hn : n = l.length) (hA : IntsAt w w.heap.size A a) (hB : IntsAt w w.heap.size B b) (hz : z < 18446744073709551616)
    (hD : Words w (.slice D n cd) (l.map fun (n : Nat) => (n : Int))) (hl : ∀ n ∈ l, n < 18446744073709551616) :
    Calls Tryd.prog 5 #[.agg #[.int .i64 o, .slice A na ca, .slice B nb cb, .int .i64 x, .int .i64 y, .int .u64 (z : Int)], .slice D n cd] w fun e w' => e = .returned (.bool true) ∧ Below w.heap.size w w' := by
  have K1 := Lib.hid (Bxs.new w [.int .i64 o, .slice A na ca, .slice B nb cb, .int .i64 x, .int .i64 y, .int .u64 (z : Int)] 29)
  have HT := Lib.hid (hT.on K1.out.old)
  have HC := Lib.hid (ClAt.on (c := ⟨o, a, b, x, y, z⟩) ⟨A, ca, B, cb, by rw [← ha, ← hb], hA, hB⟩ K1.out.old)
  have HD := Lib.hid (hD.below K1.out.old)
  have HL := Lib.hid hl
  have HZ := Lib.hid hz
  have NA := Lib.hid ha
  have NB := Lib.hid hb
  have NL := Lib.hid hn
  clear hT ha hb hn hA hB hz hD hl
  go_enter Tryd.func5, Tryd.ntmps5
  go_wp2_with fail
  obtain ⟨g, hg⟩ : ∃ g, g = w.heap.size := ⟨_, rfl⟩
  rw [← hg] at K1 ⊢
  have HG := Lib.hid hg
  clear hg
  generalize w.alloc _ = w1 at K1 HT HC HD ⊢
  refine (awake_any HT.out).mono ?_
  rintro e w2 ⟨rfl, hb⟩
  replace K1 := Lib.hid (K1.out.on hb)
  replace HT := Lib.hid (HT.out.on hb)
  replace HC := Lib.hid (HC.out.on hb)
  replace HD := Lib.hid (HD.out.below hb)
  clear hb
  have c0 := K1.out.c 0 _ rfl
  have c1 := K1.out.c 1 _ rfl
  have c2 := K1.out.c 2 _ rfl
  have c3 := K1.out.c 3 _ rfl
  have c4 := K1.out.c 4 _ rfl
  have c5 := K1.out.c 5 _ rfl
  by_cases h1 : 20 < na
  · have h1' : (20 : Int) < (na : Int) := by omega
    go_wp2
    go_ret
    exact ⟨rfl, K1.out.old⟩
  by_cases h2 : 20 < nb
  · have h2' : (20 : Int) < (nb : Int) := by omega
    go_wp2
    go_ret
    exact ⟨rfl, K1.out.old⟩
  by_cases h3 : 20 < n
  · have h3' : (20 : Int) < (n : Int) := by omega
    go_wp2
    go_ret
    exact ⟨rfl, K1.out.old⟩
  have FA : Hid (a.length ≤ 1000000 ∧ b.length ≤ 1000000) := Lib.hid (by have := NA.out; have := NB.out; omega)
  obtain ⟨gd, hgd⟩ : ∃ gd, cgood ⟨o, a, b, x, y, z⟩ = gd := ⟨_, rfl⟩
  have GD := Lib.hid hgd
  clear hgd
  go_wp2_with fail
  clear h1 h2 h3
  refine (good_at HC.out GD.out).mono ?_
  rintro e w3 ⟨rfl, hb⟩
  clear c0 c1 c2 c3 c4 c5
  replace K1 := Lib.hid (K1.out.on hb)
  replace HT := Lib.hid (HT.out.on hb)
  replace HC := Lib.hid (HC.out.on hb)
  replace HD := Lib.hid (HD.out.below hb)
  clear hb
  cases gd
  case false =>
    go_wp2_with fail
    refine (cget_any HD.out HL.out).mono ?_
    rintro e w4 ⟨⟨v2, rfl, hx⟩, hb⟩
    replace K1 := Lib.hid (K1.out.on hb)
    replace HT := Lib.hid (HT.out.on hb)
    replace HD := Lib.hid (HD.out.below hb)
    clear hb
    obtain ⟨c2, hc2⟩ : ∃ c2, c2 = (cget l).getD Cl.zero := ⟨_, rfl⟩
    have HF2 := Lib.hid (zero_few l)
    rw [← hc2] at hx HF2
    have HC2 := Lib.hid hc2
    clear hc2
    obtain ⟨A2, ca2, B2, cb2, rfl, hx1, hx2⟩ := hx
    have HX := Lib.hid (show ClAt w4 _ c2 from ⟨A2, ca2, B2, cb2, rfl, hx1, hx2⟩)
    clear hx1 hx2
    obtain ⟨o2, a2, b2, x2, y2, z2⟩ := c2
    dsimp only at HX ⊢
    generalize a2.length = na2 at HX ⊢
    generalize b2.length = nb2 at HX ⊢
    have hba := below_alloc w4 (.cells #[.int .i64 o2, .slice A2 na2 ca2, .slice B2 nb2 cb2, .int .i64 x2, .int .i64 y2, .int .u64 (z2 : Int)] 29)
    have K3 := Lib.hid (Bxs.new w4 [.int .i64 o2, .slice A2 na2 ca2, .slice B2 nb2 cb2, .int .i64 x2, .int .i64 y2, .int .u64 (z2 : Int)] 29)
    have hb := hba
    clear hba
    replace K1 := Lib.hid (K1.out.on hb)
    replace HT := Lib.hid (HT.out.on hb)
    replace HD := Lib.hid (HD.out.below hb)
    replace HX := Lib.hid (HX.out.on hb)
    clear hb
    go_upto_region 10 with fail
    obtain ⟨g3, hg⟩ : ∃ g3, g3 = w4.heap.size := ⟨_, rfl⟩
    have HG3 := Lib.hid hg
    rw [← hg] at K3 ⊢
    clear hg
    generalize w4.alloc _ = y0 at K1 HT HD HX K3 ⊢
    have q0 := K3.out.c 0 _ rfl
    have q1 := K3.out.c 1 _ rfl
    have q2 := K3.out.c 2 _ rfl
    have q3 := K3.out.c 3 _ rfl
    have q4 := K3.out.c 4 _ rfl
    have q5 := K3.out.c 5 _ rfl
    cases hcg : cget l with
    | none =>
      have HEQ : Hid (Cl.eq ⟨o2, a2, b2, x2, y2, z2⟩ Cl.zero = true) := Lib.hid (by rw [HC2.out, hcg]; exact Cl.eq_iff.2 rfl)
      dsimp only [Option.isSome_none]
      clear hcg
      go_wp2_with fail
      refine (callof_at HX.out).mono ?_
      rintro e y1 ⟨rfl, hb⟩
      replace K1 := Lib.hid (K1.out.on hb)
      replace HX := Lib.hid (HX.out.on hb)
      clear hb
      go_wp2_with fail
      refine (same_at HX.out (ClAt.zero y1) HF2.out.1 HF2.out.2 HEQ.out).mono ?_
      rintro e y2' ⟨rfl, hb⟩
      replace K1 := Lib.hid (K1.out.on hb)
      clear hb
      go_wp2
      go_ret
      exact ⟨rfl, K1.out.old⟩
    | some c4 =>
      obtain ⟨h1, h2⟩ := cget_some hcg
      rw [hcg] at HC2
      obtain rfl := HC2.out
      have HGD := Lib.hid h1
      have HWD := Lib.hid h2
      dsimp only [Option.isSome_some]
      clear hcg h1 h2 HC2
      go_wp2_with fail
      refine (good_at HX.out HGD.out).mono ?_
      rintro e y1 ⟨rfl, hb⟩
      clear q0 q1 q2 q3 q4 q5
      replace K1 := Lib.hid (K1.out.on hb)
      replace K3 := Lib.hid (K3.out.on hb)
      replace HX := Lib.hid (HX.out.on hb)
      replace HD := Lib.hid (HD.out.below hb)
      clear hb
      have q0 := K3.out.c 0 _ rfl
      have q1 := K3.out.c 1 _ rfl
      have q2 := K3.out.c 2 _ rfl
      have q3 := K3.out.c 3 _ rfl
      have q4 := K3.out.c 4 _ rfl
      have q5 := K3.out.c 5 _ rfl
      go_wp2_with fail
      refine (words_of HX.out HWD.out).mono ?_
      rintro e y2' ⟨⟨v5, rfl, hv⟩, hb⟩
      have HV5 := Lib.hid hv
      replace K1 := Lib.hid (K1.out.on hb)
      replace HD := Lib.hid (HD.out.below hb)
      clear hb hv
      go_wp2_with fail
      refine (words_eq HV5.out HD.out (by rw [← HWD.out]; exact cwords_len _) (decide_eq_true rfl)).mono ?_
      rintro e y3 ⟨rfl, hb⟩
      replace K1 := Lib.hid (K1.out.on hb)
      clear hb
      go_wp2
      go_ret
      exact ⟨rfl, K1.out.old⟩
  case true =>
    have c0 := K1.out.c 0 _ rfl
    have c1 := K1.out.c 1 _ rfl
    have c2 := K1.out.c 2 _ rfl
    have c3 := K1.out.c 3 _ rfl
    have c4 := K1.out.c 4 _ rfl
    have c5 := K1.out.c 5 _ rfl
    obtain ⟨q, hq⟩ : ∃ q, cwords ⟨o, a, b, x, y, z⟩ = q := ⟨_, rfl⟩
    have HQ := Lib.hid hq
    have HQG := Lib.hid (show cget q = some ⟨o, a, b, x, y, z⟩ from hq ▸ cget_cwords GD.out)
    have HQL := Lib.hid (show ∀ n ∈ q, n < 18446744073709551616 from hq ▸ cwords_lt (c := ⟨o, a, b, x, y, z⟩) HZ.out)
    clear hq
    go_wp2_with fail
    refine (words_of HC.out HQ.out).mono ?_
    rintro e w4 ⟨⟨vq, rfl, hv⟩, hb⟩
    have HV := Lib.hid hv
    clear hv c0 c1 c2 c3 c4 c5
    replace K1 := Lib.hid (K1.out.on hb)
    replace HT := Lib.hid (HT.out.on hb)
    replace HC := Lib.hid (HC.out.on hb)
    replace HD := Lib.hid (HD.out.below hb)
    clear hb
    go_wp2_with fail
    refine (cget_any HV.out HQL.out).mono ?_
    rintro e w5 ⟨⟨v6, rfl, hx⟩, hb⟩
    replace K1 := Lib.hid (K1.out.on hb)
    replace HT := Lib.hid (HT.out.on hb)
    replace HC := Lib.hid (HC.out.on hb)
    replace HD := Lib.hid (HD.out.below hb)
    clear hb
    rw [HQG.out] at hx ⊢
    dsimp only [Option.getD_some, Option.isSome_some] at hx ⊢
    obtain ⟨A6, ca6, B6, cb6, rfl, hx1, hx2⟩ := hx
    dsimp only at hx1 hx2 ⊢
    rw [← NA.out, ← NB.out]
    have HX := Lib.hid (show ClAt w5 (.agg #[.int .i64 o, .slice A6 na ca6, .slice B6 nb cb6, .int .i64 x, .int .i64 y, .int .u64 (z : Int)]) ⟨o, a, b, x, y, z⟩ from ⟨A6, ca6, B6, cb6, by rw [← NA.out, ← NB.out], hx1, hx2⟩)
    clear hx1 hx2
    have hb := below_alloc w5 (.cells #[.int .i64 o, .slice A6 na ca6, .slice B6 nb cb6, .int .i64 x, .int .i64 y, .int .u64 (z : Int)] 29)
    have K2 := Lib.hid (Bxs.new w5 [.int .i64 o, .slice A6 na ca6, .slice B6 nb cb6, .int .i64 x, .int .i64 y, .int .u64 (z : Int)] 29)
    replace K1 := Lib.hid (K1.out.on hb)
    replace HT := Lib.hid (HT.out.on hb)
    replace HC := Lib.hid (HC.out.on hb)
    replace HD := Lib.hid (HD.out.below hb)
    replace HX := Lib.hid (HX.out.on hb)
    clear hb
    go_upto_region 7 with fail
    obtain ⟨g2, hg⟩ : ∃ g2, g2 = w5.heap.size := ⟨_, rfl⟩
    rw [← hg] at K2 ⊢
    clear hg
    generalize w5.alloc _ = w6 at K1 HT HC HD HX K2 ⊢
    have HALL : Hid (∀ w', Below w6.heap.size w6 w' → w'.cell? ⟨g, 0, none⟩ = some (.int .i64 o) ∧ w'.cell? ⟨g, 1, none⟩ = some (.slice A na ca) ∧ w'.cell? ⟨g, 2, none⟩ = some (.slice B nb cb) ∧ w'.cell? ⟨g, 3, none⟩ = some (.int .i64 x) ∧ w'.cell? ⟨g, 4, none⟩ = some (.int .i64 y) ∧ w'.cell? ⟨g, 5, none⟩ = some (.int .u64 (z : Int)) ∧ w'.cell? ⟨g2, 0, none⟩ = some (.int .i64 o) ∧ w'.cell? ⟨g2, 1, none⟩ = some (.slice A6 na ca6) ∧ w'.cell? ⟨g2, 2, none⟩ = some (.slice B6 nb cb6) ∧ w'.cell? ⟨g2, 3, none⟩ = some (.int .i64 x) ∧ w'.cell? ⟨g2, 4, none⟩ = some (.int .i64 y) ∧ w'.cell? ⟨g2, 5, none⟩ = some (.int .u64 (z : Int)) ∧ Below w6.heap.size w6 w') := Lib.hid fun w' h => by
      have a := (K1.out.on h).c
      have b := (K2.out.on h).c
      exact ⟨a 0 _ rfl, a 1 _ rfl, a 2 _ rfl, a 3 _ rfl, a 4 _ rfl, a 5 _ rfl, b 0 _ rfl, b 1 _ rfl, b 2 _ rfl, b 3 _ rfl, b 4 _ rfl, b 5 _ rfl, h⟩
    have WC := Lib.hid fun w' (h : Below w6.heap.size w6 w') => (callof_at (HC.out.on h)).mono fun e w'' he => (⟨he.1, HALL.out w'' (below_on h he.2)⟩ : _ ∧ _)
    have WX := Lib.hid fun w' (h : Below w6.heap.size w6 w') => (callof_at (HX.out.on h)).mono fun e w'' he => (⟨he.1, HALL.out w'' (below_on h he.2)⟩ : _ ∧ _)
    have WS := Lib.hid fun w' (h : Below w6.heap.size w6 w') => (same_at (HX.out.on h) (HC.out.on h) FA.out.1 FA.out.2 (Cl.eq_iff.2 rfl)).mono fun e w'' he => (⟨he.1, HALL.out w'' (below_on h he.2)⟩ : _ ∧ _)
    obtain ⟨p0, p1, p2, p3, p4, p5, p6, p7, p8, p9, p10, p11, p12⟩ := HALL.out w6.drew (below_self w6).drew
    have HSV := Lib.hid (And.intro K1.out (And.intro HT.out HD.out))
    go_wp2_with fail
    go_region_held3 (fun w' => w'.cell? ⟨g, 0, none⟩ = some (.int .i64 o) ∧ w'.cell? ⟨g, 1, none⟩ = some (.slice A na ca) ∧ w'.cell? ⟨g, 2, none⟩ = some (.slice B nb cb) ∧ w'.cell? ⟨g, 3, none⟩ = some (.int .i64 x) ∧ w'.cell? ⟨g, 4, none⟩ = some (.int .i64 y) ∧ w'.cell? ⟨g, 5, none⟩ = some (.int .u64 (z : Int)) ∧ w'.cell? ⟨g2, 0, none⟩ = some (.int .i64 o) ∧ w'.cell? ⟨g2, 1, none⟩ = some (.slice A6 na ca6) ∧ w'.cell? ⟨g2, 2, none⟩ = some (.slice B6 nb cb6) ∧ w'.cell? ⟨g2, 3, none⟩ = some (.int .i64 x) ∧ w'.cell? ⟨g2, 4, none⟩ = some (.int .i64 y) ∧ w'.cell? ⟨g2, 5, none⟩ = some (.int .u64 (z : Int)) ∧ Below w6.heap.size w6 w')
      (first | exact ⟨by with_reducible assumption, by with_reducible assumption, by with_reducible assumption, by with_reducible assumption, by with_reducible assumption, by with_reducible assumption, by with_reducible assumption, by with_reducible assumption, by with_reducible assumption, by with_reducible assumption, by with_reducible assumption, by with_reducible assumption, by with_reducible assumption⟩ | fail)
      (first
        | (go_at_call 14; ((with_reducible refine (WX.out _ (by with_reducible assumption)).mono ?_); clear p0 p1 p2 p3 p4 p5 p6 p7 p8 p9 p10 p11 p12; rintro e w' ⟨rfl, p0, p1, p2, p3, p4, p5, p6, p7, p8, p9, p10, p11, p12⟩))
        | (go_at_call 14; ((with_reducible refine (WC.out _ (by with_reducible assumption)).mono ?_); clear p0 p1 p2 p3 p4 p5 p6 p7 p8 p9 p10 p11 p12; rintro e w' ⟨rfl, p0, p1, p2, p3, p4, p5, p6, p7, p8, p9, p10, p11, p12⟩))
        | (go_at_call 19; ((with_reducible refine (WS.out _ (by with_reducible assumption)).mono ?_); clear p0 p1 p2 p3 p4 p5 p6 p7 p8 p9 p10 p11 p12; rintro e w' ⟨rfl, p0, p1, p2, p3, p4, p5, p6, p7, p8, p9, p10, p11, p12⟩))
        | fail)
    rename_i hHeld
    clear hHeld HC HX K2 HALL WC WX WS HV
    replace K1 := Lib.hid (HSV.out.1.on p12)
    replace HT := Lib.hid (HSV.out.2.1.on p12)
    replace HD := Lib.hid (HSV.out.2.2.below p12)
    clear HSV p0 p1 p2 p3 p4 p5 p6 p7 p8 p9 p10 p11 p12
    go_wp2_with fail
    refine (cget_any HD.out HL.out).mono ?_
    rintro e w5 ⟨⟨v2, rfl, hx⟩, hb⟩
    replace K1 := Lib.hid (K1.out.on hb)
    replace HT := Lib.hid (HT.out.on hb)
    replace HD := Lib.hid (HD.out.below hb)
    clear hb
    obtain ⟨c2, hc2⟩ : ∃ c2, c2 = (cget l).getD Cl.zero := ⟨_, rfl⟩
    have HF2 := Lib.hid (zero_few l)
    rw [← hc2] at hx HF2
    have HC2 := Lib.hid hc2
    clear hc2
    obtain ⟨A2, ca2, B2, cb2, rfl, hx1, hx2⟩ := hx
    have HX := Lib.hid (show ClAt w5 _ c2 from ⟨A2, ca2, B2, cb2, rfl, hx1, hx2⟩)
    clear hx1 hx2
    obtain ⟨o2, a2, b2, x2, y2, z2⟩ := c2
    dsimp only at HX ⊢
    generalize a2.length = na2 at HX ⊢
    generalize b2.length = nb2 at HX ⊢
    have hba := below_alloc w5 (.cells #[.int .i64 o2, .slice A2 na2 ca2, .slice B2 nb2 cb2, .int .i64 x2, .int .i64 y2, .int .u64 (z2 : Int)] 29)
    have K3 := Lib.hid (Bxs.new w5 [.int .i64 o2, .slice A2 na2 ca2, .slice B2 nb2 cb2, .int .i64 x2, .int .i64 y2, .int .u64 (z2 : Int)] 29)
    have hb := hba
    clear hba
    replace K1 := Lib.hid (K1.out.on hb)
    replace HT := Lib.hid (HT.out.on hb)
    replace HD := Lib.hid (HD.out.below hb)
    replace HX := Lib.hid (HX.out.on hb)
    clear hb
    go_upto_region 10 with fail
    obtain ⟨g3, hg⟩ : ∃ g3, g3 = w5.heap.size := ⟨_, rfl⟩
    have HG3 := Lib.hid hg
    rw [← hg] at K3 ⊢
    clear hg
    generalize w5.alloc _ = y0 at K1 HT HD HX K3 ⊢
    have q0 := K3.out.c 0 _ rfl
    have q1 := K3.out.c 1 _ rfl
    have q2 := K3.out.c 2 _ rfl
    have q3 := K3.out.c 3 _ rfl
    have q4 := K3.out.c 4 _ rfl
    have q5 := K3.out.c 5 _ rfl
    cases hcg : cget l with
    | none =>
      have HEQ : Hid (Cl.eq ⟨o2, a2, b2, x2, y2, z2⟩ Cl.zero = true) := Lib.hid (by rw [HC2.out, hcg]; exact Cl.eq_iff.2 rfl)
      dsimp only [Option.isSome_none]
      clear hcg
      go_wp2_with fail
      refine (callof_at HX.out).mono ?_
      rintro e y1 ⟨rfl, hb⟩
      replace K1 := Lib.hid (K1.out.on hb)
      replace HX := Lib.hid (HX.out.on hb)
      clear hb
      go_wp2_with fail
      refine (same_at HX.out (ClAt.zero y1) HF2.out.1 HF2.out.2 HEQ.out).mono ?_
      rintro e y2' ⟨rfl, hb⟩
      replace K1 := Lib.hid (K1.out.on hb)
      clear hb
      go_wp2
      go_ret
      exact ⟨rfl, K1.out.old⟩
    | some c4 =>
      obtain ⟨h1, h2⟩ := cget_some hcg
      rw [hcg] at HC2
      obtain rfl := HC2.out
      have HGD := Lib.hid h1
      have HWD := Lib.hid h2
      dsimp only [Option.isSome_some]
      clear hcg h1 h2 HC2
      go_wp2_with fail
      refine (good_at HX.out HGD.out).mono ?_
      rintro e y1 ⟨rfl, hb⟩
      clear q0 q1 q2 q3 q4 q5
      replace K1 := Lib.hid (K1.out.on hb)
      replace K3 := Lib.hid (K3.out.on hb)
      replace HX := Lib.hid (HX.out.on hb)
      replace HD := Lib.hid (HD.out.below hb)
      clear hb
      have q0 := K3.out.c 0 _ rfl
      have q1 := K3.out.c 1 _ rfl
      have q2 := K3.out.c 2 _ rfl
      have q3 := K3.out.c 3 _ rfl
      have q4 := K3.out.c 4 _ rfl
      have q5 := K3.out.c 5 _ rfl
      go_wp2_with fail
      refine (words_of HX.out HWD.out).mono ?_
      rintro e y2' ⟨⟨v5, rfl, hv⟩, hb⟩
      have HV5 := Lib.hid hv
      replace K1 := Lib.hid (K1.out.on hb)
      replace HD := Lib.hid (HD.out.below hb)
      clear hb hv
      go_wp2_with fail
      refine (words_eq HV5.out HD.out (by rw [← HWD.out]; exact cwords_len _) (decide_eq_true rfl)).mono ?_
      rintro e y3 ⟨rfl, hb⟩
      replace K1 := Lib.hid (K1.out.on hb)
      clear hb
      go_wp2
      go_ret
      exact ⟨rfl, K1.out.old⟩
end Go.Proofs.YtfcifheejjppfaaDoor
