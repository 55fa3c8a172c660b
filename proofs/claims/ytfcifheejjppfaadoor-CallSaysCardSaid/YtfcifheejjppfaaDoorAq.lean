/-
  The walk of the reference's GoodCall. Conditions: the ways lie in memory, of at most a million steps.
-/
import Derived.Test.YtfcifheejjppfaaDoorAp
namespace Go.Proofs.YtfcifheejjppfaaDoor
open Go.RowKit

theorem within_is (x : Int) (l m : Nat) (w : World) : Calls Tryd.prog 34 #[.int .i64 x, .int .i64 (l : Int), .int .i64 (m : Int)] w fun e w' => e = .returned (.bool (inSpan l m x)) ∧ Below w.heap.size w w' := by
  unfold inSpan
  by_cases h : (l : Int) ≤ x
  · rw [decide_eq_true h]
    go_enter Tryd.func34, Tryd.ntmps34
    go_wp2
    go_ret
    exact ⟨by simp, below_self w⟩
  · rw [decide_eq_false h]
    go_enter Tryd.func34, Tryd.ntmps34
    go_wp2
    go_ret
    exact ⟨rfl, below_self w⟩
theorem within_at {x l m : Int} (a b : Nat) (ha : l = a) (hb : m = b) {r : Bool} (h : inSpan a b x = r) (w : World) : Calls Tryd.prog 34 #[.int .i64 x, .int .i64 l, .int .i64 m] w fun e w' => e = .returned (.bool r) ∧ Below w.heap.size w w' := by
  subst ha hb h
  exact within_is x a b w
theorem optional_is {A : Option Addr} {n cap : Nat} {l : List Int} {r : Bool} {w : World} (hn : n = l.length) (hl : n ≤ 1000000) (hL : IntsAt w w.heap.size A l) (hr : (decide (n = 0) || pgood l) = r) :
    Calls Tryd.prog 35 #[.slice A n cap] w fun e w' => e = .returned (.bool r) ∧ Below w.heap.size w w' := by
  have HN := Lib.hid hn
  have HL := Lib.hid hL
  have HR := Lib.hid hr
  by_cases h0 : n = 0
  · have h1 : (n : Int) = 0 := by omega
    have hr2 : r = true := by rw [← hr, decide_eq_true h0]; rfl
    have HR2 := Lib.hid hr2
    clear hn hl hL hr hr2
    go_enter Tryd.func35, Tryd.ntmps35
    go_wp2
    go_ret
    exact ⟨by rw [HR2.out]; rfl, below_self w⟩
  · have h1 : ¬ (n : Int) = 0 := by omega
    have hr2 : pgood l = r := by rw [← hr, decide_eq_false h0]; rfl
    have HR2 := Lib.hid hr2
    have HL2 := Lib.hid hl
    clear hn hl hL hr hr2
    go_enter Tryd.func35, Tryd.ntmps35
    go_wp2_with fail
    refine (rgood_is HN.out HL2.out HL.out HR2.out).mono ?_
    rintro e w2 ⟨rfl, hb⟩
    go_wp2
    go_ret
    exact ⟨by simp [h0], hb⟩
theorem span_way (l : List Int) : (inSpan 1 3 (l.length : Int) && (decide (l.length = 0) || pgood l)) = pgood l := by
  cases hg : pgood l
  · by_cases h : l.length = 0
    · rw [h]; rfl
    · simp [h]
  · have := pgood_len hg
    have h : ¬ l.length = 0 := by omega
    simp [inSpan, h]
    omega
theorem span_may (l : List Int) : (inSpan 0 3 (l.length : Int) && (decide (l.length = 0) || pgood l)) = (decide (l.length = 0) || pgood l) := by
  cases hg : pgood l
  · by_cases h : l.length = 0
    · rw [h]; rfl
    · simp [h]
  · have := pgood_len hg
    simp [inSpan]
    omega
theorem span_no (l : List Int) : (inSpan 0 0 (l.length : Int) && (decide (l.length = 0) || pgood l)) = decide (l.length = 0) := by
  by_cases h : l.length = 0
  · rw [h]; rfl
  · simp only [decide_eq_false h, inSpan]
    have : ¬ (l.length : Int) ≤ ((0 : Nat) : Int) := by omega
    rw [decide_eq_false this]
    simp
theorem span_zero (x : Int) : inSpan 0 0 x = decide (x = 0) := by
  by_cases h : x = 0
  · subst h; rfl
  · have : ¬ ((0 : Int) ≤ x ∧ x ≤ 0) := by omega
    simp only [inSpan, decide_eq_false h]
    by_cases h1 : (0 : Int) ≤ x
    · have h2 : ¬ x ≤ ((0 : Nat) : Int) := by omega
      rw [decide_eq_false h2]; simp
    · have h3 : ¬ ((0 : Nat) : Int) ≤ x := by omega
      rw [decide_eq_false h3]; simp
set_option maxHeartbeats 8000000 in
theorem rgood_1 {x y : Int} {a l : List Int} {z : Nat} {A B : Option Addr} {na ca nb cb : Nat} {ga gb bx by' r : Bool} {w : World} (ha : na = a.length) (hb : nb = l.length) (la : na ≤ 1000000) (lb : nb ≤ 1000000) (hA : IntsAt w w.heap.size A a) (hB : IntsAt w w.heap.size B l) (hga : pgood a = ga) (hgb : pgood l = gb) (hbx : inSpan 1 5 x = bx) (hby : inSpan 0 4096 y = by')
    (hr : (ga && (gb && (bx && (by' && decide (z = 0))))) = r) : Calls Tryd.prog 16 #[.agg #[.int .i64 1, .slice A na ca, .slice B nb cb, .int .i64 x, .int .i64 y, .int .u64 (z : Int)]] w fun e w' => e = .returned (.bool r) ∧ Below w.heap.size w w' := by
  have K1 := Lib.hid (Bxs.new w [.int .i64 1, .slice A na ca, .slice B nb cb, .int .i64 x, .int .i64 y, .int .u64 (z : Int)] 39)
  have LA := Lib.hid hA
  have LB := Lib.hid hB
  have NA := Lib.hid ha
  have NB := Lib.hid hb
  have MA := Lib.hid la
  have MB := Lib.hid lb
  have HR := Lib.hid hr
  have EA := Lib.hid hga
  have EB := Lib.hid hgb
  have EX := Lib.hid hbx
  have EY := Lib.hid hby
  clear ha hb la lb hA hB hr hga hgb hbx hby
  go_enter Tryd.func16, Tryd.ntmps16
  go_wp2_with fail
  obtain ⟨g, hg⟩ : ∃ g, g = w.heap.size := ⟨_, rfl⟩
  rw [← hg] at K1 ⊢
  clear hg
  generalize w.alloc _ = w1 at K1 ⊢
  have c0 := K1.out.c 0 _ rfl
  have c1 := K1.out.c 1 _ rfl
  have c2 := K1.out.c 2 _ rfl
  have c3 := K1.out.c 3 _ rfl
  have c4 := K1.out.c 4 _ rfl
  have c5 := K1.out.c 5 _ rfl
  go_wp2_with fail
  refine (rgood_is (w := w1) NA.out MA.out (LA.out.on K1.out.old) EA.out).mono ?_
  rintro e w2 ⟨rfl, hb⟩
  clear c0 c1 c2 c3 c4 c5
  replace K1 := Lib.hid (K1.out.on hb)
  clear hb
  have c0 := K1.out.c 0 _ rfl
  have c1 := K1.out.c 1 _ rfl
  have c2 := K1.out.c 2 _ rfl
  have c3 := K1.out.c 3 _ rfl
  have c4 := K1.out.c 4 _ rfl
  have c5 := K1.out.c 5 _ rfl
  cases ga
  case false =>
    go_wp2
    go_ret
    exact ⟨by rw [← HR.out]; simp, K1.out.old⟩
  case true =>
    go_wp2_with fail
    refine (rgood_is (w := w2) NB.out MB.out (LB.out.on K1.out.old) EB.out).mono ?_
    rintro e w3 ⟨rfl, hb⟩
    clear c0 c1 c2 c3 c4 c5
    replace K1 := Lib.hid (K1.out.on hb)
    clear hb
    have c0 := K1.out.c 0 _ rfl
    have c1 := K1.out.c 1 _ rfl
    have c2 := K1.out.c 2 _ rfl
    have c3 := K1.out.c 3 _ rfl
    have c4 := K1.out.c 4 _ rfl
    have c5 := K1.out.c 5 _ rfl
    cases gb
    case false =>
      go_wp2
      go_ret
      exact ⟨by rw [← HR.out]; simp [*], K1.out.old⟩
    case true =>
      go_wp2_with fail
      refine (within_at (x := x) 1 5 rfl rfl EX.out _).mono ?_
      rintro e w4 ⟨rfl, hb⟩
      clear c0 c1 c2 c3 c4 c5
      replace K1 := Lib.hid (K1.out.on hb)
      clear hb
      have c0 := K1.out.c 0 _ rfl
      have c1 := K1.out.c 1 _ rfl
      have c2 := K1.out.c 2 _ rfl
      have c3 := K1.out.c 3 _ rfl
      have c4 := K1.out.c 4 _ rfl
      have c5 := K1.out.c 5 _ rfl
      cases bx
      case false =>
        go_wp2
        go_ret
        exact ⟨by rw [← HR.out]; simp [*], K1.out.old⟩
      case true =>
        go_wp2_with fail
        refine (within_at (x := y) 0 4096 rfl rfl EY.out _).mono ?_
        rintro e w5 ⟨rfl, hb⟩
        clear c0 c1 c2 c3 c4 c5
        replace K1 := Lib.hid (K1.out.on hb)
        clear hb
        have c0 := K1.out.c 0 _ rfl
        have c1 := K1.out.c 1 _ rfl
        have c2 := K1.out.c 2 _ rfl
        have c3 := K1.out.c 3 _ rfl
        have c4 := K1.out.c 4 _ rfl
        have c5 := K1.out.c 5 _ rfl
        cases by'
        case false =>
          go_wp2
          go_ret
          exact ⟨by rw [← HR.out]; simp [*], K1.out.old⟩
        case true =>
          by_cases hz0 : z = 0
          · have hz1 : (z : Int) = 0 := by omega
            go_wp2
            go_ret
            exact ⟨by rw [← HR.out]; simp [*], K1.out.old⟩
          · have hz1 : ¬ (z : Int) = 0 := by omega
            go_wp2
            go_ret
            exact ⟨by rw [← HR.out]; simp [*], K1.out.old⟩
set_option maxHeartbeats 8000000 in
theorem rgood_2 {x y : Int} {a l : List Int} {z : Nat} {A B : Option Addr} {na ca nb cb : Nat} {ga gb bx r : Bool} {w : World} (ha : na = a.length) (hb : nb = l.length) (la : na ≤ 1000000) (lb : nb ≤ 1000000) (hA : IntsAt w w.heap.size A a) (hB : IntsAt w w.heap.size B l) (hga : pgood a = ga) (hgb : pgood l = gb) (hbx : inSpan 0 7 x = bx)
    (hr : (ga && (gb && (bx && (decide (y = 0) && decide (z = 0))))) = r) : Calls Tryd.prog 16 #[.agg #[.int .i64 2, .slice A na ca, .slice B nb cb, .int .i64 x, .int .i64 y, .int .u64 (z : Int)]] w fun e w' => e = .returned (.bool r) ∧ Below w.heap.size w w' := by
  have K1 := Lib.hid (Bxs.new w [.int .i64 2, .slice A na ca, .slice B nb cb, .int .i64 x, .int .i64 y, .int .u64 (z : Int)] 39)
  have LA := Lib.hid hA
  have LB := Lib.hid hB
  have NA := Lib.hid ha
  have NB := Lib.hid hb
  have MA := Lib.hid la
  have MB := Lib.hid lb
  have HR := Lib.hid hr
  have EA := Lib.hid hga
  have EB := Lib.hid hgb
  have EX := Lib.hid hbx
  clear ha hb la lb hA hB hr hga hgb hbx
  go_enter Tryd.func16, Tryd.ntmps16
  go_wp2_with fail
  obtain ⟨g, hg⟩ : ∃ g, g = w.heap.size := ⟨_, rfl⟩
  rw [← hg] at K1 ⊢
  clear hg
  generalize w.alloc _ = w1 at K1 ⊢
  have c0 := K1.out.c 0 _ rfl
  have c1 := K1.out.c 1 _ rfl
  have c2 := K1.out.c 2 _ rfl
  have c3 := K1.out.c 3 _ rfl
  have c4 := K1.out.c 4 _ rfl
  have c5 := K1.out.c 5 _ rfl
  go_wp2_with fail
  refine (rgood_is (w := w1) NA.out MA.out (LA.out.on K1.out.old) EA.out).mono ?_
  rintro e w2 ⟨rfl, hb⟩
  clear c0 c1 c2 c3 c4 c5
  replace K1 := Lib.hid (K1.out.on hb)
  clear hb
  have c0 := K1.out.c 0 _ rfl
  have c1 := K1.out.c 1 _ rfl
  have c2 := K1.out.c 2 _ rfl
  have c3 := K1.out.c 3 _ rfl
  have c4 := K1.out.c 4 _ rfl
  have c5 := K1.out.c 5 _ rfl
  cases ga
  case false =>
    go_wp2
    go_ret
    exact ⟨by rw [← HR.out]; simp, K1.out.old⟩
  case true =>
    go_wp2_with fail
    refine (rgood_is (w := w2) NB.out MB.out (LB.out.on K1.out.old) EB.out).mono ?_
    rintro e w3 ⟨rfl, hb⟩
    clear c0 c1 c2 c3 c4 c5
    replace K1 := Lib.hid (K1.out.on hb)
    clear hb
    have c0 := K1.out.c 0 _ rfl
    have c1 := K1.out.c 1 _ rfl
    have c2 := K1.out.c 2 _ rfl
    have c3 := K1.out.c 3 _ rfl
    have c4 := K1.out.c 4 _ rfl
    have c5 := K1.out.c 5 _ rfl
    cases gb
    case false =>
      go_wp2
      go_ret
      exact ⟨by rw [← HR.out]; simp [*], K1.out.old⟩
    case true =>
      go_wp2_with fail
      refine (within_at (x := x) 0 7 rfl rfl EX.out _).mono ?_
      rintro e w4 ⟨rfl, hb⟩
      clear c0 c1 c2 c3 c4 c5
      replace K1 := Lib.hid (K1.out.on hb)
      clear hb
      have c0 := K1.out.c 0 _ rfl
      have c1 := K1.out.c 1 _ rfl
      have c2 := K1.out.c 2 _ rfl
      have c3 := K1.out.c 3 _ rfl
      have c4 := K1.out.c 4 _ rfl
      have c5 := K1.out.c 5 _ rfl
      cases bx
      case false =>
        go_wp2
        go_ret
        exact ⟨by rw [← HR.out]; simp [*], K1.out.old⟩
      case true =>
        by_cases hy0 : y = 0
        case pos =>
          by_cases hz0 : z = 0
          · have hz1 : (z : Int) = 0 := by omega
            go_wp2
            go_ret
            exact ⟨by rw [← HR.out]; simp [*], K1.out.old⟩
          · have hz1 : ¬ (z : Int) = 0 := by omega
            go_wp2
            go_ret
            exact ⟨by rw [← HR.out]; simp [*], K1.out.old⟩
        case neg =>
          go_wp2
          go_ret
          exact ⟨by rw [← HR.out]; simp [*], K1.out.old⟩
set_option maxHeartbeats 8000000 in
theorem rgood_3 {x y : Int} {a l : List Int} {z : Nat} {A B : Option Addr} {na ca nb cb : Nat} {ga gb bx by' r : Bool} {w : World} (ha : na = a.length) (hb : nb = l.length) (la : na ≤ 1000000) (lb : nb ≤ 1000000) (hA : IntsAt w w.heap.size A a) (hB : IntsAt w w.heap.size B l) (hga : pgood a = ga) (hgb : pgood l = gb) (hbx : inSpan 0 7 x = bx) (hby : inSpan 1 65535 y = by')
    (hr : (ga && (gb && (bx && (by' && decide (z = 0))))) = r) : Calls Tryd.prog 16 #[.agg #[.int .i64 3, .slice A na ca, .slice B nb cb, .int .i64 x, .int .i64 y, .int .u64 (z : Int)]] w fun e w' => e = .returned (.bool r) ∧ Below w.heap.size w w' := by
  have K1 := Lib.hid (Bxs.new w [.int .i64 3, .slice A na ca, .slice B nb cb, .int .i64 x, .int .i64 y, .int .u64 (z : Int)] 39)
  have LA := Lib.hid hA
  have LB := Lib.hid hB
  have NA := Lib.hid ha
  have NB := Lib.hid hb
  have MA := Lib.hid la
  have MB := Lib.hid lb
  have HR := Lib.hid hr
  have EA := Lib.hid hga
  have EB := Lib.hid hgb
  have EX := Lib.hid hbx
  have EY := Lib.hid hby
  clear ha hb la lb hA hB hr hga hgb hbx hby
  go_enter Tryd.func16, Tryd.ntmps16
  go_wp2_with fail
  obtain ⟨g, hg⟩ : ∃ g, g = w.heap.size := ⟨_, rfl⟩
  rw [← hg] at K1 ⊢
  clear hg
  generalize w.alloc _ = w1 at K1 ⊢
  have c0 := K1.out.c 0 _ rfl
  have c1 := K1.out.c 1 _ rfl
  have c2 := K1.out.c 2 _ rfl
  have c3 := K1.out.c 3 _ rfl
  have c4 := K1.out.c 4 _ rfl
  have c5 := K1.out.c 5 _ rfl
  go_wp2_with fail
  refine (rgood_is (w := w1) NA.out MA.out (LA.out.on K1.out.old) EA.out).mono ?_
  rintro e w2 ⟨rfl, hb⟩
  clear c0 c1 c2 c3 c4 c5
  replace K1 := Lib.hid (K1.out.on hb)
  clear hb
  have c0 := K1.out.c 0 _ rfl
  have c1 := K1.out.c 1 _ rfl
  have c2 := K1.out.c 2 _ rfl
  have c3 := K1.out.c 3 _ rfl
  have c4 := K1.out.c 4 _ rfl
  have c5 := K1.out.c 5 _ rfl
  cases ga
  case false =>
    go_wp2
    go_ret
    exact ⟨by rw [← HR.out]; simp, K1.out.old⟩
  case true =>
    go_wp2_with fail
    refine (rgood_is (w := w2) NB.out MB.out (LB.out.on K1.out.old) EB.out).mono ?_
    rintro e w3 ⟨rfl, hb⟩
    clear c0 c1 c2 c3 c4 c5
    replace K1 := Lib.hid (K1.out.on hb)
    clear hb
    have c0 := K1.out.c 0 _ rfl
    have c1 := K1.out.c 1 _ rfl
    have c2 := K1.out.c 2 _ rfl
    have c3 := K1.out.c 3 _ rfl
    have c4 := K1.out.c 4 _ rfl
    have c5 := K1.out.c 5 _ rfl
    cases gb
    case false =>
      go_wp2
      go_ret
      exact ⟨by rw [← HR.out]; simp [*], K1.out.old⟩
    case true =>
      go_wp2_with fail
      refine (within_at (x := x) 0 7 rfl rfl EX.out _).mono ?_
      rintro e w4 ⟨rfl, hb⟩
      clear c0 c1 c2 c3 c4 c5
      replace K1 := Lib.hid (K1.out.on hb)
      clear hb
      have c0 := K1.out.c 0 _ rfl
      have c1 := K1.out.c 1 _ rfl
      have c2 := K1.out.c 2 _ rfl
      have c3 := K1.out.c 3 _ rfl
      have c4 := K1.out.c 4 _ rfl
      have c5 := K1.out.c 5 _ rfl
      cases bx
      case false =>
        go_wp2
        go_ret
        exact ⟨by rw [← HR.out]; simp [*], K1.out.old⟩
      case true =>
        go_wp2_with fail
        refine (within_at (x := y) 1 65535 rfl rfl EY.out _).mono ?_
        rintro e w5 ⟨rfl, hb⟩
        clear c0 c1 c2 c3 c4 c5
        replace K1 := Lib.hid (K1.out.on hb)
        clear hb
        have c0 := K1.out.c 0 _ rfl
        have c1 := K1.out.c 1 _ rfl
        have c2 := K1.out.c 2 _ rfl
        have c3 := K1.out.c 3 _ rfl
        have c4 := K1.out.c 4 _ rfl
        have c5 := K1.out.c 5 _ rfl
        cases by'
        case false =>
          go_wp2
          go_ret
          exact ⟨by rw [← HR.out]; simp [*], K1.out.old⟩
        case true =>
          by_cases hz0 : z = 0
          · have hz1 : (z : Int) = 0 := by omega
            go_wp2
            go_ret
            exact ⟨by rw [← HR.out]; simp [*], K1.out.old⟩
          · have hz1 : ¬ (z : Int) = 0 := by omega
            go_wp2
            go_ret
            exact ⟨by rw [← HR.out]; simp [*], K1.out.old⟩
set_option maxHeartbeats 8000000 in
theorem rgood_4 {x y : Int} {a l : List Int} {z : Nat} {A B : Option Addr} {na ca nb cb : Nat} {ga gb r : Bool} {w : World} (ha : na = a.length) (hb : nb = l.length) (la : na ≤ 1000000) (lb : nb ≤ 1000000) (hA : IntsAt w w.heap.size A a) (hB : IntsAt w w.heap.size B l) (hga : pgood a = ga) (hgb : pgood l = gb)
    (hr : (ga && (gb && (decide (x = 0) && (decide (y = 0) && decide (z = 0))))) = r) : Calls Tryd.prog 16 #[.agg #[.int .i64 4, .slice A na ca, .slice B nb cb, .int .i64 x, .int .i64 y, .int .u64 (z : Int)]] w fun e w' => e = .returned (.bool r) ∧ Below w.heap.size w w' := by
  have K1 := Lib.hid (Bxs.new w [.int .i64 4, .slice A na ca, .slice B nb cb, .int .i64 x, .int .i64 y, .int .u64 (z : Int)] 39)
  have LA := Lib.hid hA
  have LB := Lib.hid hB
  have NA := Lib.hid ha
  have NB := Lib.hid hb
  have MA := Lib.hid la
  have MB := Lib.hid lb
  have HR := Lib.hid hr
  have EA := Lib.hid hga
  have EB := Lib.hid hgb
  clear ha hb la lb hA hB hr hga hgb
  go_enter Tryd.func16, Tryd.ntmps16
  go_wp2_with fail
  obtain ⟨g, hg⟩ : ∃ g, g = w.heap.size := ⟨_, rfl⟩
  rw [← hg] at K1 ⊢
  clear hg
  generalize w.alloc _ = w1 at K1 ⊢
  have c0 := K1.out.c 0 _ rfl
  have c1 := K1.out.c 1 _ rfl
  have c2 := K1.out.c 2 _ rfl
  have c3 := K1.out.c 3 _ rfl
  have c4 := K1.out.c 4 _ rfl
  have c5 := K1.out.c 5 _ rfl
  go_wp2_with fail
  refine (rgood_is (w := w1) NA.out MA.out (LA.out.on K1.out.old) EA.out).mono ?_
  rintro e w2 ⟨rfl, hb⟩
  clear c0 c1 c2 c3 c4 c5
  replace K1 := Lib.hid (K1.out.on hb)
  clear hb
  have c0 := K1.out.c 0 _ rfl
  have c1 := K1.out.c 1 _ rfl
  have c2 := K1.out.c 2 _ rfl
  have c3 := K1.out.c 3 _ rfl
  have c4 := K1.out.c 4 _ rfl
  have c5 := K1.out.c 5 _ rfl
  cases ga
  case false =>
    go_wp2
    go_ret
    exact ⟨by rw [← HR.out]; simp, K1.out.old⟩
  case true =>
    go_wp2_with fail
    refine (rgood_is (w := w2) NB.out MB.out (LB.out.on K1.out.old) EB.out).mono ?_
    rintro e w3 ⟨rfl, hb⟩
    clear c0 c1 c2 c3 c4 c5
    replace K1 := Lib.hid (K1.out.on hb)
    clear hb
    have c0 := K1.out.c 0 _ rfl
    have c1 := K1.out.c 1 _ rfl
    have c2 := K1.out.c 2 _ rfl
    have c3 := K1.out.c 3 _ rfl
    have c4 := K1.out.c 4 _ rfl
    have c5 := K1.out.c 5 _ rfl
    cases gb
    case false =>
      go_wp2
      go_ret
      exact ⟨by rw [← HR.out]; simp [*], K1.out.old⟩
    case true =>
      by_cases hx0 : x = 0
      case pos =>
        by_cases hy0 : y = 0
        case pos =>
          by_cases hz0 : z = 0
          · have hz1 : (z : Int) = 0 := by omega
            go_wp2
            go_ret
            exact ⟨by rw [← HR.out]; simp [*], K1.out.old⟩
          · have hz1 : ¬ (z : Int) = 0 := by omega
            go_wp2
            go_ret
            exact ⟨by rw [← HR.out]; simp [*], K1.out.old⟩
        case neg =>
          go_wp2
          go_ret
          exact ⟨by rw [← HR.out]; simp [*], K1.out.old⟩
      case neg =>
        go_wp2
        go_ret
        exact ⟨by rw [← HR.out]; simp [*], K1.out.old⟩
set_option maxHeartbeats 8000000 in
theorem rgood_5 {x y : Int} {a l : List Int} {z : Nat} {A B : Option Addr} {na ca nb cb : Nat} {ga r : Bool} {w : World} (ha : na = a.length) (hb : nb = l.length) (la : na ≤ 1000000) (lb : nb ≤ 1000000) (hA : IntsAt w w.heap.size A a) (hB : IntsAt w w.heap.size B l) (hga : pgood a = ga)
    (hr : (ga && (decide (nb = 0) && (decide (x = 0) && (decide (y = 0) && decide (z = 0))))) = r) : Calls Tryd.prog 16 #[.agg #[.int .i64 5, .slice A na ca, .slice B nb cb, .int .i64 x, .int .i64 y, .int .u64 (z : Int)]] w fun e w' => e = .returned (.bool r) ∧ Below w.heap.size w w' := by
  have K1 := Lib.hid (Bxs.new w [.int .i64 5, .slice A na ca, .slice B nb cb, .int .i64 x, .int .i64 y, .int .u64 (z : Int)] 39)
  have LA := Lib.hid hA
  have LB := Lib.hid hB
  have NA := Lib.hid ha
  have NB := Lib.hid hb
  have MA := Lib.hid la
  have MB := Lib.hid lb
  have HR := Lib.hid hr
  have EA := Lib.hid hga
  clear ha hb la lb hA hB hr hga
  go_enter Tryd.func16, Tryd.ntmps16
  go_wp2_with fail
  obtain ⟨g, hg⟩ : ∃ g, g = w.heap.size := ⟨_, rfl⟩
  rw [← hg] at K1 ⊢
  clear hg
  generalize w.alloc _ = w1 at K1 ⊢
  have c0 := K1.out.c 0 _ rfl
  have c1 := K1.out.c 1 _ rfl
  have c2 := K1.out.c 2 _ rfl
  have c3 := K1.out.c 3 _ rfl
  have c4 := K1.out.c 4 _ rfl
  have c5 := K1.out.c 5 _ rfl
  go_wp2_with fail
  refine (rgood_is (w := w1) NA.out MA.out (LA.out.on K1.out.old) EA.out).mono ?_
  rintro e w2 ⟨rfl, hb⟩
  clear c0 c1 c2 c3 c4 c5
  replace K1 := Lib.hid (K1.out.on hb)
  clear hb
  have c0 := K1.out.c 0 _ rfl
  have c1 := K1.out.c 1 _ rfl
  have c2 := K1.out.c 2 _ rfl
  have c3 := K1.out.c 3 _ rfl
  have c4 := K1.out.c 4 _ rfl
  have c5 := K1.out.c 5 _ rfl
  cases ga
  case false =>
    go_wp2
    go_ret
    exact ⟨by rw [← HR.out]; simp, K1.out.old⟩
  case true =>
    by_cases hn0 : nb = 0
    case pos =>
      have hn1 : (nb : Int) = 0 := by omega
      by_cases hx0 : x = 0
      case pos =>
        by_cases hy0 : y = 0
        case pos =>
          by_cases hz0 : z = 0
          · have hz1 : (z : Int) = 0 := by omega
            go_wp2
            go_ret
            exact ⟨by rw [← HR.out]; simp [*], K1.out.old⟩
          · have hz1 : ¬ (z : Int) = 0 := by omega
            go_wp2
            go_ret
            exact ⟨by rw [← HR.out]; simp [*], K1.out.old⟩
        case neg =>
          go_wp2
          go_ret
          exact ⟨by rw [← HR.out]; simp [*], K1.out.old⟩
      case neg =>
        go_wp2
        go_ret
        exact ⟨by rw [← HR.out]; simp [*], K1.out.old⟩
    case neg =>
      have hn1 : ¬ (nb : Int) = 0 := by omega
      go_wp2
      go_ret
      exact ⟨by rw [← HR.out]; simp [hn0], K1.out.old⟩
set_option maxHeartbeats 8000000 in
theorem rgood_6 {x y : Int} {a l : List Int} {z : Nat} {A B : Option Addr} {na ca nb cb : Nat} {ga r : Bool} {w : World} (ha : na = a.length) (hb : nb = l.length) (la : na ≤ 1000000) (lb : nb ≤ 1000000) (hA : IntsAt w w.heap.size A a) (hB : IntsAt w w.heap.size B l) (hga : pgood a = ga)
    (hr : (ga && (decide (nb = 0) && (decide (x = 0) && (decide (y = 0) && decide (z = 0))))) = r) : Calls Tryd.prog 16 #[.agg #[.int .i64 6, .slice A na ca, .slice B nb cb, .int .i64 x, .int .i64 y, .int .u64 (z : Int)]] w fun e w' => e = .returned (.bool r) ∧ Below w.heap.size w w' := by
  have K1 := Lib.hid (Bxs.new w [.int .i64 6, .slice A na ca, .slice B nb cb, .int .i64 x, .int .i64 y, .int .u64 (z : Int)] 39)
  have LA := Lib.hid hA
  have LB := Lib.hid hB
  have NA := Lib.hid ha
  have NB := Lib.hid hb
  have MA := Lib.hid la
  have MB := Lib.hid lb
  have HR := Lib.hid hr
  have EA := Lib.hid hga
  clear ha hb la lb hA hB hr hga
  go_enter Tryd.func16, Tryd.ntmps16
  go_wp2_with fail
  obtain ⟨g, hg⟩ : ∃ g, g = w.heap.size := ⟨_, rfl⟩
  rw [← hg] at K1 ⊢
  clear hg
  generalize w.alloc _ = w1 at K1 ⊢
  have c0 := K1.out.c 0 _ rfl
  have c1 := K1.out.c 1 _ rfl
  have c2 := K1.out.c 2 _ rfl
  have c3 := K1.out.c 3 _ rfl
  have c4 := K1.out.c 4 _ rfl
  have c5 := K1.out.c 5 _ rfl
  go_wp2_with fail
  refine (rgood_is (w := w1) NA.out MA.out (LA.out.on K1.out.old) EA.out).mono ?_
  rintro e w2 ⟨rfl, hb⟩
  clear c0 c1 c2 c3 c4 c5
  replace K1 := Lib.hid (K1.out.on hb)
  clear hb
  have c0 := K1.out.c 0 _ rfl
  have c1 := K1.out.c 1 _ rfl
  have c2 := K1.out.c 2 _ rfl
  have c3 := K1.out.c 3 _ rfl
  have c4 := K1.out.c 4 _ rfl
  have c5 := K1.out.c 5 _ rfl
  cases ga
  case false =>
    go_wp2
    go_ret
    exact ⟨by rw [← HR.out]; simp, K1.out.old⟩
  case true =>
    by_cases hn0 : nb = 0
    case pos =>
      have hn1 : (nb : Int) = 0 := by omega
      by_cases hx0 : x = 0
      case pos =>
        by_cases hy0 : y = 0
        case pos =>
          by_cases hz0 : z = 0
          · have hz1 : (z : Int) = 0 := by omega
            go_wp2
            go_ret
            exact ⟨by rw [← HR.out]; simp [*], K1.out.old⟩
          · have hz1 : ¬ (z : Int) = 0 := by omega
            go_wp2
            go_ret
            exact ⟨by rw [← HR.out]; simp [*], K1.out.old⟩
        case neg =>
          go_wp2
          go_ret
          exact ⟨by rw [← HR.out]; simp [*], K1.out.old⟩
      case neg =>
        go_wp2
        go_ret
        exact ⟨by rw [← HR.out]; simp [*], K1.out.old⟩
    case neg =>
      have hn1 : ¬ (nb : Int) = 0 := by omega
      go_wp2
      go_ret
      exact ⟨by rw [← HR.out]; simp [hn0], K1.out.old⟩
set_option maxHeartbeats 8000000 in
theorem rgood_7 {x y : Int} {a l : List Int} {z : Nat} {A B : Option Addr} {na ca nb cb : Nat} {ga gb r : Bool} {w : World} (ha : na = a.length) (hb : nb = l.length) (la : na ≤ 1000000) (lb : nb ≤ 1000000) (hA : IntsAt w w.heap.size A a) (hB : IntsAt w w.heap.size B l) (hga : pgood a = ga) (hgb : (decide (nb = 0) || pgood l) = gb)
    (hr : (ga && (gb && (decide (x = 0) && (decide (y = 0) && true)))) = r) : Calls Tryd.prog 16 #[.agg #[.int .i64 7, .slice A na ca, .slice B nb cb, .int .i64 x, .int .i64 y, .int .u64 (z : Int)]] w fun e w' => e = .returned (.bool r) ∧ Below w.heap.size w w' := by
  have K1 := Lib.hid (Bxs.new w [.int .i64 7, .slice A na ca, .slice B nb cb, .int .i64 x, .int .i64 y, .int .u64 (z : Int)] 39)
  have LA := Lib.hid hA
  have LB := Lib.hid hB
  have NA := Lib.hid ha
  have NB := Lib.hid hb
  have MA := Lib.hid la
  have MB := Lib.hid lb
  have HR := Lib.hid hr
  have EA := Lib.hid hga
  have EB := Lib.hid hgb
  clear ha hb la lb hA hB hr hga hgb
  go_enter Tryd.func16, Tryd.ntmps16
  go_wp2_with fail
  obtain ⟨g, hg⟩ : ∃ g, g = w.heap.size := ⟨_, rfl⟩
  rw [← hg] at K1 ⊢
  clear hg
  generalize w.alloc _ = w1 at K1 ⊢
  have c0 := K1.out.c 0 _ rfl
  have c1 := K1.out.c 1 _ rfl
  have c2 := K1.out.c 2 _ rfl
  have c3 := K1.out.c 3 _ rfl
  have c4 := K1.out.c 4 _ rfl
  have c5 := K1.out.c 5 _ rfl
  go_wp2_with fail
  refine (rgood_is (w := w1) NA.out MA.out (LA.out.on K1.out.old) EA.out).mono ?_
  rintro e w2 ⟨rfl, hb⟩
  clear c0 c1 c2 c3 c4 c5
  replace K1 := Lib.hid (K1.out.on hb)
  clear hb
  have c0 := K1.out.c 0 _ rfl
  have c1 := K1.out.c 1 _ rfl
  have c2 := K1.out.c 2 _ rfl
  have c3 := K1.out.c 3 _ rfl
  have c4 := K1.out.c 4 _ rfl
  have c5 := K1.out.c 5 _ rfl
  cases ga
  case false =>
    go_wp2
    go_ret
    exact ⟨by rw [← HR.out]; simp, K1.out.old⟩
  case true =>
    go_wp2_with fail
    refine (optional_is (w := w2) NB.out MB.out (LB.out.on K1.out.old) EB.out).mono ?_
    rintro e w3 ⟨rfl, hb⟩
    clear c0 c1 c2 c3 c4 c5
    replace K1 := Lib.hid (K1.out.on hb)
    clear hb
    have c0 := K1.out.c 0 _ rfl
    have c1 := K1.out.c 1 _ rfl
    have c2 := K1.out.c 2 _ rfl
    have c3 := K1.out.c 3 _ rfl
    have c4 := K1.out.c 4 _ rfl
    have c5 := K1.out.c 5 _ rfl
    cases gb
    case false =>
      go_wp2
      go_ret
      exact ⟨by rw [← HR.out]; simp [*], K1.out.old⟩
    case true =>
      by_cases hx0 : x = 0
      case pos =>
        by_cases hy0 : y = 0
        case pos =>
          go_wp2
          go_ret
          exact ⟨by rw [← HR.out]; simp [*], K1.out.old⟩
        case neg =>
          go_wp2
          go_ret
          exact ⟨by rw [← HR.out]; simp [*], K1.out.old⟩
      case neg =>
        go_wp2
        go_ret
        exact ⟨by rw [← HR.out]; simp [*], K1.out.old⟩
set_option maxHeartbeats 8000000 in
theorem rgood_8 {x y : Int} {a l : List Int} {z : Nat} {A B : Option Addr} {na ca nb cb : Nat} {ga gb r : Bool} {w : World} (ha : na = a.length) (hb : nb = l.length) (la : na ≤ 1000000) (lb : nb ≤ 1000000) (hA : IntsAt w w.heap.size A a) (hB : IntsAt w w.heap.size B l) (hga : pgood a = ga) (hgb : (decide (nb = 0) || pgood l) = gb)
    (hr : (ga && (gb && (decide (x = 0) && (decide (y = 0) && decide (z = 0))))) = r) : Calls Tryd.prog 16 #[.agg #[.int .i64 8, .slice A na ca, .slice B nb cb, .int .i64 x, .int .i64 y, .int .u64 (z : Int)]] w fun e w' => e = .returned (.bool r) ∧ Below w.heap.size w w' := by
  have K1 := Lib.hid (Bxs.new w [.int .i64 8, .slice A na ca, .slice B nb cb, .int .i64 x, .int .i64 y, .int .u64 (z : Int)] 39)
  have LA := Lib.hid hA
  have LB := Lib.hid hB
  have NA := Lib.hid ha
  have NB := Lib.hid hb
  have MA := Lib.hid la
  have MB := Lib.hid lb
  have HR := Lib.hid hr
  have EA := Lib.hid hga
  have EB := Lib.hid hgb
  clear ha hb la lb hA hB hr hga hgb
  go_enter Tryd.func16, Tryd.ntmps16
  go_wp2_with fail
  obtain ⟨g, hg⟩ : ∃ g, g = w.heap.size := ⟨_, rfl⟩
  rw [← hg] at K1 ⊢
  clear hg
  generalize w.alloc _ = w1 at K1 ⊢
  have c0 := K1.out.c 0 _ rfl
  have c1 := K1.out.c 1 _ rfl
  have c2 := K1.out.c 2 _ rfl
  have c3 := K1.out.c 3 _ rfl
  have c4 := K1.out.c 4 _ rfl
  have c5 := K1.out.c 5 _ rfl
  go_wp2_with fail
  refine (rgood_is (w := w1) NA.out MA.out (LA.out.on K1.out.old) EA.out).mono ?_
  rintro e w2 ⟨rfl, hb⟩
  clear c0 c1 c2 c3 c4 c5
  replace K1 := Lib.hid (K1.out.on hb)
  clear hb
  have c0 := K1.out.c 0 _ rfl
  have c1 := K1.out.c 1 _ rfl
  have c2 := K1.out.c 2 _ rfl
  have c3 := K1.out.c 3 _ rfl
  have c4 := K1.out.c 4 _ rfl
  have c5 := K1.out.c 5 _ rfl
  cases ga
  case false =>
    go_wp2
    go_ret
    exact ⟨by rw [← HR.out]; simp, K1.out.old⟩
  case true =>
    go_wp2_with fail
    refine (optional_is (w := w2) NB.out MB.out (LB.out.on K1.out.old) EB.out).mono ?_
    rintro e w3 ⟨rfl, hb⟩
    clear c0 c1 c2 c3 c4 c5
    replace K1 := Lib.hid (K1.out.on hb)
    clear hb
    have c0 := K1.out.c 0 _ rfl
    have c1 := K1.out.c 1 _ rfl
    have c2 := K1.out.c 2 _ rfl
    have c3 := K1.out.c 3 _ rfl
    have c4 := K1.out.c 4 _ rfl
    have c5 := K1.out.c 5 _ rfl
    cases gb
    case false =>
      go_wp2
      go_ret
      exact ⟨by rw [← HR.out]; simp [*], K1.out.old⟩
    case true =>
      by_cases hx0 : x = 0
      case pos =>
        by_cases hy0 : y = 0
        case pos =>
          by_cases hz0 : z = 0
          · have hz1 : (z : Int) = 0 := by omega
            go_wp2
            go_ret
            exact ⟨by rw [← HR.out]; simp [*], K1.out.old⟩
          · have hz1 : ¬ (z : Int) = 0 := by omega
            go_wp2
            go_ret
            exact ⟨by rw [← HR.out]; simp [*], K1.out.old⟩
        case neg =>
          go_wp2
          go_ret
          exact ⟨by rw [← HR.out]; simp [*], K1.out.old⟩
      case neg =>
        go_wp2
        go_ret
        exact ⟨by rw [← HR.out]; simp [*], K1.out.old⟩
set_option maxHeartbeats 8000000 in
theorem rgood_9 {x y : Int} {a l : List Int} {z : Nat} {A B : Option Addr} {na ca nb cb : Nat} {ga r : Bool} {w : World} (ha : na = a.length) (hb : nb = l.length) (la : na ≤ 1000000) (lb : nb ≤ 1000000) (hA : IntsAt w w.heap.size A a) (hB : IntsAt w w.heap.size B l) (hga : pgood a = ga)
    (hr : (ga && (decide (nb = 0) && (decide (x = 0) && (decide (y = 0) && decide (z = 0))))) = r) : Calls Tryd.prog 16 #[.agg #[.int .i64 9, .slice A na ca, .slice B nb cb, .int .i64 x, .int .i64 y, .int .u64 (z : Int)]] w fun e w' => e = .returned (.bool r) ∧ Below w.heap.size w w' := by
  have K1 := Lib.hid (Bxs.new w [.int .i64 9, .slice A na ca, .slice B nb cb, .int .i64 x, .int .i64 y, .int .u64 (z : Int)] 39)
  have LA := Lib.hid hA
  have LB := Lib.hid hB
  have NA := Lib.hid ha
  have NB := Lib.hid hb
  have MA := Lib.hid la
  have MB := Lib.hid lb
  have HR := Lib.hid hr
  have EA := Lib.hid hga
  clear ha hb la lb hA hB hr hga
  go_enter Tryd.func16, Tryd.ntmps16
  go_wp2_with fail
  obtain ⟨g, hg⟩ : ∃ g, g = w.heap.size := ⟨_, rfl⟩
  rw [← hg] at K1 ⊢
  clear hg
  generalize w.alloc _ = w1 at K1 ⊢
  have c0 := K1.out.c 0 _ rfl
  have c1 := K1.out.c 1 _ rfl
  have c2 := K1.out.c 2 _ rfl
  have c3 := K1.out.c 3 _ rfl
  have c4 := K1.out.c 4 _ rfl
  have c5 := K1.out.c 5 _ rfl
  go_wp2_with fail
  refine (rgood_is (w := w1) NA.out MA.out (LA.out.on K1.out.old) EA.out).mono ?_
  rintro e w2 ⟨rfl, hb⟩
  clear c0 c1 c2 c3 c4 c5
  replace K1 := Lib.hid (K1.out.on hb)
  clear hb
  have c0 := K1.out.c 0 _ rfl
  have c1 := K1.out.c 1 _ rfl
  have c2 := K1.out.c 2 _ rfl
  have c3 := K1.out.c 3 _ rfl
  have c4 := K1.out.c 4 _ rfl
  have c5 := K1.out.c 5 _ rfl
  cases ga
  case false =>
    go_wp2
    go_ret
    exact ⟨by rw [← HR.out]; simp, K1.out.old⟩
  case true =>
    by_cases hn0 : nb = 0
    case pos =>
      have hn1 : (nb : Int) = 0 := by omega
      by_cases hx0 : x = 0
      case pos =>
        by_cases hy0 : y = 0
        case pos =>
          by_cases hz0 : z = 0
          · have hz1 : (z : Int) = 0 := by omega
            go_wp2
            go_ret
            exact ⟨by rw [← HR.out]; simp [*], K1.out.old⟩
          · have hz1 : ¬ (z : Int) = 0 := by omega
            go_wp2
            go_ret
            exact ⟨by rw [← HR.out]; simp [*], K1.out.old⟩
        case neg =>
          go_wp2
          go_ret
          exact ⟨by rw [← HR.out]; simp [*], K1.out.old⟩
      case neg =>
        go_wp2
        go_ret
        exact ⟨by rw [← HR.out]; simp [*], K1.out.old⟩
    case neg =>
      have hn1 : ¬ (nb : Int) = 0 := by omega
      go_wp2
      go_ret
      exact ⟨by rw [← HR.out]; simp [hn0], K1.out.old⟩
set_option maxHeartbeats 8000000 in
theorem rgood_10 {x y : Int} {a l : List Int} {z : Nat} {A B : Option Addr} {na ca nb cb : Nat} {ga r : Bool} {w : World} (ha : na = a.length) (hb : nb = l.length) (la : na ≤ 1000000) (lb : nb ≤ 1000000) (hA : IntsAt w w.heap.size A a) (hB : IntsAt w w.heap.size B l) (hga : pgood a = ga)
    (hr : (ga && (decide (nb = 0) && (decide (x = 0) && (decide (y = 0) && decide (z = 0))))) = r) : Calls Tryd.prog 16 #[.agg #[.int .i64 10, .slice A na ca, .slice B nb cb, .int .i64 x, .int .i64 y, .int .u64 (z : Int)]] w fun e w' => e = .returned (.bool r) ∧ Below w.heap.size w w' := by
  have K1 := Lib.hid (Bxs.new w [.int .i64 10, .slice A na ca, .slice B nb cb, .int .i64 x, .int .i64 y, .int .u64 (z : Int)] 39)
  have LA := Lib.hid hA
  have LB := Lib.hid hB
  have NA := Lib.hid ha
  have NB := Lib.hid hb
  have MA := Lib.hid la
  have MB := Lib.hid lb
  have HR := Lib.hid hr
  have EA := Lib.hid hga
  clear ha hb la lb hA hB hr hga
  go_enter Tryd.func16, Tryd.ntmps16
  go_wp2_with fail
  obtain ⟨g, hg⟩ : ∃ g, g = w.heap.size := ⟨_, rfl⟩
  rw [← hg] at K1 ⊢
  clear hg
  generalize w.alloc _ = w1 at K1 ⊢
  have c0 := K1.out.c 0 _ rfl
  have c1 := K1.out.c 1 _ rfl
  have c2 := K1.out.c 2 _ rfl
  have c3 := K1.out.c 3 _ rfl
  have c4 := K1.out.c 4 _ rfl
  have c5 := K1.out.c 5 _ rfl
  go_wp2_with fail
  refine (rgood_is (w := w1) NA.out MA.out (LA.out.on K1.out.old) EA.out).mono ?_
  rintro e w2 ⟨rfl, hb⟩
  clear c0 c1 c2 c3 c4 c5
  replace K1 := Lib.hid (K1.out.on hb)
  clear hb
  have c0 := K1.out.c 0 _ rfl
  have c1 := K1.out.c 1 _ rfl
  have c2 := K1.out.c 2 _ rfl
  have c3 := K1.out.c 3 _ rfl
  have c4 := K1.out.c 4 _ rfl
  have c5 := K1.out.c 5 _ rfl
  cases ga
  case false =>
    go_wp2
    go_ret
    exact ⟨by rw [← HR.out]; simp, K1.out.old⟩
  case true =>
    by_cases hn0 : nb = 0
    case pos =>
      have hn1 : (nb : Int) = 0 := by omega
      by_cases hx0 : x = 0
      case pos =>
        by_cases hy0 : y = 0
        case pos =>
          by_cases hz0 : z = 0
          · have hz1 : (z : Int) = 0 := by omega
            go_wp2
            go_ret
            exact ⟨by rw [← HR.out]; simp [*], K1.out.old⟩
          · have hz1 : ¬ (z : Int) = 0 := by omega
            go_wp2
            go_ret
            exact ⟨by rw [← HR.out]; simp [*], K1.out.old⟩
        case neg =>
          go_wp2
          go_ret
          exact ⟨by rw [← HR.out]; simp [*], K1.out.old⟩
      case neg =>
        go_wp2
        go_ret
        exact ⟨by rw [← HR.out]; simp [*], K1.out.old⟩
    case neg =>
      have hn1 : ¬ (nb : Int) = 0 := by omega
      go_wp2
      go_ret
      exact ⟨by rw [← HR.out]; simp [hn0], K1.out.old⟩
set_option maxHeartbeats 8000000 in
theorem rgood_11 {x y : Int} {a l : List Int} {z : Nat} {A B : Option Addr} {na ca nb cb : Nat} {ga bx r : Bool} {w : World} (ha : na = a.length) (hb : nb = l.length) (la : na ≤ 1000000) (lb : nb ≤ 1000000) (hA : IntsAt w w.heap.size A a) (hB : IntsAt w w.heap.size B l) (hga : pgood a = ga) (hbx : inSpan 0 3 x = bx)
    (hr : (ga && (decide (nb = 0) && (bx && (decide (y = 0) && true)))) = r) : Calls Tryd.prog 16 #[.agg #[.int .i64 11, .slice A na ca, .slice B nb cb, .int .i64 x, .int .i64 y, .int .u64 (z : Int)]] w fun e w' => e = .returned (.bool r) ∧ Below w.heap.size w w' := by
  have K1 := Lib.hid (Bxs.new w [.int .i64 11, .slice A na ca, .slice B nb cb, .int .i64 x, .int .i64 y, .int .u64 (z : Int)] 39)
  have LA := Lib.hid hA
  have LB := Lib.hid hB
  have NA := Lib.hid ha
  have NB := Lib.hid hb
  have MA := Lib.hid la
  have MB := Lib.hid lb
  have HR := Lib.hid hr
  have EA := Lib.hid hga
  have EX := Lib.hid hbx
  clear ha hb la lb hA hB hr hga hbx
  go_enter Tryd.func16, Tryd.ntmps16
  go_wp2_with fail
  obtain ⟨g, hg⟩ : ∃ g, g = w.heap.size := ⟨_, rfl⟩
  rw [← hg] at K1 ⊢
  clear hg
  generalize w.alloc _ = w1 at K1 ⊢
  have c0 := K1.out.c 0 _ rfl
  have c1 := K1.out.c 1 _ rfl
  have c2 := K1.out.c 2 _ rfl
  have c3 := K1.out.c 3 _ rfl
  have c4 := K1.out.c 4 _ rfl
  have c5 := K1.out.c 5 _ rfl
  go_wp2_with fail
  refine (rgood_is (w := w1) NA.out MA.out (LA.out.on K1.out.old) EA.out).mono ?_
  rintro e w2 ⟨rfl, hb⟩
  clear c0 c1 c2 c3 c4 c5
  replace K1 := Lib.hid (K1.out.on hb)
  clear hb
  have c0 := K1.out.c 0 _ rfl
  have c1 := K1.out.c 1 _ rfl
  have c2 := K1.out.c 2 _ rfl
  have c3 := K1.out.c 3 _ rfl
  have c4 := K1.out.c 4 _ rfl
  have c5 := K1.out.c 5 _ rfl
  cases ga
  case false =>
    go_wp2
    go_ret
    exact ⟨by rw [← HR.out]; simp, K1.out.old⟩
  case true =>
    by_cases hn0 : nb = 0
    case pos =>
      have hn1 : (nb : Int) = 0 := by omega
      go_wp2_with fail
      refine (within_at (x := x) 0 3 rfl rfl EX.out _).mono ?_
      rintro e w3 ⟨rfl, hb⟩
      clear c0 c1 c2 c3 c4 c5
      replace K1 := Lib.hid (K1.out.on hb)
      clear hb
      have c0 := K1.out.c 0 _ rfl
      have c1 := K1.out.c 1 _ rfl
      have c2 := K1.out.c 2 _ rfl
      have c3 := K1.out.c 3 _ rfl
      have c4 := K1.out.c 4 _ rfl
      have c5 := K1.out.c 5 _ rfl
      cases bx
      case false =>
        go_wp2
        go_ret
        exact ⟨by rw [← HR.out]; simp [*], K1.out.old⟩
      case true =>
        by_cases hy0 : y = 0
        case pos =>
          go_wp2
          go_ret
          exact ⟨by rw [← HR.out]; simp [*], K1.out.old⟩
        case neg =>
          go_wp2
          go_ret
          exact ⟨by rw [← HR.out]; simp [*], K1.out.old⟩
    case neg =>
      have hn1 : ¬ (nb : Int) = 0 := by omega
      go_wp2
      go_ret
      exact ⟨by rw [← HR.out]; simp [hn0], K1.out.old⟩
set_option maxHeartbeats 8000000 in
theorem rgood_12 {x y : Int} {a l : List Int} {z : Nat} {A B : Option Addr} {na ca nb cb : Nat} {ga bx r : Bool} {w : World} (ha : na = a.length) (hb : nb = l.length) (la : na ≤ 1000000) (lb : nb ≤ 1000000) (hA : IntsAt w w.heap.size A a) (hB : IntsAt w w.heap.size B l) (hga : pgood a = ga) (hbx : inSpan 0 3 x = bx)
    (hr : (ga && (decide (nb = 0) && (bx && (decide (y = 0) && decide (z = 0))))) = r) : Calls Tryd.prog 16 #[.agg #[.int .i64 12, .slice A na ca, .slice B nb cb, .int .i64 x, .int .i64 y, .int .u64 (z : Int)]] w fun e w' => e = .returned (.bool r) ∧ Below w.heap.size w w' := by
  have K1 := Lib.hid (Bxs.new w [.int .i64 12, .slice A na ca, .slice B nb cb, .int .i64 x, .int .i64 y, .int .u64 (z : Int)] 39)
  have LA := Lib.hid hA
  have LB := Lib.hid hB
  have NA := Lib.hid ha
  have NB := Lib.hid hb
  have MA := Lib.hid la
  have MB := Lib.hid lb
  have HR := Lib.hid hr
  have EA := Lib.hid hga
  have EX := Lib.hid hbx
  clear ha hb la lb hA hB hr hga hbx
  go_enter Tryd.func16, Tryd.ntmps16
  go_wp2_with fail
  obtain ⟨g, hg⟩ : ∃ g, g = w.heap.size := ⟨_, rfl⟩
  rw [← hg] at K1 ⊢
  clear hg
  generalize w.alloc _ = w1 at K1 ⊢
  have c0 := K1.out.c 0 _ rfl
  have c1 := K1.out.c 1 _ rfl
  have c2 := K1.out.c 2 _ rfl
  have c3 := K1.out.c 3 _ rfl
  have c4 := K1.out.c 4 _ rfl
  have c5 := K1.out.c 5 _ rfl
  go_wp2_with fail
  refine (rgood_is (w := w1) NA.out MA.out (LA.out.on K1.out.old) EA.out).mono ?_
  rintro e w2 ⟨rfl, hb⟩
  clear c0 c1 c2 c3 c4 c5
  replace K1 := Lib.hid (K1.out.on hb)
  clear hb
  have c0 := K1.out.c 0 _ rfl
  have c1 := K1.out.c 1 _ rfl
  have c2 := K1.out.c 2 _ rfl
  have c3 := K1.out.c 3 _ rfl
  have c4 := K1.out.c 4 _ rfl
  have c5 := K1.out.c 5 _ rfl
  cases ga
  case false =>
    go_wp2
    go_ret
    exact ⟨by rw [← HR.out]; simp, K1.out.old⟩
  case true =>
    by_cases hn0 : nb = 0
    case pos =>
      have hn1 : (nb : Int) = 0 := by omega
      go_wp2_with fail
      refine (within_at (x := x) 0 3 rfl rfl EX.out _).mono ?_
      rintro e w3 ⟨rfl, hb⟩
      clear c0 c1 c2 c3 c4 c5
      replace K1 := Lib.hid (K1.out.on hb)
      clear hb
      have c0 := K1.out.c 0 _ rfl
      have c1 := K1.out.c 1 _ rfl
      have c2 := K1.out.c 2 _ rfl
      have c3 := K1.out.c 3 _ rfl
      have c4 := K1.out.c 4 _ rfl
      have c5 := K1.out.c 5 _ rfl
      cases bx
      case false =>
        go_wp2
        go_ret
        exact ⟨by rw [← HR.out]; simp [*], K1.out.old⟩
      case true =>
        by_cases hy0 : y = 0
        case pos =>
          by_cases hz0 : z = 0
          · have hz1 : (z : Int) = 0 := by omega
            go_wp2
            go_ret
            exact ⟨by rw [← HR.out]; simp [*], K1.out.old⟩
          · have hz1 : ¬ (z : Int) = 0 := by omega
            go_wp2
            go_ret
            exact ⟨by rw [← HR.out]; simp [*], K1.out.old⟩
        case neg =>
          go_wp2
          go_ret
          exact ⟨by rw [← HR.out]; simp [*], K1.out.old⟩
    case neg =>
      have hn1 : ¬ (nb : Int) = 0 := by omega
      go_wp2
      go_ret
      exact ⟨by rw [← HR.out]; simp [hn0], K1.out.old⟩
set_option maxHeartbeats 8000000 in
theorem rgood_13 {x y : Int} {a l : List Int} {z : Nat} {A B : Option Addr} {na ca nb cb : Nat} {ga r : Bool} {w : World} (ha : na = a.length) (hb : nb = l.length) (la : na ≤ 1000000) (lb : nb ≤ 1000000) (hA : IntsAt w w.heap.size A a) (hB : IntsAt w w.heap.size B l) (hga : pgood a = ga)
    (hr : (ga && (decide (nb = 0) && (decide (x = 0) && (decide (y = 0) && decide (z = 0))))) = r) : Calls Tryd.prog 16 #[.agg #[.int .i64 13, .slice A na ca, .slice B nb cb, .int .i64 x, .int .i64 y, .int .u64 (z : Int)]] w fun e w' => e = .returned (.bool r) ∧ Below w.heap.size w w' := by
  have K1 := Lib.hid (Bxs.new w [.int .i64 13, .slice A na ca, .slice B nb cb, .int .i64 x, .int .i64 y, .int .u64 (z : Int)] 39)
  have LA := Lib.hid hA
  have LB := Lib.hid hB
  have NA := Lib.hid ha
  have NB := Lib.hid hb
  have MA := Lib.hid la
  have MB := Lib.hid lb
  have HR := Lib.hid hr
  have EA := Lib.hid hga
  clear ha hb la lb hA hB hr hga
  go_enter Tryd.func16, Tryd.ntmps16
  go_wp2_with fail
  obtain ⟨g, hg⟩ : ∃ g, g = w.heap.size := ⟨_, rfl⟩
  rw [← hg] at K1 ⊢
  clear hg
  generalize w.alloc _ = w1 at K1 ⊢
  have c0 := K1.out.c 0 _ rfl
  have c1 := K1.out.c 1 _ rfl
  have c2 := K1.out.c 2 _ rfl
  have c3 := K1.out.c 3 _ rfl
  have c4 := K1.out.c 4 _ rfl
  have c5 := K1.out.c 5 _ rfl
  go_wp2_with fail
  refine (rgood_is (w := w1) NA.out MA.out (LA.out.on K1.out.old) EA.out).mono ?_
  rintro e w2 ⟨rfl, hb⟩
  clear c0 c1 c2 c3 c4 c5
  replace K1 := Lib.hid (K1.out.on hb)
  clear hb
  have c0 := K1.out.c 0 _ rfl
  have c1 := K1.out.c 1 _ rfl
  have c2 := K1.out.c 2 _ rfl
  have c3 := K1.out.c 3 _ rfl
  have c4 := K1.out.c 4 _ rfl
  have c5 := K1.out.c 5 _ rfl
  cases ga
  case false =>
    go_wp2
    go_ret
    exact ⟨by rw [← HR.out]; simp, K1.out.old⟩
  case true =>
    by_cases hn0 : nb = 0
    case pos =>
      have hn1 : (nb : Int) = 0 := by omega
      by_cases hx0 : x = 0
      case pos =>
        by_cases hy0 : y = 0
        case pos =>
          by_cases hz0 : z = 0
          · have hz1 : (z : Int) = 0 := by omega
            go_wp2
            go_ret
            exact ⟨by rw [← HR.out]; simp [*], K1.out.old⟩
          · have hz1 : ¬ (z : Int) = 0 := by omega
            go_wp2
            go_ret
            exact ⟨by rw [← HR.out]; simp [*], K1.out.old⟩
        case neg =>
          go_wp2
          go_ret
          exact ⟨by rw [← HR.out]; simp [*], K1.out.old⟩
      case neg =>
        go_wp2
        go_ret
        exact ⟨by rw [← HR.out]; simp [*], K1.out.old⟩
    case neg =>
      have hn1 : ¬ (nb : Int) = 0 := by omega
      go_wp2
      go_ret
      exact ⟨by rw [← HR.out]; simp [hn0], K1.out.old⟩
end Go.Proofs.YtfcifheejjppfaaDoor
