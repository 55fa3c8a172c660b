/-
  The walks of the reference's GoodCall (whole), CallWords. Conditions: the ways lie in memory, of at most a million steps.
-/
import Derived.Test.YtfcifheejjppfaaDoorAq
namespace Go.Proofs.YtfcifheejjppfaaDoor
open Go.RowKit

theorem cgood_k {k : Nat} (h1 : 1 ≤ k) (h2 : k ≤ 13) (a l : List Int) (x y : Int) (z : Nat) : cgood ⟨k, a, l, x, y, z⟩ = (pgood a && fits (forms k) ⟨k, a, l, x, y, z⟩) := by
  unfold cgood
  rw [show fmOf (k : Int) = some (forms k) from fm_at h1 h2]
theorem cg_1 (a l : List Int) (x y : Int) (z : Nat) : cgood ⟨1, a, l, x, y, z⟩ = (pgood a && (pgood l && (inSpan 1 5 x && (inSpan 0 4096 y && decide (z = 0))))) := by
  refine (cgood_k (k := 1) (by decide) (by decide) a l x y z).trans ?_
  show (pgood a && (inSpan 1 3 (l.length : Int) && ((decide (l.length = 0) || pgood l) && (inSpan 1 5 x && (inSpan 0 4096 y && (false || decide (z = 0))))))) = _
  rw [← Bool.and_assoc (inSpan 1 3 (l.length : Int)), span_way]
  rfl
theorem cg_2 (a l : List Int) (x y : Int) (z : Nat) : cgood ⟨2, a, l, x, y, z⟩ = (pgood a && (pgood l && (inSpan 0 7 x && (decide (y = 0) && decide (z = 0))))) := by
  refine (cgood_k (k := 2) (by decide) (by decide) a l x y z).trans ?_
  show (pgood a && (inSpan 1 3 (l.length : Int) && ((decide (l.length = 0) || pgood l) && (inSpan 0 7 x && (inSpan 0 0 y && (false || decide (z = 0))))))) = _
  rw [← Bool.and_assoc (inSpan 1 3 (l.length : Int)), span_way, span_zero y]
  rfl
theorem cg_3 (a l : List Int) (x y : Int) (z : Nat) : cgood ⟨3, a, l, x, y, z⟩ = (pgood a && (pgood l && (inSpan 0 7 x && (inSpan 1 65535 y && decide (z = 0))))) := by
  refine (cgood_k (k := 3) (by decide) (by decide) a l x y z).trans ?_
  show (pgood a && (inSpan 1 3 (l.length : Int) && ((decide (l.length = 0) || pgood l) && (inSpan 0 7 x && (inSpan 1 65535 y && (false || decide (z = 0))))))) = _
  rw [← Bool.and_assoc (inSpan 1 3 (l.length : Int)), span_way]
  rfl
theorem cg_4 (a l : List Int) (x y : Int) (z : Nat) : cgood ⟨4, a, l, x, y, z⟩ = (pgood a && (pgood l && (decide (x = 0) && (decide (y = 0) && decide (z = 0))))) := by
  refine (cgood_k (k := 4) (by decide) (by decide) a l x y z).trans ?_
  show (pgood a && (inSpan 1 3 (l.length : Int) && ((decide (l.length = 0) || pgood l) && (inSpan 0 0 x && (inSpan 0 0 y && (false || decide (z = 0))))))) = _
  rw [← Bool.and_assoc (inSpan 1 3 (l.length : Int)), span_way, span_zero x, span_zero y]
  rfl
theorem cg_5 (a l : List Int) (x y : Int) (z : Nat) : cgood ⟨5, a, l, x, y, z⟩ = (pgood a && (decide (l.length = 0) && (decide (x = 0) && (decide (y = 0) && decide (z = 0))))) := by
  refine (cgood_k (k := 5) (by decide) (by decide) a l x y z).trans ?_
  show (pgood a && (inSpan 0 0 (l.length : Int) && ((decide (l.length = 0) || pgood l) && (inSpan 0 0 x && (inSpan 0 0 y && (false || decide (z = 0))))))) = _
  rw [← Bool.and_assoc (inSpan 0 0 (l.length : Int)), span_no, span_zero x, span_zero y]
  rfl
theorem cg_6 (a l : List Int) (x y : Int) (z : Nat) : cgood ⟨6, a, l, x, y, z⟩ = (pgood a && (decide (l.length = 0) && (decide (x = 0) && (decide (y = 0) && decide (z = 0))))) := by
  refine (cgood_k (k := 6) (by decide) (by decide) a l x y z).trans ?_
  show (pgood a && (inSpan 0 0 (l.length : Int) && ((decide (l.length = 0) || pgood l) && (inSpan 0 0 x && (inSpan 0 0 y && (false || decide (z = 0))))))) = _
  rw [← Bool.and_assoc (inSpan 0 0 (l.length : Int)), span_no, span_zero x, span_zero y]
  rfl
theorem cg_7 (a l : List Int) (x y : Int) (z : Nat) : cgood ⟨7, a, l, x, y, z⟩ = (pgood a && ((decide (l.length = 0) || pgood l) && (decide (x = 0) && (decide (y = 0) && true)))) := by
  refine (cgood_k (k := 7) (by decide) (by decide) a l x y z).trans ?_
  show (pgood a && (inSpan 0 3 (l.length : Int) && ((decide (l.length = 0) || pgood l) && (inSpan 0 0 x && (inSpan 0 0 y && (true || decide (z = 0))))))) = _
  rw [← Bool.and_assoc (inSpan 0 3 (l.length : Int)), span_may, span_zero x, span_zero y]
  rfl
theorem cg_8 (a l : List Int) (x y : Int) (z : Nat) : cgood ⟨8, a, l, x, y, z⟩ = (pgood a && ((decide (l.length = 0) || pgood l) && (decide (x = 0) && (decide (y = 0) && decide (z = 0))))) := by
  refine (cgood_k (k := 8) (by decide) (by decide) a l x y z).trans ?_
  show (pgood a && (inSpan 0 3 (l.length : Int) && ((decide (l.length = 0) || pgood l) && (inSpan 0 0 x && (inSpan 0 0 y && (false || decide (z = 0))))))) = _
  rw [← Bool.and_assoc (inSpan 0 3 (l.length : Int)), span_may, span_zero x, span_zero y]
  rfl
theorem cg_9 (a l : List Int) (x y : Int) (z : Nat) : cgood ⟨9, a, l, x, y, z⟩ = (pgood a && (decide (l.length = 0) && (decide (x = 0) && (decide (y = 0) && decide (z = 0))))) := by
  refine (cgood_k (k := 9) (by decide) (by decide) a l x y z).trans ?_
  show (pgood a && (inSpan 0 0 (l.length : Int) && ((decide (l.length = 0) || pgood l) && (inSpan 0 0 x && (inSpan 0 0 y && (false || decide (z = 0))))))) = _
  rw [← Bool.and_assoc (inSpan 0 0 (l.length : Int)), span_no, span_zero x, span_zero y]
  rfl
theorem cg_10 (a l : List Int) (x y : Int) (z : Nat) : cgood ⟨10, a, l, x, y, z⟩ = (pgood a && (decide (l.length = 0) && (decide (x = 0) && (decide (y = 0) && decide (z = 0))))) := by
  refine (cgood_k (k := 10) (by decide) (by decide) a l x y z).trans ?_
  show (pgood a && (inSpan 0 0 (l.length : Int) && ((decide (l.length = 0) || pgood l) && (inSpan 0 0 x && (inSpan 0 0 y && (false || decide (z = 0))))))) = _
  rw [← Bool.and_assoc (inSpan 0 0 (l.length : Int)), span_no, span_zero x, span_zero y]
  rfl
theorem cg_11 (a l : List Int) (x y : Int) (z : Nat) : cgood ⟨11, a, l, x, y, z⟩ = (pgood a && (decide (l.length = 0) && (inSpan 0 3 x && (decide (y = 0) && true)))) := by
  refine (cgood_k (k := 11) (by decide) (by decide) a l x y z).trans ?_
  show (pgood a && (inSpan 0 0 (l.length : Int) && ((decide (l.length = 0) || pgood l) && (inSpan 0 3 x && (inSpan 0 0 y && (true || decide (z = 0))))))) = _
  rw [← Bool.and_assoc (inSpan 0 0 (l.length : Int)), span_no, span_zero y]
  rfl
theorem cg_12 (a l : List Int) (x y : Int) (z : Nat) : cgood ⟨12, a, l, x, y, z⟩ = (pgood a && (decide (l.length = 0) && (inSpan 0 3 x && (decide (y = 0) && decide (z = 0))))) := by
  refine (cgood_k (k := 12) (by decide) (by decide) a l x y z).trans ?_
  show (pgood a && (inSpan 0 0 (l.length : Int) && ((decide (l.length = 0) || pgood l) && (inSpan 0 3 x && (inSpan 0 0 y && (false || decide (z = 0))))))) = _
  rw [← Bool.and_assoc (inSpan 0 0 (l.length : Int)), span_no, span_zero y]
  rfl
theorem cg_13 (a l : List Int) (x y : Int) (z : Nat) : cgood ⟨13, a, l, x, y, z⟩ = (pgood a && (decide (l.length = 0) && (decide (x = 0) && (decide (y = 0) && decide (z = 0))))) := by
  refine (cgood_k (k := 13) (by decide) (by decide) a l x y z).trans ?_
  show (pgood a && (inSpan 0 0 (l.length : Int) && ((decide (l.length = 0) || pgood l) && (inSpan 0 0 x && (inSpan 0 0 y && (false || decide (z = 0))))))) = _
  rw [← Bool.and_assoc (inSpan 0 0 (l.length : Int)), span_no, span_zero x, span_zero y]
  rfl
theorem rgood_bad {o x y : Int} {z : Nat} {A B : Option Addr} {na ca nb cb : Nat} {w : World} (h : ¬ (1 ≤ o ∧ o ≤ 13)) : Calls Tryd.prog 16 #[.agg #[.int .i64 o, .slice A na ca, .slice B nb cb, .int .i64 x, .int .i64 y, .int .u64 (z : Int)]] w fun e w' => e = .returned (.bool false) ∧ Below w.heap.size w w' := by
  have HB := Lib.hid (below_alloc w (.cells #[.int .i64 o, .slice A na ca, .slice B nb cb, .int .i64 x, .int .i64 y, .int .u64 (z : Int)] 39))
  by_cases h1 : o < 1
  · go_enter Tryd.func16, Tryd.ntmps16
    go_wp2
    go_ret
    exact ⟨rfl, HB.out⟩
  · have h2 : 13 < o := by omega
    go_enter Tryd.func16, Tryd.ntmps16
    go_wp2
    go_ret
    exact ⟨rfl, HB.out⟩
theorem rcgood_at {o x y : Int} {a l : List Int} {z : Nat} {A B : Option Addr} {na ca nb cb : Nat} {r : Bool} {w : World} (ha : na = a.length) (hb : nb = l.length) (la : na ≤ 1000000) (lb : nb ≤ 1000000) (hA : IntsAt w w.heap.size A a) (hB : IntsAt w w.heap.size B l) (hr : cgood ⟨o, a, l, x, y, z⟩ = r) :
    Calls Tryd.prog 16 #[.agg #[.int .i64 o, .slice A na ca, .slice B nb cb, .int .i64 x, .int .i64 y, .int .u64 (z : Int)]] w fun e w' => e = .returned (.bool r) ∧ Below w.heap.size w w' := by
  subst ha hb
  by_cases h : 1 ≤ o ∧ o ≤ 13
  · obtain ⟨k, rfl⟩ : ∃ k : Nat, o = k := ⟨o.toNat, by omega⟩
    have h1 : 1 ≤ k := by omega
    have h2 : k ≤ 13 := by omega
    clear h
    match k, h1, h2, hr with
    | 1, _, _, hr => exact rgood_1 rfl rfl la lb hA hB rfl rfl rfl rfl ((cg_1 a l x y z).symm.trans hr)
    | 2, _, _, hr => exact rgood_2 rfl rfl la lb hA hB rfl rfl rfl ((cg_2 a l x y z).symm.trans hr)
    | 3, _, _, hr => exact rgood_3 rfl rfl la lb hA hB rfl rfl rfl rfl ((cg_3 a l x y z).symm.trans hr)
    | 4, _, _, hr => exact rgood_4 rfl rfl la lb hA hB rfl rfl ((cg_4 a l x y z).symm.trans hr)
    | 5, _, _, hr => exact rgood_5 rfl rfl la lb hA hB rfl ((cg_5 a l x y z).symm.trans hr)
    | 6, _, _, hr => exact rgood_6 rfl rfl la lb hA hB rfl ((cg_6 a l x y z).symm.trans hr)
    | 7, _, _, hr => exact rgood_7 rfl rfl la lb hA hB rfl rfl ((cg_7 a l x y z).symm.trans hr)
    | 8, _, _, hr => exact rgood_8 rfl rfl la lb hA hB rfl rfl ((cg_8 a l x y z).symm.trans hr)
    | 9, _, _, hr => exact rgood_9 rfl rfl la lb hA hB rfl ((cg_9 a l x y z).symm.trans hr)
    | 10, _, _, hr => exact rgood_10 rfl rfl la lb hA hB rfl ((cg_10 a l x y z).symm.trans hr)
    | 11, _, _, hr => exact rgood_11 rfl rfl la lb hA hB rfl rfl ((cg_11 a l x y z).symm.trans hr)
    | 12, _, _, hr => exact rgood_12 rfl rfl la lb hA hB rfl rfl ((cg_12 a l x y z).symm.trans hr)
    | 13, _, _, hr => exact rgood_13 rfl rfl la lb hA hB rfl ((cg_13 a l x y z).symm.trans hr)
  · have e : r = false := by
      rw [← hr]
      unfold cgood
      rw [show fmOf o = none from if_neg h]
    subst e
    exact rgood_bad h
/-- the word of a way that may have no steps -/
theorem rbword_is {A : Option Addr} {n cap p : Nat} {l : List Int} {w : World} (hn : n = l.length) (hl : n ≤ 1000000) (hL : IntsAt w w.heap.size A l) (hp : bword l = p) :
    Calls Tryd.prog 36 #[.slice A n cap] w fun e w' => (∃ ok, e = .returned (.tuple #[.int .u64 (p : Int), .bool ok])) ∧ Below w.heap.size w w' := by
  subst hp
  unfold bword
  cases hg : pgood l
  · refine (rpword_no hn hl hL hg).mono ?_
    rintro e w' ⟨rfl, hb⟩
    exact ⟨⟨_, rfl⟩, hb⟩
  · refine (rpword_yes hn hL hg).mono ?_
    rintro e w' ⟨rfl, hb⟩
    exact ⟨⟨_, rfl⟩, hb⟩
theorem big_in {n : Nat} (h : n < 4398046511104) : wrap64 (n : Int) = n := by unfold wrap64; omega
theorem u64_big {n : Nat} (h : n < 4398046511104) : IntKind.u64.wrap (n : Int) = n := u64_in (by omega) (by omega)
theorem mul_in {x p m : Nat} (h : x * m = p) (hp : p < 4398046511104) : wrap64 ((x : Int) * (m : Int)) = (p : Int) := by
  rw [show (x : Int) * (m : Int) = ((x * m : Nat) : Int) by simp, h]
  exact big_in hp
theorem add_in {x y p : Nat} (h : x + y = p) (hp : p < 4398046511104) : wrap64 ((x : Int) + (y : Int)) = (p : Int) := by
  rw [show (x : Int) + (y : Int) = ((x + y : Nat) : Int) by simp, h]
  exact big_in hp
theorem sums_in {k x y p1 p2 p3 p4 p5 : Nat} (hk : k < 256) (hx : x < 65536) (hy : y < 65536) (h1 : x * 256 = p1) (h2 : k + p1 = p2) (h3 : y * 256 = p3) (h4 : p3 * 65536 = p4) (h5 : p2 + p4 = p5) : p1 < 4398046511104 ∧ p2 < 4398046511104 ∧ p3 < 4398046511104 ∧ p4 < 4398046511104 ∧ p5 < 4398046511104 := by
  have a1 : p1 < 16777216 := by omega
  have a3 : p3 < 16777216 := by omega
  have a2 : p2 < 16777472 := by omega
  have a4 : p4 < 1099511627776 := by omega
  omega
theorem rcwords_none {o x y : Int} {a l : List Int} {z : Nat} {A B : Option Addr} {na ca nb cb : Nat} {w : World} (ha : na = a.length) (hb : nb = l.length) (la : na ≤ 1000000) (lb : nb ≤ 1000000) (hA : IntsAt w w.heap.size A a) (hB : IntsAt w w.heap.size B l) (hg : cgood ⟨o, a, l, x, y, z⟩ = false) :
    Calls Tryd.prog 17 #[.agg #[.int .i64 o, .slice A na ca, .slice B nb cb, .int .i64 x, .int .i64 y, .int .u64 (z : Int)]] w fun e w' => e = .returned (.slice none 0 0) ∧ Below w.heap.size w w' := by
  have HB := Lib.hid (below_alloc w (.cells #[.int .i64 o, .slice A na ca, .slice B nb cb, .int .i64 x, .int .i64 y, .int .u64 (z : Int)] 39))
  have LA := Lib.hid hA
  have LB := Lib.hid hB
  have NA := Lib.hid ha
  have NB := Lib.hid hb
  have MA := Lib.hid la
  have MB := Lib.hid lb
  have HG := Lib.hid hg
  clear ha hb la lb hA hB hg
  go_enter Tryd.func17, Tryd.ntmps17
  go_wp2_with fail
  generalize w.alloc _ = w1 at HB ⊢
  refine (rcgood_at (w := w1) NA.out NB.out MA.out MB.out (LA.out.on HB.out) (LB.out.on HB.out) HG.out).mono ?_
  rintro e w2 ⟨rfl, hb⟩
  replace HB := Lib.hid (below_on HB.out hb)
  clear hb
  go_wp2
  go_ret
  exact ⟨rfl, HB.out⟩
set_option maxHeartbeats 4000000 in
theorem rcwords_some {k x y : Nat} {a l : List Int} {z pa pb p1 p2 p3 p4 p5 : Nat} {A B : Option Addr} {na ca nb cb : Nat} {w : World} (ha : na = a.length) (hb : nb = l.length) (la : na ≤ 1000000) (lb : nb ≤ 1000000) (hA : IntsAt w w.heap.size A a) (hB : IntsAt w w.heap.size B l) (hg : cgood ⟨k, a, l, x, y, z⟩ = true)
    (hk : k < 256) (hx : x < 65536) (hy : y < 65536) (hpa : bword a = pa) (hpb : bword l = pb) (h1 : x * 256 = p1) (h2 : k + p1 = p2) (h3 : y * 256 = p3) (h4 : p3 * 65536 = p4) (h5 : p2 + p4 = p5) :
    Calls Tryd.prog 17 #[.agg #[.int .i64 (k : Int), .slice A na ca, .slice B nb cb, .int .i64 (x : Int), .int .i64 (y : Int), .int .u64 (z : Int)]] w fun e w' => ∃ g, e = .returned (.slice (some ⟨g, 0, none⟩) 4 4) ∧ Wbs w w' g [.int .u64 (p5 : Int), .int .u64 (pa : Int), .int .u64 (pb : Int), .int .u64 (z : Int)] := by
  have K1 := Lib.hid (Bxs.new w [.int .i64 (k : Int), .slice A na ca, .slice B nb cb, .int .i64 (x : Int), .int .i64 (y : Int), .int .u64 (z : Int)] 39)
  have LA := Lib.hid hA
  have LB := Lib.hid hB
  have NA := Lib.hid ha
  have NB := Lib.hid hb
  have MA := Lib.hid la
  have MB := Lib.hid lb
  have HG := Lib.hid hg
  have HPA := Lib.hid hpa
  have HPB := Lib.hid hpb
  obtain ⟨q1, q2, q3, q4, q5⟩ := sums_in hk hx hy h1 h2 h3 h4 h5
  have e1 : wrap64 ((x : Int) * 256) = (p1 : Int) := mul_in h1 q1
  have e2 : wrap64 ((k : Int) + (p1 : Int)) = (p2 : Int) := add_in h2 q2
  have e3 : wrap64 ((y : Int) * 256) = (p3 : Int) := mul_in h3 q3
  have e4 : wrap64 ((p3 : Int) * 65536) = (p4 : Int) := mul_in h4 q4
  have e5 : wrap64 ((p2 : Int) + (p4 : Int)) = (p5 : Int) := add_in h5 q5
  have e6 : IntKind.u64.wrap (p5 : Int) = (p5 : Int) := u64_big q5
  clear q1 q2 q3 q4 q5
  clear ha hb la lb hA hB hg hpa hpb hk hx hy h1 h2 h3 h4 h5
  go_enter Tryd.func17, Tryd.ntmps17
  go_wp2_with fail
  obtain ⟨g, hg⟩ : ∃ g, g = w.heap.size := ⟨_, rfl⟩
  rw [← hg] at K1 ⊢
  clear hg
  generalize w.alloc _ = w1 at K1 ⊢
  refine (rcgood_at (w := w1) NA.out NB.out MA.out MB.out (LA.out.on K1.out.old) (LB.out.on K1.out.old) HG.out).mono ?_
  rintro e w2 ⟨rfl, hb⟩
  replace K1 := Lib.hid (K1.out.on hb)
  clear hb
  have c1 := K1.out.c 1 _ rfl
  go_wp2_with fail
  refine (rbword_is (w := w2) NA.out MA.out (LA.out.on K1.out.old) HPA.out).mono ?_
  rintro e w3 ⟨⟨ok, rfl⟩, hb⟩
  clear c1
  replace K1 := Lib.hid (K1.out.on hb)
  clear hb
  have c2 := K1.out.c 2 _ rfl
  go_wp2_with fail
  refine (rbword_is (w := w3) NB.out MB.out (LB.out.on K1.out.old) HPB.out).mono ?_
  rintro e w4 ⟨⟨ok2, rfl⟩, hb⟩
  clear c2
  replace K1 := Lib.hid (K1.out.on hb)
  clear hb
  have c0 := K1.out.c 0 _ rfl
  have c3 := K1.out.c 3 _ rfl
  have c4 := K1.out.c 4 _ rfl
  have c5 := K1.out.c 5 _ rfl
  go_wp2
  go_ret
  exact ⟨_, rfl, Wbs.more (W := w) K1.out.old [.int .u64 (p5 : Int), .int .u64 (pa : Int), .int .u64 (pb : Int), .int .u64 (z : Int)] 27⟩
theorem rcwords_at {c : Cl} {v : Value} {q : List Nat} {w : World} (h : ClAt w v c) (la : c.a.length ≤ 1000000) (lb : c.b.length ≤ 1000000) (hq : cwords c = q) :
    Calls Tryd.prog 17 #[v] w fun e w' => (∃ v, e = .returned v ∧ Words w' v (q.map fun (n : Nat) => (n : Int)) ∧ ∀ a n m, v = .slice (some a) n m → w.heap.size ≤ a.block) ∧ Below w.heap.size w w' := by
  subst hq
  obtain ⟨A, ca, B, cb, rfl, hA, hB⟩ := h
  cases hg : cgood c
  · have e : cwords c = [] := by simp [cwords, hg]
    rw [e]
    refine (rcwords_none (a := c.a) (l := c.b) rfl rfl la lb hA hB hg).mono ?_
    rintro e w' ⟨rfl, hb⟩
    exact ⟨⟨_, rfl, words_none w' 0, fun a n m e => by cases e⟩, hb⟩
  · obtain ⟨k, hk, h1, h2, -, ha, hf⟩ := cgood_some hg
    have F := fits_fit hf
    have hl := forms_le k (by omega)
    obtain ⟨o, a, b, x, y, z⟩ := c
    obtain ⟨X, rfl⟩ : ∃ X : Nat, x = X := ⟨x.toNat, by have := F.x; simp at this; omega⟩
    obtain ⟨Y, rfl⟩ : ∃ Y : Nat, y = Y := ⟨y.toNat, by have := F.y; simp at this; omega⟩
    obtain rfl : o = k := hk
    have e : cwords ⟨(k : Int), a, b, X, Y, z⟩ = [k + X * 256 + Y * 256 * 65536, bword a, bword b, z] := by
      rw [cwords, if_pos hg, show bword a = pword a from if_pos ha]
      have : k + 256 * X + 16777216 * Y = k + X * 256 + Y * 256 * 65536 := by omega
      rw [← this]
      rfl
    rw [e]
    refine (rcwords_some (A := A) (B := B) (ca := ca) (cb := cb) rfl rfl la lb hA hB hg (by omega) (by have := F.x; simp at this; omega) (by have := F.y; simp at this; omega) rfl rfl rfl rfl rfl rfl rfl).mono ?_
    rintro e w' ⟨g, rfl, hw⟩
    exact ⟨⟨_, rfl, cells_words (l := [k + X * 256 + Y * 256 * 65536, bword a, bword b, z]) hw 4 (by simp), fun a n m e => by injection e with e; injection e with e; subst e; exact hw.bx.base⟩, hw.bx.old⟩
theorem rgoodc_at {c : Cl} {v : Value} {r : Bool} {w : World} (h : ClAt w v c) (la : c.a.length ≤ 1000000) (lb : c.b.length ≤ 1000000) (hr : cgood c = r) :
    Calls Tryd.prog 16 #[v] w fun e w' => e = .returned (.bool r) ∧ Below w.heap.size w w' := by
  obtain ⟨A, ca, B, cb, rfl, hA, hB⟩ := h
  exact rcgood_at rfl rfl la lb hA hB hr
end Go.Proofs.YtfcifheejjppfaaDoor
