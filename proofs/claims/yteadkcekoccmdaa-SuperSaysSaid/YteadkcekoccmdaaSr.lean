/-
  The walk of the reference's Find. Condition: the list lies in memory, its words are words.
-/
import Derived.Test.YteadkcekoccmdaaSq
import Derived.Test.YteadkcekoccmdaaSf
namespace Go.Proofs.Yteadkcekoccmdaa
open Go.RowKit

set_option maxHeartbeats 1000000 in
theorem rfind_off (A : Option Addr) (n cap : Nat) (w : World) (h : ¬ (8 ≤ n ∧ n % 8 = 0)) (hn : n ≤ maxLen) :
    Calls Try.prog 14 #[.slice A n cap] w fun e w' => e = .returned (.tuple #[sval zsp, .bool false, .bool false]) ∧ Below w.heap.size w w' := by
  unfold maxLen at hn
  by_cases h1 : 8 ≤ n
  · have d1 : decide ((n : Int) < 8) = false := decide_eq_false (by omega)
    have d2 : ((n : Int) % 8 != 0) = true := by simp; omega
    clear h h1
    go_enter Try.func14, Try.ntmps14
    go_wp2
    go_returns
    exact ⟨rfl, below_alloc _ _⟩
  · have d1 : decide ((n : Int) < 8) = true := decide_eq_true (by omega)
    clear h h1
    go_enter Try.func14, Try.ntmps14
    go_wp2
    go_returns
    exact ⟨rfl, below_alloc _ _⟩

theorem rrows_to {t s k r : Int} (h : Gd.rows ⟨t, s, k⟩ = r) (w : World) : Calls Try.prog 23 #[.agg #[.int .i64 t, .int .i64 s, .int .i64 k]] w fun e w' => e = .returned (.int .i64 r) ∧ Below w.heap.size w w' := by
  subst h
  exact rrows_any ⟨t, s, k⟩ w
theorem rows_range (g : Gd) : 0 ≤ g.rows ∧ g.rows ≤ 1000 := by
  unfold Gd.rows
  split
  · rename_i h
    obtain ⟨h1, h2, h3, h4, h5, h6, h7⟩ := Gd.ok_iff.1 h
    unfold Gd.copy0 Gd.thing0 Gd.slot0
    omega
  · omega

/-- the result, the first and the last superblock; what was before stands -/
structure Kf (W : World) (r a b : Nat) (x y : Sp) (w : World) : Prop where
  res : Bs w r zsp
  one : Bs w a x
  two : Bs w b y
  base : W.heap.size ≤ r
  old : Below W.heap.size W w
theorem Kf.on {W w w' : World} {r a b : Nat} {x y : Sp} (h : Kf W r a b x y w) (hb : Below w.heap.size w w') : Kf W r a b x y w' := ⟨h.res.on hb, h.one.on hb, h.two.on hb, h.base, below_on h.old hb⟩

set_option maxHeartbeats 2000000 in
theorem rfind_on (A : Option Addr) (cap : Nat) (l : List Int) (w : World) (h8 : 8 ≤ l.length ∧ l.length % 8 = 0) (hl : l.length ≤ maxLen) (hcap : l.length ≤ cap) (hL : WordsAt w w.heap.size A l) (hW : Wds l) :
    Calls Try.prog 14 #[.slice A l.length cap] w fun e w' => e = .returned (.tuple #[sval (find l), .bool (first l), .bool (back l)]) ∧ Below w.heap.size w w' := by
  obtain ⟨g, o, rfl, hlt, -⟩ := hL (by omega)
  have hok : Ok l = true := decide_eq_true h8
  obtain ⟨x, hx⟩ : ∃ x, get (heads l) = x := ⟨_, rfl⟩
  obtain ⟨y, hy⟩ : ∃ y, get (tails l) = y := ⟨_, rfl⟩
  obtain ⟨r1, hr1⟩ : ∃ p, got (heads l) = p := ⟨_, rfl⟩
  obtain ⟨r2, hr2⟩ : ∃ q, got (tails l) = q := ⟨_, rfl⟩
  obtain ⟨p, hp⟩ : ∃ p, first l = p := ⟨_, rfl⟩
  obtain ⟨q, hq⟩ : ∃ q, back l = q := ⟨_, rfl⟩
  obtain ⟨R1, hR1⟩ : ∃ R, x.g.rows = R := ⟨_, rfl⟩
  obtain ⟨R2, hR2⟩ : ∃ R, y.g.rows = R := ⟨_, rfl⟩
  have hpe : p = (r1 && decide (8 * R1 = (l.length : Int))) := by
    rw [← hp]
    unfold first fits
    rw [hok, hr1, hx, hR1, Bool.true_and]
    exact congrArg (r1 && ·) (decide_eq_decide.2 (by omega))
  have hqe : q = (r2 && decide (8 * R2 = (l.length : Int))) := by
    rw [← hq]
    unfold back fits
    rw [hok, hr2, hy, hR2, Bool.true_and]
    exact congrArg (r2 && ·) (decide_eq_decide.2 (by omega))
  have hfind : find l = if p = true then x else if q = true then y else zsp := by
    unfold find
    rw [hp, hq, hx, hy]
  rw [hp, hq, hfind]
  have hb1 := rows_range x.g
  have hb2 := rows_range y.g
  rw [hR1] at hb1
  rw [hR2] at hb2
  clear hfind hok hp hq
  obtain ⟨⟨t, s, k⟩, b⟩ := x
  obtain ⟨⟨t', s', k'⟩, b'⟩ := y
  have R0 : Hid (Bs (w.alloc (.cells #[.int .i64 0, .int .i64 0, .int .i64 0, .int .u64 0] 38)) w.heap.size zsp) := Lib.hid (Bs.new w zsp 38)
  have B0 := Lib.hid (below_alloc w (.cells #[.int .i64 0, .int .i64 0, .int .i64 0, .int .u64 0] 38))
  have L0 := Lib.hid hL
  have HW := Lib.hid hW
  obtain ⟨n, hn⟩ : ∃ n, n = l.length := ⟨_, rfl⟩
  have HN := Lib.hid hn
  rw [← hn] at h8 hl hcap hpe hqe ⊢
  have HX := Lib.hid hx
  have HY := Lib.hid hy
  have HR1 := Lib.hid hr1
  have HR2 := Lib.hid hr2
  have HP := Lib.hid hpe
  have HQ := Lib.hid hqe
  have HRo1 := Lib.hid hR1
  have HRo2 := Lib.hid hR2
  have HB1 := Lib.hid hb1
  have HB2 := Lib.hid hb2
  unfold maxLen at hl
  have d1 : decide ((n : Int) < 8) = false := decide_eq_false (by omega)
  have d2 : ((n : Int) % 8 != 0) = false := by simp; omega
  obtain ⟨h8, -⟩ := h8
  clear hn hx hy hr1 hr2 hpe hqe hL hW hlt hR1 hR2 hb1 hb2
  go_enter Try.func14, Try.ntmps14
  go_wp2_with fail
  refine (rget_to (heads_words (L0.out.grow B0.out) (by rw [← HN.out]; exact h8) (by rw [← HN.out]; exact hcap)) HW.out.heads HX.out HR1.out).mono ?_
  rintro e w1 ⟨rfl, hb⟩
  have R1' := Lib.hid ((R0.out.on hb).on (below_alloc w1 (.cells #[.int .i64 t, .int .i64 s, .int .i64 k, .int .u64 b] 38)))
  have B1 := Lib.hid (below_on (below_on B0.out hb) (below_alloc w1 (.cells #[.int .i64 t, .int .i64 s, .int .i64 k, .int .u64 b] 38)))
  have V1 : Hid (Bs (w1.alloc (.cells #[.int .i64 t, .int .i64 s, .int .i64 k, .int .u64 b] 38)) w1.heap.size ⟨⟨t, s, k⟩, b⟩) := Lib.hid (Bs.new w1 ⟨⟨t, s, k⟩, b⟩ 38)
  clear hb R0 B0
  go_wp2_with fail
  refine (rget_to (tails_words HN.out (L0.out.grow B1.out) h8 hcap) HW.out.tails HY.out HR2.out).mono ?_
  rintro e w2 ⟨rfl, hb⟩
  have hK : Kf w w.heap.size w1.heap.size w2.heap.size ⟨⟨t, s, k⟩, b⟩ ⟨⟨t', s', k'⟩, b'⟩ (w2.alloc (.cells #[.int .i64 t', .int .i64 s', .int .i64 k', .int .u64 b'] 38)) :=
    ⟨(R1'.out.on hb).on (below_alloc _ _), (V1.out.on hb).on (below_alloc _ _), Bs.new w2 ⟨⟨t', s', k'⟩, b'⟩ 38, Nat.le_refl _, below_on (below_on B1.out hb) (below_alloc _ _)⟩
  clear hb R1' B1 V1 d1 d2
  go_upto_region 5 with fail
  obtain ⟨w3, hw3⟩ : ∃ w3, w3 = w2.alloc (.cells #[.int .i64 t', .int .i64 s', .int .i64 k', .int .u64 b'] 38) := ⟨_, rfl⟩
  change Code.wp _ _ _ _ (w2.alloc (.cells #[.int .i64 t', .int .i64 s', .int .i64 k', .int .u64 b'] 38))
  rw [← hw3] at hK ⊢
  clear hw3
  obtain ⟨a1, ha1⟩ : ∃ a, a = w1.heap.size := ⟨_, rfl⟩
  obtain ⟨a2, ha2⟩ : ∃ a, a = w2.heap.size := ⟨_, rfl⟩
  rw [← ha1, ← ha2] at hK ⊢
  clear ha1 ha2
  have K3 := Lib.hid hK
  clear hK
  go_cut [6] from 34 to 43 (fun s6 wc => s6 = .bool p ∧ Kf w w.heap.size a1 a2 ⟨⟨t, s, k⟩, b⟩ ⟨⟨t', s', k'⟩, b'⟩ wc)
  case first =>
    rcases r1 with _ | _
    · go_wp2_with fail
      go_meet
      exact ⟨by rw [HP.out]; rfl, K3.out⟩
    · have c0 : w3.cell? ⟨a1, 0, none⟩ = some (.int .i64 t) := K3.out.one.t
      have c1 : w3.cell? ⟨a1, 1, none⟩ = some (.int .i64 s) := K3.out.one.s
      have c2 : w3.cell? ⟨a1, 2, none⟩ = some (.int .i64 k) := K3.out.one.k
      obtain ⟨z, hz⟩ : ∃ z, decide (8 * R1 = (n : Int)) = z := ⟨_, rfl⟩
      have hz2 : (8 * R1 == (n : Int)) = z := hz
      have hw : wrap64 (8 * R1) = 8 * R1 := by have := HB1.out; exact w64_in (by omega) (by omega)
      have HZ := Lib.hid hz
      clear hz
      go_wp2_with (go_at_call 23; (with_reducible refine (rrows_to HRo1.out _).mono ?_); rintro e w4 ⟨rfl, hb⟩; have K4 := Lib.hid (K3.out.on hb); clear hb)
      go_meet
      exact ⟨by rw [HP.out, HZ.out]; rfl, K4.out⟩
  case rest =>
  obtain ⟨rfl, hk⟩ := hcut
  clear K3
  have K4 := Lib.hid hk
  clear hk
  go_upto_region 6 with fail
  go_cut [8] from 44 to 53 (fun s8 wd => s8 = .bool q ∧ Kf w w.heap.size a1 a2 ⟨⟨t, s, k⟩, b⟩ ⟨⟨t', s', k'⟩, b'⟩ wd)
  case first =>
    rcases r2 with _ | _
    · go_wp2_with fail
      go_meet
      exact ⟨by rw [HQ.out]; rfl, K4.out⟩
    · have c0 : wc.cell? ⟨a2, 0, none⟩ = some (.int .i64 t') := K4.out.two.t
      have c1 : wc.cell? ⟨a2, 1, none⟩ = some (.int .i64 s') := K4.out.two.s
      have c2 : wc.cell? ⟨a2, 2, none⟩ = some (.int .i64 k') := K4.out.two.k
      obtain ⟨z, hz⟩ : ∃ z, decide (8 * R2 = (n : Int)) = z := ⟨_, rfl⟩
      have hz2 : (8 * R2 == (n : Int)) = z := hz
      have hw : wrap64 (8 * R2) = 8 * R2 := by have := HB2.out; exact w64_in (by omega) (by omega)
      have HZ := Lib.hid hz
      clear hz
      go_wp2_with (go_at_call 23; (with_reducible refine (rrows_to HRo2.out _).mono ?_); rintro e w4 ⟨rfl, hb⟩; have K5 := Lib.hid (K4.out.on hb); clear hb)
      go_meet
      exact ⟨by rw [HQ.out, HZ.out]; rfl, K5.out⟩
  case rest =>
  obtain ⟨rfl, hk⟩ := hcut
  clear K4
  have c0 : wc.cell? ⟨w.heap.size, 0, none⟩ = some (.int .i64 0) := hk.res.t
  have c1 : wc.cell? ⟨w.heap.size, 1, none⟩ = some (.int .i64 0) := hk.res.s
  have c2 : wc.cell? ⟨w.heap.size, 2, none⟩ = some (.int .i64 0) := hk.res.k
  have c3 : wc.cell? ⟨w.heap.size, 3, none⟩ = some (.int .u64 0) := hk.res.u
  have f0 := hk.res.free 0
  have f1 := hk.res.free 1
  have f2 := hk.res.free 2
  have f3 := hk.res.free 3
  have x0 : wc.cell? ⟨a1, 0, none⟩ = some (.int .i64 t) := hk.one.t
  have x1 : wc.cell? ⟨a1, 1, none⟩ = some (.int .i64 s) := hk.one.s
  have x2 : wc.cell? ⟨a1, 2, none⟩ = some (.int .i64 k) := hk.one.k
  have x3 : wc.cell? ⟨a1, 3, none⟩ = some (.int .u64 b) := hk.one.u
  have y0 : wc.cell? ⟨a2, 0, none⟩ = some (.int .i64 t') := hk.two.t
  have y1 : wc.cell? ⟨a2, 1, none⟩ = some (.int .i64 s') := hk.two.s
  have y2 : wc.cell? ⟨a2, 2, none⟩ = some (.int .i64 k') := hk.two.k
  have y3 : wc.cell? ⟨a2, 3, none⟩ = some (.int .u64 b') := hk.two.u
  have K5 := Lib.hid hk
  clear hk
  rcases p with _ | _
  · rcases q with _ | _
    · go_wp2_with fail
      change bodyPost _ _ _ _ _ (put4 wc w.heap.size zsp)
      have hp := K5.out.res.put zsp
      have HB6 := Lib.hid (put4_below (x := zsp) K5.out.old (Nat.le_refl _))
      clear c0 c1 c2 c3 f0 f1 f2 f3 x0 x1 x2 x3 y0 y1 y2 y3
      generalize put4 wc w.heap.size zsp = w6 at *
      have e0 : w6.cell? ⟨w.heap.size, 0, none⟩ = some (.int .i64 0) := hp.t
      have e1 : w6.cell? ⟨w.heap.size, 1, none⟩ = some (.int .i64 0) := hp.s
      have e2 : w6.cell? ⟨w.heap.size, 2, none⟩ = some (.int .i64 0) := hp.k
      have e3 : w6.cell? ⟨w.heap.size, 3, none⟩ = some (.int .u64 0) := hp.u
      clear hp
      refine bodyPost_ret (by simp [results, Try.results14, go_sem, e0, e1, e2, e3]; rfl) rfl ?_
      exact ⟨rfl, HB6.out⟩
    · go_wp2_with fail
      change bodyPost _ _ _ _ _ (put4 wc w.heap.size ⟨⟨t', s', k'⟩, b'⟩)
      have hp := K5.out.res.put ⟨⟨t', s', k'⟩, b'⟩
      have HB6 := Lib.hid (put4_below (x := ⟨⟨t', s', k'⟩, b'⟩) K5.out.old (Nat.le_refl _))
      clear c0 c1 c2 c3 f0 f1 f2 f3 x0 x1 x2 x3 y0 y1 y2 y3
      generalize put4 wc w.heap.size ⟨⟨t', s', k'⟩, b'⟩ = w6 at *
      have e0 : w6.cell? ⟨w.heap.size, 0, none⟩ = some (.int .i64 t') := hp.t
      have e1 : w6.cell? ⟨w.heap.size, 1, none⟩ = some (.int .i64 s') := hp.s
      have e2 : w6.cell? ⟨w.heap.size, 2, none⟩ = some (.int .i64 k') := hp.k
      have e3 : w6.cell? ⟨w.heap.size, 3, none⟩ = some (.int .u64 b') := hp.u
      clear hp
      refine bodyPost_ret (by simp [results, Try.results14, go_sem, e0, e1, e2, e3]; rfl) rfl ?_
      exact ⟨rfl, HB6.out⟩
  · go_wp2_with fail
    change bodyPost _ _ _ _ _ (put4 wc w.heap.size ⟨⟨t, s, k⟩, b⟩)
    have hp := K5.out.res.put ⟨⟨t, s, k⟩, b⟩
    have HB6 := Lib.hid (put4_below (x := ⟨⟨t, s, k⟩, b⟩) K5.out.old (Nat.le_refl _))
    clear c0 c1 c2 c3 f0 f1 f2 f3 x0 x1 x2 x3 y0 y1 y2 y3
    generalize put4 wc w.heap.size ⟨⟨t, s, k⟩, b⟩ = w6 at *
    have e0 : w6.cell? ⟨w.heap.size, 0, none⟩ = some (.int .i64 t) := hp.t
    have e1 : w6.cell? ⟨w.heap.size, 1, none⟩ = some (.int .i64 s) := hp.s
    have e2 : w6.cell? ⟨w.heap.size, 2, none⟩ = some (.int .i64 k) := hp.k
    have e3 : w6.cell? ⟨w.heap.size, 3, none⟩ = some (.int .u64 b) := hp.u
    clear hp
    refine bodyPost_ret (by simp [results, Try.results14, go_sem, e0, e1, e2, e3]; rfl) rfl ?_
    exact ⟨rfl, HB6.out⟩

/-- Find of the reference. -/
theorem rfind_any (v : Value) (l : List Int) (w : World) (h : Words w v l) (hl : l.length ≤ maxLen) (hW : Wds l) : Calls Try.prog 14 #[v] w fun e w' => e = .returned (.tuple #[sval (find l), .bool (first l), .bool (back l)]) ∧ Below w.heap.size w w' := by
  obtain ⟨A, cap, rfl, hcap, hL⟩ := h
  by_cases h8 : 8 ≤ l.length ∧ l.length % 8 = 0
  · exact rfind_on A cap l w h8 hl hcap hL hW
  · obtain ⟨h1, h2, h3⟩ := find_no (l := l) (decide_eq_false h8)
    rw [h1, h2, h3]
    exact rfind_off A l.length cap w h8 hl
theorem rfind_to {v : Value} {l : List Int} {w : World} {t s k b : Int} {p q : Bool} (h : Words w v l) (hl : l.length ≤ maxLen) (hW : Wds l) (hs : find l = ⟨⟨t, s, k⟩, b⟩) (hp : first l = p) (hq : back l = q) :
    Calls Try.prog 14 #[v] w fun e w' => e = .returned (.tuple #[.agg #[.int .i64 t, .int .i64 s, .int .i64 k, .int .u64 b], .bool p, .bool q]) ∧ Below w.heap.size w w' := by
  have := rfind_any v l w h hl hW
  rw [hs, hp, hq] at this
  exact this
end Go.Proofs.Yteadkcekoccmdaa
