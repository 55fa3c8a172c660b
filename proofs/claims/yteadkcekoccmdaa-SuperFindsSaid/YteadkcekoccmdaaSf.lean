/-
  The walk of package super's Find. Condition: the list lies in memory, its words are words.
-/
import Derived.Test.YteadkcekoccmdaaSe
namespace Go.Proofs.Yteadkcekoccmdaa
open Go.RowKit

theorem fitting_to {rr : Int} {v : Value} {l : List Int} {w : World} {t s k b : Int} {r : Bool} (h : Words w v l) (hW : Wds l) (hs : fit rr l = ⟨⟨t, s, k⟩, b⟩) (hr : fits rr l = r) :
    Calls Try.prog 22 #[.int .i64 rr, v] w fun e w' => e = .returned (.tuple #[.agg #[.int .i64 t, .int .i64 s, .int .i64 k, .int .u64 b], .bool r]) ∧ Below w.heap.size w w' := by
  have := fitting_any rr v l w h hW
  rw [hs, hr] at this
  exact this
theorem heads_words {w : World} {b o cap : Nat} {l : List Int} (h : WordsAt w w.heap.size (some ⟨b, o, none⟩) l) (h8 : 8 ≤ l.length) (hc : l.length ≤ cap) : Words w (.slice (some ⟨b, o, none⟩) 8 cap) (heads l) := by
  have hlen : (heads l).length = 8 := by unfold heads; rw [List.length_take]; omega
  refine ⟨some ⟨b, o, none⟩, cap, by rw [hlen], by rw [hlen]; omega, fun _ => ?_⟩
  obtain ⟨b', o', e, hlt, hz⟩ := h (by omega)
  injection e with e
  injection e with e1 e2
  subst e1 e2
  refine ⟨b, o, rfl, hlt, fun j z hj => hz j z ?_⟩
  unfold heads at hj
  rw [List.getElem?_take] at hj
  by_cases q : j < 8
  · rw [if_pos q] at hj; exact hj
  · rw [if_neg q] at hj; cases hj
theorem tails_words {w : World} {b o cap n : Nat} {l : List Int} (hn : n = l.length) (h : WordsAt w w.heap.size (some ⟨b, o, none⟩) l) (h8 : 8 ≤ n) (hc : n ≤ cap) : Words w (.slice (some ⟨b, o + (n - 8), none⟩) (n - (n - 8)) (cap - (n - 8))) (tails l) := by
  subst hn
  rw [show l.length - (l.length - 8) = 8 by omega]
  have hlen : (tails l).length = 8 := by unfold tails; rw [List.length_drop]; omega
  refine ⟨some ⟨b, o + (l.length - 8), none⟩, cap - (l.length - 8), by rw [hlen], by rw [hlen]; omega, fun _ => ?_⟩
  obtain ⟨b', o', e, hlt, hz⟩ := h (by omega)
  injection e with e
  injection e with e1 e2
  subst e1 e2
  refine ⟨b, o + (l.length - 8), rfl, hlt, fun j z hj => ?_⟩
  unfold tails at hj
  rw [List.getElem?_drop] at hj
  have := hz _ z hj
  rw [Nat.add_assoc]
  exact this
theorem Wds.heads {l : List Int} (h : Wds l) : Wds (heads l) := fun x hx => h x (List.mem_of_mem_take hx)
theorem Wds.tails {l : List Int} (h : Wds l) : Wds (tails l) := fun x hx => h x (List.mem_of_mem_drop hx)

theorem find_no {l : List Int} (h : Ok l = false) : find l = zsp ∧ first l = false ∧ back l = false := by
  have h1 : first l = false := by unfold first; rw [h]; rfl
  have h2 : back l = false := by unfold back; rw [h]; rfl
  refine ⟨?_, h1, h2⟩
  unfold find
  rw [h1, h2]
  rfl

set_option maxHeartbeats 1000000 in
theorem find_off (A : Option Addr) (n cap : Nat) (w : World) (h : ¬ (8 ≤ n ∧ n % 8 = 0)) (hn : n ≤ maxLen) :
    Calls Try.prog 12 #[.slice A n cap] w fun e w' => e = .returned (.tuple #[sval zsp, .bool false, .bool false]) ∧ Below w.heap.size w w' := by
  unfold maxLen at hn
  by_cases h1 : 8 ≤ n
  · have d1 : ((n : Int) / 8 == 0) = false := by simp; omega
    have d2 : ((n : Int) % 8 != 0) = true := by simp; omega
    clear h h1
    go_enter Try.func12, Try.ntmps12
    go_wp2
    go_returns
    exact ⟨rfl, below_alloc _ _⟩
  · have d1 : ((n : Int) / 8 == 0) = true := by simp; omega
    clear h h1
    go_enter Try.func12, Try.ntmps12
    go_wp2
    go_returns
    exact ⟨rfl, below_alloc _ _⟩

set_option maxHeartbeats 1000000 in
theorem find_on (A : Option Addr) (cap : Nat) (l : List Int) (w : World) (h8 : 8 ≤ l.length ∧ l.length % 8 = 0) (hl : l.length ≤ maxLen) (hcap : l.length ≤ cap) (hL : WordsAt w w.heap.size A l) (hW : Wds l) :
    Calls Try.prog 12 #[.slice A l.length cap] w fun e w' => e = .returned (.tuple #[sval (find l), .bool (first l), .bool (back l)]) ∧ Below w.heap.size w w' := by
  obtain ⟨g, o, rfl, hlt, -⟩ := hL (by omega)
  have hok : Ok l = true := decide_eq_true h8
  obtain ⟨x, hx⟩ : ∃ x, fit ((l.length / 8 : Nat) : Int) (heads l) = x := ⟨_, rfl⟩
  obtain ⟨y, hy⟩ : ∃ y, fit ((l.length / 8 : Nat) : Int) (tails l) = y := ⟨_, rfl⟩
  obtain ⟨p, hp⟩ : ∃ p, fits ((l.length / 8 : Nat) : Int) (heads l) = p := ⟨_, rfl⟩
  obtain ⟨q, hq⟩ : ∃ q, fits ((l.length / 8 : Nat) : Int) (tails l) = q := ⟨_, rfl⟩
  have hfirst : first l = p := by unfold first; rw [hok, hp]; rfl
  have hback : back l = q := by unfold back; rw [hok, hq]; rfl
  have hfind : find l = if p = true then x else y := by
    unfold find
    rw [hfirst, hback, ← hx, ← hy]
    unfold fit
    rw [hp, hq]
    cases p <;> cases q <;> rfl
  rw [hfirst, hback, hfind]
  clear hfirst hback hfind hok
  obtain ⟨⟨t, s, k⟩, b⟩ := x
  obtain ⟨⟨t', s', k'⟩, b'⟩ := y
  have R0 : Hid (Bs (w.alloc (.cells #[.int .i64 0, .int .i64 0, .int .i64 0, .int .u64 0] 30)) w.heap.size zsp) := Lib.hid (Bs.new w zsp 30)
  have B0 := Lib.hid (below_alloc w (.cells #[.int .i64 0, .int .i64 0, .int .i64 0, .int .u64 0] 30))
  have L0 := Lib.hid hL
  have HW := Lib.hid hW
  have H8 := Lib.hid h8
  obtain ⟨n, hn⟩ : ∃ n, n = l.length := ⟨_, rfl⟩
  have HN := Lib.hid hn
  rw [← hn] at h8 hl hcap hx hy hp hq ⊢
  have HX := Lib.hid hx
  have HY := Lib.hid hy
  have HP := Lib.hid hp
  have HQ := Lib.hid hq
  have HC := Lib.hid hcap
  unfold maxLen at hl
  have d1 : ((n : Int) / 8 == 0) = false := by simp; omega
  have d2 : ((n : Int) % 8 != 0) = false := by simp; omega
  obtain ⟨h8, -⟩ := h8
  clear hn hx hy hp hq hL hW hlt
  go_enter Try.func12, Try.ntmps12
  go_wp2_with fail
  refine (fitting_to (heads_words (L0.out.grow B0.out) (by rw [← HN.out]; exact h8) (by rw [← HN.out]; exact hcap)) HW.out.heads HX.out HP.out).mono ?_
  rintro e w1 ⟨rfl, hb⟩
  have hr := R0.out.on hb
  have c0 : w1.cell? ⟨w.heap.size, 0, none⟩ = some (.int .i64 0) := hr.t
  have c1 : w1.cell? ⟨w.heap.size, 1, none⟩ = some (.int .i64 0) := hr.s
  have c2 : w1.cell? ⟨w.heap.size, 2, none⟩ = some (.int .i64 0) := hr.k
  have c3 : w1.cell? ⟨w.heap.size, 3, none⟩ = some (.int .u64 0) := hr.u
  have f0 := hr.free 0
  have f1 := hr.free 1
  have f2 := hr.free 2
  have f3 := hr.free 3
  have hlt : w.heap.size < w1.heap.size := hr.lt
  have R1 := Lib.hid hr
  have B1 := Lib.hid (below_on B0.out hb)
  clear hb hr R0 B0
  go_upto_region 5 with fail
  change Code.wp _ _ _ _ (put4 w1 w.heap.size ⟨⟨t, s, k⟩, b⟩)
  have R2 := Lib.hid (R1.out.put ⟨⟨t, s, k⟩, b⟩)
  have B2 := Lib.hid (put4_below (x := ⟨⟨t, s, k⟩, b⟩) B1.out (Nat.le_refl _))
  clear c0 c1 c2 c3 f0 f1 f2 f3 hlt R1 B1
  generalize put4 w1 w.heap.size ⟨⟨t, s, k⟩, b⟩ = w2 at *
  have B2' := B2.out
  go_wp2_with fail
  refine (fitting_to (tails_words HN.out (L0.out.grow B2') h8 hcap) HW.out.tails HY.out HQ.out).mono ?_
  rintro e w3 ⟨rfl, hb⟩
  have R3 := Lib.hid ((R2.out.on hb).on (below_alloc _ (.cells #[.int .i64 t', .int .i64 s', .int .i64 k', .int .u64 b'] 30)))
  have B3 := Lib.hid (below_on (below_on B2.out hb) (below_alloc _ (.cells #[.int .i64 t', .int .i64 s', .int .i64 k', .int .u64 b'] 30)))
  have V3 := Lib.hid (Bs.new w3 ⟨⟨t', s', k'⟩, b'⟩ 30)
  have hlt3 : w.heap.size < w3.heap.size := (R2.out.on hb).lt
  clear hb R2 B2 B2' d1 d2 hl
  go_upto_region 6 with fail
  obtain ⟨w4, hw4⟩ : ∃ w4, w4 = w3.alloc (.cells #[.int .i64 t', .int .i64 s', .int .i64 k', .int .u64 b'] 30) := ⟨_, rfl⟩
  change Code.wp _ _ _ _ (w3.alloc (.cells #[.int .i64 t', .int .i64 s', .int .i64 k', .int .u64 b'] 30))
  rw [← hw4] at R3 B3 ⊢
  have V4 : Hid (Bs w4 w3.heap.size ⟨⟨t', s', k'⟩, b'⟩) := Lib.hid (by rw [hw4]; exact V3.out)
  have hr := R3.out
  clear hw4 V3
  have c0 : w4.cell? ⟨w.heap.size, 0, none⟩ = some (.int .i64 t) := hr.t
  have c1 : w4.cell? ⟨w.heap.size, 1, none⟩ = some (.int .i64 s) := hr.s
  have c2 : w4.cell? ⟨w.heap.size, 2, none⟩ = some (.int .i64 k) := hr.k
  have c3 : w4.cell? ⟨w.heap.size, 3, none⟩ = some (.int .u64 b) := hr.u
  have f0 := hr.free 0
  have f1 := hr.free 1
  have f2 := hr.free 2
  have f3 := hr.free 3
  have hlt : w.heap.size < w4.heap.size := hr.lt
  clear hr
  cases p
  · have v0 : w4.cell? ⟨w3.heap.size, 0, none⟩ = some (.int .i64 t') := V4.out.t
    have v1 : w4.cell? ⟨w3.heap.size, 1, none⟩ = some (.int .i64 s') := V4.out.s
    have v2 : w4.cell? ⟨w3.heap.size, 2, none⟩ = some (.int .i64 k') := V4.out.k
    have v3 : w4.cell? ⟨w3.heap.size, 3, none⟩ = some (.int .u64 b') := V4.out.u
    go_wp2_with fail
    change bodyPost _ _ _ _ _ (put4 (put4 w4 w.heap.size ⟨⟨t', s', k'⟩, b'⟩) w.heap.size ⟨⟨t', s', k'⟩, b'⟩)
    have hp := (R3.out.put ⟨⟨t', s', k'⟩, b'⟩).put ⟨⟨t', s', k'⟩, b'⟩
    have HB6 := Lib.hid (put4_below (x := ⟨⟨t', s', k'⟩, b'⟩) (put4_below (x := ⟨⟨t', s', k'⟩, b'⟩) B3.out (Nat.le_refl _)) (Nat.le_refl _))
    clear c0 c1 c2 c3 f0 f1 f2 f3 hlt
    generalize put4 (put4 w4 w.heap.size ⟨⟨t', s', k'⟩, b'⟩) w.heap.size ⟨⟨t', s', k'⟩, b'⟩ = w6 at *
    have e0 : w6.cell? ⟨w.heap.size, 0, none⟩ = some (.int .i64 t') := hp.t
    have e1 : w6.cell? ⟨w.heap.size, 1, none⟩ = some (.int .i64 s') := hp.s
    have e2 : w6.cell? ⟨w.heap.size, 2, none⟩ = some (.int .i64 k') := hp.k
    have e3 : w6.cell? ⟨w.heap.size, 3, none⟩ = some (.int .u64 b') := hp.u
    clear hp
    refine bodyPost_ret (by simp [results, Try.results12, go_sem, e0, e1, e2, e3]; rfl) rfl ?_
    exact ⟨rfl, HB6.out⟩
  · go_wp2_with fail
    change bodyPost _ _ _ _ _ (put4 w4 w.heap.size ⟨⟨t, s, k⟩, b⟩)
    have hp := R3.out.put ⟨⟨t, s, k⟩, b⟩
    have HB6 := Lib.hid (put4_below (x := ⟨⟨t, s, k⟩, b⟩) B3.out (Nat.le_refl _))
    clear c0 c1 c2 c3 f0 f1 f2 f3 hlt
    generalize put4 w4 w.heap.size ⟨⟨t, s, k⟩, b⟩ = w6 at *
    have e0 : w6.cell? ⟨w.heap.size, 0, none⟩ = some (.int .i64 t) := hp.t
    have e1 : w6.cell? ⟨w.heap.size, 1, none⟩ = some (.int .i64 s) := hp.s
    have e2 : w6.cell? ⟨w.heap.size, 2, none⟩ = some (.int .i64 k) := hp.k
    have e3 : w6.cell? ⟨w.heap.size, 3, none⟩ = some (.int .u64 b) := hp.u
    clear hp
    refine bodyPost_ret (by simp [results, Try.results12, go_sem, e0, e1, e2, e3]; rfl) rfl ?_
    exact ⟨rfl, HB6.out⟩

/-- Find. -/
theorem find_any (v : Value) (l : List Int) (w : World) (h : Words w v l) (hl : l.length ≤ maxLen) (hW : Wds l) : Calls Try.prog 12 #[v] w fun e w' => e = .returned (.tuple #[sval (find l), .bool (first l), .bool (back l)]) ∧ Below w.heap.size w w' := by
  obtain ⟨A, cap, rfl, hcap, hL⟩ := h
  by_cases h8 : 8 ≤ l.length ∧ l.length % 8 = 0
  · exact find_on A cap l w h8 hl hcap hL hW
  · obtain ⟨h1, h2, h3⟩ := find_no (l := l) (decide_eq_false h8)
    rw [h1, h2, h3]
    exact find_off A l.length cap w h8 hl
theorem find_to {v : Value} {l : List Int} {w : World} {t s k b : Int} {p q : Bool} (h : Words w v l) (hl : l.length ≤ maxLen) (hW : Wds l) (hs : find l = ⟨⟨t, s, k⟩, b⟩) (hp : first l = p) (hq : back l = q) :
    Calls Try.prog 12 #[v] w fun e w' => e = .returned (.tuple #[.agg #[.int .i64 t, .int .i64 s, .int .i64 k, .int .u64 b], .bool p, .bool q]) ∧ Below w.heap.size w w' := by
  have := find_any v l w h hl hW
  rw [hs, hp, hq] at this
  exact this
end Go.Proofs.Yteadkcekoccmdaa
