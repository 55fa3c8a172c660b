/-
  The walk of the reference's GetSuper. Condition: the list lies in memory, its words are words.
-/
import Derived.Test.YteadkcekoccmdaaSo
namespace Go.Proofs.Yteadkcekoccmdaa
open Go.RowKit

theorem got_small {a0 a1 a2 a3 a4 a5 a6 a7 : Int} (h : got [a0, a1, a2, a3, a4, a5, a6, a7] = true) : a1 ≤ 99 ∧ a2 ≤ 99 ∧ a3 ≤ 99 := by
  unfold got at h
  have e := (of_decide_eq_true h).2
  rcases ho : (Sp.of [a0, a1, a2, a3, a4, a5, a6, a7]).g.ok with _ | _
  · rw [Sp.put_no ho] at e
    cases e
  · rw [Sp.put_yes ho] at e
    obtain ⟨h1, h2, h3, h4, h5, h6, h7⟩ := Gd.ok_iff.1 ho
    have e1 : a1 = (Sp.of [a0, a1, a2, a3, a4, a5, a6, a7]).g.t := congrArg (fun l : List Int => l.getD 1 0) e
    have e2 : a2 = (Sp.of [a0, a1, a2, a3, a4, a5, a6, a7]).g.s := congrArg (fun l : List Int => l.getD 2 0) e
    have e3 : a3 = (Sp.of [a0, a1, a2, a3, a4, a5, a6, a7]).g.k := congrArg (fun l : List Int => l.getD 3 0) e
    generalize (Sp.of [a0, a1, a2, a3, a4, a5, a6, a7]).g.t = x at *
    generalize (Sp.of [a0, a1, a2, a3, a4, a5, a6, a7]).g.s = y at *
    generalize (Sp.of [a0, a1, a2, a3, a4, a5, a6, a7]).g.k = z at *
    omega

set_option maxHeartbeats 1000000 in
theorem rget_long (A : Option Addr) (n cap : Nat) (w : World) (h : ¬ n = 8) :
    Calls Try.prog 13 #[.slice A n cap] w fun e w' => e = .returned (.tuple #[sval zsp, .bool false]) ∧ Below w.heap.size w w' := by
  have hne : ((n : Int) != 8) = true := by simp; omega
  clear h
  go_enter Try.func13, Try.ntmps13
  go_wp2
  go_returns
  exact ⟨rfl, below_alloc _ _⟩

set_option maxHeartbeats 1000000 in
theorem rget_great (A : Option Addr) (cap : Nat) (a0 a1 a2 a3 a4 a5 a6 a7 : Int) (w : World) (hL : WordsAt w w.heap.size A [a0, a1, a2, a3, a4, a5, a6, a7]) (h : 99 < a1 ∨ (a1 ≤ 99 ∧ 99 < a2) ∨ (a1 ≤ 99 ∧ a2 ≤ 99 ∧ 99 < a3)) :
    Calls Try.prog 13 #[.slice A 8 cap] w fun e w' => e = .returned (.tuple #[sval zsp, .bool false]) ∧ Below w.heap.size w w' := by
  obtain ⟨g, o, rfl, hlt, hc⟩ := hL (by simp)
  have c1 := hc 1 _ rfl
  have c2 := hc 2 _ rfl
  have c3 := hc 3 _ rfl
  clear hc hL
  rcases h with h | ⟨h1, h⟩ | ⟨h1, h2, h⟩
  all_goals
    go_enter Try.func13, Try.ntmps13
    go_wp2
    go_returns
    exact ⟨rfl, below_alloc _ _⟩

def GRel (W : World) (l m : List Int) (k : Nat) (p : Value) (wr : World) : Prop := ∃ i : Nat, k + i = 8 ∧ p = .int .i64 i ∧ Below W.heap.size W wr ∧ l.take i = m.take i

set_option maxHeartbeats 2000000 in
theorem rget_eight (A : Option Addr) (cap : Nat) (a0 a1 a2 a3 a4 a5 a6 a7 : Int) (w : World) (hL : WordsAt w w.heap.size A [a0, a1, a2, a3, a4, a5, a6, a7]) (hW : Wds [a0, a1, a2, a3, a4, a5, a6, a7]) (h : a1 ≤ 99 ∧ a2 ≤ 99 ∧ a3 ≤ 99) :
    Calls Try.prog 13 #[.slice A 8 cap] w fun e w' => e = .returned (.tuple #[sval (get [a0, a1, a2, a3, a4, a5, a6, a7]), .bool (got [a0, a1, a2, a3, a4, a5, a6, a7])]) ∧ Below w.heap.size w w' := by
  obtain ⟨g, o, rfl, hlt, hc⟩ := hL (by simp)
  have c1 := hc 1 _ rfl
  have c2 := hc 2 _ rfl
  have c3 := hc 3 _ rfl
  have c4 := hc 4 _ rfl
  have HL := Lib.hid hL
  have HW := Lib.hid hW
  have R0 : Hid (Bs (w.alloc (.cells #[.int .i64 0, .int .i64 0, .int .i64 0, .int .u64 0] 38)) w.heap.size zsp) := Lib.hid (Bs.new w zsp 38)
  have d1 : decide (99 < a1) = false := decide_eq_false (by omega)
  have d2 : decide (99 < a2) = false := decide_eq_false (by omega)
  have d3 : decide (99 < a3) = false := decide_eq_false (by omega)
  clear hc hL hW h
  go_enter Try.func13, Try.ntmps13
  go_wp2_with fail
  go_region
  go_wp2_with fail
  obtain ⟨S, hS⟩ : ∃ S, S = Sp.of [a0, a1, a2, a3, a4, a5, a6, a7] := ⟨_, rfl⟩
  have HS := Lib.hid hS
  obtain ⟨w1, hw1⟩ : ∃ w1, w1 = ((w.alloc (.cells #[.int .i64 0, .int .i64 0, .int .i64 0, .int .u64 0] 38)).alloc (.cells #[.int .i64 (wrap64 a1), .int .i64 (wrap64 a2), .int .i64 (wrap64 a3), .int .u64 a4] 38)).drew := ⟨_, rfl⟩
  have B1 : Hid (Below w.heap.size w w1) := Lib.hid (by rw [hw1]; exact (below_on (below_alloc w _) (below_alloc _ _)).drew)
  have R1 : Hid (Bs w1 w.heap.size zsp) := Lib.hid (by rw [hw1]; exact (R0.out.on (below_alloc _ _)).drew)
  have hV := Bs.new (w.alloc (.cells #[.int .i64 0, .int .i64 0, .int .i64 0, .int .u64 0] 38)) (Sp.of [a0, a1, a2, a3, a4, a5, a6, a7]) 38
  rw [show (w.alloc (.cells #[.int .i64 0, .int .i64 0, .int .i64 0, .int .u64 0] 38)).heap.size = w.heap.size + 1 by simp] at hV
  have V1 : Hid (Bs w1 (w.heap.size + 1) S) := Lib.hid (by rw [hw1, hS]; exact hV.drew)
  rw [← hw1]
  have hWb : 0 ≤ a4 ∧ a4 < 18446744073709551616 := HW.out a4 (by simp)
  clear hV hw1 R0 c1 c2 c3 c4 d1 d2 d3 hS
  have hput := rput_any (Sp.of [a0, a1, a2, a3, a4, a5, a6, a7]) w1 hWb
  rw [← HS.out] at hput
  rw [show (Value.agg #[.int .i64 (wrap64 a1), .int .i64 (wrap64 a2), .int .i64 (wrap64 a3), .int .u64 a4]) = .agg #[.int .i64 S.g.t, .int .i64 S.g.s, .int .i64 S.g.k, .int .u64 S.b] by rw [HS.out]; rfl]
  refine hput.mono ?_
  rintro e w2 ⟨v, rfl, hv, hb⟩
  have B2 := Lib.hid (below_on B1.out hb)
  have R2 := Lib.hid (R1.out.on hb)
  have V2 := Lib.hid (V1.out.on hb)
  have L2 := Lib.hid (HL.out.grow B2.out)
  clear hput hb B1 R1 V1 HL hlt
  have c0 := R2.out.t
  have c1 := R2.out.s
  have c2 := R2.out.k
  have c3 := R2.out.u
  have f0 := R2.out.free 0
  have f1 := R2.out.free 1
  have f2 := R2.out.free 2
  have f3 := R2.out.free 3
  rcases ho : S.g.ok with _ | _
  · have hgot : got [a0, a1, a2, a3, a4, a5, a6, a7] = false := by
      unfold got
      refine decide_eq_false ?_
      rintro ⟨-, e⟩
      rw [← HS.out, Sp.put_no ho] at e
      cases e
    have HG := Lib.hid hgot
    rw [Sp.put_no ho] at hv
    obtain ⟨A', cap', rfl, -, -⟩ := hv
    clear hgot
    rw [List.length_nil]
    go_wp2_with fail
    change bodyPost _ _ _ _ _ (put4 w2 w.heap.size zsp)
    have hp := R2.out.put zsp
    have HB6 := Lib.hid (put4_below (x := zsp) B2.out (Nat.le_refl _))
    clear c0 c1 c2 c3 f0 f1 f2 f3
    generalize put4 w2 w.heap.size zsp = w6 at *
    have e0 : w6.cell? ⟨w.heap.size, 0, none⟩ = some (.int .i64 0) := hp.t
    have e1 : w6.cell? ⟨w.heap.size, 1, none⟩ = some (.int .i64 0) := hp.s
    have e2 : w6.cell? ⟨w.heap.size, 2, none⟩ = some (.int .i64 0) := hp.k
    have e3 : w6.cell? ⟨w.heap.size, 3, none⟩ = some (.int .u64 0) := hp.u
    clear hp
    refine bodyPost_ret (by simp [results, Try.results13, go_sem, e0, e1, e2, e3]; rfl) rfl ?_
    refine ⟨?_, HB6.out⟩
    unfold get
    rw [HG.out]
    rfl
  · rw [Sp.put_yes ho] at hv
    have hgot : got [a0, a1, a2, a3, a4, a5, a6, a7] = decide ([a0, a1, a2, a3, a4, a5, a6, a7] = S.full) := by
      unfold got
      rw [← HS.out, Sp.put_yes ho]
      exact decide_eq_decide.2 (by simp)
    have HG := Lib.hid hgot
    obtain ⟨g', o', cap', rfl, -, hlt', hc'⟩ := hv.eight rfl
    have HC' := Lib.hid hc'
    clear hgot hv hc'
    go_wp2_with fail
    go_loopg [6] 8 (fun k p wr => GRel w2 S.full [a0, a1, a2, a3, a4, a5, a6, a7] k p wr)
    case atStart => exact ⟨0, by omega, rfl, Below.refl _ _, rfl⟩
    case round =>
      obtain ⟨i, hk, rfl, hb, he⟩ := hrel
      have HK := Lib.hid hk
      have HB := Lib.hid hb
      have HE := Lib.hid he
      clear hk hb he c0 c1 c2 c3 f0 f1 f2 f3
      by_cases hlt : i < 8
      · have HLT := Lib.hid hlt
        have hlt2 : (i : Int) < 8 := by omega
        obtain ⟨x, hx⟩ : ∃ x, S.full[i]? = some x := ⟨S.full[i]'hlt, List.getElem?_eq_getElem _⟩
        obtain ⟨y, hy⟩ : ∃ y, [a0, a1, a2, a3, a4, a5, a6, a7][i]? = some y := ⟨[a0, a1, a2, a3, a4, a5, a6, a7][i]'hlt, List.getElem?_eq_getElem _⟩
        obtain ⟨g2, o2, q2, hlt2', hc2⟩ := L2.out (by simp)
        injection q2 with q2
        injection q2 with q3 q4
        subst q3 q4
        have k1 : wr.cell? ⟨g', o' + i, none⟩ = some (.int .u64 x) := by rw [HB.out.cell (p := ⟨g', _, none⟩) hlt']; exact HC'.out i x hx
        have k2 : wr.cell? ⟨g, o + i, none⟩ = some (.int .u64 y) := by rw [HB.out.cell (p := ⟨g, _, none⟩) hlt2']; exact hc2 i y hy
        have HX := Lib.hid hx
        have HY := Lib.hid hy
        clear hx hy hc2 hlt2' hlt'
        by_cases hxy : x = y
        · subst hxy
          go_wp2_with fail
          go_quiet (fail)
          go_wp2
          go_roundg (8 - (i + 1))
          case measure => have := HK.out; have := HLT.out; omega
          case rel => exact ⟨i + 1, by have := HLT.out; omega, by go_num, below_draws HB.out, by rw [List.take_add_one, List.take_add_one, HE.out, HX.out, HY.out]⟩
        · have hne : (x != y) = true := by simpa using hxy
          have hgot : got [a0, a1, a2, a3, a4, a5, a6, a7] = false := by
            rw [HG.out]
            refine decide_eq_false fun e => ?_
            have q := HY.out
            rw [e, HX.out] at q
            injection q with q
            exact hxy q
          have HG2 := Lib.hid hgot
          clear hxy hgot
          go_wp2_with fail
          go_quiet (fail)
          rename_i nq
          have hb3 : Below w2.heap.size w2 (wr.drewN nq) := below_draws HB.out
          generalize wr.drewN nq = wr at *
          have HB := Lib.hid hb3
          have hr := R2.out.on HB.out
          have c0 : wr.cell? ⟨w.heap.size, 0, none⟩ = some (.int .i64 0) := hr.t
          have c1 : wr.cell? ⟨w.heap.size, 1, none⟩ = some (.int .i64 0) := hr.s
          have c2 : wr.cell? ⟨w.heap.size, 2, none⟩ = some (.int .i64 0) := hr.k
          have c3 : wr.cell? ⟨w.heap.size, 3, none⟩ = some (.int .u64 0) := hr.u
          have f0 := hr.free 0
          have f1 := hr.free 1
          have f2 := hr.free 2
          have f3 := hr.free 3
          have B3 := Lib.hid (below_on B2.out HB.out)
          have R3 := Lib.hid hr
          clear hr k1 k2 hb3
          go_wp2_with fail
          change bodyPost _ _ _ _ _ (put4 wr w.heap.size zsp)
          have hp := R3.out.put zsp
          have HB6 := Lib.hid (put4_below (x := zsp) B3.out (Nat.le_refl _))
          clear c0 c1 c2 c3 f0 f1 f2 f3
          generalize put4 wr w.heap.size zsp = w6 at *
          have e0 : w6.cell? ⟨w.heap.size, 0, none⟩ = some (.int .i64 0) := hp.t
          have e1 : w6.cell? ⟨w.heap.size, 1, none⟩ = some (.int .i64 0) := hp.s
          have e2 : w6.cell? ⟨w.heap.size, 2, none⟩ = some (.int .i64 0) := hp.k
          have e3 : w6.cell? ⟨w.heap.size, 3, none⟩ = some (.int .u64 0) := hp.u
          clear hp
          refine bodyPost_ret (by simp [results, Try.results13, go_sem, e0, e1, e2, e3]; rfl) rfl ?_
          refine ⟨?_, HB6.out⟩
          unfold get
          rw [HG2.out]
          rfl
      · have hgot : got [a0, a1, a2, a3, a4, a5, a6, a7] = true := by
          rw [HG.out]
          refine decide_eq_true ?_
          have := HE.out
          rw [show i = 8 by have := HK.out; omega] at this
          exact this.symm
        have HG2 := Lib.hid hgot
        clear hgot
        have hr := R2.out.on HB.out
        have c0 : wr.cell? ⟨w.heap.size, 0, none⟩ = some (.int .i64 0) := hr.t
        have c1 : wr.cell? ⟨w.heap.size, 1, none⟩ = some (.int .i64 0) := hr.s
        have c2 : wr.cell? ⟨w.heap.size, 2, none⟩ = some (.int .i64 0) := hr.k
        have c3 : wr.cell? ⟨w.heap.size, 3, none⟩ = some (.int .u64 0) := hr.u
        have f0 := hr.free 0
        have f1 := hr.free 1
        have f2 := hr.free 2
        have f3 := hr.free 3
        have B3 := Lib.hid (below_on B2.out HB.out)
        have hv := V2.out.on HB.out
        have v0 := hv.t
        have v1 := hv.s
        have v2 := hv.k
        have v3 := hv.u
        have R3 := Lib.hid hr
        clear hr hv
        go_wp2_with fail
        change bodyPost _ _ _ _ _ (put4 wr w.heap.size S)
        have hp := R3.out.put S
        have HB6 := Lib.hid (put4_below (x := S) B3.out (Nat.le_refl _))
        clear c0 c1 c2 c3 f0 f1 f2 f3
        generalize put4 wr w.heap.size S = w6 at *
        have e0 : w6.cell? ⟨w.heap.size, 0, none⟩ = some (.int .i64 S.g.t) := hp.t
        have e1 : w6.cell? ⟨w.heap.size, 1, none⟩ = some (.int .i64 S.g.s) := hp.s
        have e2 : w6.cell? ⟨w.heap.size, 2, none⟩ = some (.int .i64 S.g.k) := hp.k
        have e3 : w6.cell? ⟨w.heap.size, 3, none⟩ = some (.int .u64 S.b) := hp.u
        clear hp
        refine bodyPost_ret (by simp [results, Try.results13, go_sem, e0, e1, e2, e3]; rfl) rfl ?_
        refine ⟨?_, HB6.out⟩
        unfold get
        rw [HG2.out, ← HS.out]
        rfl

/-- GetSuper. -/
theorem rget_any (v : Value) (l : List Int) (w : World) (h : Words w v l) (hW : Wds l) : Calls Try.prog 13 #[v] w fun e w' => e = .returned (.tuple #[sval (get l), .bool (got l)]) ∧ Below w.heap.size w w' := by
  obtain ⟨A, cap, rfl, -, hL⟩ := h
  by_cases h8 : l.length = 8
  · obtain ⟨a0, a1, a2, a3, a4, a5, a6, a7, rfl⟩ := eight h8
    by_cases hs : a1 ≤ 99 ∧ a2 ≤ 99 ∧ a3 ≤ 99
    · exact rget_eight A cap a0 a1 a2 a3 a4 a5 a6 a7 w hL hW hs
    · have hg : got [a0, a1, a2, a3, a4, a5, a6, a7] = false := by
        rcases hq : got [a0, a1, a2, a3, a4, a5, a6, a7] with _ | _
        · rfl
        · exact absurd (got_small hq) hs
      have hz : get [a0, a1, a2, a3, a4, a5, a6, a7] = zsp := by unfold get; rw [hg]; rfl
      rw [hg, hz]
      exact rget_great A cap a0 a1 a2 a3 a4 a5 a6 a7 w hL (by omega)
  · have hg : got l = false := by unfold got; exact decide_eq_false fun q => h8 q.1
    have hz : get l = zsp := by unfold get; rw [hg]; rfl
    rw [hg, hz]
    exact rget_long A l.length cap w h8
theorem rget_to {v : Value} {l : List Int} {w : World} {t s k b : Int} {r : Bool} (h : Words w v l) (hW : Wds l) (hs : get l = ⟨⟨t, s, k⟩, b⟩) (hr : got l = r) :
    Calls Try.prog 13 #[v] w fun e w' => e = .returned (.tuple #[.agg #[.int .i64 t, .int .i64 s, .int .i64 k, .int .u64 b], .bool r]) ∧ Below w.heap.size w w' := by
  have := rget_any v l w h hW
  rw [hs, hr] at this
  exact this
end Go.Proofs.Yteadkcekoccmdaa
