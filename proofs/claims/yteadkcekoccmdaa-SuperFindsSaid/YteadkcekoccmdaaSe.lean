/-
  The walks of package super's fitting and Find. Condition: the list lies in memory, its words are words.
-/
import Derived.Test.YteadkcekoccmdaaSd
namespace Go.Proofs.Yteadkcekoccmdaa
open Go.RowKit

theorem get_to {v : Value} {l : List Int} {w : World} {t s k b : Int} {r : Bool} (h : Words w v l) (hW : Wds l) (hs : get l = ⟨⟨t, s, k⟩, b⟩) (hr : got l = r) :
    Calls Try.prog 10 #[v] w fun e w' => e = .returned (.tuple #[.agg #[.int .i64 t, .int .i64 s, .int .i64 k, .int .u64 b], .bool r]) ∧ Below w.heap.size w w' := get_at h hW hs hr

set_option maxHeartbeats 1000000 in
theorem fitting_any (rr : Int) (v : Value) (l : List Int) (w : World) (h : Words w v l) (hW : Wds l) :
    Calls Try.prog 22 #[.int .i64 rr, v] w fun e w' => e = .returned (.tuple #[sval (fit rr l), .bool (fits rr l)]) ∧ Below w.heap.size w w' := by
  obtain ⟨x, hx⟩ : ∃ x, get l = x := ⟨_, rfl⟩
  obtain ⟨⟨t, s, k⟩, b⟩ := x
  have HX := Lib.hid hx
  have R0 : Hid (Bs (w.alloc (.cells #[.int .i64 0, .int .i64 0, .int .i64 0, .int .u64 0] 30)) w.heap.size zsp) := Lib.hid (Bs.new w zsp 30)
  have B0 := Lib.hid (below_alloc w (.cells #[.int .i64 0, .int .i64 0, .int .i64 0, .int .u64 0] 30))
  have HH := Lib.hid (h.below B0.out)
  have HW := Lib.hid hW
  clear h hW hx
  rcases hg : got l with _ | _
  · have HG := Lib.hid hg
    have hf : fits rr l = false := by unfold fits; rw [hg]; rfl
    have hz : fit rr l = zsp := by unfold fit; rw [hf]; rfl
    rw [hf, hz]
    clear hg hf hz
    go_enter Try.func22, Try.ntmps22
    go_wp2_with fail
    refine (get_to HH.out HW.out HX.out HG.out).mono ?_
    rintro e w1 ⟨rfl, hb⟩
    have hr := R0.out.on hb
    have c0 : w1.cell? ⟨w.heap.size, 0, none⟩ = some (.int .i64 0) := hr.t
    have c1 : w1.cell? ⟨w.heap.size, 1, none⟩ = some (.int .i64 0) := hr.s
    have c2 : w1.cell? ⟨w.heap.size, 2, none⟩ = some (.int .i64 0) := hr.k
    have c3 : w1.cell? ⟨w.heap.size, 3, none⟩ = some (.int .u64 0) := hr.u
    have f0 := hr.free 0
    have f1 := hr.free 1
    have f2 := hr.free 2
    have f3 := hr.free 3
    have hlt : w.heap.size < w1.heap.size := hr.lt
    have R1 := Lib.hid hr
    have B1 := Lib.hid (below_on B0.out hb)
    clear hb hr R0 B0 HH
    go_wp2_with fail
    change bodyPost _ _ _ _ _ ((put4 w1 w.heap.size zsp).alloc (.cells #[.int .i64 t, .int .i64 s, .int .i64 k, .int .u64 b] 30))
    have hp := (R1.out.put zsp).on (below_alloc _ (.cells #[.int .i64 t, .int .i64 s, .int .i64 k, .int .u64 b] 30))
    have HB6 := Lib.hid (below_on (put4_below (x := zsp) B1.out (Nat.le_refl _)) (below_alloc _ (.cells #[.int .i64 t, .int .i64 s, .int .i64 k, .int .u64 b] 30)))
    clear c0 c1 c2 c3 f0 f1 f2 f3 hlt
    generalize ((put4 w1 w.heap.size zsp).alloc (.cells #[.int .i64 t, .int .i64 s, .int .i64 k, .int .u64 b] 30)) = w6 at *
    have e0 : w6.cell? ⟨w.heap.size, 0, none⟩ = some (.int .i64 0) := hp.t
    have e1 : w6.cell? ⟨w.heap.size, 1, none⟩ = some (.int .i64 0) := hp.s
    have e2 : w6.cell? ⟨w.heap.size, 2, none⟩ = some (.int .i64 0) := hp.k
    have e3 : w6.cell? ⟨w.heap.size, 3, none⟩ = some (.int .u64 0) := hp.u
    clear hp
    refine bodyPost_ret (by simp [results, Try.results22, go_sem, e0, e1, e2, e3]; rfl) rfl ?_
    exact ⟨rfl, HB6.out⟩
  · have HG := Lib.hid hg
    obtain ⟨q, hq⟩ : ∃ q, Gd.rows ⟨t, s, k⟩ = q := ⟨_, rfl⟩
    have HQ := Lib.hid hq
    have hf : fits rr l = decide (q = rr) := by unfold fits; rw [hg, HX.out, ← hq]; rfl
    have hF : fit rr l = if q = rr then ⟨⟨t, s, k⟩, b⟩ else zsp := by unfold fit; rw [hf, HX.out]; by_cases h : q = rr <;> simp [h]
    obtain ⟨d, hd⟩ : ∃ d, fits rr l = d := ⟨_, rfl⟩
    obtain ⟨y, hy⟩ : ∃ y, fit rr l = y := ⟨_, rfl⟩
    rw [hd] at hf ⊢
    rw [hy] at hF ⊢
    have HD := Lib.hid hf
    have HY := Lib.hid hF
    clear hg hf hF hq hd hy
    have HV : Hid (∀ w : World, Bs (w.alloc (.cells #[.int .i64 t, .int .i64 s, .int .i64 k, .int .u64 b] 30)) w.heap.size ⟨⟨t, s, k⟩, b⟩) := Lib.hid fun w => Bs.new w ⟨⟨t, s, k⟩, b⟩ 30
    go_enter Try.func22, Try.ntmps22
    go_wp2_with fail
    refine (get_to HH.out HW.out HX.out HG.out).mono ?_
    rintro e w1 ⟨rfl, hb⟩
    have R1 := Lib.hid ((R0.out.on hb).on (below_alloc _ (.cells #[.int .i64 t, .int .i64 s, .int .i64 k, .int .u64 b] 30)))
    have B1 := Lib.hid (below_on (below_on B0.out hb) (below_alloc _ (.cells #[.int .i64 t, .int .i64 s, .int .i64 k, .int .u64 b] 30)))
    have V1 := Lib.hid (HV.out w1)
    have hlt1 : w.heap.size < w1.heap.size := (R0.out.on hb).lt
    clear hb R0 B0 HH HV
    go_wp2_with fail
    refine (rows_to HQ.out _).mono ?_
    rintro e w2 ⟨rfl, hb⟩
    have hr := R1.out.on hb
    have hv := V1.out.on hb
    have c0 : w2.cell? ⟨w.heap.size, 0, none⟩ = some (.int .i64 0) := hr.t
    have c1 : w2.cell? ⟨w.heap.size, 1, none⟩ = some (.int .i64 0) := hr.s
    have c2 : w2.cell? ⟨w.heap.size, 2, none⟩ = some (.int .i64 0) := hr.k
    have c3 : w2.cell? ⟨w.heap.size, 3, none⟩ = some (.int .u64 0) := hr.u
    have f0 := hr.free 0
    have f1 := hr.free 1
    have f2 := hr.free 2
    have f3 := hr.free 3
    have hlt : w.heap.size < w2.heap.size := hr.lt
    have R2 := Lib.hid hr
    have B2 := Lib.hid (below_on B1.out hb)
    have V2 := Lib.hid hv
    clear hb hr hv R1 B1 V1
    by_cases hqr : q = rr
    · subst hqr
      have v0 : w2.cell? ⟨w1.heap.size, 0, none⟩ = some (.int .i64 t) := V2.out.t
      have v1 : w2.cell? ⟨w1.heap.size, 1, none⟩ = some (.int .i64 s) := V2.out.s
      have v2 : w2.cell? ⟨w1.heap.size, 2, none⟩ = some (.int .i64 k) := V2.out.k
      have v3 : w2.cell? ⟨w1.heap.size, 3, none⟩ = some (.int .u64 b) := V2.out.u
      go_wp2_with fail
      change bodyPost _ _ _ _ _ (put4 w2 w.heap.size ⟨⟨t, s, k⟩, b⟩)
      have hp := R2.out.put ⟨⟨t, s, k⟩, b⟩
      have HB6 := Lib.hid (put4_below (x := ⟨⟨t, s, k⟩, b⟩) B2.out (Nat.le_refl _))
      clear c0 c1 c2 c3 f0 f1 f2 f3 hlt
      generalize (put4 w2 w.heap.size ⟨⟨t, s, k⟩, b⟩) = w6 at *
      have e0 : w6.cell? ⟨w.heap.size, 0, none⟩ = some (.int .i64 t) := hp.t
      have e1 : w6.cell? ⟨w.heap.size, 1, none⟩ = some (.int .i64 s) := hp.s
      have e2 : w6.cell? ⟨w.heap.size, 2, none⟩ = some (.int .i64 k) := hp.k
      have e3 : w6.cell? ⟨w.heap.size, 3, none⟩ = some (.int .u64 b) := hp.u
      clear hp
      refine bodyPost_ret (by simp [results, Try.results22, go_sem, e0, e1, e2, e3]; rfl) rfl ?_
      exact ⟨by rw [HD.out, HY.out]; simp; rfl, HB6.out⟩
    · have hne : (q != rr) = true := by simpa using hqr
      have HN := Lib.hid hqr
      clear hqr
      go_wp2_with fail
      change bodyPost _ _ _ _ _ (put4 w2 w.heap.size zsp)
      have hp := R2.out.put zsp
      have HB6 := Lib.hid (put4_below (x := zsp) B2.out (Nat.le_refl _))
      clear c0 c1 c2 c3 f0 f1 f2 f3 hlt
      generalize (put4 w2 w.heap.size zsp) = w6 at *
      have e0 : w6.cell? ⟨w.heap.size, 0, none⟩ = some (.int .i64 0) := hp.t
      have e1 : w6.cell? ⟨w.heap.size, 1, none⟩ = some (.int .i64 0) := hp.s
      have e2 : w6.cell? ⟨w.heap.size, 2, none⟩ = some (.int .i64 0) := hp.k
      have e3 : w6.cell? ⟨w.heap.size, 3, none⟩ = some (.int .u64 0) := hp.u
      clear hp
      refine bodyPost_ret (by simp [results, Try.results22, go_sem, e0, e1, e2, e3]; rfl) rfl ?_
      exact ⟨by rw [HD.out, HY.out]; simp [HN.out]; rfl, HB6.out⟩
end Go.Proofs.Yteadkcekoccmdaa
