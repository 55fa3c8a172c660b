/-
  The walk of package super's Get. Condition: the list lies in memory, its words are words.
-/
import Derived.Test.YteadkcekoccmdaaSc
namespace Go.Proofs.Yteadkcekoccmdaa
open Go.RowKit

theorem eight {l : List Int} (h : l.length = 8) : ∃ a0 a1 a2 a3 a4 a5 a6 a7, l = [a0, a1, a2, a3, a4, a5, a6, a7] := by
  match l, h with
  | [a0, a1, a2, a3, a4, a5, a6, a7], _ => exact ⟨a0, a1, a2, a3, a4, a5, a6, a7, rfl⟩

theorem cell4 {w : World} {t : TypeId} {a0 a1 a2 a3 : Value} (k : Nat) (u : Value) (h : [a0, a1, a2, a3][k]? = some u) : (w.alloc (.cells #[a0, a1, a2, a3] t)).cell? ⟨w.heap.size, k, none⟩ = some u := by
  rw [cell_of_row _ _ k _ _ _ (heap_alloc_new w _)]
  simpa using h

/-- what Get answers -/
def sval (s : Sp) : Value := .agg #[.int .i64 s.g.t, .int .i64 s.g.s, .int .i64 s.g.k, .int .u64 s.b]

/-- a superblock in a block of its own -/
structure Bs (w : World) (b : Nat) (x : Sp) : Prop where
  t : w.cell? ⟨b, 0, none⟩ = some (.int .i64 x.g.t)
  s : w.cell? ⟨b, 1, none⟩ = some (.int .i64 x.g.s)
  k : w.cell? ⟨b, 2, none⟩ = some (.int .i64 x.g.k)
  u : w.cell? ⟨b, 3, none⟩ = some (.int .u64 x.b)
  free : ∀ j, w.frozen? ⟨b, j, none⟩ = false
  lt : b < w.heap.size
theorem Bs.new (w : World) (s : Sp) (t : TypeId) : Bs (w.alloc (.cells #[.int .i64 s.g.t, .int .i64 s.g.s, .int .i64 s.g.k, .int .u64 s.b] t)) w.heap.size s :=
  ⟨cell4 0 _ rfl, cell4 1 _ rfl, cell4 2 _ rfl, cell4 3 _ rfl, fun j => frozen_of_row _ _ j _ _ (heap_alloc_new w _), by simp⟩
theorem Bs.below {w w' : World} {b B : Nat} {s : Sp} (h : Bs w b s) (hb : Below B w w') (hB : b < B) : Bs w' b s :=
  ⟨by rw [hb.cell (p := ⟨b, _, none⟩) hB]; exact h.t, by rw [hb.cell (p := ⟨b, _, none⟩) hB]; exact h.s, by rw [hb.cell (p := ⟨b, _, none⟩) hB]; exact h.k, by rw [hb.cell (p := ⟨b, _, none⟩) hB]; exact h.u,
    fun j => by rw [World.frozen?_of_block (w := w) (a := ⟨b, j, none⟩) (hb.block b hB)]; exact h.free j, Nat.lt_of_lt_of_le h.lt hb.size⟩
theorem Bs.on {w w' : World} {b : Nat} {s : Sp} (h : Bs w b s) (hb : Below w.heap.size w w') : Bs w' b s := h.below hb h.lt
theorem Bs.drew {w : World} {b : Nat} {s : Sp} (h : Bs w b s) : Bs w.drew b s := ⟨h.t, h.s, h.k, h.u, h.free, h.lt⟩

/-- another superblock is stored there -/
def put4 (w : World) (b : Nat) (x : Sp) : World := (((w.setCell ⟨b, 0, none⟩ (.int .i64 x.g.t)).setCell ⟨b, 1, none⟩ (.int .i64 x.g.s)).setCell ⟨b, 2, none⟩ (.int .i64 x.g.k)).setCell ⟨b, 3, none⟩ (.int .u64 x.b)
theorem put4_other (w : World) (b c : Nat) (x : Sp) (j : Nat) (h : c ≠ b ∨ 4 ≤ j) : (put4 w b x).cell? ⟨c, j, none⟩ = w.cell? ⟨c, j, none⟩ := by
  unfold put4
  have hn : ∀ i, i < 4 → (⟨b, i, none⟩ : Addr) ≠ ⟨c, j, none⟩ := fun i hi q => by injection q with q1 q2; omega
  rw [World.cell?_setCell_other _ _ _ _ (hn 3 (by omega)), World.cell?_setCell_other _ _ _ _ (hn 2 (by omega)), World.cell?_setCell_other _ _ _ _ (hn 1 (by omega)), World.cell?_setCell_other _ _ _ _ (hn 0 (by omega))]
theorem set_ne (w : World) (b i j : Nat) (v : Value) (h : i ≠ j) : (w.setCell ⟨b, i, none⟩ v).cell? ⟨b, j, none⟩ = w.cell? ⟨b, j, none⟩ := World.cell?_setCell_other _ _ _ _ (fun q => h (by injection q))
theorem put4_free (w : World) (b c : Nat) (x : Sp) (j : Nat) : (put4 w b x).frozen? ⟨c, j, none⟩ = w.frozen? ⟨c, j, none⟩ := by
  unfold put4
  rw [World.frozen?_setCell, World.frozen?_setCell, World.frozen?_setCell, World.frozen?_setCell]
theorem Bs.put {w : World} {b : Nat} {y : Sp} (h : Bs w b y) (x : Sp) : Bs (put4 w b x) b x := by
  refine ⟨?_, ?_, ?_, ?_, fun j => (put4_free w b b x j).trans (h.free j), by simpa [put4, World.setCell] using h.lt⟩
  · unfold put4
    rw [set_ne _ _ _ _ _ (by omega), set_ne _ _ _ _ _ (by omega), set_ne _ _ _ _ _ (by omega)]
    exact World.cell?_setCell_same _ _ _ h.t
  · unfold put4
    rw [set_ne _ _ _ _ _ (by omega), set_ne _ _ _ _ _ (by omega)]
    exact World.cell?_setCell_same _ _ _ (by rw [set_ne _ _ _ _ _ (by omega)]; exact h.s)
  · unfold put4
    rw [set_ne _ _ _ _ _ (by omega)]
    exact World.cell?_setCell_same _ _ _ (by rw [set_ne _ _ _ _ _ (by omega), set_ne _ _ _ _ _ (by omega)]; exact h.k)
  · unfold put4
    exact World.cell?_setCell_same _ _ _ (by rw [set_ne _ _ _ _ _ (by omega), set_ne _ _ _ _ _ (by omega), set_ne _ _ _ _ _ (by omega)]; exact h.u)
theorem Bs.put_other {w : World} {b c : Nat} {y : Sp} (h : Bs w c y) (x : Sp) (hn : c ≠ b) : Bs (put4 w b x) c y :=
  ⟨(put4_other w b c x _ (.inl hn)).trans h.t, (put4_other w b c x _ (.inl hn)).trans h.s, (put4_other w b c x _ (.inl hn)).trans h.k, (put4_other w b c x _ (.inl hn)).trans h.u,
    fun j => (put4_free w b c x j).trans (h.free j), by simpa [put4, World.setCell] using h.lt⟩
theorem put4_below {W w : World} {b : Nat} {x : Sp} (h : Below W.heap.size W w) (hb : W.heap.size ≤ b) : Below W.heap.size W (put4 w b x) :=
  h.trans ⟨rfl, rfl, rfl, by simp [put4, World.setCell], fun k hk => by
    have hne : k ≠ b := by omega
    unfold put4
    rw [Below.heap_setCell _ _ _ _ hne, Below.heap_setCell _ _ _ _ hne, Below.heap_setCell _ _ _ _ hne, Below.heap_setCell _ _ _ _ hne]⟩

set_option maxHeartbeats 1000000 in
theorem get_long (A : Option Addr) (n cap : Nat) (w : World) (h : ¬ n = 8) :
    Calls Try.prog 10 #[.slice A n cap] w fun e w' => e = .returned (.tuple #[sval zsp, .bool false]) ∧ Below w.heap.size w w' := by
  have hne : ((n : Int) != 8) = true := by simp; omega
  clear h
  go_enter Try.func10, Try.ntmps10
  go_wp2
  go_returns
  exact ⟨rfl, below_alloc _ _⟩

set_option maxHeartbeats 1000000 in
theorem get_eight (A : Option Addr) (cap : Nat) (a0 a1 a2 a3 a4 a5 a6 a7 : Int) (w : World) (hL : WordsAt w w.heap.size A [a0, a1, a2, a3, a4, a5, a6, a7]) (hW : Wds [a0, a1, a2, a3, a4, a5, a6, a7]) (hcap : 8 ≤ cap) :
    Calls Try.prog 10 #[.slice A 8 cap] w fun e w' => e = .returned (.tuple #[sval (get [a0, a1, a2, a3, a4, a5, a6, a7]), .bool (got [a0, a1, a2, a3, a4, a5, a6, a7])]) ∧ Below w.heap.size w w' := by
  obtain ⟨g, o, rfl, hlt, hc⟩ := hL (by simp)
  have c1 := hc 1 _ rfl
  have c2 := hc 2 _ rfl
  have c3 := hc 3 _ rfl
  have c4 := hc 4 _ rfl
  have n0 : ¬ g = w.heap.size := by omega
  have HCAP := Lib.hid hcap
  clear hcap
  go_enter Try.func10, Try.ntmps10
  go_wp2_with fail
  go_region
  go_wp2_with fail
  obtain ⟨w2, hw2⟩ : ∃ w2, w2 = ((w.alloc (.cells #[.int .i64 0, .int .i64 0, .int .i64 0, .int .u64 0] 30)).alloc (.cells #[.int .i64 (wrap64 a1), .int .i64 (wrap64 a2), .int .i64 (wrap64 a3)] 26)).drew := ⟨_, rfl⟩
  have hb2 : Below w.heap.size w w2 := by rw [hw2]; exact (below_on (below_alloc w _) (below_alloc _ _)).drew
  have hs2 : w2.heap.size = w.heap.size + 2 := by rw [hw2]; simp [World.drew]
  have hX := Bx.new (w.alloc (.cells #[.int .i64 0, .int .i64 0, .int .i64 0, .int .u64 0] 30)) ⟨wrap64 a1, wrap64 a2, wrap64 a3⟩ 26
  rw [show (w.alloc (.cells #[.int .i64 0, .int .i64 0, .int .i64 0, .int .u64 0] 30)).heap.size = w.heap.size + 1 by simp] at hX
  have k1 : w2.cell? ⟨w.heap.size + 1, 0, none⟩ = some (.int .i64 (wrap64 a1)) := by rw [hw2]; exact hX.t
  have k2 : w2.cell? ⟨w.heap.size + 1, 1, none⟩ = some (.int .i64 (wrap64 a2)) := by rw [hw2]; exact hX.s
  have k3 : w2.cell? ⟨w.heap.size + 1, 2, none⟩ = some (.int .i64 (wrap64 a3)) := by rw [hw2]; exact hX.k
  have k4 : w2.cell? ⟨g, o + 4, none⟩ = some (.int .u64 a4) := by rw [hb2.cell (p := ⟨g, _, none⟩) hlt]; exact c4
  have R2 : Hid (Bs w2 w.heap.size zsp) := Lib.hid (by rw [hw2]; exact ((Bs.new w zsp 30).on (below_alloc _ _)).drew)
  clear n0
  have n0 : g < w2.heap.size := by omega
  have n1 : w.heap.size + 1 < w2.heap.size := by omega
  rw [← hw2]
  have B2 := Lib.hid hb2
  have HS2 := Lib.hid hs2
  clear c1 c2 c3 c4 hc hw2 hX hb2 hs2
  go_region
  go_wp2_with fail
  obtain ⟨w3, hw3⟩ : ∃ w3, w3 = (w2.alloc (.cells #[.int .i64 (wrap64 a1), .int .i64 (wrap64 a2), .int .i64 (wrap64 a3), .int .u64 a4] 30)).drew := ⟨_, rfl⟩
  have B3 : Hid (Below w.heap.size w w3) := Lib.hid (by rw [hw3]; exact (below_on B2.out (below_alloc _ _)).drew)
  have R3 : Hid (Bs w3 w.heap.size zsp) := Lib.hid (by rw [hw3]; exact (R2.out.on (below_alloc _ _)).drew)
  have V3 : Hid (Bs w3 w2.heap.size (Sp.of [a0, a1, a2, a3, a4, a5, a6, a7])) := Lib.hid (by rw [hw3]; exact (Bs.new w2 (Sp.of [a0, a1, a2, a3, a4, a5, a6, a7]) 30).drew)
  rw [← hw3]
  have hWb : 0 ≤ a4 ∧ a4 < 18446744073709551616 := hW a4 (by simp)
  have hL3 := hL.grow B3.out
  have HN1 := Lib.hid n1
  clear hw3 B2 R2 n0 n1 k1 k2 k3 k4 HS2 hW hL hlt
  refine (put_any (Sp.of [a0, a1, a2, a3, a4, a5, a6, a7]) w3 hWb).mono ?_
  rintro e w4 ⟨v, rfl, hv, hb⟩
  have B4 := Lib.hid (below_on B3.out hb)
  have R4 := Lib.hid (R3.out.on hb)
  have V4 := Lib.hid (V3.out.on hb)
  have hL4 := hL3.grow hb
  clear hb hL3 B3 R3 V3 hWb
  go_wp2_with fail
  obtain ⟨r, hr⟩ : ∃ r, got [a0, a1, a2, a3, a4, a5, a6, a7] = r := ⟨_, rfl⟩
  have hdec : decide ([a0, a1, a2, a3, a4, a5, a6, a7] = (Sp.of [a0, a1, a2, a3, a4, a5, a6, a7]).put) = r := by rw [← hr]; unfold got; exact decide_eq_decide.2 (by simp)
  refine (equal_at (v1 := .slice (some ⟨g, o, none⟩) 8 cap) (l := [a0, a1, a2, a3, a4, a5, a6, a7]) ⟨some ⟨g, o, none⟩, cap, rfl, HCAP.out, hL4⟩ hv (by simp) hdec).mono ?_
  rintro e w5 ⟨rfl, hb⟩
  have B5 := Lib.hid (below_on B4.out hb)
  have R5 := Lib.hid (R4.out.on hb)
  have V5 := Lib.hid (V4.out.on hb)
  have HR := Lib.hid hr
  clear hb hL4 B4 R4 V4 hv hdec hr
  have c0 := R5.out.t
  have c1 := R5.out.s
  have c2 := R5.out.k
  have c3 := R5.out.u
  have f0 := R5.out.free 0
  have f1 := R5.out.free 1
  have f2 := R5.out.free 2
  have f3 := R5.out.free 3
  cases r
  · go_wp2_with fail
    change bodyPost _ _ _ _ _ (put4 w5 w.heap.size zsp)
    have hp := R5.out.put zsp
    have HB6 := Lib.hid (put4_below (x := zsp) B5.out (Nat.le_refl _))
    clear c0 c1 c2 c3 f0 f1 f2 f3
    generalize put4 w5 w.heap.size zsp = w6 at *
    have e0 : w6.cell? ⟨w.heap.size, 0, none⟩ = some (.int .i64 0) := hp.t
    have e1 : w6.cell? ⟨w.heap.size, 1, none⟩ = some (.int .i64 0) := hp.s
    have e2 : w6.cell? ⟨w.heap.size, 2, none⟩ = some (.int .i64 0) := hp.k
    have e3 : w6.cell? ⟨w.heap.size, 3, none⟩ = some (.int .u64 0) := hp.u
    clear hp
    refine bodyPost_ret (by simp [results, Try.results10, go_sem, e0, e1, e2, e3]; rfl) rfl ?_
    refine ⟨?_, HB6.out⟩
    unfold get
    rw [HR.out]
    rfl
  · have d0 : w5.cell? ⟨w2.heap.size, 0, none⟩ = some (.int .i64 (wrap64 a1)) := V5.out.t
    have d1 : w5.cell? ⟨w2.heap.size, 1, none⟩ = some (.int .i64 (wrap64 a2)) := V5.out.s
    have d2 : w5.cell? ⟨w2.heap.size, 2, none⟩ = some (.int .i64 (wrap64 a3)) := V5.out.k
    have d3 : w5.cell? ⟨w2.heap.size, 3, none⟩ = some (.int .u64 a4) := V5.out.u
    go_wp2_with fail
    change bodyPost _ _ _ _ _ (put4 w5 w.heap.size (Sp.of [a0, a1, a2, a3, a4, a5, a6, a7]))
    have hp := R5.out.put (Sp.of [a0, a1, a2, a3, a4, a5, a6, a7])
    have HB6 := Lib.hid (put4_below (x := (Sp.of [a0, a1, a2, a3, a4, a5, a6, a7])) B5.out (Nat.le_refl _))
    clear c0 c1 c2 c3 f0 f1 f2 f3
    generalize put4 w5 w.heap.size (Sp.of [a0, a1, a2, a3, a4, a5, a6, a7]) = w6 at *
    have e0 : w6.cell? ⟨w.heap.size, 0, none⟩ = some (.int .i64 (wrap64 a1)) := hp.t
    have e1 : w6.cell? ⟨w.heap.size, 1, none⟩ = some (.int .i64 (wrap64 a2)) := hp.s
    have e2 : w6.cell? ⟨w.heap.size, 2, none⟩ = some (.int .i64 (wrap64 a3)) := hp.k
    have e3 : w6.cell? ⟨w.heap.size, 3, none⟩ = some (.int .u64 a4) := hp.u
    clear hp
    refine bodyPost_ret (by simp [results, Try.results10, go_sem, e0, e1, e2, e3]; rfl) rfl ?_
    refine ⟨?_, HB6.out⟩
    unfold get
    rw [HR.out]
    rfl

/-- Get. -/
theorem get_any (v : Value) (l : List Int) (w : World) (h : Words w v l) (hW : Wds l) : Calls Try.prog 10 #[v] w fun e w' => e = .returned (.tuple #[sval (get l), .bool (got l)]) ∧ Below w.heap.size w w' := by
  obtain ⟨A, cap, rfl, hcap, hL⟩ := h
  by_cases h8 : l.length = 8
  · obtain ⟨a0, a1, a2, a3, a4, a5, a6, a7, rfl⟩ := eight h8
    exact get_eight A cap a0 a1 a2 a3 a4 a5 a6 a7 w hL hW hcap
  · have hg : got l = false := by unfold got; exact decide_eq_false fun q => h8 q.1
    have hz : get l = zsp := by unfold get; rw [hg]; rfl
    rw [hg, hz]
    exact get_long A l.length cap w h8
theorem get_at {v : Value} {l : List Int} {w : World} {s : Sp} {r : Bool} (h : Words w v l) (hW : Wds l) (hs : get l = s) (hr : got l = r) : Calls Try.prog 10 #[v] w fun e w' => e = .returned (.tuple #[sval s, .bool r]) ∧ Below w.heap.size w w' := by
  subst hs hr
  exact get_any v l w h hW
end Go.Proofs.Yteadkcekoccmdaa
