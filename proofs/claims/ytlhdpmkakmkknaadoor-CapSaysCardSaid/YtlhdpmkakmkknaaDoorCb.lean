/-
  The walks of package cap's Less, Cut and Stamp. No condition.
-/
import Derived.Test.YtlhdpmkakmkknaaDoorCa
namespace Go.Proofs.YtlhdpmkakmkknaaDoor
open Go.RowKit

/-- is all that one allows allowed by another one -/
def Cp.less (a b : Cp) : Bool := a.non || (a.ty == b.ty && (a.th == b.th && ((less3 (held a.ri) (held b.ri) == 0) && (b.ba == 0 || b.ba == a.ba))))
theorem isin_at {x y : Int} {b : Bool} (h : (less3 (held x) (held y) == 0) = b) (w : World) : Calls Tryd.prog 36 #[.int .i64 x, .int .i64 y] w fun e w' => e = .returned (.bool b) ∧ w = w' := h ▸ isin_any x y w

set_option maxHeartbeats 2000000 in
theorem cless_any (a b : Cp) (w : World) : Calls Tryd.prog 16 #[a.val, b.val] w fun e w' => e = .returned (.bool (a.less b)) ∧ Below w.heap.size w w' := by
  obtain ⟨a0, a1, a2, a3⟩ := a
  obtain ⟨b0, b1, b2, b3⟩ := b
  unfold Cp.val
  obtain ⟨x, hx⟩ : ∃ z, Cp.non ⟨a0, a1, a2, a3⟩ = z := ⟨_, rfl⟩
  obtain ⟨y, hy⟩ : ∃ z, (less3 (held a2) (held b2) == 0) = z := ⟨_, rfl⟩
  have hg : Cp.less ⟨a0, a1, a2, a3⟩ ⟨b0, b1, b2, b3⟩ = (x || (a0 == b0 && (a1 == b1 && (y && (b3 == 0 || b3 == a3))))) := by rw [Cp.less, hx, hy]
  rw [hg]
  have HX := Lib.hid hx
  have HY := Lib.hid hy
  have hK := (Fr.new w a0 a1 a2 a3 24).alloc (.cells #[.int .i64 b0, .int .i64 b1, .int .i64 b2, .int .i64 b3] 24)
  have hJ := Fr.also (W := w) (w := w.alloc (.cells #[.int .i64 a0, .int .i64 a1, .int .i64 a2, .int .i64 a3] 24)) (below_alloc _ _) b0 b1 b2 b3 24
  rw [show (w.alloc (.cells #[.int .i64 a0, .int .i64 a1, .int .i64 a2, .int .i64 a3] 24)).heap.size = w.heap.size + 1 by simp] at hJ
  clear hx hy hg
  show Calls Tryd.prog 16 #[.agg #[.int .i64 a0, .int .i64 a1, .int .i64 a2, .int .i64 a3], .agg #[.int .i64 b0, .int .i64 b1, .int .i64 b2, .int .i64 b3]] w _
  go_enter Tryd.func16, Tryd.ntmps16
  go_wp2_with fail
  generalize (w.alloc (.cells #[.int .i64 a0, .int .i64 a1, .int .i64 a2, .int .i64 a3] 24)).alloc (.cells #[.int .i64 b0, .int .i64 b1, .int .i64 b2, .int .i64 b3] 24) = w1 at hK hJ ⊢
  refine (non_at HX.out w1).mono ?_
  rintro e w2 ⟨rfl, hb⟩
  have K2 := Lib.hid (hK.on hb)
  have J2 := Lib.hid (hJ.on hb)
  clear hK hJ hb
  rcases x with _ | _
  · have c0 := K2.out.c0
    have c1 := K2.out.c1
    have c2 := K2.out.c2
    have c3 := K2.out.c3
    have d0 := J2.out.c0
    have d1 := J2.out.c1
    have d2 := J2.out.c2
    have d3 := J2.out.c3
    by_cases h1 : a0 = b0
    · subst h1
      by_cases h2 : a1 = b1
      · subst h2
        rcases y with _ | _
        · go_wp2_with (go_at_call 36; (with_reducible refine (isin_at HY.out _).mono ?_); rintro e w3 ⟨rfl, rfl⟩)
          go_ret
          exact ⟨by simp, K2.out.old⟩
        · by_cases h3 : b3 = 0
          · subst h3
            go_wp2_with (go_at_call 36; (with_reducible refine (isin_at HY.out _).mono ?_); rintro e w3 ⟨rfl, rfl⟩)
            go_ret
            exact ⟨by simp, K2.out.old⟩
          · go_wp2_with (go_at_call 36; (with_reducible refine (isin_at HY.out _).mono ?_); rintro e w3 ⟨rfl, rfl⟩)
            go_ret
            exact ⟨by simp, K2.out.old⟩
      · go_wp2
        go_ret
        exact ⟨by simp [h2], K2.out.old⟩
    · go_wp2
      go_ret
      exact ⟨by simp [h1], K2.out.old⟩
  · go_wp2
    go_ret
    exact ⟨rfl, K2.out.old⟩

/-- those of its rights alone that others are -/
def Cp.cut (c : Cp) (r : Int) : Cp := if c.good = true then ⟨c.ty, c.th, ((land3 (held c.ri) (held r) : Nat) : Int), c.ba⟩ else .none
theorem both_at {x y : Int} {m : Nat} (h : land3 (held x) (held y) = m) (w : World) : Calls Tryd.prog 33 #[.int .i64 x, .int .i64 y] w fun e w' => e = .returned (.int .i64 (m : Int)) ∧ w = w' := h ▸ both_any x y w

/-- another capability is stored there -/
def put4 (w : World) (g : Nat) (a b d f : Int) : World := (((w.setCell ⟨g, 0, none⟩ (.int .i64 a)).setCell ⟨g, 1, none⟩ (.int .i64 b)).setCell ⟨g, 2, none⟩ (.int .i64 d)).setCell ⟨g, 3, none⟩ (.int .i64 f)
theorem set_ne (w : World) (b i j : Nat) (v : Value) (h : i ≠ j) : (w.setCell ⟨b, i, none⟩ v).cell? ⟨b, j, none⟩ = w.cell? ⟨b, j, none⟩ := World.cell?_setCell_other _ _ _ _ (fun q => h (by injection q))
theorem below_set {W w : World} {g j : Nat} {v : Value} (h : Below W.heap.size W w) (hb : W.heap.size ≤ g) : Below W.heap.size W (w.setCell ⟨g, j, none⟩ v) :=
  h.trans ⟨rfl, rfl, rfl, by simp [World.setCell], fun k hk => Below.heap_setCell _ _ _ _ (by show k ≠ g; omega)⟩
section
variable {W w : World} {g : Nat} {a b d f a' b' d' f' : Int}
theorem Fr.set0 (h : Fr W w g a b d f) (v : Int) : Fr W (w.setCell ⟨g, 0, none⟩ (.int .i64 v)) g v b d f :=
  ⟨World.cell?_setCell_same _ _ _ h.c0, (set_ne _ _ _ _ _ (by omega)).trans h.c1, (set_ne _ _ _ _ _ (by omega)).trans h.c2, (set_ne _ _ _ _ _ (by omega)).trans h.c3, fun j => by rw [World.frozen?_setCell]; exact h.free j, by simpa [World.setCell] using h.lt, h.base, below_set h.old h.base⟩
theorem Fr.set1 (h : Fr W w g a b d f) (v : Int) : Fr W (w.setCell ⟨g, 1, none⟩ (.int .i64 v)) g a v d f :=
  ⟨(set_ne _ _ _ _ _ (by omega)).trans h.c0, World.cell?_setCell_same _ _ _ h.c1, (set_ne _ _ _ _ _ (by omega)).trans h.c2, (set_ne _ _ _ _ _ (by omega)).trans h.c3, fun j => by rw [World.frozen?_setCell]; exact h.free j, by simpa [World.setCell] using h.lt, h.base, below_set h.old h.base⟩
theorem Fr.set2 (h : Fr W w g a b d f) (v : Int) : Fr W (w.setCell ⟨g, 2, none⟩ (.int .i64 v)) g a b v f :=
  ⟨(set_ne _ _ _ _ _ (by omega)).trans h.c0, (set_ne _ _ _ _ _ (by omega)).trans h.c1, World.cell?_setCell_same _ _ _ h.c2, (set_ne _ _ _ _ _ (by omega)).trans h.c3, fun j => by rw [World.frozen?_setCell]; exact h.free j, by simpa [World.setCell] using h.lt, h.base, below_set h.old h.base⟩
theorem Fr.set3 (h : Fr W w g a b d f) (v : Int) : Fr W (w.setCell ⟨g, 3, none⟩ (.int .i64 v)) g a b d v :=
  ⟨(set_ne _ _ _ _ _ (by omega)).trans h.c0, (set_ne _ _ _ _ _ (by omega)).trans h.c1, (set_ne _ _ _ _ _ (by omega)).trans h.c2, World.cell?_setCell_same _ _ _ h.c3, fun j => by rw [World.frozen?_setCell]; exact h.free j, by simpa [World.setCell] using h.lt, h.base, below_set h.old h.base⟩
theorem Fr.other (h : Fr W w g a b d f) {k : Nat} (hn : g ≠ k) (hk : W.heap.size ≤ k) (j : Nat) (v : Value) : Fr W (w.setCell ⟨k, j, none⟩ v) g a b d f :=
  have q : ∀ i, (⟨k, j, none⟩ : Addr) ≠ ⟨g, i, none⟩ := fun i q => hn (by injection q with q1; exact q1.symm)
  ⟨(World.cell?_setCell_other _ _ _ _ (q 0)).trans h.c0, (World.cell?_setCell_other _ _ _ _ (q 1)).trans h.c1, (World.cell?_setCell_other _ _ _ _ (q 2)).trans h.c2, (World.cell?_setCell_other _ _ _ _ (q 3)).trans h.c3,
    fun j => by rw [World.frozen?_setCell]; exact h.free j, by simpa [World.setCell] using h.lt, h.base, below_set h.old hk⟩
theorem Fr.put (h : Fr W w g a b d f) (a' b' d' f' : Int) : Fr W (put4 w g a' b' d' f') g a' b' d' f' := (((h.set0 a').set1 b').set2 d').set3 f'
end

set_option maxHeartbeats 2000000 in
theorem cut_no {a b d f : Int} (h : Cp.good ⟨a, b, d, f⟩ = false) (r : Int) (w : World) : Calls Tryd.prog 13 #[.agg #[.int .i64 a, .int .i64 b, .int .i64 d, .int .i64 f], .int .i64 r] w fun e w' => e = .returned Cp.none.val ∧ Below w.heap.size w w' := by
  have HG := Lib.hid h
  have hK := (Fr.new w a b d f 24).alloc (.cells #[.int .i64 0, .int .i64 0, .int .i64 0, .int .i64 0] 24)
  have hJ := Fr.also (W := w) (w := w.alloc (.cells #[.int .i64 a, .int .i64 b, .int .i64 d, .int .i64 f] 24)) (below_alloc _ _) 0 0 0 0 24
  rw [show (w.alloc (.cells #[.int .i64 a, .int .i64 b, .int .i64 d, .int .i64 f] 24)).heap.size = w.heap.size + 1 by simp] at hJ
  clear h
  go_enter Tryd.func13, Tryd.ntmps13
  go_wp2_with fail
  generalize (w.alloc (.cells #[.int .i64 a, .int .i64 b, .int .i64 d, .int .i64 f] 24)).alloc (.cells #[.int .i64 0, .int .i64 0, .int .i64 0, .int .i64 0] 24) = w1 at hK hJ ⊢
  refine (cgood_at HG.out w1).mono ?_
  rintro e w2 ⟨rfl, hb⟩
  have K2 := Lib.hid (hK.on hb)
  have J2 := Lib.hid (hJ.on hb)
  clear hK hJ hb
  have d0 := J2.out.c0
  have d1 := J2.out.c1
  have d2 := J2.out.c2
  have d3 := J2.out.c3
  have f0 := J2.out.free 0
  have f1 := J2.out.free 1
  have f2 := J2.out.free 2
  have f3 := J2.out.free 3
  go_wp2
  have q := J2.out.put 0 0 0 0
  have e0 := q.c0
  have e1 := q.c1
  have e2 := q.c2
  have e3 := q.c3
  unfold put4 at e0 e1 e2 e3
  refine bodyPost_ret (by simp [results, Tryd.results13, go_sem, e0, e1, e2, e3]; rfl) rfl ?_
  exact ⟨rfl, q.old⟩

set_option maxHeartbeats 2000000 in
theorem cut_yes {a b d f : Int} {m : Nat} {r : Int} (h : Cp.good ⟨a, b, d, f⟩ = true) (hm : land3 (held d) (held r) = m) (w : World) :
    Calls Tryd.prog 13 #[.agg #[.int .i64 a, .int .i64 b, .int .i64 d, .int .i64 f], .int .i64 r] w fun e w' => e = .returned (Cp.val ⟨a, b, (m : Int), f⟩) ∧ Below w.heap.size w w' := by
  have HG := Lib.hid h
  have HM := Lib.hid hm
  have hK := (Fr.new w a b d f 24).alloc (.cells #[.int .i64 0, .int .i64 0, .int .i64 0, .int .i64 0] 24)
  have hJ := Fr.also (W := w) (w := w.alloc (.cells #[.int .i64 a, .int .i64 b, .int .i64 d, .int .i64 f] 24)) (below_alloc _ _) 0 0 0 0 24
  rw [show (w.alloc (.cells #[.int .i64 a, .int .i64 b, .int .i64 d, .int .i64 f] 24)).heap.size = w.heap.size + 1 by simp] at hJ
  clear h hm
  go_enter Tryd.func13, Tryd.ntmps13
  go_wp2_with fail
  generalize (w.alloc (.cells #[.int .i64 a, .int .i64 b, .int .i64 d, .int .i64 f] 24)).alloc (.cells #[.int .i64 0, .int .i64 0, .int .i64 0, .int .i64 0] 24) = w1 at hK hJ ⊢
  refine (cgood_at HG.out w1).mono ?_
  rintro e w2 ⟨rfl, hb⟩
  have K2 := Lib.hid (hK.on hb)
  have J2 := Lib.hid (hJ.on hb)
  clear hK hJ hb
  have c2 := K2.out.c2
  have k2 := K2.out.free 2
  go_wp2_with fail
  refine (both_at HM.out w2).mono ?_
  rintro e w3 ⟨rfl, rfl⟩
  have k0 := K2.out.c0
  have k1 := K2.out.c1
  have k3 := K2.out.c3
  have d0 := J2.out.c0
  have d1 := J2.out.c1
  have d2 := J2.out.c2
  have d3 := J2.out.c3
  have f0 := J2.out.free 0
  have f1 := J2.out.free 1
  have f2 := J2.out.free 2
  have f3 := J2.out.free 3
  go_wp2
  have q := (J2.out.other (k := w.heap.size) (by omega) (Nat.le_refl _) 2 (.int .i64 (m : Int))).put a b m f
  have e0 := q.c0
  have e1 := q.c1
  have e2 := q.c2
  have e3 := q.c3
  unfold put4 at e0 e1 e2 e3
  refine bodyPost_ret (by simp [results, Tryd.results13, go_sem, e0, e1, e2, e3]; rfl) rfl ?_
  exact ⟨rfl, q.old⟩

theorem cut_any (c : Cp) (r : Int) (w : World) : Calls Tryd.prog 13 #[c.val, .int .i64 r] w fun e w' => e = .returned (c.cut r).val ∧ Below w.heap.size w w' := by
  obtain ⟨a, b, d, f⟩ := c
  rcases h : Cp.good ⟨a, b, d, f⟩ with _ | _
  · have e : Cp.cut ⟨a, b, d, f⟩ r = .none := by rw [Cp.cut, h]; rfl
    rw [e]
    exact cut_no h r w
  · have e : Cp.cut ⟨a, b, d, f⟩ r = ⟨a, b, ((land3 (held d) (held r) : Nat) : Int), f⟩ := by rw [Cp.cut, h]; rfl
    rw [e]
    exact cut_yes h rfl w

/-- with a badge: what it is, and how it ended -/
def Cp.stamp (c : Cp) (n : Int) : Cp × Int :=
  if c.good = true ∧ inr n 65535 = true ∧ n ≠ 0 then (if c.badged = true then (if c.ba = 0 then (⟨c.ty, c.th, c.ri, n⟩, 0) else (.none, 5)) else (.none, 7)) else (.none, 1)
def stV (r : Cp × Int) : Value := .tuple #[r.1.val, .int .i64 r.2]

set_option maxHeartbeats 2000000 in
theorem st_at {a b d f n : Int} {x y z : Bool} (hx : Cp.good ⟨a, b, d, f⟩ = x) (hy : inr n 65535 = y) (hz : Cp.badged ⟨a, b, d, f⟩ = z) (w : World) {r : Cp × Int} (hr : Cp.stamp ⟨a, b, d, f⟩ n = r) :
    Calls Tryd.prog 10 #[.agg #[.int .i64 a, .int .i64 b, .int .i64 d, .int .i64 f], .int .i64 n] w fun e w' => e = .returned (stV r) ∧ Below w.heap.size w w' := by
  have HX := Lib.hid hx
  have HY := Lib.hid hy
  have HZ := Lib.hid hz
  have hK := (Fr.new w a b d f 24).alloc (.cells #[.int .i64 0, .int .i64 0, .int .i64 0, .int .i64 0] 24)
  have hJ := Fr.also (W := w) (w := w.alloc (.cells #[.int .i64 a, .int .i64 b, .int .i64 d, .int .i64 f] 24)) (below_alloc _ _) 0 0 0 0 24
  rw [show (w.alloc (.cells #[.int .i64 a, .int .i64 b, .int .i64 d, .int .i64 f] 24)).heap.size = w.heap.size + 1 by simp] at hJ
  have hs : (if x = true ∧ y = true ∧ n ≠ 0 then (if z = true then (if f = 0 then ((⟨a, b, d, n⟩ : Cp), 0) else (.none, 5)) else (.none, 7)) else (.none, 1)) = r := by rw [← hr, Cp.stamp, hx, hy, hz]
  clear hx hy hz hr
  go_enter Tryd.func10, Tryd.ntmps10
  go_wp2_with fail
  generalize (w.alloc (.cells #[.int .i64 a, .int .i64 b, .int .i64 d, .int .i64 f] 24)).alloc (.cells #[.int .i64 0, .int .i64 0, .int .i64 0, .int .i64 0] 24) = w1 at hK hJ ⊢
  have HS := Lib.hid hs
  clear hs
  refine (cgood_at HX.out w1).mono ?_
  rintro e w2 ⟨rfl, hb⟩
  have K2 := Lib.hid (hK.on hb)
  have J2 := Lib.hid (hJ.on hb)
  clear hK hJ hb
  have c0 := K2.out.c0
  have c1 := K2.out.c1
  have c2 := K2.out.c2
  have c3 := K2.out.c3
  have d0 := J2.out.c0
  have d1 := J2.out.c1
  have d2 := J2.out.c2
  have d3 := J2.out.c3
  have f0 := J2.out.free 0
  have f1 := J2.out.free 1
  have f2 := J2.out.free 2
  have f3 := J2.out.free 3
  rcases x with _ | _
  · go_wp2
    have q := J2.out.put 0 0 0 0
    have e0 := q.c0
    have e1 := q.c1
    have e2 := q.c2
    have e3 := q.c3
    unfold put4 at e0 e1 e2 e3
    have hs := HS.out
    subst hs
    refine bodyPost_ret (by simp [results, Tryd.results10, go_sem, e0, e1, e2, e3]; rfl) rfl ?_
    exact ⟨rfl, q.old⟩
  rcases y with _ | _
  · go_wp2_with (go_at_call 27; (with_reducible refine (badge_at HY.out _).mono ?_); rintro e w3 ⟨rfl, rfl⟩)
    have q := J2.out.put 0 0 0 0
    have e0 := q.c0
    have e1 := q.c1
    have e2 := q.c2
    have e3 := q.c3
    unfold put4 at e0 e1 e2 e3
    have hs := HS.out
    subst hs
    refine bodyPost_ret (by simp [results, Tryd.results10, go_sem, e0, e1, e2, e3]; rfl) rfl ?_
    exact ⟨rfl, q.old⟩
  by_cases hn : n = 0
  · subst hn
    go_wp2_with (go_at_call 27; (with_reducible refine (badge_at HY.out _).mono ?_); rintro e w3 ⟨rfl, rfl⟩)
    have q := J2.out.put 0 0 0 0
    have e0 := q.c0
    have e1 := q.c1
    have e2 := q.c2
    have e3 := q.c3
    unfold put4 at e0 e1 e2 e3
    have hs := HS.out
    simp at hs
    subst hs
    refine bodyPost_ret (by simp [results, Tryd.results10, go_sem, e0, e1, e2, e3]; rfl) rfl ?_
    exact ⟨rfl, q.old⟩
  go_wp2_with (go_at_call 27; (with_reducible refine (badge_at HY.out _).mono ?_); rintro e w3 ⟨rfl, rfl⟩)
  refine (badged_at HZ.out w2).mono ?_
  rintro e w3 ⟨rfl, hb⟩
  have K3 := Lib.hid (K2.out.on hb)
  have J3 := Lib.hid (J2.out.on hb)
  clear c0 c1 c2 c3 d0 d1 d2 d3 f0 f1 f2 f3 K2 J2 hb
  have c0 := K3.out.c0
  have c1 := K3.out.c1
  have c2 := K3.out.c2
  have c3 := K3.out.c3
  have k3 := K3.out.free 3
  have d0 := J3.out.c0
  have d1 := J3.out.c1
  have d2 := J3.out.c2
  have d3 := J3.out.c3
  have f0 := J3.out.free 0
  have f1 := J3.out.free 1
  have f2 := J3.out.free 2
  have f3 := J3.out.free 3
  rcases z with _ | _
  · go_wp2
    have q := J3.out.put 0 0 0 0
    have e0 := q.c0
    have e1 := q.c1
    have e2 := q.c2
    have e3 := q.c3
    unfold put4 at e0 e1 e2 e3
    have hs := HS.out
    simp [hn] at hs
    subst hs
    refine bodyPost_ret (by simp [results, Tryd.results10, go_sem, e0, e1, e2, e3]; rfl) rfl ?_
    exact ⟨rfl, q.old⟩
  by_cases hf : f = 0
  · subst hf
    go_wp2
    have q := (J3.out.other (k := w.heap.size) (by omega) (Nat.le_refl _) 3 (.int .i64 n)).put a b d n
    have e0 := q.c0
    have e1 := q.c1
    have e2 := q.c2
    have e3 := q.c3
    unfold put4 at e0 e1 e2 e3
    have hs := HS.out
    simp [hn] at hs
    subst hs
    refine bodyPost_ret (by simp [results, Tryd.results10, go_sem, e0, e1, e2, e3]; rfl) rfl ?_
    exact ⟨rfl, q.old⟩
  · go_wp2
    have q := J3.out.put 0 0 0 0
    have e0 := q.c0
    have e1 := q.c1
    have e2 := q.c2
    have e3 := q.c3
    unfold put4 at e0 e1 e2 e3
    have hs := HS.out
    simp [hn, hf] at hs
    subst hs
    refine bodyPost_ret (by simp [results, Tryd.results10, go_sem, e0, e1, e2, e3]; rfl) rfl ?_
    exact ⟨rfl, q.old⟩
theorem stamp_any (c : Cp) (n : Int) (w : World) : Calls Tryd.prog 10 #[c.val, .int .i64 n] w fun e w' => e = .returned (stV (c.stamp n)) ∧ Below w.heap.size w w' := st_at rfl rfl rfl w rfl
end Go.Proofs.YtlhdpmkakmkknaaDoor
