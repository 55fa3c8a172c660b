/-
  The walks of package cap's Less, Cut and Stamp. No condition.
-/
import Derived.Test.YthooeahpfegjbaaCa
namespace Go.Proofs.Ythooeahpfegjbaa
open Go.RowKit

/-- is all that one allows allowed by another one -/
def Cp.less (a b : Cp) : Bool := a.non || (a.ty == b.ty && (a.th == b.th && ((less3 (held a.ri) (held b.ri) == 0) && (b.ba == 0 || b.ba == a.ba))))
theorem isin_at {x y : Int} {b : Bool} (h : (less3 (held x) (held y) == 0) = b) (w : World) : Calls Try.prog 89 #[.int .i64 x, .int .i64 y] w fun e w' => e = .returned (.bool b) ∧ w = w' := h ▸ isin_any x y w

set_option maxHeartbeats 2000000 in
theorem cless_any (a b : Cp) (w : World) : Calls Try.prog 76 #[a.val, b.val] w fun e w' => e = .returned (.bool (a.less b)) ∧ Below w.heap.size w w' := by
  obtain ⟨a0, a1, a2, a3⟩ := a
  obtain ⟨b0, b1, b2, b3⟩ := b
  unfold Cp.val
  obtain ⟨x, hx⟩ : ∃ z, Cp.non ⟨a0, a1, a2, a3⟩ = z := ⟨_, rfl⟩
  obtain ⟨y, hy⟩ : ∃ z, (less3 (held a2) (held b2) == 0) = z := ⟨_, rfl⟩
  have hg : Cp.less ⟨a0, a1, a2, a3⟩ ⟨b0, b1, b2, b3⟩ = (x || (a0 == b0 && (a1 == b1 && (y && (b3 == 0 || b3 == a3))))) := by rw [Cp.less, hx, hy]
  rw [hg]
  have HX := Lib.hid hx
  have HY := Lib.hid hy
  have hK := (Fr.new w a0 a1 a2 a3 39).alloc (.cells #[.int .i64 b0, .int .i64 b1, .int .i64 b2, .int .i64 b3] 39)
  have hJ := Fr.also (W := w) (w := w.alloc (.cells #[.int .i64 a0, .int .i64 a1, .int .i64 a2, .int .i64 a3] 39)) (below_alloc _ _) b0 b1 b2 b3 39
  rw [show (w.alloc (.cells #[.int .i64 a0, .int .i64 a1, .int .i64 a2, .int .i64 a3] 39)).heap.size = w.heap.size + 1 by simp] at hJ
  clear hx hy hg
  show Calls Try.prog 76 #[.agg #[.int .i64 a0, .int .i64 a1, .int .i64 a2, .int .i64 a3], .agg #[.int .i64 b0, .int .i64 b1, .int .i64 b2, .int .i64 b3]] w _
  go_enter Try.func76, Try.ntmps76
  go_wp2_with fail
  generalize (w.alloc (.cells #[.int .i64 a0, .int .i64 a1, .int .i64 a2, .int .i64 a3] 39)).alloc (.cells #[.int .i64 b0, .int .i64 b1, .int .i64 b2, .int .i64 b3] 39) = w1 at hK hJ ⊢
  refine (non_at HX.out w1).mono ?_
  rintro e w2 ⟨rfl, hb⟩
  have K2 := Lib.hid (hK.on hb)
  have J2 := Lib.hid (hJ.on hb)
  clear hK hJ hb
  rcases x with _ | _
  · have c0 := K2.out.c0
    have c1 := K2.out.c1
    have c2 := K2.out.c2
    have c3 := K2.out.c3
    have d0 := J2.out.c0
    have d1 := J2.out.c1
    have d2 := J2.out.c2
    have d3 := J2.out.c3
    by_cases h1 : a0 = b0
    · subst h1
      by_cases h2 : a1 = b1
      · subst h2
        rcases y with _ | _
        · go_wp2_with (go_at_call 89; (with_reducible refine (isin_at HY.out _).mono ?_); rintro e w3 ⟨rfl, rfl⟩)
          go_ret
          exact ⟨by simp, K2.out.old⟩
        · by_cases h3 : b3 = 0
          · subst h3
            go_wp2_with (go_at_call 89; (with_reducible refine (isin_at HY.out _).mono ?_); rintro e w3 ⟨rfl, rfl⟩)
            go_ret
            exact ⟨by simp, K2.out.old⟩
          · go_wp2_with (go_at_call 89; (with_reducible refine (isin_at HY.out _).mono ?_); rintro e w3 ⟨rfl, rfl⟩)
            go_ret
            exact ⟨by simp, K2.out.old⟩
      · go_wp2
        go_ret
        exact ⟨by simp [h2], K2.out.old⟩
    · go_wp2
      go_ret
      exact ⟨by simp [h1], K2.out.old⟩
  · go_wp2
    go_ret
    exact ⟨rfl, K2.out.old⟩

/-- those of its rights alone that others are -/
def Cp.cut (c : Cp) (r : Int) : Cp := if c.good = true then ⟨c.ty, c.th, ((land3 (held c.ri) (held r) : Nat) : Int), c.ba⟩ else .none
/-- another capability is stored there -/
def put4 (w : World) (g : Nat) (a b d f : Int) : World := (((w.setCell ⟨g, 0, none⟩ (.int .i64 a)).setCell ⟨g, 1, none⟩ (.int .i64 b)).setCell ⟨g, 2, none⟩ (.int .i64 d)).setCell ⟨g, 3, none⟩ (.int .i64 f)
theorem set_ne (w : World) (b i j : Nat) (v : Value) (h : i ≠ j) : (w.setCell ⟨b, i, none⟩ v).cell? ⟨b, j, none⟩ = w.cell? ⟨b, j, none⟩ := World.cell?_setCell_other _ _ _ _ (fun q => h (by injection q))
theorem below_set {W w : World} {g j : Nat} {v : Value} (h : Below W.heap.size W w) (hb : W.heap.size ≤ g) : Below W.heap.size W (w.setCell ⟨g, j, none⟩ v) :=
  h.trans ⟨rfl, rfl, rfl, by simp [World.setCell], fun k hk => Below.heap_setCell _ _ _ _ (by show k ≠ g; omega)⟩
section
variable {W w : World} {g : Nat} {a b d f a' b' d' f' : Int}
theorem Fr.set0 (h : Fr W w g a b d f) (v : Int) : Fr W (w.setCell ⟨g, 0, none⟩ (.int .i64 v)) g v b d f :=
  ⟨World.cell?_setCell_same _ _ _ h.c0, (set_ne _ _ _ _ _ (by omega)).trans h.c1, (set_ne _ _ _ _ _ (by omega)).trans h.c2, (set_ne _ _ _ _ _ (by omega)).trans h.c3, fun j => by rw [World.frozen?_setCell]; exact h.free j, by simpa [World.setCell] using h.lt, h.base, below_set h.old h.base⟩
theorem Fr.set1 (h : Fr W w g a b d f) (v : Int) : Fr W (w.setCell ⟨g, 1, none⟩ (.int .i64 v)) g a v d f :=
  ⟨(set_ne _ _ _ _ _ (by omega)).trans h.c0, World.cell?_setCell_same _ _ _ h.c1, (set_ne _ _ _ _ _ (by omega)).trans h.c2, (set_ne _ _ _ _ _ (by omega)).trans h.c3, fun j => by rw [World.frozen?_setCell]; exact h.free j, by simpa [World.setCell] using h.lt, h.base, below_set h.old h.base⟩
theorem Fr.set2 (h : Fr W w g a b d f) (v : Int) : Fr W (w.setCell ⟨g, 2, none⟩ (.int .i64 v)) g a b v f :=
  ⟨(set_ne _ _ _ _ _ (by omega)).trans h.c0, (set_ne _ _ _ _ _ (by omega)).trans h.c1, World.cell?_setCell_same _ _ _ h.c2, (set_ne _ _ _ _ _ (by omega)).trans h.c3, fun j => by rw [World.frozen?_setCell]; exact h.free j, by simpa [World.setCell] using h.lt, h.base, below_set h.old h.base⟩
theorem Fr.set3 (h : Fr W w g a b d f) (v : Int) : Fr W (w.setCell ⟨g, 3, none⟩ (.int .i64 v)) g a b d v :=
  ⟨(set_ne _ _ _ _ _ (by omega)).trans h.c0, (set_ne _ _ _ _ _ (by omega)).trans h.c1, (set_ne _ _ _ _ _ (by omega)).trans h.c2, World.cell?_setCell_same _ _ _ h.c3, fun j => by rw [World.frozen?_setCell]; exact h.free j, by simpa [World.setCell] using h.lt, h.base, below_set h.old h.base⟩
theorem Fr.other (h : Fr W w g a b d f) {k : Nat} (hn : g ≠ k) (hk : W.heap.size ≤ k) (j : Nat) (v : Value) : Fr W (w.setCell ⟨k, j, none⟩ v) g a b d f :=
  have q : ∀ i, (⟨k, j, none⟩ : Addr) ≠ ⟨g, i, none⟩ := fun i q => hn (by injection q with q1; exact q1.symm)
  ⟨(World.cell?_setCell_other _ _ _ _ (q 0)).trans h.c0, (World.cell?_setCell_other _ _ _ _ (q 1)).trans h.c1, (World.cell?_setCell_other _ _ _ _ (q 2)).trans h.c2, (World.cell?_setCell_other _ _ _ _ (q 3)).trans h.c3,
    fun j => by rw [World.frozen?_setCell]; exact h.free j, by simpa [World.setCell] using h.lt, h.base, below_set h.old hk⟩
theorem Fr.put (h : Fr W w g a b d f) (a' b' d' f' : Int) : Fr W (put4 w g a' b' d' f') g a' b' d' f' := (((h.set0 a').set1 b').set2 d').set3 f'
end

/-- with a badge: what it is, and how it ended -/
def Cp.stamp (c : Cp) (n : Int) : Cp × Int :=
  if c.good = true ∧ inr n 65535 = true ∧ n ≠ 0 then (if c.badged = true then (if c.ba = 0 then (⟨c.ty, c.th, c.ri, n⟩, 0) else (.none, 5)) else (.none, 7)) else (.none, 1)
def stV (r : Cp × Int) : Value := .tuple #[r.1.val, .int .i64 r.2]

theorem good_iff_all {a b d f : Int} : Cp.good ⟨a, b, d, f⟩ = true ↔ (a = 0 ∧ b = 0 ∧ d = 0 ∧ f = 0) ∨ (1 ≤ a ∧ a ≤ 5 ∧ 0 ≤ b ∧ b < 48 ∧ 0 ≤ d ∧ d ≤ 7 ∧ 0 ≤ f ∧ f ≤ 65535 ∧ (f = 0 ∨ a = 3 ∨ a = 4)) := by
  simp only [Cp.good, Cp.non, Cp.eq, Cp.none, Cp.ofThing, Cp.fits, Cp.badged, inr, Bool.or_eq_true, Bool.and_eq_true, decide_eq_true_eq, beq_iff_eq]
  constructor
  · rintro (⟨h1, h2, h3, h4⟩ | ⟨⟨h1, h2, h3, h4⟩, ⟨h5, h6⟩, ⟨h7, h8⟩, h9⟩)
    · exact .inl ⟨h1, h2, h3, h4⟩
    · exact .inr ⟨h1, h2, h3, h4, h5, h6, h7, h8, h9⟩
  · rintro (⟨h1, h2, h3, h4⟩ | ⟨h1, h2, h3, h4, h5, h6, h7, h8, h9⟩)
    · exact .inl ⟨h1, h2, h3, h4⟩
    · exact .inr ⟨⟨h1, h2, h3, h4⟩, ⟨h5, h6⟩, ⟨h7, h8⟩, h9⟩
theorem non_eq {c : Cp} (h : c.non = true) : c = .none := by
  obtain ⟨a, b, d, f⟩ := c
  simp only [Cp.non, Cp.eq, Cp.none, Bool.and_eq_true, beq_iff_eq] at h
  obtain ⟨rfl, rfl, rfl, rfl⟩ := h
  rfl
end Go.Proofs.Ythooeahpfegjbaa
