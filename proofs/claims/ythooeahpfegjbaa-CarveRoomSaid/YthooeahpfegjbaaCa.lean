/-
  A capability as plain data, and the walks of package cap's None, badged, ofThing, fits and Good. No condition.
-/
import Derived.Test.YthooeahpfegjbaaQe
namespace Go.Proofs.Ythooeahpfegjbaa
open Go.RowKit

/-- a capability: its kind, its thing, its rights, its badge -/
structure Cp where
  ty : Int
  th : Int
  ri : Int
  ba : Int
def Cp.val (c : Cp) : Value := .agg #[.int .i64 c.ty, .int .i64 c.th, .int .i64 c.ri, .int .i64 c.ba]
def Cp.eq (c d : Cp) : Bool := c.ty == d.ty && (c.th == d.th && (c.ri == d.ri && c.ba == d.ba))
def Cp.none : Cp := ⟨0, 0, 0, 0⟩
def Cp.non (c : Cp) : Bool := c.eq .none
def Cp.badged (c : Cp) : Bool := c.ty == 3 || c.ty == 4
def Cp.ofThing (c : Cp) : Bool := decide (1 ≤ c.ty) && (decide (c.ty ≤ 5) && (decide (0 ≤ c.th) && decide (c.th < 48)))
def Cp.fits (c : Cp) : Bool := inr c.ri 7 && (inr c.ba 65535 && (c.ba == 0 || c.badged))
def Cp.good (c : Cp) : Bool := c.non || (c.ofThing && c.fits)

theorem eq24 (c d : Cp) (w : World) : (Op.equalIn 10000 39 c.val d.val).run Try.prog w = .ok (c.eq d) w := by
  obtain ⟨a, b, e, f⟩ := c
  obtain ⟨a', b', e', f'⟩ := d
  unfold Cp.val
  by_cases h1 : a = a' <;> by_cases h2 : b = b' <;> by_cases h3 : e = e' <;> by_cases h4 : f = f'
  all_goals simp [go_sem, Cp.eq, h1, h2, h3, h4]
theorem non_any (c : Cp) (w : World) : Calls Try.prog 43 #[c.val] w fun e w' => e = .returned (.bool c.non) ∧ Below w.heap.size w w' := by
  have heq : ∀ w, (Op.equalIn 10000 39 (.agg #[.int .i64 c.ty, .int .i64 c.th, .int .i64 c.ri, .int .i64 c.ba]) (.agg #[.int .i64 0, .int .i64 0, .int .i64 0, .int .i64 0])).run Try.prog w = .ok c.non w := fun w => eq24 c .none w
  unfold Cp.val
  generalize c.non = z at heq ⊢
  go_enter Try.func43, Try.ntmps43
  go_wp2
  go_ret
  exact ⟨rfl, (Below.refl _ _).alloc (Nat.le_refl _) _⟩
theorem badged_any (c : Cp) (w : World) : Calls Try.prog 94 #[c.val] w fun e w' => e = .returned (.bool c.badged) ∧ Below w.heap.size w w' := by
  obtain ⟨a, b, d, f⟩ := c
  unfold Cp.val
  by_cases h1 : a = 3
  all_goals go_enter Try.func94, Try.ntmps94
  all_goals go_wp2
  all_goals go_ret
  all_goals exact ⟨by simp [Cp.badged, h1], (Below.refl _ _).alloc (Nat.le_refl _) _⟩
theorem ofthing_any (c : Cp) (w : World) : Calls Try.prog 87 #[c.val] w fun e w' => e = .returned (.bool c.ofThing) ∧ Below w.heap.size w w' := by
  obtain ⟨a, b, d, f⟩ := c
  unfold Cp.val
  by_cases h1 : 1 ≤ a
  · by_cases h2 : a ≤ 5
    · by_cases h3 : 0 ≤ b
      · go_enter Try.func87, Try.ntmps87
        go_wp2
        go_ret
        exact ⟨by simp [Cp.ofThing, h1, h2, h3], (Below.refl _ _).alloc (Nat.le_refl _) _⟩
      · go_enter Try.func87, Try.ntmps87
        go_wp2
        go_ret
        exact ⟨by simp [Cp.ofThing]; omega, (Below.refl _ _).alloc (Nat.le_refl _) _⟩
    · go_enter Try.func87, Try.ntmps87
      go_wp2
      go_ret
      exact ⟨by simp [Cp.ofThing]; omega, (Below.refl _ _).alloc (Nat.le_refl _) _⟩
  · go_enter Try.func87, Try.ntmps87
    go_wp2
    go_ret
    exact ⟨by simp [Cp.ofThing]; omega, (Below.refl _ _).alloc (Nat.le_refl _) _⟩

section
variable {x a b d f : Int} {z : Bool}
theorem non_at (h : Cp.non ⟨a, b, d, f⟩ = z) (w : World) : Calls Try.prog 43 #[.agg #[.int .i64 a, .int .i64 b, .int .i64 d, .int .i64 f]] w fun e w' => e = .returned (.bool z) ∧ Below w.heap.size w w' := h ▸ non_any ⟨a, b, d, f⟩ w
theorem badged_at (h : Cp.badged ⟨a, b, d, f⟩ = z) (w : World) : Calls Try.prog 94 #[.agg #[.int .i64 a, .int .i64 b, .int .i64 d, .int .i64 f]] w fun e w' => e = .returned (.bool z) ∧ Below w.heap.size w w' := h ▸ badged_any ⟨a, b, d, f⟩ w
theorem ofthing_at (h : Cp.ofThing ⟨a, b, d, f⟩ = z) (w : World) : Calls Try.prog 87 #[.agg #[.int .i64 a, .int .i64 b, .int .i64 d, .int .i64 f]] w fun e w' => e = .returned (.bool z) ∧ Below w.heap.size w w' := h ▸ ofthing_any ⟨a, b, d, f⟩ w
theorem rgood_at (h : inr x 7 = z) (w : World) : Calls Try.prog 92 #[.int .i64 x] w fun e w' => e = .returned (.bool z) ∧ w = w' := h ▸ rgood_any x w
theorem badge_at (h : inr x 65535 = z) (w : World) : Calls Try.prog 93 #[.int .i64 x] w fun e w' => e = .returned (.bool z) ∧ w = w' := h ▸ badge_any x w
end

theorem fits_any (c : Cp) (w : World) : Calls Try.prog 88 #[c.val] w fun e w' => e = .returned (.bool c.fits) ∧ Below w.heap.size w w' := by
  obtain ⟨a, b, d, f⟩ := c
  unfold Cp.val
  rcases h1 : inr d 7 with _ | _
  · have H1 := Lib.hid h1
    clear h1
    go_enter Try.func88, Try.ntmps88
    go_wp2_with (go_at_call 92; (with_reducible refine (rgood_at H1.out _).mono ?_); rintro e w' ⟨rfl, rfl⟩)
    go_ret
    exact ⟨by simp [Cp.fits, H1.out], (Below.refl _ _).alloc (Nat.le_refl _) _⟩
  have H1 := Lib.hid h1
  clear h1
  rcases h2 : inr f 65535 with _ | _
  · have H2 := Lib.hid h2
    clear h2
    go_enter Try.func88, Try.ntmps88
    go_wp2_with (first | (go_at_call 92; (with_reducible refine (rgood_at H1.out _).mono ?_); rintro e w' ⟨rfl, rfl⟩) | (go_at_call 93; (with_reducible refine (badge_at H2.out _).mono ?_); rintro e w' ⟨rfl, rfl⟩))
    go_ret
    exact ⟨by simp [Cp.fits, H1.out, H2.out], (Below.refl _ _).alloc (Nat.le_refl _) _⟩
  have H2 := Lib.hid h2
  clear h2
  by_cases h3 : f = 0
  · subst h3
    go_enter Try.func88, Try.ntmps88
    go_wp2_with (first | (go_at_call 92; (with_reducible refine (rgood_at H1.out _).mono ?_); rintro e w' ⟨rfl, rfl⟩) | (go_at_call 93; (with_reducible refine (badge_at H2.out _).mono ?_); rintro e w' ⟨rfl, rfl⟩))
    go_ret
    exact ⟨by simp [Cp.fits, H1.out, H2.out], (Below.refl _ _).alloc (Nat.le_refl _) _⟩
  obtain ⟨z, hz⟩ : ∃ z, Cp.badged ⟨a, b, d, f⟩ = z := ⟨_, rfl⟩
  have HZ := Lib.hid hz
  clear hz
  go_enter Try.func88, Try.ntmps88
  go_wp2_with (first | (go_at_call 92; (with_reducible refine (rgood_at H1.out _).mono ?_); rintro e w' ⟨rfl, rfl⟩) | (go_at_call 93; (with_reducible refine (badge_at H2.out _).mono ?_); rintro e w' ⟨rfl, rfl⟩) | (go_at_call 94; (with_reducible refine (badged_at HZ.out _).mono ?_); rintro e w' ⟨rfl, hb⟩))
  go_ret
  exact ⟨by simp [Cp.fits, H1.out, H2.out, HZ.out], below_on ((Below.refl _ _).alloc (Nat.le_refl _) _) hb⟩

theorem fits_at {a b d f : Int} {z : Bool} (h : Cp.fits ⟨a, b, d, f⟩ = z) (w : World) : Calls Try.prog 88 #[.agg #[.int .i64 a, .int .i64 b, .int .i64 d, .int .i64 f]] w fun e w' => e = .returned (.bool z) ∧ Below w.heap.size w w' := h ▸ fits_any ⟨a, b, d, f⟩ w

theorem cell4 {w : World} {t : TypeId} {a0 a1 a2 a3 : Value} (k : Nat) (u : Value) (h : [a0, a1, a2, a3][k]? = some u) : (w.alloc (.cells #[a0, a1, a2, a3] t)).cell? ⟨w.heap.size, k, none⟩ = some u := by
  rw [cell_of_row _ _ k _ _ _ (heap_alloc_new w _)]
  simpa using h

/-- a capability in a block of the call's own -/
structure Fr (W w : World) (g : Nat) (a b d f : Int) : Prop where
  c0 : w.cell? ⟨g, 0, none⟩ = some (.int .i64 a)
  c1 : w.cell? ⟨g, 1, none⟩ = some (.int .i64 b)
  c2 : w.cell? ⟨g, 2, none⟩ = some (.int .i64 d)
  c3 : w.cell? ⟨g, 3, none⟩ = some (.int .i64 f)
  free : ∀ j, w.frozen? ⟨g, j, none⟩ = false
  lt : g < w.heap.size
  base : W.heap.size ≤ g
  old : Below W.heap.size W w
section
variable {W w w' : World} {g k : Nat} {a b d f a' b' d' f' : Int}
theorem Fr.new (w : World) (a b d f : Int) (t : TypeId) : Fr w (w.alloc (.cells #[.int .i64 a, .int .i64 b, .int .i64 d, .int .i64 f] t)) w.heap.size a b d f :=
  ⟨cell4 0 _ rfl, cell4 1 _ rfl, cell4 2 _ rfl, cell4 3 _ rfl, fun j => frozen_of_row _ _ j _ _ (heap_alloc_new w _), by simp, Nat.le_refl _, (Below.refl _ _).alloc (Nat.le_refl _) _⟩
theorem Fr.on (h : Fr W w g a b d f) (hb : Below w.heap.size w w') : Fr W w' g a b d f :=
  ⟨by rw [hb.cell (p := ⟨g, _, none⟩) h.lt]; exact h.c0, by rw [hb.cell (p := ⟨g, _, none⟩) h.lt]; exact h.c1, by rw [hb.cell (p := ⟨g, _, none⟩) h.lt]; exact h.c2, by rw [hb.cell (p := ⟨g, _, none⟩) h.lt]; exact h.c3,
    fun j => by rw [World.frozen?_of_block (w := w) (a := ⟨g, j, none⟩) (hb.block g h.lt)]; exact h.free j, Nat.lt_of_lt_of_le h.lt hb.size, h.base, below_on h.old hb⟩
theorem Fr.alloc (h : Fr W w g a b d f) (o : Obj) : Fr W (w.alloc o) g a b d f := h.on (below_alloc _ _)
theorem Fr.drew (h : Fr W w g a b d f) : Fr W w.drew g a b d f := ⟨h.c0, h.c1, h.c2, h.c3, h.free, h.lt, h.base, h.old.drew⟩
/-- one more, made behind it -/
theorem Fr.also (h : Below W.heap.size W w) (a b d f : Int) (t : TypeId) : Fr W (w.alloc (.cells #[.int .i64 a, .int .i64 b, .int .i64 d, .int .i64 f] t)) w.heap.size a b d f :=
  have n := Fr.new w a b d f t
  ⟨n.c0, n.c1, n.c2, n.c3, n.free, n.lt, h.size, below_on h n.old⟩
end

set_option maxHeartbeats 1000000 in
theorem cgood_any (c : Cp) (w : World) : Calls Try.prog 74 #[c.val] w fun e w' => e = .returned (.bool c.good) ∧ Below w.heap.size w w' := by
  obtain ⟨a, b, d, f⟩ := c
  unfold Cp.val
  obtain ⟨x, hx⟩ : ∃ z, Cp.non ⟨a, b, d, f⟩ = z := ⟨_, rfl⟩
  obtain ⟨y, hy⟩ : ∃ z, Cp.ofThing ⟨a, b, d, f⟩ = z := ⟨_, rfl⟩
  obtain ⟨z, hz⟩ : ∃ z, Cp.fits ⟨a, b, d, f⟩ = z := ⟨_, rfl⟩
  have hg : Cp.good ⟨a, b, d, f⟩ = (x || (y && z)) := by rw [Cp.good, hx, hy, hz]
  rw [hg]
  have HX := Lib.hid hx
  have HY := Lib.hid hy
  have HZ := Lib.hid hz
  have hK := Fr.new w a b d f 39
  clear hx hy hz hg
  show Calls Try.prog 74 #[.agg #[.int .i64 a, .int .i64 b, .int .i64 d, .int .i64 f]] w _
  go_enter Try.func74, Try.ntmps74
  go_wp2_with fail
  generalize w.alloc (.cells #[.int .i64 a, .int .i64 b, .int .i64 d, .int .i64 f] 39) = w1 at hK ⊢
  refine (non_at HX.out w1).mono ?_
  rintro e w2 ⟨rfl, hb⟩
  have K2 := Lib.hid (hK.on hb)
  clear hK hb
  rcases x with _ | _
  · have c0 := K2.out.c0
    have c1 := K2.out.c1
    have c2 := K2.out.c2
    have c3 := K2.out.c3
    go_wp2_with fail
    refine (ofthing_at HY.out w2).mono ?_
    rintro e w3 ⟨rfl, hb⟩
    have K3 := Lib.hid (K2.out.on hb)
    clear c0 c1 c2 c3 K2 hb
    rcases y with _ | _
    · go_wp2
      go_ret
      exact ⟨rfl, K3.out.old⟩
    · have c0 := K3.out.c0
      have c1 := K3.out.c1
      have c2 := K3.out.c2
      have c3 := K3.out.c3
      go_wp2_with (go_at_call 88; (with_reducible refine (fits_at HZ.out _).mono ?_); rintro e w4 ⟨rfl, hb⟩)
      go_ret
      exact ⟨by simp, (K3.out.on hb).old⟩
  · go_wp2
    go_ret
    exact ⟨rfl, K2.out.old⟩
theorem cgood_at {a b d f : Int} {z : Bool} (h : Cp.good ⟨a, b, d, f⟩ = z) (w : World) : Calls Try.prog 74 #[.agg #[.int .i64 a, .int .i64 b, .int .i64 d, .int .i64 f]] w fun e w' => e = .returned (.bool z) ∧ Below w.heap.size w w' := h ▸ cgood_any ⟨a, b, d, f⟩ w
end Go.Proofs.Ythooeahpfegjbaa
