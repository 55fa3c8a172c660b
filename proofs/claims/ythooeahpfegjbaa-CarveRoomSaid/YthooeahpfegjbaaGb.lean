/-
  The walks of package geo's has, firstSlot, firstThing, Lock, Root, Desc, Slot, Thing, Copy, Rows, Plain. No condition.
-/
import Derived.Test.YthooeahpfegjbaaGa
import Derived.Handy
namespace Go.Proofs.Ythooeahpfegjbaa
open Go.RowKit

theorem wrap_in {z : Int} (h1 : -9223372036854775808 ≤ z) (h2 : z ≤ 9223372036854775807) : IntKind.i64.wrap z = z := by
  rw [IntKind.wrap_i64]
  omega
theorem w64_in {z : Int} (h1 : -9223372036854775808 ≤ z) (h2 : z ≤ 9223372036854775807) : wrap64 z = z := by
  unfold wrap64; omega

theorem good_at {g : Gd} {r : Bool} (h : g.ok = r) (w : World) : Calls Try.prog 46 #[.agg #[.int .i64 g.t, .int .i64 g.s, .int .i64 g.k]] w fun e w' => e = .returned (.bool r) ∧ Below w.heap.size w w' := by
  subst h
  exact good_any g w

set_option maxHeartbeats 1000000 in
theorem has_any (g : Gd) (n i : Int) (hn : g.ok = true → 0 ≤ n ∧ n ≤ 1000) (w : World) : Calls Try.prog 65 #[.agg #[.int .i64 g.t, .int .i64 g.s, .int .i64 g.k], .int .i64 n, .int .i64 i] w fun e w' => e = .returned (.bool (g.has n i)) ∧ Below w.heap.size w w' := by
  have HX := Bx.new w g 24
  have c1 := HX.t
  have c2 := HX.s
  have c3 := HX.k
  have HB := Lib.hid (below_alloc w (.cells #[.int .i64 g.t, .int .i64 g.s, .int .i64 g.k] 24))
  clear HX
  rcases hg : g.ok with _ | _
  · have HG := Lib.hid hg
    have hh : g.has n i = false := by unfold Gd.has; rw [hg]; rfl
    rw [hh]
    clear hg hn hh
    go_enter Try.func65, Try.ntmps65
    go_wp2_with (go_at_call 46; (with_reducible refine (good_at HG.out _).mono ?_); rintro e w' ⟨rfl, hb⟩; replace HB := Lib.hid (below_on HB.out hb); clear hb)
    go_ret
    exact ⟨rfl, HB.out⟩
  · have HG := Lib.hid hg
    have e1 : wrap64 (n - 1) = n - 1 := by have := hn hg; unfold wrap64; omega
    obtain ⟨r, hr⟩ : ∃ r, decide (0 ≤ i ∧ i ≤ n - 1) = r := ⟨_, rfl⟩
    have hh : g.has n i = r := by unfold Gd.has; rw [hg, hr]; rfl
    have HR := Lib.hid hr
    rw [hh]
    clear hg hn hh hr
    go_enter Try.func65, Try.ntmps65
    go_wp2_with (first
      | (go_at_call 46; (with_reducible refine (good_at HG.out _).mono ?_); rintro e w' ⟨rfl, hb⟩; replace HB := Lib.hid (below_on HB.out hb); clear hb)
      | (go_at_call 63; rw [e1]; (with_reducible refine (within_at HR.out _).mono ?_); rintro e w' ⟨rfl, rfl⟩))
    go_ret
    exact ⟨rfl, HB.out⟩
theorem has_at {g : Gd} {n i : Int} {r : Bool} (h : g.has n i = r) (hn : g.ok = true → 0 ≤ n ∧ n ≤ 1000) (w : World) : Calls Try.prog 65 #[.agg #[.int .i64 g.t, .int .i64 g.s, .int .i64 g.k], .int .i64 n, .int .i64 i] w fun e w' => e = .returned (.bool r) ∧ Below w.heap.size w w' := by
  subst h
  exact has_any g n i hn w

/-- the cells of a Geo, and what was before -/
def Kp (w0 : World) (b : Nat) (g : Gd) (w : World) : Prop := Bx w b g ∧ Below w0.heap.size w0 w
theorem Kp.on {w0 w w' : World} {b : Nat} {g : Gd} (h : Kp w0 b g w) (hb : Below w.heap.size w w') : Kp w0 b g w' := ⟨h.1.on hb, below_on h.2 hb⟩
theorem Kp.new (w : World) (g : Gd) (t : TypeId) : Kp w w.heap.size g (w.alloc (.cells #[.int .i64 g.t, .int .i64 g.s, .int .i64 g.k] t)) := ⟨Bx.new w g t, below_alloc _ _⟩
theorem Kp.drew {w0 w : World} {b : Nat} {g : Gd} (h : Kp w0 b g w) : Kp w0 b g w.drew := ⟨⟨h.1.t, h.1.s, h.1.k, h.1.lt⟩, h.2.drew⟩
theorem Gd.ok_t {g : Gd} (h : g.ok = true) : 0 ≤ g.t ∧ g.t ≤ 1000 := by obtain ⟨h1, h2, h3, h4, h5, h6, h7⟩ := Gd.ok_iff.1 h; omega
theorem Gd.ok_s {g : Gd} (h : g.ok = true) : 0 ≤ g.s ∧ g.s ≤ 1000 := by obtain ⟨h1, h2, h3, h4, h5, h6, h7⟩ := Gd.ok_iff.1 h; omega
theorem Gd.ok_k {g : Gd} (h : g.ok = true) : 0 ≤ g.k ∧ g.k ≤ 1000 := by obtain ⟨h1, h2, h3, h4, h5, h6, h7⟩ := Gd.ok_iff.1 h; omega

set_option maxHeartbeats 1000000 in
theorem root_any (g : Gd) (i : Int) (w : World) : Calls Try.prog 48 #[.agg #[.int .i64 g.t, .int .i64 g.s, .int .i64 g.k], .int .i64 i] w fun e w' => e = .returned (.int .i64 (g.root i)) ∧ Below w.heap.size w w' := by
  have HX := Bx.new w g 24
  have c1 := HX.t
  have c2 := HX.s
  have c3 := HX.k
  have HB := Lib.hid (below_alloc w (.cells #[.int .i64 g.t, .int .i64 g.s, .int .i64 g.k] 24))
  clear HX
  unfold Gd.root
  rcases hh : g.has g.t i with _ | _
  · have HH := Lib.hid hh
    clear hh
    go_enter Try.func48, Try.ntmps48
    go_wp2_with (go_at_call 65; (with_reducible refine (has_at HH.out Gd.ok_t _).mono ?_); rintro e w' ⟨rfl, hb⟩; replace HB := Lib.hid (below_on HB.out hb); clear hb)
    go_ret
    exact ⟨rfl, HB.out⟩
  · have HH := Lib.hid hh
    clear hh
    go_enter Try.func48, Try.ntmps48
    go_wp2_with (go_at_call 65; (with_reducible refine (has_at HH.out Gd.ok_t _).mono ?_); rintro e w' ⟨rfl, hb⟩; replace HB := Lib.hid (below_on HB.out hb); clear hb)
    go_ret
    refine ⟨?_, HB.out⟩
    obtain ⟨h1, h2, h3⟩ := Gd.has_iff.1 HH.out
    have h4 := Gd.ok_t h1
    refine congrArg (fun y : Int => Ending.returned (.int .i64 y)) ?_
    exact w64_in (by omega) (by omega)

theorem plain_any (w : World) : Calls Try.prog 20 #[] w fun e w' => e = .returned (.agg #[.int .i64 2, .int .i64 32, .int .i64 16]) ∧ Below w.heap.size w w' := by
  go_enter Try.func20, Try.ntmps20
  go_wp2
  go_returns
  exact ⟨rfl, below_alloc _ _⟩

/- the contracts with the answer named, over a Geo's numbers -/
theorem good_to {t s k : Int} {r : Bool} (h : Gd.ok ⟨t, s, k⟩ = r) (w : World) : Calls Try.prog 46 #[.agg #[.int .i64 t, .int .i64 s, .int .i64 k]] w fun e w' => e = .returned (.bool r) ∧ Below w.heap.size w w' := good_at (g := ⟨t, s, k⟩) h w
theorem root_to {t s k i r : Int} (h : Gd.root ⟨t, s, k⟩ i = r) (w : World) : Calls Try.prog 48 #[.agg #[.int .i64 t, .int .i64 s, .int .i64 k], .int .i64 i] w fun e w' => e = .returned (.int .i64 r) ∧ Below w.heap.size w w' := by
  subst h
  exact root_any ⟨t, s, k⟩ i w
end Go.Proofs.Ythooeahpfegjbaa
