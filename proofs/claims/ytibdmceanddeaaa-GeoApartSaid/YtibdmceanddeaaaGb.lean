/-
  The walks of package geo's has, firstSlot, firstThing, Lock, Root, Desc, Slot, Thing, Copy, Rows, Plain. No condition.
-/
import Derived.Test.YtibdmceanddeaaaGa
import Derived.Handy
namespace Go.Proofs.Ytibdmceanddeaaa
open Go.RowKit

theorem wrap_in {z : Int} (h1 : -9223372036854775808 ≤ z) (h2 : z ≤ 9223372036854775807) : IntKind.i64.wrap z = z := by
  rw [IntKind.wrap_i64]
  omega
theorem w64_in {z : Int} (h1 : -9223372036854775808 ≤ z) (h2 : z ≤ 9223372036854775807) : wrap64 z = z := by
  unfold wrap64; omega

theorem good_at {g : Gd} {r : Bool} (h : g.ok = r) (w : World) : Calls Try.prog 8 #[.agg #[.int .i64 g.t, .int .i64 g.s, .int .i64 g.k]] w fun e w' => e = .returned (.bool r) ∧ Below w.heap.size w w' := by
  subst h
  exact good_any g w

set_option maxHeartbeats 1000000 in
theorem has_any (g : Gd) (n i : Int) (hn : g.ok = true → 0 ≤ n ∧ n ≤ 1000) (w : World) : Calls Try.prog 24 #[.agg #[.int .i64 g.t, .int .i64 g.s, .int .i64 g.k], .int .i64 n, .int .i64 i] w fun e w' => e = .returned (.bool (g.has n i)) ∧ Below w.heap.size w w' := by
  have HX := Bx.new w g 24
  have c1 := HX.t
  have c2 := HX.s
  have c3 := HX.k
  have HB := Lib.hid (below_alloc w (.cells #[.int .i64 g.t, .int .i64 g.s, .int .i64 g.k] 24))
  clear HX
  rcases hg : g.ok with _ | _
  · have HG := Lib.hid hg
    have hh : g.has n i = false := by unfold Gd.has; rw [hg]; rfl
    rw [hh]
    clear hg hn hh
    go_enter Try.func24, Try.ntmps24
    go_wp2_with (go_at_call 8; (with_reducible refine (good_at HG.out _).mono ?_); rintro e w' ⟨rfl, hb⟩; replace HB := Lib.hid (below_on HB.out hb); clear hb)
    go_ret
    exact ⟨rfl, HB.out⟩
  · have HG := Lib.hid hg
    have e1 : wrap64 (n - 1) = n - 1 := by have := hn hg; unfold wrap64; omega
    obtain ⟨r, hr⟩ : ∃ r, decide (0 ≤ i ∧ i ≤ n - 1) = r := ⟨_, rfl⟩
    have hh : g.has n i = r := by unfold Gd.has; rw [hg, hr]; rfl
    have HR := Lib.hid hr
    rw [hh]
    clear hg hn hh hr
    go_enter Try.func24, Try.ntmps24
    go_wp2_with (first
      | (go_at_call 8; (with_reducible refine (good_at HG.out _).mono ?_); rintro e w' ⟨rfl, hb⟩; replace HB := Lib.hid (below_on HB.out hb); clear hb)
      | (go_at_call 25; rw [e1]; (with_reducible refine (within_at HR.out _).mono ?_); rintro e w' ⟨rfl, rfl⟩))
    go_ret
    exact ⟨rfl, HB.out⟩
theorem has_at {g : Gd} {n i : Int} {r : Bool} (h : g.has n i = r) (hn : g.ok = true → 0 ≤ n ∧ n ≤ 1000) (w : World) : Calls Try.prog 24 #[.agg #[.int .i64 g.t, .int .i64 g.s, .int .i64 g.k], .int .i64 n, .int .i64 i] w fun e w' => e = .returned (.bool r) ∧ Below w.heap.size w w' := by
  subst h
  exact has_any g n i hn w

theorem first_slot {g : Gd} (h : g.ok = true) (w : World) : Calls Try.prog 26 #[.agg #[.int .i64 g.t, .int .i64 g.s, .int .i64 g.k]] w fun e w' => e = .returned (.int .i64 g.slot0) ∧ Below w.heap.size w w' := by
  have HX := Bx.new w g 24
  have c1 := HX.t
  have HB := Lib.hid (below_alloc w (.cells #[.int .i64 g.t, .int .i64 g.s, .int .i64 g.k] 24))
  have HG := Lib.hid h
  clear HX h
  go_enter Try.func26, Try.ntmps26
  go_wp2
  go_ret
  refine ⟨?_, HB.out⟩
  obtain ⟨h1, h2, _⟩ := Gd.ok_iff.1 HG.out
  exact congrArg (fun y : Int => Ending.returned (.int .i64 y)) (by unfold Gd.slot0 wrap64; omega)

/-- the cells of a Geo, and what was before -/
def Kp (w0 : World) (b : Nat) (g : Gd) (w : World) : Prop := Bx w b g ∧ Below w0.heap.size w0 w
theorem Kp.on {w0 w w' : World} {b : Nat} {g : Gd} (h : Kp w0 b g w) (hb : Below w.heap.size w w') : Kp w0 b g w' := ⟨h.1.on hb, below_on h.2 hb⟩
theorem Kp.new (w : World) (g : Gd) (t : TypeId) : Kp w w.heap.size g (w.alloc (.cells #[.int .i64 g.t, .int .i64 g.s, .int .i64 g.k] t)) := ⟨Bx.new w g t, below_alloc _ _⟩
theorem Kp.drew {w0 w : World} {b : Nat} {g : Gd} (h : Kp w0 b g w) : Kp w0 b g w.drew := ⟨⟨h.1.t, h.1.s, h.1.k, h.1.lt⟩, h.2.drew⟩
theorem k_slot {w0 w : World} {b : Nat} {g : Gd} (h : g.ok = true) (hk : Kp w0 b g w) : Calls Try.prog 26 #[.agg #[.int .i64 g.t, .int .i64 g.s, .int .i64 g.k]] w fun e w' => e = .returned (.int .i64 g.slot0) ∧
    w'.cell? ⟨b, 0, none⟩ = some (.int .i64 g.t) ∧ w'.cell? ⟨b, 1, none⟩ = some (.int .i64 g.s) ∧ w'.cell? ⟨b, 2, none⟩ = some (.int .i64 g.k) ∧ Kp w0 b g w' := by
  refine (first_slot h w).mono ?_
  rintro e w' ⟨rfl, hb⟩
  have := hk.on hb
  exact ⟨rfl, this.1.t, this.1.s, this.1.k, this⟩

set_option maxHeartbeats 1000000 in
theorem first_thing {g : Gd} (h : g.ok = true) (w : World) : Calls Try.prog 27 #[.agg #[.int .i64 g.t, .int .i64 g.s, .int .i64 g.k]] w fun e w' => e = .returned (.int .i64 g.thing0) ∧ Below w.heap.size w w' := by
  have HG := Lib.hid h
  have hk := (Kp.new w g 24).drew
  have c1 := hk.1.t
  have c2 := hk.1.s
  have c3 := hk.1.k
  clear h
  go_enter Try.func27, Try.ntmps27
  go_wp2_with fail
  go_region_held3 (fun w' => w'.cell? ⟨w.heap.size, 0, none⟩ = some (.int .i64 g.t) ∧ w'.cell? ⟨w.heap.size, 1, none⟩ = some (.int .i64 g.s) ∧ w'.cell? ⟨w.heap.size, 2, none⟩ = some (.int .i64 g.k) ∧ Kp w w.heap.size g w')
    (first | exact ⟨by assumption, by assumption, by assumption, by assumption⟩)
    (first | (go_at_call 26; ((with_reducible refine (k_slot HG.out (by assumption)).mono ?_); rintro e w' ⟨rfl, z1, z2, z3, z4⟩)))
  go_wp2
  go_ret
  refine ⟨?_, z4.2⟩
  obtain ⟨h1, h2, h3, h4, _⟩ := Gd.ok_iff.1 HG.out
  refine congrArg (fun y : Int => Ending.returned (.int .i64 y)) ?_
  unfold Gd.thing0 Gd.slot0
  rw [show IntKind.i64.wrap (g.s * 2) = g.s * 2 from wrap_in (by omega) (by omega)]
  exact wrap_in (by omega) (by omega)
theorem k_thing {w0 w : World} {b : Nat} {g : Gd} (h : g.ok = true) (hk : Kp w0 b g w) : Calls Try.prog 27 #[.agg #[.int .i64 g.t, .int .i64 g.s, .int .i64 g.k]] w fun e w' => e = .returned (.int .i64 g.thing0) ∧
    w'.cell? ⟨b, 0, none⟩ = some (.int .i64 g.t) ∧ w'.cell? ⟨b, 1, none⟩ = some (.int .i64 g.s) ∧ w'.cell? ⟨b, 2, none⟩ = some (.int .i64 g.k) ∧ Kp w0 b g w' := by
  refine (first_thing h w).mono ?_
  rintro e w' ⟨rfl, hb⟩
  have := hk.on hb
  exact ⟨rfl, this.1.t, this.1.s, this.1.k, this⟩

theorem lock_any (g : Gd) (w : World) : Calls Try.prog 10 #[.agg #[.int .i64 g.t, .int .i64 g.s, .int .i64 g.k]] w fun e w' => e = .returned (.int .i64 g.lock) ∧ Below w.heap.size w w' := by
  have HX := Bx.new w g 24
  have c1 := HX.t
  have c2 := HX.s
  have c3 := HX.k
  have HB := Lib.hid (below_alloc w (.cells #[.int .i64 g.t, .int .i64 g.s, .int .i64 g.k] 24))
  clear HX
  unfold Gd.lock
  rcases hg : g.ok with _ | _
  all_goals
    have HG := Lib.hid hg
    clear hg
    go_enter Try.func10, Try.ntmps10
    go_wp2_with (go_at_call 8; (with_reducible refine (good_at HG.out _).mono ?_); rintro e w' ⟨rfl, hb⟩; replace HB := Lib.hid (below_on HB.out hb); clear hb)
    go_ret
    exact ⟨rfl, HB.out⟩

theorem Gd.ok_t {g : Gd} (h : g.ok = true) : 0 ≤ g.t ∧ g.t ≤ 1000 := by obtain ⟨h1, h2, h3, h4, h5, h6, h7⟩ := Gd.ok_iff.1 h; omega
theorem Gd.ok_s {g : Gd} (h : g.ok = true) : 0 ≤ g.s ∧ g.s ≤ 1000 := by obtain ⟨h1, h2, h3, h4, h5, h6, h7⟩ := Gd.ok_iff.1 h; omega
theorem Gd.ok_k {g : Gd} (h : g.ok = true) : 0 ≤ g.k ∧ g.k ≤ 1000 := by obtain ⟨h1, h2, h3, h4, h5, h6, h7⟩ := Gd.ok_iff.1 h; omega

set_option maxHeartbeats 1000000 in
theorem root_any (g : Gd) (i : Int) (w : World) : Calls Try.prog 14 #[.agg #[.int .i64 g.t, .int .i64 g.s, .int .i64 g.k], .int .i64 i] w fun e w' => e = .returned (.int .i64 (g.root i)) ∧ Below w.heap.size w w' := by
  have HX := Bx.new w g 24
  have c1 := HX.t
  have c2 := HX.s
  have c3 := HX.k
  have HB := Lib.hid (below_alloc w (.cells #[.int .i64 g.t, .int .i64 g.s, .int .i64 g.k] 24))
  clear HX
  unfold Gd.root
  rcases hh : g.has g.t i with _ | _
  · have HH := Lib.hid hh
    clear hh
    go_enter Try.func14, Try.ntmps14
    go_wp2_with (go_at_call 24; (with_reducible refine (has_at HH.out Gd.ok_t _).mono ?_); rintro e w' ⟨rfl, hb⟩; replace HB := Lib.hid (below_on HB.out hb); clear hb)
    go_ret
    exact ⟨rfl, HB.out⟩
  · have HH := Lib.hid hh
    clear hh
    go_enter Try.func14, Try.ntmps14
    go_wp2_with (go_at_call 24; (with_reducible refine (has_at HH.out Gd.ok_t _).mono ?_); rintro e w' ⟨rfl, hb⟩; replace HB := Lib.hid (below_on HB.out hb); clear hb)
    go_ret
    refine ⟨?_, HB.out⟩
    obtain ⟨h1, h2, h3⟩ := Gd.has_iff.1 HH.out
    have h4 := Gd.ok_t h1
    refine congrArg (fun y : Int => Ending.returned (.int .i64 y)) ?_
    exact w64_in (by omega) (by omega)

set_option maxHeartbeats 1000000 in
theorem desc_any (g : Gd) (i : Int) (w : World) : Calls Try.prog 7 #[.agg #[.int .i64 g.t, .int .i64 g.s, .int .i64 g.k], .int .i64 i] w fun e w' => e = .returned (.tuple #[.int .i64 (g.desc i), .int .i64 (g.descs i)]) ∧ Below w.heap.size w w' := by
  have HX := Bx.new w g 24
  have c1 := HX.t
  have c2 := HX.s
  have c3 := HX.k
  have HB := Lib.hid (below_alloc w (.cells #[.int .i64 g.t, .int .i64 g.s, .int .i64 g.k] 24))
  clear HX
  unfold Gd.desc Gd.descs
  rcases hh : g.has g.t i with _ | _
  · have HH := Lib.hid hh
    clear hh
    go_enter Try.func7, Try.ntmps7
    go_wp2_with (go_at_call 24; (with_reducible refine (has_at HH.out Gd.ok_t _).mono ?_); rintro e w' ⟨rfl, hb⟩; replace HB := Lib.hid (below_on HB.out hb); clear hb)
    go_ret2
    exact ⟨rfl, HB.out⟩
  · have HH := Lib.hid hh
    clear hh
    go_enter Try.func7, Try.ntmps7
    go_wp2_with (go_at_call 24; (with_reducible refine (has_at HH.out Gd.ok_t _).mono ?_); rintro e w' ⟨rfl, hb⟩; replace HB := Lib.hid (below_on HB.out hb); clear hb)
    go_ret2
    refine ⟨?_, HB.out⟩
    obtain ⟨h1, h2, h3⟩ := Gd.has_iff.1 HH.out
    obtain ⟨h4, h5, _⟩ := Gd.ok_iff.1 h1
    refine congrArg (fun y : Int => Ending.returned (.tuple #[.int .i64 y, .int .i64 1208])) ?_
    rw [show wrap64 (i * 1208) = i * 1208 from w64_in (by omega) (by omega)]
    exact w64_in (by omega) (by omega)

set_option maxHeartbeats 1000000 in
theorem slot_any (g : Gd) (i : Int) (w : World) : Calls Try.prog 11 #[.agg #[.int .i64 g.t, .int .i64 g.s, .int .i64 g.k], .int .i64 i] w fun e w' => e = .returned (.int .i64 (g.slot i)) ∧ Below w.heap.size w w' := by
  have hk := Kp.new w g 24
  have c1 := hk.1.t
  have c2 := hk.1.s
  have c3 := hk.1.k
  unfold Gd.slot
  rcases hh : g.has g.s i with _ | _
  · have HH := Lib.hid hh
    have HK := Lib.hid hk
    clear hh hk
    go_enter Try.func11, Try.ntmps11
    go_wp2_with (go_at_call 24; (with_reducible refine (has_at HH.out Gd.ok_s _).mono ?_); rintro e w' ⟨rfl, hb⟩; replace HK := Lib.hid (HK.out.on hb); clear hb)
    go_ret
    exact ⟨rfl, HK.out.2⟩
  · have HH := Lib.hid hh
    have HG := Lib.hid (Gd.has_iff.1 hh).1
    have HK := Lib.hid hk
    clear hh hk
    go_enter Try.func11, Try.ntmps11
    go_wp2_with (first
      | (go_at_call 24; (with_reducible refine (has_at HH.out Gd.ok_s _).mono ?_); rintro e w' ⟨rfl, hb⟩; replace HK := Lib.hid (HK.out.on hb); clear hb c1 c2 c3; have c1 := HK.out.1.t; have c2 := HK.out.1.s; have c3 := HK.out.1.k)
      | (go_at_call 26; (with_reducible refine (k_slot HG.out HK.out).mono ?_); rintro e w' ⟨rfl, z1, z2, z3, hk⟩; have HK2 := Lib.hid hk; clear hk))
    go_ret
    refine ⟨?_, HK2.out.2⟩
    obtain ⟨h1, h2, h3⟩ := Gd.has_iff.1 HH.out
    obtain ⟨h4, h5, h6, h7, _⟩ := Gd.ok_iff.1 h1
    refine congrArg (fun y : Int => Ending.returned (.int .i64 y)) ?_
    unfold Gd.slot0
    rw [show wrap64 (i * 2) = i * 2 from w64_in (by omega) (by omega)]
    exact w64_in (by omega) (by omega)

set_option maxHeartbeats 1000000 in
theorem thing_any (g : Gd) (i : Int) (w : World) : Calls Try.prog 12 #[.agg #[.int .i64 g.t, .int .i64 g.s, .int .i64 g.k], .int .i64 i] w fun e w' => e = .returned (.int .i64 (g.thing i)) ∧ Below w.heap.size w w' := by
  have hk := Kp.new w g 24
  have c1 := hk.1.t
  have c2 := hk.1.s
  have c3 := hk.1.k
  unfold Gd.thing
  rcases hh : g.has g.k i with _ | _
  · have HH := Lib.hid hh
    have HK := Lib.hid hk
    clear hh hk
    go_enter Try.func12, Try.ntmps12
    go_wp2_with (go_at_call 24; (with_reducible refine (has_at HH.out Gd.ok_k _).mono ?_); rintro e w' ⟨rfl, hb⟩; replace HK := Lib.hid (HK.out.on hb); clear hb)
    go_ret
    exact ⟨rfl, HK.out.2⟩
  · have HH := Lib.hid hh
    have HG := Lib.hid (Gd.has_iff.1 hh).1
    have HK := Lib.hid hk
    clear hh hk
    go_enter Try.func12, Try.ntmps12
    go_wp2_with (first
      | (go_at_call 24; (with_reducible refine (has_at HH.out Gd.ok_k _).mono ?_); rintro e w' ⟨rfl, hb⟩; replace HK := Lib.hid (HK.out.on hb); clear hb c1 c2 c3; have c1 := HK.out.1.t; have c2 := HK.out.1.s; have c3 := HK.out.1.k)
      | (go_at_call 27; (with_reducible refine (k_thing HG.out HK.out).mono ?_); rintro e w' ⟨rfl, z1, z2, z3, hk⟩; have HK2 := Lib.hid hk; clear hk))
    go_ret
    refine ⟨?_, HK2.out.2⟩
    obtain ⟨h1, h2, h3⟩ := Gd.has_iff.1 HH.out
    obtain ⟨h4, h5, h6, h7, h8, h9, h10⟩ := Gd.ok_iff.1 h1
    refine congrArg (fun y : Int => Ending.returned (.int .i64 y)) ?_
    unfold Gd.thing0 Gd.slot0
    rw [show wrap64 (i * 8) = i * 8 from w64_in (by omega) (by omega)]
    exact w64_in (by omega) (by omega)

set_option maxHeartbeats 1000000 in
theorem copy_any (g : Gd) (w : World) : Calls Try.prog 13 #[.agg #[.int .i64 g.t, .int .i64 g.s, .int .i64 g.k]] w fun e w' => e = .returned (.int .i64 g.copy) ∧ Below w.heap.size w w' := by
  have hk := Kp.new w g 24
  have c1 := hk.1.t
  have c2 := hk.1.s
  have c3 := hk.1.k
  unfold Gd.copy
  rcases hh : g.ok with _ | _
  · have HH := Lib.hid hh
    have HK := Lib.hid hk
    clear hh hk
    go_enter Try.func13, Try.ntmps13
    go_wp2_with (go_at_call 8; (with_reducible refine (good_at HH.out _).mono ?_); rintro e w' ⟨rfl, hb⟩; replace HK := Lib.hid (HK.out.on hb); clear hb)
    go_ret
    exact ⟨rfl, HK.out.2⟩
  · have HG := Lib.hid hh
    have HK := Lib.hid hk
    clear hh hk
    go_enter Try.func13, Try.ntmps13
    go_wp2_with fail
    refine (good_at HG.out _).mono ?_
    rintro e w1 ⟨rfl, hb⟩
    have hk := (HK.out.on hb).drew
    clear hb c1 c2 c3
    have c1 := hk.1.t
    have c2 := hk.1.s
    have c3 := hk.1.k
    go_wp2_with fail
    go_region_held3 (fun w' => w'.cell? ⟨w.heap.size, 0, none⟩ = some (.int .i64 g.t) ∧ w'.cell? ⟨w.heap.size, 1, none⟩ = some (.int .i64 g.s) ∧ w'.cell? ⟨w.heap.size, 2, none⟩ = some (.int .i64 g.k) ∧ Kp w w.heap.size g w')
      (first | exact ⟨by assumption, by assumption, by assumption, by assumption⟩)
      (first | (go_at_call 27; ((with_reducible refine (k_thing HG.out (by assumption)).mono ?_); rintro e w' ⟨rfl, z1, z2, z3, z4⟩)))
    go_wp2
    go_ret
    refine ⟨?_, z4.2⟩
    obtain ⟨h4, h5, h6, h7, h8, h9, h10⟩ := Gd.ok_iff.1 HG.out
    refine congrArg (fun y : Int => Ending.returned (.int .i64 y)) ?_
    unfold Gd.copy0 Gd.thing0 Gd.slot0
    rw [show IntKind.i64.wrap (g.k * 8) = g.k * 8 from wrap_in (by omega) (by omega)]
    exact wrap_in (by omega) (by omega)
theorem copy_at {g : Gd} {r : Int} (h : g.copy = r) (w : World) : Calls Try.prog 13 #[.agg #[.int .i64 g.t, .int .i64 g.s, .int .i64 g.k]] w fun e w' => e = .returned (.int .i64 r) ∧ Below w.heap.size w w' := by
  subst h
  exact copy_any g w

set_option maxHeartbeats 1000000 in
theorem rows_any (g : Gd) (w : World) : Calls Try.prog 9 #[.agg #[.int .i64 g.t, .int .i64 g.s, .int .i64 g.k]] w fun e w' => e = .returned (.int .i64 g.rows) ∧ Below w.heap.size w w' := by
  have hk := Kp.new w g 24
  have c1 := hk.1.t
  have c2 := hk.1.s
  have c3 := hk.1.k
  unfold Gd.rows
  rcases hh : g.ok with _ | _
  · have HH := Lib.hid hh
    have HK := Lib.hid hk
    clear hh hk
    go_enter Try.func9, Try.ntmps9
    go_wp2_with (go_at_call 8; (with_reducible refine (good_at HH.out _).mono ?_); rintro e w' ⟨rfl, hb⟩; replace HK := Lib.hid (HK.out.on hb); clear hb)
    go_ret
    exact ⟨rfl, HK.out.2⟩
  · have HG := Lib.hid hh
    have HK := Lib.hid hk
    have HC : Hid (g.copy = g.copy0) := Lib.hid (by unfold Gd.copy; rw [hh, if_pos rfl])
    obtain ⟨h4, h5, h6, h7, h8, h9, h10⟩ := Gd.ok_iff.1 hh
    have h0 : 0 ≤ g.copy0 := by unfold Gd.copy0 Gd.thing0 Gd.slot0; omega
    have h1 : g.copy0 ≤ 1000000 := by unfold Gd.copy0 Gd.thing0 Gd.slot0; omega
    obtain ⟨c, hc⟩ : ∃ c, c = g.copy0 := ⟨_, rfl⟩
    rw [← hc] at HC h0 h1 ⊢
    have H0 := Lib.hid h0
    have H1 := Lib.hid h1
    clear hh hk hc h0 h1 h4 h5 h6 h7 h8 h9 h10
    go_enter Try.func9, Try.ntmps9
    go_wp2_with (first
      | (go_at_call 8; (with_reducible refine (good_at HG.out _).mono ?_); rintro e w' ⟨rfl, hb⟩; replace HK := Lib.hid (HK.out.on hb); clear hb c1 c2 c3; have c1 := HK.out.1.t; have c2 := HK.out.1.s; have c3 := HK.out.1.k)
      | (go_at_call 13; (with_reducible refine (copy_at HC.out _).mono ?_); rintro e w' ⟨rfl, hb⟩; replace HK := Lib.hid (HK.out.on hb); clear hb))
    go_ret
    refine ⟨?_, HK.out.2⟩
    refine congrArg (fun y : Int => Ending.returned (.int .i64 y)) ?_
    have h0 := H0.out
    have h1 := H1.out
    rw [Int.tdiv_eq_ediv_of_nonneg h0]
    rw [show wrap64 (c / 8) = c / 8 from w64_in (by omega) (by omega)]
    exact w64_in (by omega) (by omega)

theorem plain_any (w : World) : Calls Try.prog 15 #[] w fun e w' => e = .returned (.agg #[.int .i64 2, .int .i64 32, .int .i64 16]) ∧ Below w.heap.size w w' := by
  go_enter Try.func15, Try.ntmps15
  go_wp2
  go_returns
  exact ⟨rfl, below_alloc _ _⟩

/- the contracts with the answer named, over a Geo's numbers -/
theorem good_to {t s k : Int} {r : Bool} (h : Gd.ok ⟨t, s, k⟩ = r) (w : World) : Calls Try.prog 8 #[.agg #[.int .i64 t, .int .i64 s, .int .i64 k]] w fun e w' => e = .returned (.bool r) ∧ Below w.heap.size w w' := good_at (g := ⟨t, s, k⟩) h w
theorem lock_to {t s k r : Int} (h : Gd.lock ⟨t, s, k⟩ = r) (w : World) : Calls Try.prog 10 #[.agg #[.int .i64 t, .int .i64 s, .int .i64 k]] w fun e w' => e = .returned (.int .i64 r) ∧ Below w.heap.size w w' := by
  subst h
  exact lock_any ⟨t, s, k⟩ w
theorem rows_to {t s k r : Int} (h : Gd.rows ⟨t, s, k⟩ = r) (w : World) : Calls Try.prog 9 #[.agg #[.int .i64 t, .int .i64 s, .int .i64 k]] w fun e w' => e = .returned (.int .i64 r) ∧ Below w.heap.size w w' := by
  subst h
  exact rows_any ⟨t, s, k⟩ w
theorem copy_to {t s k r : Int} (h : Gd.copy ⟨t, s, k⟩ = r) (w : World) : Calls Try.prog 13 #[.agg #[.int .i64 t, .int .i64 s, .int .i64 k]] w fun e w' => e = .returned (.int .i64 r) ∧ Below w.heap.size w w' := by
  subst h
  exact copy_any ⟨t, s, k⟩ w
theorem slot_to {t s k i r : Int} (h : Gd.slot ⟨t, s, k⟩ i = r) (w : World) : Calls Try.prog 11 #[.agg #[.int .i64 t, .int .i64 s, .int .i64 k], .int .i64 i] w fun e w' => e = .returned (.int .i64 r) ∧ Below w.heap.size w w' := by
  subst h
  exact slot_any ⟨t, s, k⟩ i w
theorem thing_to {t s k i r : Int} (h : Gd.thing ⟨t, s, k⟩ i = r) (w : World) : Calls Try.prog 12 #[.agg #[.int .i64 t, .int .i64 s, .int .i64 k], .int .i64 i] w fun e w' => e = .returned (.int .i64 r) ∧ Below w.heap.size w w' := by
  subst h
  exact thing_any ⟨t, s, k⟩ i w
theorem root_to {t s k i r : Int} (h : Gd.root ⟨t, s, k⟩ i = r) (w : World) : Calls Try.prog 14 #[.agg #[.int .i64 t, .int .i64 s, .int .i64 k], .int .i64 i] w fun e w' => e = .returned (.int .i64 r) ∧ Below w.heap.size w w' := by
  subst h
  exact root_any ⟨t, s, k⟩ i w
theorem desc_to {t s k i r n : Int} (h : Gd.desc ⟨t, s, k⟩ i = r) (hn : Gd.descs ⟨t, s, k⟩ i = n) (w : World) : Calls Try.prog 7 #[.agg #[.int .i64 t, .int .i64 s, .int .i64 k], .int .i64 i] w fun e w' => e = .returned (.tuple #[.int .i64 r, .int .i64 n]) ∧ Below w.heap.size w w' := by
  subst h hn
  exact desc_any ⟨t, s, k⟩ i w
end Go.Proofs.Ytibdmceanddeaaa
