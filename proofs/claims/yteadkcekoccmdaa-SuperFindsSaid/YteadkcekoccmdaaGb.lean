/-
  The walks of package geo's has, firstSlot, firstThing, Lock, Root, Desc, Slot, Thing, Copy, Rows, Plain. No condition.
-/
import Derived.Test.YteadkcekoccmdaaGa
import Derived.Handy
namespace Go.Proofs.Yteadkcekoccmdaa
open Go.RowKit

theorem wrap_in {z : Int} (h1 : -9223372036854775808 ≤ z) (h2 : z ≤ 9223372036854775807) : IntKind.i64.wrap z = z := by
  rw [IntKind.wrap_i64]
  omega
theorem w64_in {z : Int} (h1 : -9223372036854775808 ≤ z) (h2 : z ≤ 9223372036854775807) : wrap64 z = z := by
  unfold wrap64; omega

theorem good_at {g : Gd} {r : Bool} (h : g.ok = r) (w : World) : Calls Try.prog 18 #[.agg #[.int .i64 g.t, .int .i64 g.s, .int .i64 g.k]] w fun e w' => e = .returned (.bool r) ∧ Below w.heap.size w w' := by
  subst h
  exact good_any g w

theorem first_slot {g : Gd} (h : g.ok = true) (w : World) : Calls Try.prog 37 #[.agg #[.int .i64 g.t, .int .i64 g.s, .int .i64 g.k]] w fun e w' => e = .returned (.int .i64 g.slot0) ∧ Below w.heap.size w w' := by
  have HX := Bx.new w g 26
  have c1 := HX.t
  have HB := Lib.hid (below_alloc w (.cells #[.int .i64 g.t, .int .i64 g.s, .int .i64 g.k] 26))
  have HG := Lib.hid h
  clear HX h
  go_enter Try.func37, Try.ntmps37
  go_wp2
  go_ret
  refine ⟨?_, HB.out⟩
  obtain ⟨h1, h2, _⟩ := Gd.ok_iff.1 HG.out
  exact congrArg (fun y : Int => Ending.returned (.int .i64 y)) (by unfold Gd.slot0 wrap64; omega)

/-- the cells of a Geo, and what was before -/
def Kp (w0 : World) (b : Nat) (g : Gd) (w : World) : Prop := Bx w b g ∧ Below w0.heap.size w0 w
theorem Kp.on {w0 w w' : World} {b : Nat} {g : Gd} (h : Kp w0 b g w) (hb : Below w.heap.size w w') : Kp w0 b g w' := ⟨h.1.on hb, below_on h.2 hb⟩
theorem Kp.new (w : World) (g : Gd) (t : TypeId) : Kp w w.heap.size g (w.alloc (.cells #[.int .i64 g.t, .int .i64 g.s, .int .i64 g.k] t)) := ⟨Bx.new w g t, below_alloc _ _⟩
theorem Kp.drew {w0 w : World} {b : Nat} {g : Gd} (h : Kp w0 b g w) : Kp w0 b g w.drew := ⟨⟨h.1.t, h.1.s, h.1.k, h.1.lt⟩, h.2.drew⟩
theorem k_slot {w0 w : World} {b : Nat} {g : Gd} (h : g.ok = true) (hk : Kp w0 b g w) : Calls Try.prog 37 #[.agg #[.int .i64 g.t, .int .i64 g.s, .int .i64 g.k]] w fun e w' => e = .returned (.int .i64 g.slot0) ∧
    w'.cell? ⟨b, 0, none⟩ = some (.int .i64 g.t) ∧ w'.cell? ⟨b, 1, none⟩ = some (.int .i64 g.s) ∧ w'.cell? ⟨b, 2, none⟩ = some (.int .i64 g.k) ∧ Kp w0 b g w' := by
  refine (first_slot h w).mono ?_
  rintro e w' ⟨rfl, hb⟩
  have := hk.on hb
  exact ⟨rfl, this.1.t, this.1.s, this.1.k, this⟩

set_option maxHeartbeats 1000000 in
theorem first_thing {g : Gd} (h : g.ok = true) (w : World) : Calls Try.prog 30 #[.agg #[.int .i64 g.t, .int .i64 g.s, .int .i64 g.k]] w fun e w' => e = .returned (.int .i64 g.thing0) ∧ Below w.heap.size w w' := by
  have HG := Lib.hid h
  have hk := (Kp.new w g 26).drew
  have c1 := hk.1.t
  have c2 := hk.1.s
  have c3 := hk.1.k
  clear h
  go_enter Try.func30, Try.ntmps30
  go_wp2_with fail
  go_region_held3 (fun w' => w'.cell? ⟨w.heap.size, 0, none⟩ = some (.int .i64 g.t) ∧ w'.cell? ⟨w.heap.size, 1, none⟩ = some (.int .i64 g.s) ∧ w'.cell? ⟨w.heap.size, 2, none⟩ = some (.int .i64 g.k) ∧ Kp w w.heap.size g w')
    (first | exact ⟨by assumption, by assumption, by assumption, by assumption⟩)
    (first | (go_at_call 37; ((with_reducible refine (k_slot HG.out (by assumption)).mono ?_); rintro e w' ⟨rfl, z1, z2, z3, z4⟩)))
  go_wp2
  go_ret
  refine ⟨?_, z4.2⟩
  obtain ⟨h1, h2, h3, h4, _⟩ := Gd.ok_iff.1 HG.out
  refine congrArg (fun y : Int => Ending.returned (.int .i64 y)) ?_
  unfold Gd.thing0 Gd.slot0
  rw [show IntKind.i64.wrap (g.s * 2) = g.s * 2 from wrap_in (by omega) (by omega)]
  exact wrap_in (by omega) (by omega)
theorem k_thing {w0 w : World} {b : Nat} {g : Gd} (h : g.ok = true) (hk : Kp w0 b g w) : Calls Try.prog 30 #[.agg #[.int .i64 g.t, .int .i64 g.s, .int .i64 g.k]] w fun e w' => e = .returned (.int .i64 g.thing0) ∧
    w'.cell? ⟨b, 0, none⟩ = some (.int .i64 g.t) ∧ w'.cell? ⟨b, 1, none⟩ = some (.int .i64 g.s) ∧ w'.cell? ⟨b, 2, none⟩ = some (.int .i64 g.k) ∧ Kp w0 b g w' := by
  refine (first_thing h w).mono ?_
  rintro e w' ⟨rfl, hb⟩
  have := hk.on hb
  exact ⟨rfl, this.1.t, this.1.s, this.1.k, this⟩

theorem Gd.ok_t {g : Gd} (h : g.ok = true) : 0 ≤ g.t ∧ g.t ≤ 1000 := by obtain ⟨h1, h2, h3, h4, h5, h6, h7⟩ := Gd.ok_iff.1 h; omega
theorem Gd.ok_s {g : Gd} (h : g.ok = true) : 0 ≤ g.s ∧ g.s ≤ 1000 := by obtain ⟨h1, h2, h3, h4, h5, h6, h7⟩ := Gd.ok_iff.1 h; omega
theorem Gd.ok_k {g : Gd} (h : g.ok = true) : 0 ≤ g.k ∧ g.k ≤ 1000 := by obtain ⟨h1, h2, h3, h4, h5, h6, h7⟩ := Gd.ok_iff.1 h; omega

set_option maxHeartbeats 1000000 in
theorem copy_any (g : Gd) (w : World) : Calls Try.prog 21 #[.agg #[.int .i64 g.t, .int .i64 g.s, .int .i64 g.k]] w fun e w' => e = .returned (.int .i64 g.copy) ∧ Below w.heap.size w w' := by
  have hk := Kp.new w g 26
  have c1 := hk.1.t
  have c2 := hk.1.s
  have c3 := hk.1.k
  unfold Gd.copy
  rcases hh : g.ok with _ | _
  · have HH := Lib.hid hh
    have HK := Lib.hid hk
    clear hh hk
    go_enter Try.func21, Try.ntmps21
    go_wp2_with (go_at_call 18; (with_reducible refine (good_at HH.out _).mono ?_); rintro e w' ⟨rfl, hb⟩; replace HK := Lib.hid (HK.out.on hb); clear hb)
    go_ret
    exact ⟨rfl, HK.out.2⟩
  · have HG := Lib.hid hh
    have HK := Lib.hid hk
    clear hh hk
    go_enter Try.func21, Try.ntmps21
    go_wp2_with fail
    refine (good_at HG.out _).mono ?_
    rintro e w1 ⟨rfl, hb⟩
    have hk := (HK.out.on hb).drew
    clear hb c1 c2 c3
    have c1 := hk.1.t
    have c2 := hk.1.s
    have c3 := hk.1.k
    go_wp2_with fail
    go_region_held3 (fun w' => w'.cell? ⟨w.heap.size, 0, none⟩ = some (.int .i64 g.t) ∧ w'.cell? ⟨w.heap.size, 1, none⟩ = some (.int .i64 g.s) ∧ w'.cell? ⟨w.heap.size, 2, none⟩ = some (.int .i64 g.k) ∧ Kp w w.heap.size g w')
      (first | exact ⟨by assumption, by assumption, by assumption, by assumption⟩)
      (first | (go_at_call 30; ((with_reducible refine (k_thing HG.out (by assumption)).mono ?_); rintro e w' ⟨rfl, z1, z2, z3, z4⟩)))
    go_wp2
    go_ret
    refine ⟨?_, z4.2⟩
    obtain ⟨h4, h5, h6, h7, h8, h9, h10⟩ := Gd.ok_iff.1 HG.out
    refine congrArg (fun y : Int => Ending.returned (.int .i64 y)) ?_
    unfold Gd.copy0 Gd.thing0 Gd.slot0
    rw [show IntKind.i64.wrap (g.k * 8) = g.k * 8 from wrap_in (by omega) (by omega)]
    exact wrap_in (by omega) (by omega)
theorem copy_at {g : Gd} {r : Int} (h : g.copy = r) (w : World) : Calls Try.prog 21 #[.agg #[.int .i64 g.t, .int .i64 g.s, .int .i64 g.k]] w fun e w' => e = .returned (.int .i64 r) ∧ Below w.heap.size w w' := by
  subst h
  exact copy_any g w

set_option maxHeartbeats 1000000 in
theorem rows_any (g : Gd) (w : World) : Calls Try.prog 11 #[.agg #[.int .i64 g.t, .int .i64 g.s, .int .i64 g.k]] w fun e w' => e = .returned (.int .i64 g.rows) ∧ Below w.heap.size w w' := by
  have hk := Kp.new w g 26
  have c1 := hk.1.t
  have c2 := hk.1.s
  have c3 := hk.1.k
  unfold Gd.rows
  rcases hh : g.ok with _ | _
  · have HH := Lib.hid hh
    have HK := Lib.hid hk
    clear hh hk
    go_enter Try.func11, Try.ntmps11
    go_wp2_with (go_at_call 18; (with_reducible refine (good_at HH.out _).mono ?_); rintro e w' ⟨rfl, hb⟩; replace HK := Lib.hid (HK.out.on hb); clear hb)
    go_ret
    exact ⟨rfl, HK.out.2⟩
  · have HG := Lib.hid hh
    have HK := Lib.hid hk
    have HC : Hid (g.copy = g.copy0) := Lib.hid (by unfold Gd.copy; rw [hh, if_pos rfl])
    obtain ⟨h4, h5, h6, h7, h8, h9, h10⟩ := Gd.ok_iff.1 hh
    have h0 : 0 ≤ g.copy0 := by unfold Gd.copy0 Gd.thing0 Gd.slot0; omega
    have h1 : g.copy0 ≤ 1000000 := by unfold Gd.copy0 Gd.thing0 Gd.slot0; omega
    obtain ⟨c, hc⟩ : ∃ c, c = g.copy0 := ⟨_, rfl⟩
    rw [← hc] at HC h0 h1 ⊢
    have H0 := Lib.hid h0
    have H1 := Lib.hid h1
    clear hh hk hc h0 h1 h4 h5 h6 h7 h8 h9 h10
    go_enter Try.func11, Try.ntmps11
    go_wp2_with (first
      | (go_at_call 18; (with_reducible refine (good_at HG.out _).mono ?_); rintro e w' ⟨rfl, hb⟩; replace HK := Lib.hid (HK.out.on hb); clear hb c1 c2 c3; have c1 := HK.out.1.t; have c2 := HK.out.1.s; have c3 := HK.out.1.k)
      | (go_at_call 21; (with_reducible refine (copy_at HC.out _).mono ?_); rintro e w' ⟨rfl, hb⟩; replace HK := Lib.hid (HK.out.on hb); clear hb))
    go_ret
    refine ⟨?_, HK.out.2⟩
    refine congrArg (fun y : Int => Ending.returned (.int .i64 y)) ?_
    have h0 := H0.out
    have h1 := H1.out
    rw [Int.tdiv_eq_ediv_of_nonneg h0]
    rw [show wrap64 (c / 8) = c / 8 from w64_in (by omega) (by omega)]
    exact w64_in (by omega) (by omega)

theorem plain_any (w : World) : Calls Try.prog 9 #[] w fun e w' => e = .returned (.agg #[.int .i64 2, .int .i64 32, .int .i64 16]) ∧ Below w.heap.size w w' := by
  go_enter Try.func9, Try.ntmps9
  go_wp2
  go_returns
  exact ⟨rfl, below_alloc _ _⟩

/- the contracts with the answer named, over a Geo's numbers -/
theorem good_to {t s k : Int} {r : Bool} (h : Gd.ok ⟨t, s, k⟩ = r) (w : World) : Calls Try.prog 18 #[.agg #[.int .i64 t, .int .i64 s, .int .i64 k]] w fun e w' => e = .returned (.bool r) ∧ Below w.heap.size w w' := good_at (g := ⟨t, s, k⟩) h w
theorem rows_to {t s k r : Int} (h : Gd.rows ⟨t, s, k⟩ = r) (w : World) : Calls Try.prog 11 #[.agg #[.int .i64 t, .int .i64 s, .int .i64 k]] w fun e w' => e = .returned (.int .i64 r) ∧ Below w.heap.size w w' := by
  subst h
  exact rows_any ⟨t, s, k⟩ w
theorem copy_to {t s k r : Int} (h : Gd.copy ⟨t, s, k⟩ = r) (w : World) : Calls Try.prog 21 #[.agg #[.int .i64 t, .int .i64 s, .int .i64 k]] w fun e w' => e = .returned (.int .i64 r) ∧ Below w.heap.size w w' := by
  subst h
  exact copy_any ⟨t, s, k⟩ w
end Go.Proofs.Yteadkcekoccmdaa
