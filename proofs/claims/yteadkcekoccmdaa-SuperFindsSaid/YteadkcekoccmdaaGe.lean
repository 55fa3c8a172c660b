/-
  The walks of the law's geoOf and of the reference's GoodGeo, long, slots, Desc, Slot, Thing, Copy, Rows. No condition.
-/
import Derived.Test.YteadkcekoccmdaaGb
namespace Go.Proofs.Yteadkcekoccmdaa
open Go.RowKit


set_option maxHeartbeats 1000000 in
theorem geoof_any (g : Gd) (w : World) : Calls Try.prog 26 #[.agg #[.int .i64 g.t, .int .i64 g.s, .int .i64 g.k]] w fun e w' => e = .returned (.agg #[.int .i64 g.t, .int .i64 g.s, .int .i64 g.k]) ∧ Below w.heap.size w w' := by
  obtain ⟨t, s, k⟩ := g
  have hk := (Kp.new w ⟨t, s, k⟩ 26).on (below_alloc _ (.cells #[.int .i64 0, .int .i64 0, .int .i64 0] 36))
  have c1 := hk.1.t
  have c2 := hk.1.s
  have c3 := hk.1.k
  have HB := Lib.hid hk.2
  clear hk
  have HB2 := Lib.hid (below_on (below_alloc w (.cells #[.int .i64 t, .int .i64 s, .int .i64 k] 26)) (below_alloc _ (.cells #[.int .i64 t, .int .i64 s, .int .i64 k] 36)))
  clear HB
  go_enter Try.func26, Try.ntmps26
  go_wp2
  go_returns
  exact ⟨rfl, HB2.out⟩

set_option maxHeartbeats 4000000 in
theorem rgood_any (g : Gd) (w : World) : Calls Try.prog 24 #[.agg #[.int .i64 g.t, .int .i64 g.s, .int .i64 g.k]] w fun e w' => e = .returned (.bool g.ok) ∧ Below w.heap.size w w' := by
  have HX := Bx.new w g 36
  have c1 := HX.t
  have c2 := HX.s
  have c3 := HX.k
  have HB := Lib.hid (below_alloc w (.cells #[.int .i64 g.t, .int .i64 g.s, .int .i64 g.k] 36))
  clear HX
  by_cases h1 : 1 ≤ g.t
  · by_cases h2 : g.t ≤ 4
    · have e8 : wrap64 (8 * g.t) = 8 * g.t := w64_in (by omega) (by omega)
      have e2 : wrap64 (g.t + 2) = g.t + 2 := w64_in (by omega) (by omega)
      have E8 := Lib.hid e8
      have E2 := Lib.hid e2
      by_cases h3 : 8 * g.t ≤ g.s
      · have d3 : decide (wrap64 (8 * g.t) ≤ g.s) = true := by rw [e8]; exact decide_eq_true h3
        by_cases h4 : g.s ≤ 96
        · have em : g.s.tmod 8 = g.s % 8 := Int.tmod_eq_emod_of_nonneg (by omega)
          by_cases h5 : g.s % 8 = 0
          · have d5 : (g.s.tmod 8 == 0) = true := by rw [em]; simp [h5]
            have d5' : (g.s % 8 == 0) = true := by simp [h5]
            by_cases h6 : g.t + 2 ≤ g.k
            · have d6 : decide (wrap64 (g.t + 2) ≤ g.k) = true := by rw [e2]; exact decide_eq_true h6
              by_cases h7 : g.k ≤ 48
              · have hy : g.ok = true := Gd.ok_iff.2 ⟨h1, h2, h3, h4, h5, h6, h7⟩
                rw [hy]
                clear hy em e8 e2
                go_enter Try.func24, Try.ntmps24
                go_wp2
                go_ret
                exact ⟨rfl, HB.out⟩
              · have hy : g.ok = false := by
                  rcases hq : g.ok with _ | _
                  · rfl
                  · exact absurd (Gd.ok_iff.1 hq).2.2.2.2.2.2 h7
                have d7 : decide (g.k ≤ 48) = false := decide_eq_false h7
                rw [hy]
                clear hy em e8 e2
                go_enter Try.func24, Try.ntmps24
                go_wp2
                go_ret
                exact ⟨rfl, HB.out⟩
            · have hy : g.ok = false := by
                rcases hq : g.ok with _ | _
                · rfl
                · exact absurd (Gd.ok_iff.1 hq).2.2.2.2.2.1 h6
              have d6 : decide (wrap64 (g.t + 2) ≤ g.k) = false := by rw [e2]; exact decide_eq_false h6
              rw [hy]
              clear hy em e8 e2
              go_enter Try.func24, Try.ntmps24
              go_wp2
              go_ret
              exact ⟨rfl, HB.out⟩
          · have hy : g.ok = false := by
              rcases hq : g.ok with _ | _
              · rfl
              · exact absurd (Gd.ok_iff.1 hq).2.2.2.2.1 h5
            have d5 : (g.s.tmod 8 == 0) = false := by rw [em]; simp [h5]
            have d5' : (g.s % 8 == 0) = false := by simp [h5]
            rw [hy]
            clear hy em e8 e2
            go_enter Try.func24, Try.ntmps24
            go_wp2
            go_ret
            exact ⟨rfl, HB.out⟩
        · have hy : g.ok = false := by
            rcases hq : g.ok with _ | _
            · rfl
            · exact absurd (Gd.ok_iff.1 hq).2.2.2.1 h4
          have d4 : decide (g.s ≤ 96) = false := decide_eq_false h4
          rw [hy]
          clear hy e8 e2
          go_enter Try.func24, Try.ntmps24
          go_wp2
          go_ret
          exact ⟨rfl, HB.out⟩
      · have hy : g.ok = false := by
          rcases hq : g.ok with _ | _
          · rfl
          · exact absurd (Gd.ok_iff.1 hq).2.2.1 h3
        have d3 : decide (wrap64 (8 * g.t) ≤ g.s) = false := by rw [e8]; exact decide_eq_false h3
        rw [hy]
        clear hy e8 e2
        go_enter Try.func24, Try.ntmps24
        go_wp2
        go_ret
        exact ⟨rfl, HB.out⟩
    · have hy : g.ok = false := by
        rcases hq : g.ok with _ | _
        · rfl
        · exact absurd (Gd.ok_iff.1 hq).2.1 h2
      have d2 : decide (g.t ≤ 4) = false := decide_eq_false h2
      rw [hy]
      clear hy
      go_enter Try.func24, Try.ntmps24
      go_wp2
      go_ret
      exact ⟨rfl, HB.out⟩
  · have hy : g.ok = false := by
      rcases hq : g.ok with _ | _
      · rfl
      · exact absurd (Gd.ok_iff.1 hq).1 h1
    have d1 : decide (1 ≤ g.t) = false := decide_eq_false h1
    rw [hy]
    clear hy
    go_enter Try.func24, Try.ntmps24
    go_wp2
    go_ret
    exact ⟨rfl, HB.out⟩
theorem rgood_at {g : Gd} {r : Bool} (h : g.ok = r) (w : World) : Calls Try.prog 24 #[.agg #[.int .i64 g.t, .int .i64 g.s, .int .i64 g.k]] w fun e w' => e = .returned (.bool r) ∧ Below w.heap.size w w' := by
  subst h
  exact rgood_any g w

theorem long_any (w : World) : Calls Try.prog 41 #[] w fun e w' => e = .returned (.int .i64 1208) ∧ w = w' := by
  go_enter Try.func41, Try.ntmps41
  go_wp2
  go_ret
  exact ⟨rfl, rfl⟩
theorem k_long {w0 w : World} {b : Nat} {g : Gd} (hk : Kp w0 b g w) : Calls Try.prog 41 #[] w fun e w' => e = .returned (.int .i64 1208) ∧
    w'.cell? ⟨b, 0, none⟩ = some (.int .i64 g.t) ∧ w'.cell? ⟨b, 1, none⟩ = some (.int .i64 g.s) ∧ w'.cell? ⟨b, 2, none⟩ = some (.int .i64 g.k) ∧ Kp w0 b g w' := by
  refine (long_any w).mono ?_
  rintro e w' ⟨rfl, rfl⟩
  exact ⟨rfl, hk.1.t, hk.1.s, hk.1.k, hk⟩

set_option maxHeartbeats 1000000 in
theorem rslots_any {g : Gd} (h : g.ok = true) (w : World) : Calls Try.prog 38 #[.agg #[.int .i64 g.t, .int .i64 g.s, .int .i64 g.k]] w fun e w' => e = .returned (.int .i64 g.slot0) ∧ Below w.heap.size w w' := by
  have HG := Lib.hid h
  have hk := (Kp.new w g 36).drew
  have c1 := hk.1.t
  have c2 := hk.1.s
  have c3 := hk.1.k
  clear h
  go_enter Try.func38, Try.ntmps38
  go_wp2_with fail
  go_region_held3 (fun w' => w'.cell? ⟨w.heap.size, 0, none⟩ = some (.int .i64 g.t) ∧ w'.cell? ⟨w.heap.size, 1, none⟩ = some (.int .i64 g.s) ∧ w'.cell? ⟨w.heap.size, 2, none⟩ = some (.int .i64 g.k) ∧ Kp w w.heap.size g w')
    (first | exact ⟨by assumption, by assumption, by assumption, by assumption⟩)
    (first | (go_at_call 41; ((with_reducible refine (k_long (g := g) (by assumption)).mono ?_); rintro e w' ⟨rfl, z1, z2, z3, z4⟩)))
  go_wp2
  go_ret
  refine ⟨?_, z4.2⟩
  obtain ⟨h1, h2, h3, h4, _⟩ := Gd.ok_iff.1 HG.out
  refine congrArg (fun y : Int => Ending.returned (.int .i64 y)) ?_
  unfold Gd.slot0
  rw [show IntKind.i64.wrap (g.t * 1208) = g.t * 1208 from wrap_in (by omega) (by omega)]
  exact wrap_in (by omega) (by omega)
theorem k_rslots {w0 w : World} {b : Nat} {g : Gd} (h : g.ok = true) (hk : Kp w0 b g w) : Calls Try.prog 38 #[.agg #[.int .i64 g.t, .int .i64 g.s, .int .i64 g.k]] w fun e w' => e = .returned (.int .i64 g.slot0) ∧
    w'.cell? ⟨b, 0, none⟩ = some (.int .i64 g.t) ∧ w'.cell? ⟨b, 1, none⟩ = some (.int .i64 g.s) ∧ w'.cell? ⟨b, 2, none⟩ = some (.int .i64 g.k) ∧ Kp w0 b g w' := by
  refine (rslots_any h w).mono ?_
  rintro e w' ⟨rfl, hb⟩
  have := hk.on hb
  exact ⟨rfl, this.1.t, this.1.s, this.1.k, this⟩

/-- three ways in which a number is none -/
theorem Gd.has_ways {g : Gd} {n i : Int} (h : g.has n i = false) : g.ok = false ∨ (g.ok = true ∧ i < 0) ∨ (g.ok = true ∧ 0 ≤ i ∧ n ≤ i) := by
  rcases hq : g.ok with _ | _
  · exact .inl rfl
  · refine .inr ?_
    by_cases h0 : 0 ≤ i
    · refine .inr ⟨rfl, h0, ?_⟩
      by_cases h1 : i ≤ n - 1
      · rw [Gd.has_iff.2 ⟨hq, h0, h1⟩] at h; cases h
      · omega
    · exact .inl ⟨rfl, by omega⟩

set_option maxHeartbeats 1000000 in
theorem rcopy_any (g : Gd) (w : World) : Calls Try.prog 31 #[.agg #[.int .i64 g.t, .int .i64 g.s, .int .i64 g.k]] w fun e w' => e = .returned (.int .i64 g.copy) ∧ Below w.heap.size w w' := by
  have hk := Kp.new w g 36
  have c1 := hk.1.t
  have c2 := hk.1.s
  have c3 := hk.1.k
  have HK := Lib.hid hk
  clear hk
  unfold Gd.copy
  rcases hh : g.ok with _ | _
  · have HG := Lib.hid hh
    clear hh
    go_enter Try.func31, Try.ntmps31
    go_wp2_with (go_at_call 24; (with_reducible refine (rgood_at HG.out _).mono ?_); rintro e w' ⟨rfl, hb⟩; replace HK := Lib.hid (HK.out.on hb); clear hb)
    go_ret
    exact ⟨rfl, HK.out.2⟩
  · have HG := Lib.hid hh
    clear hh
    go_enter Try.func31, Try.ntmps31
    go_wp2_with fail
    refine (rgood_at HG.out _).mono ?_
    rintro e w1 ⟨rfl, hb⟩
    have hk := (HK.out.on hb).drew
    clear hb c1 c2 c3
    have c1 := hk.1.t
    have c2 := hk.1.s
    have c3 := hk.1.k
    go_wp2_with fail
    go_region_held3 (fun w' => w'.cell? ⟨w.heap.size, 0, none⟩ = some (.int .i64 g.t) ∧ w'.cell? ⟨w.heap.size, 1, none⟩ = some (.int .i64 g.s) ∧ w'.cell? ⟨w.heap.size, 2, none⟩ = some (.int .i64 g.k) ∧ Kp w w.heap.size g w')
      (first | exact ⟨by assumption, by assumption, by assumption, by assumption⟩)
      (first | (go_at_call 38; ((with_reducible refine (k_rslots HG.out (by assumption)).mono ?_); rintro e w' ⟨rfl, z1, z2, z3, z4⟩)))
    go_wp2
    go_ret
    refine ⟨?_, z4.2⟩
    obtain ⟨h4, h5, h6, h7, h8, h9, h10⟩ := Gd.ok_iff.1 HG.out
    refine congrArg (fun y : Int => Ending.returned (.int .i64 y)) ?_
    unfold Gd.copy0 Gd.thing0 Gd.slot0
    rw [show IntKind.i64.wrap (8 * g.k) = g.k * 8 by rw [wrap_in (by omega) (by omega)]; omega]
    rw [show IntKind.i64.wrap (2 * g.s) = g.s * 2 by rw [wrap_in (by omega) (by omega)]; omega]
    rw [show IntKind.i64.wrap (16 + g.t * 1208 + g.s * 2) = 16 + g.t * 1208 + g.s * 2 from wrap_in (by omega) (by omega)]
    exact wrap_in (by omega) (by omega)
theorem rcopy_at {g : Gd} {r : Int} (h : g.copy = r) (w : World) : Calls Try.prog 31 #[.agg #[.int .i64 g.t, .int .i64 g.s, .int .i64 g.k]] w fun e w' => e = .returned (.int .i64 r) ∧ Below w.heap.size w w' := by
  subst h
  exact rcopy_any g w

set_option maxHeartbeats 1000000 in
theorem rrows_any (g : Gd) (w : World) : Calls Try.prog 23 #[.agg #[.int .i64 g.t, .int .i64 g.s, .int .i64 g.k]] w fun e w' => e = .returned (.int .i64 g.rows) ∧ Below w.heap.size w w' := by
  have hk := Kp.new w g 36
  have c1 := hk.1.t
  have c2 := hk.1.s
  have c3 := hk.1.k
  unfold Gd.rows
  rcases hh : g.ok with _ | _
  · have HH := Lib.hid hh
    have HK := Lib.hid hk
    clear hh hk
    go_enter Try.func23, Try.ntmps23
    go_wp2_with (go_at_call 24; (with_reducible refine (rgood_at HH.out _).mono ?_); rintro e w' ⟨rfl, hb⟩; replace HK := Lib.hid (HK.out.on hb); clear hb)
    go_ret
    exact ⟨rfl, HK.out.2⟩
  · have HG := Lib.hid hh
    have HK := Lib.hid hk
    have HC : Hid (g.copy = g.copy0) := Lib.hid (by unfold Gd.copy; rw [hh, if_pos rfl])
    obtain ⟨h4, h5, h6, h7, h8, h9, h10⟩ := Gd.ok_iff.1 hh
    have h0 : 0 ≤ g.copy0 := by unfold Gd.copy0 Gd.thing0 Gd.slot0; omega
    have h1 : g.copy0 ≤ 1000000 := by unfold Gd.copy0 Gd.thing0 Gd.slot0; omega
    obtain ⟨c, hc⟩ : ∃ c, c = g.copy0 := ⟨_, rfl⟩
    rw [← hc] at HC h0 h1 ⊢
    have H0 := Lib.hid h0
    have H1 := Lib.hid h1
    clear hh hk hc h0 h1 h4 h5 h6 h7 h8 h9 h10
    go_enter Try.func23, Try.ntmps23
    go_wp2_with (first
      | (go_at_call 24; (with_reducible refine (rgood_at HG.out _).mono ?_); rintro e w' ⟨rfl, hb⟩; replace HK := Lib.hid (HK.out.on hb); clear hb c1 c2 c3; have c1 := HK.out.1.t; have c2 := HK.out.1.s; have c3 := HK.out.1.k)
      | (go_at_call 31; (with_reducible refine (rcopy_at HC.out _).mono ?_); rintro e w' ⟨rfl, hb⟩; replace HK := Lib.hid (HK.out.on hb); clear hb))
    go_ret
    refine ⟨?_, HK.out.2⟩
    refine congrArg (fun y : Int => Ending.returned (.int .i64 y)) ?_
    have h0 := H0.out
    have h1 := H1.out
    rw [Int.tdiv_eq_ediv_of_nonneg h0]
    rw [show wrap64 (c / 8) = c / 8 from w64_in (by omega) (by omega)]
    exact w64_in (by omega) (by omega)
end Go.Proofs.Yteadkcekoccmdaa
