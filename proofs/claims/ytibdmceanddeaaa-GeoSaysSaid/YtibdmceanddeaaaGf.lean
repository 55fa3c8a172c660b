/-
  The walk of the law GeoSays: it answers true. Condition: none.
-/
import Derived.Test.YtibdmceanddeaaaGd
import Derived.Test.YtibdmceanddeaaaGe
namespace Go.Proofs.Ytibdmceanddeaaa
open Go.RowKit

theorem lock_at {g : Gd} {r : Int} (h : g.lock = r) (w : World) : Calls Try.prog 10 #[.agg #[.int .i64 g.t, .int .i64 g.s, .int .i64 g.k]] w fun e w' => e = .returned (.int .i64 r) ∧ Below w.heap.size w w' := by
  subst h
  exact lock_any g w
theorem rows_at {g : Gd} {r : Int} (h : g.rows = r) (w : World) : Calls Try.prog 9 #[.agg #[.int .i64 g.t, .int .i64 g.s, .int .i64 g.k]] w fun e w' => e = .returned (.int .i64 r) ∧ Below w.heap.size w w' := by
  subst h
  exact rows_any g w
theorem slot_at {g : Gd} {i r : Int} (h : g.slot i = r) (w : World) : Calls Try.prog 11 #[.agg #[.int .i64 g.t, .int .i64 g.s, .int .i64 g.k], .int .i64 i] w fun e w' => e = .returned (.int .i64 r) ∧ Below w.heap.size w w' := by
  subst h
  exact slot_any g i w
theorem thing_at {g : Gd} {i r : Int} (h : g.thing i = r) (w : World) : Calls Try.prog 12 #[.agg #[.int .i64 g.t, .int .i64 g.s, .int .i64 g.k], .int .i64 i] w fun e w' => e = .returned (.int .i64 r) ∧ Below w.heap.size w w' := by
  subst h
  exact thing_any g i w
theorem root_at {g : Gd} {i r : Int} (h : g.root i = r) (w : World) : Calls Try.prog 14 #[.agg #[.int .i64 g.t, .int .i64 g.s, .int .i64 g.k], .int .i64 i] w fun e w' => e = .returned (.int .i64 r) ∧ Below w.heap.size w w' := by
  subst h
  exact root_any g i w
theorem rrows_at {g : Gd} {r : Int} (h : g.rows = r) (w : World) : Calls Try.prog 19 #[.agg #[.int .i64 g.t, .int .i64 g.s, .int .i64 g.k]] w fun e w' => e = .returned (.int .i64 r) ∧ Below w.heap.size w w' := by
  subst h
  exact rrows_any g w
theorem rslot_at {g : Gd} {i r : Int} (h : g.slot i = r) (w : World) : Calls Try.prog 20 #[.agg #[.int .i64 g.t, .int .i64 g.s, .int .i64 g.k], .int .i64 i] w fun e w' => e = .returned (.int .i64 r) ∧ Below w.heap.size w w' := by
  subst h
  exact rslot_any g i w
theorem rthing_at {g : Gd} {i r : Int} (h : g.thing i = r) (w : World) : Calls Try.prog 21 #[.agg #[.int .i64 g.t, .int .i64 g.s, .int .i64 g.k], .int .i64 i] w fun e w' => e = .returned (.int .i64 r) ∧ Below w.heap.size w w' := by
  subst h
  exact rthing_any g i w
theorem desc_at {g : Gd} {i r n : Int} (h : g.desc i = r) (hn : g.descs i = n) (w : World) : Calls Try.prog 7 #[.agg #[.int .i64 g.t, .int .i64 g.s, .int .i64 g.k], .int .i64 i] w fun e w' => e = .returned (.tuple #[.int .i64 r, .int .i64 n]) ∧ Below w.heap.size w w' := by
  subst h hn
  exact desc_any g i w
theorem rdesc_at {g : Gd} {i r n : Int} (h : g.desc i = r) (hn : g.descs i = n) (w : World) : Calls Try.prog 17 #[.agg #[.int .i64 g.t, .int .i64 g.s, .int .i64 g.k], .int .i64 i] w fun e w' => e = .returned (.tuple #[.int .i64 r, .int .i64 n]) ∧ Below w.heap.size w w' := by
  subst h hn
  exact rdesc_any g i w

/-- the law's Geo lies in b, the reference's in v; what was before stands -/
def Kz (w0 : World) (b v : Nat) (g : Gd) (w : World) : Prop := Bx w b g ∧ Bx w v g ∧ Below w0.heap.size w0 w
theorem Kz.on {w0 w w' : World} {b v : Nat} {g : Gd} (h : Kz w0 b v g w) (hb : Below w.heap.size w w') : Kz w0 b v g w' := ⟨h.1.on hb, h.2.1.on hb, below_on h.2.2 hb⟩
theorem Kz.drew {w0 w : World} {b v : Nat} {g : Gd} (h : Kz w0 b v g w) : Kz w0 b v g w.drew := ⟨⟨h.1.t, h.1.s, h.1.k, h.1.lt⟩, ⟨h.2.1.t, h.2.1.s, h.2.1.k, h.2.1.lt⟩, h.2.2.drew⟩
/-- a call that makes memory alone -/
theorem kz_use {N : Nat} {xs : Array Value} {r : Value} {w0 w : World} {b v : Nat} {g : Gd} (hk : Kz w0 b v g w) (h : Calls Try.prog N xs w fun e w' => e = .returned r ∧ Below w.heap.size w w') :
    Calls Try.prog N xs w fun e w' => e = .returned r ∧ w'.cell? ⟨b, 0, none⟩ = some (.int .i64 g.t) ∧ w'.cell? ⟨b, 1, none⟩ = some (.int .i64 g.s) ∧ w'.cell? ⟨b, 2, none⟩ = some (.int .i64 g.k) ∧
      w'.cell? ⟨v, 0, none⟩ = some (.int .i64 g.t) ∧ w'.cell? ⟨v, 1, none⟩ = some (.int .i64 g.s) ∧ w'.cell? ⟨v, 2, none⟩ = some (.int .i64 g.k) ∧ Kz w0 b v g w' := by
  refine h.mono ?_
  rintro e w' ⟨rfl, hb⟩
  have := hk.on hb
  exact ⟨rfl, this.1.t, this.1.s, this.1.k, this.2.1.t, this.2.1.s, this.2.1.k, this⟩

set_option maxRecDepth 100000 in
set_option maxHeartbeats 4000000 in
theorem says_walk (g : Gd) (i : Int) (w : World) : Calls Try.prog 4 #[.agg #[.int .i64 g.t, .int .i64 g.s, .int .i64 g.k], .int .i64 i] w fun e w' => e = .returned (.bool true) ∧ Below w.heap.size w w' := by
  have HK := Lib.hid (Kp.new w g 24)
  obtain ⟨r, hg⟩ : ∃ r, g.ok = r := ⟨_, rfl⟩
  obtain ⟨lk, hlk⟩ : ∃ d, g.lock = d := ⟨_, rfl⟩
  obtain ⟨rt, hrt⟩ : ∃ d, g.root i = d := ⟨_, rfl⟩
  obtain ⟨c, hc⟩ : ∃ c, g.has g.t i = c := ⟨_, rfl⟩
  have HG := Lib.hid hg
  have HL := Lib.hid hlk
  have HR := Lib.hid hrt
  have HC := Lib.hid hc
  obtain ⟨d1, hd1⟩ : ∃ d, g.desc i = d := ⟨_, rfl⟩
  obtain ⟨d2, hd2⟩ : ∃ d, g.descs i = d := ⟨_, rfl⟩
  obtain ⟨ro, hro⟩ : ∃ d, g.rows = d := ⟨_, rfl⟩
  obtain ⟨sl, hsl⟩ : ∃ d, g.slot i = d := ⟨_, rfl⟩
  obtain ⟨th, hth⟩ : ∃ d, g.thing i = d := ⟨_, rfl⟩
  obtain ⟨co, hco⟩ : ∃ d, g.copy = d := ⟨_, rfl⟩
  have H1 := Lib.hid hd1
  have H2 := Lib.hid hd2
  have H3 := Lib.hid hro
  have H4 := Lib.hid hsl
  have H5 := Lib.hid hth
  have H6 := Lib.hid hco
  clear hg hlk hrt hc hd1 hd2 hro hsl hth hco
  go_enter Try.func4, Try.ntmps4
  go_wp2_with fail
  refine (awake_any _).mono ?_
  rintro e w1 ⟨rfl, hb⟩
  replace HK := Lib.hid (HK.out.on hb)
  clear hb
  have b1 := HK.out.1.t
  have b2 := HK.out.1.s
  have b3 := HK.out.1.k
  go_wp2_with fail
  refine (geoof_any g _).mono ?_
  rintro e w2 ⟨rfl, hb⟩
  replace HK := Lib.hid (HK.out.on hb)
  clear hb b1 b2 b3
  have HZ : Hid (Kz w w.heap.size w2.heap.size g (w2.alloc (.cells #[.int .i64 g.t, .int .i64 g.s, .int .i64 g.k] 32))) := Lib.hid ⟨HK.out.1.on (below_alloc _ _), Bx.new w2 g 32, below_on HK.out.2 (below_alloc _ _)⟩
  clear HK
  have b1 := HZ.out.1.t
  have b2 := HZ.out.1.s
  have b3 := HZ.out.1.k
  go_wp2_with fail
  refine (kz_use HZ.out (desc_at H1.out H2.out _)).mono ?_
  rintro e w3 ⟨rfl, z1, z2, z3, z4, z5, z6, hz⟩
  replace HZ := Lib.hid hz
  clear hz b1 b2 b3
  go_wp2_with fail
  refine (kz_use HZ.out (rdesc_at H1.out H2.out _)).mono ?_
  clear z1 z2 z3 z4 z5 z6
  rintro e w4 ⟨rfl, z1, z2, z3, z4, z5, z6, hz⟩
  replace HZ := Lib.hid hz
  clear hz
  go_wp2_with fail
  refine (kz_use HZ.out (rgood_at HG.out _)).mono ?_
  clear z1 z2 z3 z4 z5 z6
  rintro e w5 ⟨rfl, z1, z2, z3, z4, z5, z6, hz⟩
  have hz0 := hz.drew
  have z1 := hz0.1.t
  have z2 := hz0.1.s
  have z3 := hz0.1.k
  have z4 := hz0.2.1.t
  have z5 := hz0.2.1.s
  have z6 := hz0.2.1.k
  clear hz HZ
  go_upto_if 31 with fail
  go_cut [11] from 31 to 31 (fun s11 wc => s11 = .int .i64 lk ∧ w5 = wc)
  case first =>
    rcases r with _ | _
    · go_wp2_with fail
      go_meet
      refine ⟨?_, rfl⟩
      rw [← HL.out]
      unfold Gd.lock
      rw [HG.out]
      rfl
    · go_wp2_with fail
      go_meet
      refine ⟨?_, rfl⟩
      rw [← HL.out]
      unfold Gd.lock
      rw [HG.out]
      rfl
  case rest =>
  obtain ⟨rfl, rfl⟩ := hcut
  go_upto_region 10 with fail
  go_cut [42] from 32 to 42 (fun s42 wc => s42 = .bool c ∧ w5 = wc)
  case first =>
    rcases r with _ | _
    · go_wp2_with fail
      go_meet
      refine ⟨?_, rfl⟩
      rw [← HC.out, Gd.has_no HG.out]
    · by_cases h1 : 0 ≤ i
      · by_cases h2 : i < g.t
        · go_wp2_with fail
          go_meet
          refine ⟨?_, rfl⟩
          rw [← HC.out, Gd.has_iff.2 ⟨HG.out, h1, by omega⟩]
        · have h3 : decide (i < g.t) = false := decide_eq_false h2
          go_wp2_with fail
          go_meet
          refine ⟨?_, rfl⟩
          rw [← HC.out]
          rcases hq : g.has g.t i with _ | _
          · rfl
          · have := (Gd.has_iff.1 hq).2.2; omega
      · have h3 : decide (0 ≤ i) = false := decide_eq_false h1
        go_wp2_with fail
        go_meet
        refine ⟨?_, rfl⟩
        rw [← HC.out]
        rcases hq : g.has g.t i with _ | _
        · rfl
        · have := (Gd.has_iff.1 hq).2.1; omega
  case rest =>
  obtain ⟨rfl, rfl⟩ := hcut
  go_upto_if 42 with fail
  go_cut [12] from 43 to 44 (fun s12 wc => s12 = .int .i64 rt ∧ w5 = wc)
  case first =>
    rcases c with _ | _
    · go_wp2_with fail
      go_meet
      refine ⟨?_, rfl⟩
      rw [← HR.out]
      unfold Gd.root
      rw [HC.out]
      rfl
    · go_wp2_with fail
      go_meet
      refine ⟨?_, rfl⟩
      rw [← HR.out]
      unfold Gd.root
      rw [HC.out, if_pos rfl]
      obtain ⟨h1, h2, h3⟩ := Gd.has_iff.1 HC.out
      have h4 := Gd.ok_t h1
      exact congrArg (Value.int .i64) (by rw [w64_in (by omega) (by omega)]; omega)
  case rest =>
  obtain ⟨rfl, rfl⟩ := hcut
  go_wp2_with fail
  go_region_held3 (fun w' => w'.cell? ⟨w.heap.size, 0, none⟩ = some (.int .i64 g.t) ∧ w'.cell? ⟨w.heap.size, 1, none⟩ = some (.int .i64 g.s) ∧ w'.cell? ⟨w.heap.size, 2, none⟩ = some (.int .i64 g.k) ∧
      w'.cell? ⟨w2.heap.size, 0, none⟩ = some (.int .i64 g.t) ∧ w'.cell? ⟨w2.heap.size, 1, none⟩ = some (.int .i64 g.s) ∧ w'.cell? ⟨w2.heap.size, 2, none⟩ = some (.int .i64 g.k) ∧ Kz w w.heap.size w2.heap.size g w')
    (first | exact ⟨by assumption, by assumption, by assumption, by assumption, by assumption, by assumption, by assumption⟩)
    (first
      | (go_at_call 8; ((with_reducible refine (kz_use (by assumption) (good_at HG.out _)).mono ?_); rintro e w' ⟨rfl, y1, y2, y3, y4, y5, y6, y7⟩))
      | (go_at_call 9; ((with_reducible refine (kz_use (by assumption) (rows_at H3.out _)).mono ?_); rintro e w' ⟨rfl, y1, y2, y3, y4, y5, y6, y7⟩))
      | (go_at_call 19; ((with_reducible refine (kz_use (by assumption) (rrows_at H3.out _)).mono ?_); rintro e w' ⟨rfl, y1, y2, y3, y4, y5, y6, y7⟩))
      | (go_at_call 11; ((with_reducible refine (kz_use (by assumption) (slot_at H4.out _)).mono ?_); rintro e w' ⟨rfl, y1, y2, y3, y4, y5, y6, y7⟩))
      | (go_at_call 20; ((with_reducible refine (kz_use (by assumption) (rslot_at H4.out _)).mono ?_); rintro e w' ⟨rfl, y1, y2, y3, y4, y5, y6, y7⟩))
      | (go_at_call 12; ((with_reducible refine (kz_use (by assumption) (thing_at H5.out _)).mono ?_); rintro e w' ⟨rfl, y1, y2, y3, y4, y5, y6, y7⟩))
      | (go_at_call 21; ((with_reducible refine (kz_use (by assumption) (rthing_at H5.out _)).mono ?_); rintro e w' ⟨rfl, y1, y2, y3, y4, y5, y6, y7⟩))
      | (go_at_call 13; ((with_reducible refine (kz_use (by assumption) (copy_at H6.out _)).mono ?_); rintro e w' ⟨rfl, y1, y2, y3, y4, y5, y6, y7⟩))
      | (go_at_call 22; ((with_reducible refine (kz_use (by assumption) (rcopy_at H6.out _)).mono ?_); rintro e w' ⟨rfl, y1, y2, y3, y4, y5, y6, y7⟩))
      | (go_at_call 10; ((with_reducible refine (kz_use (by assumption) (lock_at HL.out _)).mono ?_); rintro e w' ⟨rfl, y1, y2, y3, y4, y5, y6, y7⟩))
      | (go_at_call 14; ((with_reducible refine (kz_use (by assumption) (root_at HR.out _)).mono ?_); rintro e w' ⟨rfl, y1, y2, y3, y4, y5, y6, y7⟩)))
  clear z1 z2 z3 z4 z5 z6 y1 y2 y3 y4 y5 y6
  go_wp2
  go_ret
  exact ⟨rfl, y7.2.2⟩
end Go.Proofs.Ytibdmceanddeaaa
