/-
  The walk of the law CapCuts: it answers true. No condition.
-/
import Derived.Test.YtlhdpmkakmkknaaDoorCg
namespace Go.Proofs.YtlhdpmkakmkknaaDoor
open Go.RowKit

theorem fr_use {W w : World} {g N : Nat} {a b d f : Int} {xs : Array Value} {r : Value} (h : Fr W w g a b d f) (hc : Calls Tryd.prog N xs w fun e w' => e = .returned r ∧ Below w.heap.size w w') :
    Calls Tryd.prog N xs w fun e w' => e = .returned r ∧ w'.cell? ⟨g, 0, none⟩ = some (.int .i64 a) ∧ w'.cell? ⟨g, 1, none⟩ = some (.int .i64 b) ∧ w'.cell? ⟨g, 2, none⟩ = some (.int .i64 d) ∧ w'.cell? ⟨g, 3, none⟩ = some (.int .i64 f) ∧ Fr W w' g a b d f := by
  refine hc.mono ?_
  rintro e w' ⟨rfl, hb⟩
  have k := h.on hb
  exact ⟨rfl, k.c0, k.c1, k.c2, k.c3, k⟩
theorem cut_at {t n r g x m : Nat} (h : Cp.good ⟨t, n, r, g⟩ = true) (hr : r < 8) (hx : x < 8) (hm : land3 r x = m) (w : World) :
    Calls Tryd.prog 13 #[.agg #[.int .i64 (t : Int), .int .i64 (n : Int), .int .i64 (r : Int), .int .i64 (g : Int)], .int .i64 (x : Int)] w fun e w' => e = .returned (.agg #[.int .i64 (t : Int), .int .i64 (n : Int), .int .i64 (m : Int), .int .i64 (g : Int)]) ∧ Below w.heap.size w w' :=
  cut_yes h (by rw [held_self hr, held_self hx, hm]) w
theorem cut_all {t n r g : Nat} (h : Cp.good ⟨t, n, r, g⟩ = true) (hr : r < 8) (hm : land3 r 7 = r) (w : World) :
    Calls Tryd.prog 13 #[.agg #[.int .i64 (t : Int), .int .i64 (n : Int), .int .i64 (r : Int), .int .i64 (g : Int)], .int .i64 7] w fun e w' => e = .returned (.agg #[.int .i64 (t : Int), .int .i64 (n : Int), .int .i64 (r : Int), .int .i64 (g : Int)]) ∧ Below w.heap.size w w' :=
  cut_at (x := 7) h hr (by decide) hm w
theorem land3_seven : ∀ x < 8, land3 x 7 = x := by decide +kernel
theorem land3_two : ∀ x < 8, ∀ y < 8, ∀ z < 8, land3 (land3 x y) z = land3 x (land3 y z) := by decide +kernel
theorem land3_off : ∀ x < 8, ∀ y < 8, bits .andNot .i64 ((land3 x y : Nat) : Int) ((y : Nat) : Int) = 0 := by decide +kernel
/-- with other rights it may be, too: but none at all has none -/
theorem good_cut {t n r g x : Nat} (h : Cp.good ⟨t, n, r, g⟩ = true) (hr : r < 8) (hx : x < 8) : Cp.good ⟨t, n, (land3 r x : Nat), g⟩ = true := by
  have hl := land3_lt r hr x hx
  have hle := land3_le r hr x hx
  rcases good_iff_all.1 h with ⟨h1, h2, h3, h4⟩ | ⟨h1, h2, h3, h4, h5, h6, h7, h8, h9⟩
  · exact good_iff_all.2 (.inl ⟨h1, h2, by omega, h4⟩)
  · exact good_iff_all.2 (.inr ⟨h1, h2, h3, h4, by omega, by omega, h7, h8, h9⟩)

theorem field_ri (a b d f : Int) (w : World) : (Instr.field 24 (.agg #[.int .i64 a, .int .i64 b, .int .i64 d, .int .i64 f]) 2).run Tryd.prog w = .ok (.int .i64 d) w := by kernel_rfl

set_option maxHeartbeats 8000000 in
theorem cuts_walk (c : Cp) (a b : Int) (w : World) : Calls Tryd.prog 7 #[c.val, .int .i64 a, .int .i64 b] w fun e w' => e = .returned (.bool true) ∧ Below w.heap.size w w' := by
  obtain ⟨c0, c1, c2, c3⟩ := c
  have hK := Fr.new w c0 c1 c2 c3 24
  show Calls Tryd.prog 7 #[.agg #[.int .i64 c0, .int .i64 c1, .int .i64 c2, .int .i64 c3], .int .i64 a, .int .i64 b] w _
  go_enter Tryd.func7, Tryd.ntmps7
  go_wp2_with fail
  generalize w.alloc (.cells #[.int .i64 c0, .int .i64 c1, .int .i64 c2, .int .i64 c3] 24) = w1 at hK ⊢
  refine (awake_any w1).mono ?_
  rintro e w2 ⟨rfl, hb⟩
  have K := Lib.hid (hK.on hb)
  clear hK hb
  have k0 := K.out.c0
  have k1 := K.out.c1
  have k2 := K.out.c2
  have k3 := K.out.c3
  go_wp2_with fail
  clear k0 k1 k2 k3
  rcases hx : Cp.good ⟨c0, c1, c2, c3⟩ with _ | _
  · refine (cgood_at hx w2).mono ?_
    rintro e w3 ⟨rfl, hb⟩
    go_wp2
    go_ret
    exact ⟨rfl, (K.out.on hb).old⟩
  refine (cgood_at hx w2).mono ?_
  rintro e w3 ⟨rfl, hb⟩
  replace K := Lib.hid (K.out.on hb)
  obtain ⟨t, n, r, g, rfl, rfl, rfl, rfl, h1, h2, h3, h4⟩ := good_nat hx
  clear hb h1 h2 h4
  have HX := Lib.hid hx
  have HR := Lib.hid h3
  clear hx h3
  by_cases ha : a < 0
  · go_wp2
    go_ret
    exact ⟨rfl, K.out.old⟩
  by_cases ha7 : 7 < a
  · go_wp2
    go_ret
    exact ⟨rfl, K.out.old⟩
  by_cases hb : b < 0
  · go_wp2
    go_ret
    exact ⟨rfl, K.out.old⟩
  by_cases hb7 : 7 < b
  · go_wp2
    go_ret
    exact ⟨rfl, K.out.old⟩
  obtain ⟨x, rfl⟩ : ∃ x : Nat, a = (x : Int) := ⟨a.toNat, by omega⟩
  obtain ⟨y, rfl⟩ : ∃ y : Nat, b = (y : Int) := ⟨b.toNat, by omega⟩
  have hx8 : x < 8 := by omega
  have hy8 : y < 8 := by omega
  obtain ⟨m, hm⟩ : ∃ m, land3 r x = m := ⟨_, rfl⟩
  obtain ⟨k, hk⟩ : ∃ k, land3 x y = k := ⟨_, rfl⟩
  obtain ⟨o, ho⟩ : ∃ o, land3 m y = o := ⟨_, rfl⟩
  have h8 := HR.out
  have hand : bits .and .i64 (x : Int) (y : Int) = (k : Int) := hk ▸ and_table x hx8 y hy8
  have hoff : bits .andNot .i64 (m : Int) (x : Int) = 0 := hm ▸ land3_off r h8 x hx8
  have HM := Lib.hid hm
  have HO := Lib.hid ho
  have HO2 : Hid (land3 r k = o) := Lib.hid (by rw [← hk, ← land3_two r h8 x hx8 y hy8, hm, ho])
  have HGM : Hid (Cp.good ⟨t, n, m, g⟩ = true) := Lib.hid (hm ▸ good_cut HX.out h8 hx8)
  have HM8 : Hid (m < 8) := Lib.hid (hm ▸ land3_lt r h8 x hx8)
  have HK8 : Hid (k < 8) := Lib.hid (hk ▸ land3_lt x hx8 y hy8)
  have H7 := Lib.hid (land3_seven r h8)
  have HX8 := Lib.hid hx8
  have HY8 := Lib.hid hy8
  have e1 : ∀ w, (Op.equalIn 10000 24 (.agg #[.int .i64 (t : Int), .int .i64 (n : Int), .int .i64 (o : Int), .int .i64 (g : Int)]) (.agg #[.int .i64 (t : Int), .int .i64 (n : Int), .int .i64 (o : Int), .int .i64 (g : Int)])).run Tryd.prog w = .ok true w :=
    fun w => by have := eq24 ⟨t, n, o, g⟩ ⟨t, n, o, g⟩ w; rwa [show Cp.eq ⟨t, n, o, g⟩ ⟨t, n, o, g⟩ = true by simp [Cp.eq]] at this
  have e2 : ∀ w, (Op.equalIn 10000 24 (.agg #[.int .i64 (t : Int), .int .i64 (n : Int), .int .i64 (r : Int), .int .i64 (g : Int)]) (.agg #[.int .i64 (t : Int), .int .i64 (n : Int), .int .i64 (r : Int), .int .i64 (g : Int)])).run Tryd.prog w = .ok true w :=
    fun w => by have := eq24 ⟨t, n, r, g⟩ ⟨t, n, r, g⟩ w; rwa [show Cp.eq ⟨t, n, r, g⟩ ⟨t, n, r, g⟩ = true by simp [Cp.eq]] at this
  have e3 : ∀ w, (Instr.field 24 (.agg #[.int .i64 (t : Int), .int .i64 (n : Int), .int .i64 (m : Int), .int .i64 (g : Int)]) 2).run Tryd.prog w = .ok (.int .i64 (m : Int)) w := fun w => field_ri t n m g w
  clear hm hk ho h8 hx8 hy8
  go_wp2_with fail
  have hK2 := K.out.drew
  have k0 := hK2.c0
  have k1 := hK2.c1
  have k2 := hK2.c2
  have k3 := hK2.c3
  clear K ha ha7 hb hb7
  go_region_held3 (fun w' => w'.cell? ⟨w.heap.size, 0, none⟩ = some (.int .i64 (t : Int)) ∧ w'.cell? ⟨w.heap.size, 1, none⟩ = some (.int .i64 (n : Int)) ∧ w'.cell? ⟨w.heap.size, 2, none⟩ = some (.int .i64 (r : Int)) ∧ w'.cell? ⟨w.heap.size, 3, none⟩ = some (.int .i64 (g : Int)) ∧ Fr w w' w.heap.size t n r g)
    (first | exact ⟨by with_reducible assumption, by with_reducible assumption, by with_reducible assumption, by with_reducible assumption, by with_reducible assumption⟩ | fail)
    (first
      | (go_at_call 13; ((with_reducible refine (fr_use (by with_reducible assumption) (cut_all HX.out HR.out H7.out _)).mono ?_); rintro e w' ⟨rfl, y0, y1, y2, y3, y4⟩))
      | (go_at_call 13; ((with_reducible refine (fr_use (by with_reducible assumption) (cut_at HX.out HR.out HX8.out HM.out _)).mono ?_); rintro e w' ⟨rfl, y0, y1, y2, y3, y4⟩))
      | (go_at_call 13; ((with_reducible refine (fr_use (by with_reducible assumption) (cut_at HX.out HR.out HK8.out HO2.out _)).mono ?_); rintro e w' ⟨rfl, y0, y1, y2, y3, y4⟩))
      | (go_at_call 13; ((with_reducible refine (fr_use (by with_reducible assumption) (cut_at HGM.out HM8.out HY8.out HO.out _)).mono ?_); rintro e w' ⟨rfl, y0, y1, y2, y3, y4⟩))
      | (go_at_call 11; ((with_reducible refine (fr_use (by with_reducible assumption) (cgood_at HGM.out _)).mono ?_); rintro e w' ⟨rfl, y0, y1, y2, y3, y4⟩)))
  go_wp2
  go_ret
  exact ⟨by simp, y4.old⟩
end Go.Proofs.YtlhdpmkakmkknaaDoor
