/-
  The walk of the law's awake: it answers true. No condition.
-/
import Derived.Test.YteadkcekoccmdaaSe
namespace Go.Proofs.Yteadkcekoccmdaa
open Go.RowKit

def seven : Sp := ⟨⟨2, 32, 16⟩, 7⟩
/-- what is put is got -/
theorem w64_small {z : Int} (h1 : 0 ≤ z) (h2 : z ≤ 1000000) : wrap64 z = z := w64_in (by omega) (by omega)
theorem of_full {s : Sp} (h : s.g.ok = true) : Sp.of s.full = s := by
  obtain ⟨h1, h2, h3, h4, h5, h6, h7⟩ := Gd.ok_iff.1 h
  obtain ⟨⟨t, g, k⟩, b⟩ := s
  simp only at h1 h2 h3 h4 h5 h6 h7
  show (⟨⟨wrap64 t, wrap64 g, wrap64 k⟩, b⟩ : Sp) = _
  rw [w64_small (by omega) (by omega), w64_small (by omega) (by omega), w64_small (by omega) (by omega)]
theorem got_full {s : Sp} (h : s.g.ok = true) : got s.full = true := by
  unfold got
  refine decide_eq_true ⟨rfl, ?_⟩
  rw [of_full h, Sp.put_yes h]
theorem get_full {s : Sp} (h : s.g.ok = true) : get s.full = s := by
  unfold get
  rw [got_full h, if_pos rfl, of_full h]
theorem full_words {s : Sp} (h : s.g.ok = true) (hb : 0 ≤ s.b ∧ s.b < 18446744073709551616) : Wds s.full := by
  intro x hx
  have : s.full = s.front ++ [close s.front] := rfl
  rw [this, List.mem_append] at hx
  rcases hx with hx | hx
  · exact front_words h hb x hx
  · rw [List.mem_singleton] at hx
    subst hx
    exact close_range _
theorem put_to {t s k b : Int} {l : List Int} (h : Sp.put ⟨⟨t, s, k⟩, b⟩ = l) (hb : 0 ≤ b ∧ b < 18446744073709551616) (w : World) : Calls Try.prog 8 #[.agg #[.int .i64 t, .int .i64 s, .int .i64 k, .int .u64 b]] w fun e w' => ∃ v, e = .returned v ∧ Words w' v l ∧ Below w.heap.size w w' := by
  subst h
  exact put_any ⟨⟨t, s, k⟩, b⟩ w hb
theorem Words.eight {w : World} {v : Value} {l : List Int} (h : Words w v l) (h8 : l.length = 8) : ∃ b o cap, v = .slice (some ⟨b, o, none⟩) 8 cap ∧ 8 ≤ cap ∧ b < w.heap.size ∧ ∀ (j : Nat) (z : Int), l[j]? = some z → w.cell? ⟨b, o + j, none⟩ = some (.int .u64 z) := by
  obtain ⟨A, cap, rfl, hcap, hL⟩ := h
  obtain ⟨b, o, rfl, hlt, hc⟩ := hL (by omega)
  rw [h8] at hcap
  exact ⟨b, o, cap, by rw [h8], hcap, hlt, hc⟩
theorem seven_ok : seven.g.ok = true := by decide

set_option maxHeartbeats 1000000 in
theorem awake_any (w : World) : Calls Try.prog 7 #[] w fun e w' => e = .returned (.bool true) ∧ Below w.heap.size w w' := by
  go_enter Try.func7, Try.ntmps7
  go_wp2_with fail
  refine (plain_any _).mono ?_
  rintro e w1 ⟨rfl, hb⟩
  have B1 := Lib.hid (below_on hb (below_alloc w1 (.cells #[.int .i64 2, .int .i64 32, .int .i64 16, .int .u64 7] 30)))
  have V1 : Hid (Bs (w1.alloc (.cells #[.int .i64 2, .int .i64 32, .int .i64 16, .int .u64 7] 30)) w1.heap.size seven) := Lib.hid (Bs.new w1 seven 30)
  clear hb
  go_wp2_with fail
  refine (put_to (l := seven.full) (Sp.put_yes (s := seven) seven_ok) (by decide) _).mono ?_
  rintro e w2 ⟨v, rfl, hv, hb⟩
  have B2 := Lib.hid (below_on B1.out hb)
  have V2 := Lib.hid (V1.out.on hb)
  have HV := Lib.hid hv
  clear hb hv B1 V1
  go_wp2_with fail
  refine (get_to (s := 32) HV.out (full_words seven_ok (by decide)) (get_full seven_ok) (got_full seven_ok)).mono ?_
  rintro e w3 ⟨rfl, hb⟩
  have B3 := Lib.hid (below_on (below_on B2.out hb) (below_alloc w3 (.cells #[.int .i64 2, .int .i64 32, .int .i64 16, .int .u64 7] 30)))
  have hv3 := (HV.out.below hb).below (below_alloc w3 (.cells #[.int .i64 2, .int .i64 32, .int .i64 16, .int .u64 7] 30))
  have v3 := (V2.out.on hb).on (below_alloc w3 (.cells #[.int .i64 2, .int .i64 32, .int .i64 16, .int .u64 7] 30))
  have x3 : Bs (w3.alloc (.cells #[.int .i64 2, .int .i64 32, .int .i64 16, .int .u64 7] 30)) w3.heap.size seven := Bs.new w3 seven 30
  clear hb B2 V2 HV
  obtain ⟨g, o, cap, rfl, hcap, hlt, hc⟩ := hv3.eight rfl
  go_upto_region 4 with fail
  change Code.wp _ _ _ _ (w3.alloc (.cells #[.int .i64 2, .int .i64 32, .int .i64 16, .int .u64 7] 30))
  generalize w3.alloc (.cells #[.int .i64 2, .int .i64 32, .int .i64 16, .int .u64 7] 30) = w4 at *
  have c0 : w4.cell? ⟨g, o, none⟩ = some (.int .u64 8243106252149764145) := hc 0 _ rfl
  have c4 : w4.cell? ⟨g, o + 4, none⟩ = some (.int .u64 7) := hc 4 _ rfl
  have a0 : w4.cell? ⟨w3.heap.size, 0, none⟩ = some (.int .i64 2) := x3.t
  have a1 : w4.cell? ⟨w3.heap.size, 1, none⟩ = some (.int .i64 32) := x3.s
  have a2 : w4.cell? ⟨w3.heap.size, 2, none⟩ = some (.int .i64 16) := x3.k
  have a3 : w4.cell? ⟨w3.heap.size, 3, none⟩ = some (.int .u64 7) := x3.u
  have b0 : w4.cell? ⟨w1.heap.size, 0, none⟩ = some (.int .i64 2) := v3.t
  have b1 : w4.cell? ⟨w1.heap.size, 1, none⟩ = some (.int .i64 32) := v3.s
  have b2 : w4.cell? ⟨w1.heap.size, 2, none⟩ = some (.int .i64 16) := v3.k
  have b3 : w4.cell? ⟨w1.heap.size, 3, none⟩ = some (.int .u64 7) := v3.u
  clear hc hv3 x3 v3 hlt hcap
  go_wp2_with fail
  go_ret
  exact ⟨rfl, B3.out⟩
end Go.Proofs.Yteadkcekoccmdaa
