/-
  The walk of the law's awake. No condition.
-/
import Derived.Test.YtlhdpmkakmkknaaDoorCf
namespace Go.Proofs.YtlhdpmkakmkknaaDoor
open Go.RowKit

theorem aw_good : Cp.good ⟨3, 1, 7, 2⟩ = true := by decide
theorem aw_non : Cp.non ⟨3, 1, 7, 2⟩ = false := by decide
theorem aw_text : ctext 3 1 7 2 = ⟨#[51, 32, 49, 32, 114, 119, 103, 32, 50]⟩ := by
  unfold ctext dec
  rw [Lib.decDigits_one (by decide), Lib.decDigits_one (by decide), Lib.decDigits_one (by decide)]
  kernel_rfl
theorem aw_word (w : World) : Calls Tryd.prog 9 #[.agg #[.int .i64 3, .int .i64 1, .int .i64 7, .int .i64 2]] w fun e w' => e = .returned (.tuple #[.int .u64 4295100163, .bool true]) ∧ Below w.heap.size w w' :=
  word_yes (t := 3) (n := 1) (r := 7) (g := 2) (m := 4295100163) aw_good (by decide) (by decide) (by decide) (by decide) (by decide) w
theorem aw_get (w : World) : Calls Tryd.prog 14 #[.int .u64 4295100163] w fun e w' => e = .returned (.tuple #[.agg #[.int .i64 3, .int .i64 1, .int .i64 7, .int .i64 2], .bool true]) ∧ Below w.heap.size w w' :=
  get_near (z := 4295100163) (t := 3) (n := 1) (r := 7) (g := 2) (x := true) (by decide) (by decide) (by decide) (by decide) (by decide) aw_good w
theorem aw_ctext (w : World) : Calls Tryd.prog 12 #[.agg #[.int .i64 3, .int .i64 1, .int .i64 7, .int .i64 2]] w fun e w' => e = .returned (.string ⟨#[51, 32, 49, 32, 114, 119, 103, 32, 50]⟩) ∧ Below w.heap.size w w' :=
  ctext_small (t := 3) (n := 1) (r := 7) (g := 2) aw_good aw_non (by decide) aw_text w

set_option maxHeartbeats 4000000 in
theorem awake_any (w : World) : Calls Tryd.prog 8 #[] w fun e w' => e = .returned (.bool true) ∧ Below w.heap.size w w' := by
  have hs : ((⟨#[51, 32, 49, 32, 114, 119, 103, 32, 50]⟩ : ByteArray).toList == (⟨#[51, 32, 49, 32, 114, 119, 103, 32, 50]⟩ : ByteArray).toList) = true := by decide +kernel
  have heq : ∀ w, (Op.equalIn 10000 24 (.agg #[.int .i64 3, .int .i64 1, .int .i64 7, .int .i64 2]) (.agg #[.int .i64 3, .int .i64 1, .int .i64 7, .int .i64 2])).run Tryd.prog w = .ok true w := fun w => eq24 ⟨3, 1, 7, 2⟩ ⟨3, 1, 7, 2⟩ w
  have HS := Lib.hid hs
  have HE := Lib.hid heq
  have hK := Fr.new w 3 1 7 2 24
  clear hs heq
  go_enter Tryd.func8, Tryd.ntmps8
  go_wp2_with fail
  generalize w.alloc (.cells #[.int .i64 3, .int .i64 1, .int .i64 7, .int .i64 2] 24) = w1 at hK ⊢
  refine (aw_word w1).mono ?_
  rintro e w2 ⟨rfl, hb⟩
  have K2 := Lib.hid (hK.on hb)
  clear hK hb
  go_wp2_with fail
  refine (aw_get w2).mono ?_
  rintro e w3 ⟨rfl, hb⟩
  have K3 := Lib.hid (K2.out.on hb)
  clear K2 hb
  have hK4 := Fr.also (W := w) K3.out.old 3 1 7 2 24
  have hJ4 := K3.out.alloc (.cells #[.int .i64 3, .int .i64 1, .int .i64 7, .int .i64 2] 24)
  have c0 := hJ4.c0
  have c1 := hJ4.c1
  have c2 := hJ4.c2
  have c3 := hJ4.c3
  have HK4 := Lib.hid hK4
  have HJ4 := Lib.hid hJ4
  clear hK4 hJ4
  go_wp2_with fail
  clear c0 c1 c2 c3
  obtain ⟨p, hp⟩ : ∃ p, w3.heap.size = p := ⟨_, rfl⟩
  rw [hp] at HK4 ⊢
  clear K3 hp
  generalize w3.alloc (.cells #[.int .i64 3, .int .i64 1, .int .i64 7, .int .i64 2] 24) = w4 at *
  refine (aw_ctext w4).mono ?_
  rintro e w5 ⟨rfl, hb⟩
  have K5 := Lib.hid (HK4.out.on hb)
  have J5 := Lib.hid (HJ4.out.on hb)
  have hs := HS.out
  have heq := HE.out
  clear HK4 HJ4 hb
  have c0 := J5.out.c0
  have c1 := J5.out.c1
  have c2 := J5.out.c2
  have c3 := J5.out.c3
  have d0 := K5.out.c0
  have d1 := K5.out.c1
  have d2 := K5.out.c2
  have d3 := K5.out.c3
  go_wp2_with fail
  refine (cgood_at aw_good w5).mono ?_
  rintro e w6 ⟨rfl, hb⟩
  have J6 := Lib.hid (J5.out.on hb)
  clear c0 c1 c2 c3 d0 d1 d2 d3 K5 J5 hb
  have c0 := J6.out.c0
  have c1 := J6.out.c1
  have c2 := J6.out.c2
  have c3 := J6.out.c3
  go_wp2_with (go_at_call 15; (with_reducible refine (non_at aw_non _).mono ?_); rintro e w7 ⟨rfl, hb⟩)
  go_ret
  exact ⟨rfl, (J6.out.on hb).old⟩
end Go.Proofs.YtlhdpmkakmkknaaDoor
