/-
  The statement TakeCopies is proved: for every state, thread, two ways and rights the law TakeCopies of reevelaw17 answers true. No condition.
-/
import Derived.Test.YtjnohbahjlidoaaGreatRows
import Derived.Test.YtjnohbahjlidoaaGreatTA2
import Derived.Test.YtjnohbahjlidoaaGreatTDo
import Derived.Test.YtjnohbahjlidoaaGreatTUj
import Derived.ProofKit
import Derived.OpenShut
namespace Go.Proofs.YtjnohbahjlidoaaGreat
open Go.ChangeShapes Go.WideShapes Go.ChangeAt Go.RowKit

theorem own_takeCopies : ownKnob Tryz.prog.godebug = none := by kernel_rfl
set_option maxRecDepth 100000 in
theorem takeCopies_lifted (os : Os) (started : os.Started) (H : Type) (enc : TypeId × Value → H) :
    ReturnsInHanded {} Tryz.checked os 4 .any (Rows.takeCopiesSpec.pre6 enc Tryz.prog Tryz.f4 Rows.takeCopiesRow.domain false) (Rows.takeCopiesSpec.post enc Tryz.prog Tryz.f4 false true false false) := by
  refine returnsInHanded_of_change (C := Tryz.checked) own_takeCopies started (by kernel_rfl) Tryz.func4
    (ChangeSpec.witness6 (enc := enc) (C := Tryz.checked) false ⟨#[], #[.agg #[.int .i64 0, .int .i64 0, .int .i64 0, .slice none 0 0, .slice none 0 0], .int .i64 0, .slice none 0 0, .slice none 0 0, .int .i64 0], []⟩ 8 (by kernel_rfl) (by kernel_rfl) (by kernel_rfl) (by kernel_rfl)) ?_
  intro W base args ds gs before hval0 hW _ _
  have hval : ∀ (j : Nat) t v, Tryz.f4.params[j]? = some t → args[j]? = some v → Value.okWide Tryz.prog W .any base t v := hval0
  have hW' := hW
  obtain ⟨p, q, hA0, hV, rfl, hfz, hnd⟩ := hW
  have hA : DataW.TrodAll enc Tryz.prog W 0 (fun _ => true) true Tryz.f4.params.toList args.toList ds p := hA0
  rw [Tryz.params4] at hA hval
  obtain ⟨v0, vs0, d0, ds0, p0, q0, hargs0, rfl, rfl, h0, r0⟩ := trodAll_cons hA
  obtain ⟨v1, vs1, d1, ds1, p1, q1, hargs1, rfl, rfl, h1, r1⟩ := trodAll_cons r0
  obtain ⟨v2, vs2, d2, ds2, p2, q2, hargs2, rfl, rfl, h2, r2⟩ := trodAll_cons r1
  obtain ⟨v3, vs3, d3, ds3, p3, q3, hargs3, rfl, rfl, h3, r3⟩ := trodAll_cons r2
  obtain ⟨v4, vs4, d4, ds4, p4, q4, hargs4, rfl, rfl, h4, r4⟩ := trodAll_cons r3
  obtain ⟨rfl, rfl, rfl⟩ := trodAll_nil r4
  obtain rfl : args = #[v0, v1, v2, v3, v4] := by cases args; simp_all
  obtain ⟨rfl, rfl⟩ := trodVars_none hV
  obtain ⟨s0, A0, ca0, C0, cc0, rfl, hca0, hcc0, hl0, hm0, hS0⟩ := open_state (hval 0 28 v0 rfl rfl) h0
  obtain ⟨x1, rfl, rfl, rfl, w1⟩ := open_int Tryz.underlying3 (hval 1 3 v1 rfl rfl) h1
  obtain ⟨A2, cap2, l2, rfl, hc2, hL2⟩ := open_ints (hval 2 36 v2 rfl rfl) h2
  obtain ⟨A3, cap3, l3, rfl, hc3, hL3⟩ := open_ints (hval 3 36 v3 rfl rfl) h3
  obtain ⟨x4, rfl, rfl, rfl, w4⟩ := open_int Tryz.underlying3 (hval 4 3 v4 rfl rfl) h4
  clear hA0 hval0
  simp only [List.append_nil] at hW'
  have hlt := fun x hx => hW'.lt x hx
  refine (take_copies hS0 rfl rfl rfl hca0 hcc0 rfl hc2 hL2 rfl hc3 hL3).mono fun e W' ⟨he, hb⟩ => ?_
  subst he
  exact ⟨_, rfl, ⟨_, _, _, [], _, [], hW', trodAll_mk1 (shut_bool Tryz.underlying4 _), (trodAll_cons_mk (hb.trod laid_out (by kernel_rfl) (by decide +kernel) h0 fun x hx => hlt x (by first | (simp [hx]; done) | (simp only [List.mem_append]; simp [hx]))) (trodAll_cons_mk (shut_int Tryz.underlying3 w1) (trodAll_cons_mk (hb.trod laid_out (by kernel_rfl) (by decide +kernel) h2 fun x hx => hlt x (by first | (simp [hx]; done) | (simp only [List.mem_append]; simp [hx]))) (trodAll_cons_mk (hb.trod laid_out (by kernel_rfl) (by decide +kernel) h3 fun x hx => hlt x (by first | (simp [hx]; done) | (simp only [List.mem_append]; simp [hx]))) (trodAll_cons_mk (shut_int Tryz.underlying3 w4) trodAll_mk0))))), rfl, hb.frame _, fun h => by cases h⟩⟩

theorem takeCopies_holds : Rows.TakeCopiesSaid :=
  OpenClaim.holds_of_wide 4 Tryz.f4 rfl rfl rfl rfl rfl rfl rfl ⟨rfl, rfl, rfl, rfl, rfl⟩ rfl rfl rfl rfl rfl (by kernel_rfl) Tryz.func4 (by kernel_rfl)
    (of_decide_eq_true (by kernel_rfl)) (by unfold Func.isWrapper; first | (rw [if_pos (by decide +kernel)]; kernel_rfl) | (rw [if_neg (by decide +kernel)]; exact ⟨rfl, rfl⟩))
    (fun os started H enc _ => takeCopies_lifted os started H enc)
end Go.Proofs.YtjnohbahjlidoaaGreat
