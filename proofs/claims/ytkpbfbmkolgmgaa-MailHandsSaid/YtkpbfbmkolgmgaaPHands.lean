/-
  The statement MailHands is proved: for every state, two threads and four ways the law MailHands of reevelaw18 answers true. No condition.
-/
import Derived.Test.YtkpbfbmkolgmgaaRows
import Derived.Test.YtkpbfbmkolgmgaaA2
import Derived.Test.YtkpbfbmkolgmgaaVo
import Derived.Test.YtkpbfbmkolgmgaaVj
import Derived.ProofKit
import Derived.OpenShut
namespace Go.Proofs.Ytkpbfbmkolgmgaa
open Go.ChangeShapes Go.WideShapes Go.ChangeAt Go.RowKit

theorem own_mailHands : ownKnob Try.prog.godebug = none := by kernel_rfl
set_option maxRecDepth 100000 in
theorem mailHands_lifted (os : Os) (started : os.Started) (H : Type) (enc : TypeId × Value → H) :
    ReturnsInHanded {} Try.checked os 4 .any (Rows.mailHandsSpec.pre6 enc Try.prog Try.f4 Rows.mailHandsRow.domain false) (Rows.mailHandsSpec.post enc Try.prog Try.f4 false true false false) := by
  refine returnsInHanded_of_change (C := Try.checked) own_mailHands started (by kernel_rfl) Try.func4
    (ChangeSpec.witness6 (enc := enc) (C := Try.checked) false ⟨#[], #[.agg #[.int .i64 0, .int .i64 0, .int .i64 0, .slice none 0 0, .slice none 0 0], .int .i64 0, .int .i64 0, .slice none 0 0, .slice none 0 0, .slice none 0 0, .slice none 0 0], []⟩ 8 (by kernel_rfl) (by kernel_rfl) (by kernel_rfl) (by kernel_rfl)) ?_
  intro W base args ds gs before hval0 hW _ _
  have hval : ∀ (j : Nat) t v, Try.f4.params[j]? = some t → args[j]? = some v → Value.okWide Try.prog W .any base t v := hval0
  have hW' := hW
  obtain ⟨p, q, hA0, hV, rfl, hfz, hnd⟩ := hW
  have hA : DataW.TrodAll enc Try.prog W 0 (fun _ => true) true Try.f4.params.toList args.toList ds p := hA0
  rw [Try.params4] at hA hval
  obtain ⟨v0, vs0, d0, ds0, p0, q0, hargs0, rfl, rfl, h0, r0⟩ := trodAll_cons hA
  obtain ⟨v1, vs1, d1, ds1, p1, q1, hargs1, rfl, rfl, h1, r1⟩ := trodAll_cons r0
  obtain ⟨v2, vs2, d2, ds2, p2, q2, hargs2, rfl, rfl, h2, r2⟩ := trodAll_cons r1
  obtain ⟨v3, vs3, d3, ds3, p3, q3, hargs3, rfl, rfl, h3, r3⟩ := trodAll_cons r2
  obtain ⟨v4, vs4, d4, ds4, p4, q4, hargs4, rfl, rfl, h4, r4⟩ := trodAll_cons r3
  obtain ⟨v5, vs5, d5, ds5, p5, q5, hargs5, rfl, rfl, h5, r5⟩ := trodAll_cons r4
  obtain ⟨v6, vs6, d6, ds6, p6, q6, hargs6, rfl, rfl, h6, r6⟩ := trodAll_cons r5
  obtain ⟨rfl, rfl, rfl⟩ := trodAll_nil r6
  obtain rfl : args = #[v0, v1, v2, v3, v4, v5, v6] := by cases args; simp_all
  obtain ⟨rfl, rfl⟩ := trodVars_none hV
  obtain ⟨s0, A0, ca0, C0, cc0, rfl, hca0, hcc0, hl0, hm0, hS0⟩ := open_state (hval 0 27 v0 rfl rfl) h0
  obtain ⟨x1, rfl, rfl, rfl, w1⟩ := open_int Try.underlying3 (hval 1 3 v1 rfl rfl) h1
  obtain ⟨x2, rfl, rfl, rfl, w2⟩ := open_int Try.underlying3 (hval 2 3 v2 rfl rfl) h2
  obtain ⟨A3, cap3, l3, rfl, hc3, hL3⟩ := open_ints (hval 3 28 v3 rfl rfl) h3
  obtain ⟨A4, cap4, l4, rfl, hc4, hL4⟩ := open_ints (hval 4 28 v4 rfl rfl) h4
  obtain ⟨A5, cap5, l5, rfl, hc5, hL5⟩ := open_ints (hval 5 28 v5 rfl rfl) h5
  obtain ⟨A6, cap6, l6, rfl, hc6, hL6⟩ := open_ints (hval 6 28 v6 rfl rfl) h6
  clear hA0 hval0
  simp only [List.append_nil] at hW'
  have hlt := fun x hx => hW'.lt x hx
  refine (mail_hands_law hS0 rfl rfl rfl hca0 hcc0 rfl hc3 hL3 rfl hc4 hL4 rfl hc5 hL5 rfl hc6 hL6).mono fun e W' ⟨he, hb⟩ => ?_
  subst he
  exact ⟨_, rfl, ⟨_, _, _, [], _, [], hW', trodAll_mk1 (shut_bool Try.underlying4 _), (trodAll_cons_mk (hb.trod laid_out (by kernel_rfl) (by decide +kernel) h0 fun x hx => hlt x (by first | (simp [hx]; done) | (simp only [List.mem_append]; simp [hx]))) (trodAll_cons_mk (shut_int Try.underlying3 w1) (trodAll_cons_mk (shut_int Try.underlying3 w2) (trodAll_cons_mk (hb.trod laid_out (by kernel_rfl) (by decide +kernel) h3 fun x hx => hlt x (by first | (simp [hx]; done) | (simp only [List.mem_append]; simp [hx]))) (trodAll_cons_mk (hb.trod laid_out (by kernel_rfl) (by decide +kernel) h4 fun x hx => hlt x (by first | (simp [hx]; done) | (simp only [List.mem_append]; simp [hx]))) (trodAll_cons_mk (hb.trod laid_out (by kernel_rfl) (by decide +kernel) h5 fun x hx => hlt x (by first | (simp [hx]; done) | (simp only [List.mem_append]; simp [hx]))) (trodAll_cons_mk (hb.trod laid_out (by kernel_rfl) (by decide +kernel) h6 fun x hx => hlt x (by first | (simp [hx]; done) | (simp only [List.mem_append]; simp [hx]))) trodAll_mk0))))))), rfl, hb.frame _, fun h => by cases h⟩⟩

theorem mailHands_holds : Rows.MailHandsSaid :=
  OpenClaim.holds_of_wide 4 Try.f4 rfl rfl rfl rfl rfl rfl rfl ⟨rfl, rfl, rfl, rfl, rfl⟩ rfl rfl rfl rfl rfl (by kernel_rfl) Try.func4 (by kernel_rfl)
    (of_decide_eq_true (by kernel_rfl)) (by unfold Func.isWrapper; first | (rw [if_pos (by decide +kernel)]; kernel_rfl) | (rw [if_neg (by decide +kernel)]; exact ⟨rfl, rfl⟩))
    (fun os started H enc _ => mailHands_lifted os started H enc)
end Go.Proofs.Ytkpbfbmkolgmgaa
