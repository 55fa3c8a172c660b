/-
  The statement GaussLong is proved: for all lists of words l and m the law GaussLong of reevelaw1 answers true and leaves its arguments as they were. No condition.
-/
import Derived.Test.YtpbekngchhafcaaRows
import Derived.Test.YtpbekngchhafcaaWq
import Derived.ProofKit
import Derived.OpenShut
namespace Go.Proofs.Ytpbekngchhafcaa
open Go.ChangeShapes Go.WideShapes Go.ChangeAt Go.RowKit

theorem own_gaussLong : ownKnob Try.prog.godebug = none := by kernel_rfl
set_option maxRecDepth 100000 in
theorem gaussLong_lifted (os : Os) (started : os.Started) (H : Type) (enc : TypeId × Value → H) :
    ReturnsInHanded {} Try.checked os 9 .any (Rows.gaussLongSpec.pre6 enc Try.prog Try.f9 Rows.gaussLongRow.domain false) (Rows.gaussLongSpec.post enc Try.prog Try.f9 false true false false) := by
  refine returnsInHanded_of_change (C := Try.checked) own_gaussLong started (by kernel_rfl) Try.func9
    (ChangeSpec.witness6 (enc := enc) (C := Try.checked) false ⟨#[], #[.slice none 0 0, .slice none 0 0], []⟩ 8 (by kernel_rfl) (by kernel_rfl) (by kernel_rfl) (by kernel_rfl)) ?_
  intro W base args ds gs before hval0 hW _ _
  have hval : ∀ (j : Nat) t v, Try.f9.params[j]? = some t → args[j]? = some v → Value.okWide Try.prog W .any base t v := hval0
  have hW' := hW
  obtain ⟨p, q, hA0, hV, rfl, hfz, hnd⟩ := hW
  have hA : DataW.TrodAll enc Try.prog W 0 (fun _ => true) true Try.f9.params.toList args.toList ds p := hA0
  rw [Try.params9] at hA hval
  obtain ⟨v0, vs0, d0, ds0, p0, q0, hargs0, rfl, rfl, h0, r0⟩ := trodAll_cons hA
  obtain ⟨v1, vs1, d1, ds1, p1, q1, hargs1, rfl, rfl, h1, r1⟩ := trodAll_cons r0
  obtain ⟨rfl, rfl, rfl⟩ := trodAll_nil r1
  obtain rfl : args = #[v0, v1] := by cases args; simp_all
  obtain ⟨rfl, rfl⟩ := trodVars_none hV
  obtain ⟨A0, cap0, zs0, rfl, hl0, hL0, hW0, hN0⟩ := open_list (hval 0 36 v0 rfl rfl) h0
  obtain ⟨A1, cap1, zs1, rfl, hl1, hL1, hW1, hN1⟩ := open_list (hval 1 36 v1 rfl rfl) h1
  clear hA0 hval0
  simp only [List.append_nil] at hW'
  have hlt := fun x hx => hW'.lt x hx
  refine (long_walk A0 A1 cap0 cap1 zs0 zs1 W hl0 hl1 hL0 hL1 hW0 hW1 hN0 hN1).mono fun e W' ⟨he, hb⟩ => ?_
  subst he
  exact ⟨_, rfl, ⟨_, _, _, [], _, [], hW', trodAll_mk1 (shut_bool Try.underlying4 _), (trodAll_cons_mk (hb.trod laid_out (by kernel_rfl) (by decide +kernel) h0 fun x hx => hlt x (by simp only [List.mem_append]; simp [hx])) (trodAll_cons_mk (hb.trod laid_out (by kernel_rfl) (by decide +kernel) h1 fun x hx => hlt x (by simp only [List.mem_append]; simp [hx])) trodAll_mk0)), rfl, hb.frame _, fun h => by cases h⟩⟩

theorem gaussLong_holds : Rows.GaussLongSaid :=
  OpenClaim.holds_of_wide 9 Try.f9 rfl rfl rfl rfl rfl rfl rfl ⟨rfl, rfl, rfl, rfl, rfl⟩ rfl rfl rfl rfl rfl (by kernel_rfl) Try.func9 (by kernel_rfl)
    (of_decide_eq_true (by kernel_rfl)) (by unfold Func.isWrapper; first | (rw [if_pos (by decide +kernel)]; kernel_rfl) | (rw [if_neg (by decide +kernel)]; exact ⟨rfl, rfl⟩))
    (fun os started H enc _ => gaussLong_lifted os started H enc)
end Go.Proofs.Ytpbekngchhafcaa
