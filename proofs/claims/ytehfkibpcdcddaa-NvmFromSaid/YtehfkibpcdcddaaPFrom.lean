/-
  The statement NvmFrom is proved: for every list of words l and every list keep the law NvmFrom of reevelaw3 answers true and leaves its arguments as they were. No condition.
-/
import Derived.Test.YtehfkibpcdcddaaRows
import Derived.Test.YtehfkibpcdcddaaNl
import Derived.ProofKit
import Derived.OpenShut
namespace Go.Proofs.Ytehfkibpcdcddaa
open Go.ChangeShapes Go.WideShapes Go.ChangeAt Go.RowKit

theorem own_nvmFrom : ownKnob Try.prog.godebug = none := by kernel_rfl
set_option maxRecDepth 100000 in
theorem nvmFrom_lifted (os : Os) (started : os.Started) (H : Type) (enc : TypeId × Value → H) :
    ReturnsInHanded {} Try.checked os 6 .any (Rows.nvmFromSpec.pre6 enc Try.prog Try.f6 Rows.nvmFromRow.domain false) (Rows.nvmFromSpec.post enc Try.prog Try.f6 false true false false) := by
  refine returnsInHanded_of_change (C := Try.checked) own_nvmFrom started (by kernel_rfl) Try.func6
    (ChangeSpec.witness6 (enc := enc) (C := Try.checked) false ⟨#[], #[.slice none 0 0, .slice none 0 0], []⟩ 8 (by kernel_rfl) (by kernel_rfl) (by kernel_rfl) (by kernel_rfl)) ?_
  intro W base args ds gs before hval0 hW _ _
  have hval : ∀ (j : Nat) t v, Try.f6.params[j]? = some t → args[j]? = some v → Value.okWide Try.prog W .any base t v := hval0
  have hW' := hW
  obtain ⟨p, q, hA0, hV, rfl, hfz, hnd⟩ := hW
  have hA : DataW.TrodAll enc Try.prog W 0 (fun _ => true) true Try.f6.params.toList args.toList ds p := hA0
  rw [Try.params6] at hA hval
  obtain ⟨v0, vs0, d0, ds0, p0, q0, hargs0, rfl, rfl, h0, r0⟩ := trodAll_cons hA
  obtain ⟨v1, vs1, d1, ds1, p1, q1, hargs1, rfl, rfl, h1, r1⟩ := trodAll_cons r0
  obtain ⟨rfl, rfl, rfl⟩ := trodAll_nil r1
  obtain rfl : args = #[v0, v1] := by cases args; simp_all
  obtain ⟨rfl, rfl⟩ := trodVars_none hV
  obtain ⟨A0, cap0, l0, rfl, hl0, hL0⟩ := open_words (hval 0 36 v0 rfl rfl) h0
  obtain ⟨A1, cap1, l1, rfl, hl1, hL1⟩ := open_ints (hval 1 33 v1 rfl rfl) h1
  clear hA0 hval0
  simp only [List.append_nil] at hW'
  have hlt := fun x hx => hW'.lt x hx
  refine (from_walk A0 cap0 l0 A1 cap1 l1 W hl0 hl1 hL0 hL1).mono fun e W' ⟨he, hb⟩ => ?_
  subst he
  exact ⟨_, rfl, ⟨_, _, _, [], _, [], hW', trodAll_mk1 (shut_bool Try.underlying4 _), (trodAll_cons_mk (hb.trod laid_out (by kernel_rfl) (by decide +kernel) h0 fun x hx => hlt x (by first | (simp [hx]; done) | (simp only [List.mem_append]; simp [hx]))) (trodAll_cons_mk (hb.trod laid_out (by kernel_rfl) (by decide +kernel) h1 fun x hx => hlt x (by first | (simp [hx]; done) | (simp only [List.mem_append]; simp [hx]))) trodAll_mk0)), rfl, hb.frame _, fun h => by cases h⟩⟩

theorem nvmFrom_holds : Rows.NvmFromSaid :=
  OpenClaim.holds_of_wide 6 Try.f6 rfl rfl rfl rfl rfl rfl rfl ⟨rfl, rfl, rfl, rfl, rfl⟩ rfl rfl rfl rfl rfl (by kernel_rfl) Try.func6 (by kernel_rfl)
    (of_decide_eq_true (by kernel_rfl)) (by unfold Func.isWrapper; first | (rw [if_pos (by decide +kernel)]; kernel_rfl) | (rw [if_neg (by decide +kernel)]; exact ⟨rfl, rfl⟩))
    (fun os started H enc _ => nvmFrom_lifted os started H enc)
end Go.Proofs.Ytehfkibpcdcddaa
