/-
  The law TakeKnown's states. Condition: none.
-/
import Derived.Test.YtjnohbahjlidoaaGreatTUb
import Derived.Test.YtjnohbahjlidoaaGreatTDe
namespace Go.Proofs.YtjnohbahjlidoaaGreat
open Go.RowKit
set_option linter.unusedSimpArgs false
set_option linter.unusedVariables false

def tw1 : St := (gdo s64 0 ⟨2, [1], [2], 7, 0, 0⟩).1.getD s64
def tw2s : St := (gdo tw1 0 ⟨2, [2], [3], 7, 0, 0⟩).1.getD s64
def tw3 : St := (tdo tw2s 0 ⟨6, [2], [], 0, 0, 0⟩).1.getD s64
theorem tw_a : gdo s64 0 ⟨2, [1], [2], 7, 0, 0⟩ = (some tw1, ⟨0, 0, 0⟩) := by kernel_rfl
theorem tw_b : gdo tw1 0 ⟨2, [2], [3], 7, 0, 0⟩ = (some tw2s, ⟨0, 0, 0⟩) := by kernel_rfl
theorem tw_c : tdo tw2s 0 ⟨6, [2], [], 0, 0, 0⟩ = (some tw3, ⟨0, 0, 1⟩) := by kernel_rfl
theorem tw1_len : tw1.sl.length = 32 ∧ tw1.th.length = 16 := ⟨by kernel_rfl, by kernel_rfl⟩
theorem tw2_len : tw2s.sl.length = 32 ∧ tw2s.th.length = 16 := ⟨by kernel_rfl, by kernel_rfl⟩
theorem tw3_len : tw3.sl.length = 32 ∧ tw3.th.length = 16 := ⟨by kernel_rfl, by kernel_rfl⟩
theorem tw_s3 : slAt tw3.sl 3 = ⟨.none, -1⟩ := by kernel_rfl
theorem tw_s2 : slAt tw3.sl 2 = ⟨⟨3, 1, 7, 0⟩, 1⟩ := by kernel_rfl
theorem tw_g : tw1.g = ⟨2, 32, 16⟩ ∧ tw2s.g = ⟨2, 32, 16⟩ ∧ tw3.g = ⟨2, 32, 16⟩ := ⟨by kernel_rfl, by kernel_rfl, by kernel_rfl⟩
def tn1 : St := (cdo s64 0 ⟨1, [0], [2], 2, 2, 0⟩).1.getD s64
def tn2 : St := (cdo tn1 0 ⟨1, [0], [2, 1], 4, 0, 0⟩).1.getD s64
def tn3 : St := (gdo tn2 0 ⟨2, [2, 1], [2, 2], 1, 0, 0⟩).1.getD s64
def tn4 : St := (gdo tn3 0 ⟨2, [2, 2], [4], 7, 0, 0⟩).1.getD s64
theorem tn_a : cdo s64 0 ⟨1, [0], [2], 2, 2, 0⟩ = (some tn1, ⟨0, 0, 4⟩) := by kernel_rfl
theorem tn_b : cdo tn1 0 ⟨1, [0], [2, 1], 4, 0, 0⟩ = (some tn2, ⟨0, 0, 5⟩) := by kernel_rfl
theorem tn_c : gdo tn2 0 ⟨2, [2, 1], [2, 2], 1, 0, 0⟩ = (some tn3, ⟨0, 0, 0⟩) := by kernel_rfl
theorem tn_d : gdo tn3 0 ⟨2, [2, 2], [4], 7, 0, 0⟩ = (some tn4, ⟨0, 0, 0⟩) := by kernel_rfl
def tka : St := (tdo tn4 0 ⟨5, [2], [], 0, 0, 0⟩).1.getD s64
def tkc : St := (tdo tn4 0 ⟨6, [0], [], 0, 0, 0⟩).1.getD s64
def tke : St := (tdo tn4 0 ⟨5, [2, 1], [], 0, 0, 0⟩).1.getD s64
theorem tk_a : tdo tn4 0 ⟨5, [2], [], 0, 0, 0⟩ = (some tka, ⟨0, 0, 3⟩) := by kernel_rfl
theorem tk_c : tdo tn4 0 ⟨6, [0], [], 0, 0, 0⟩ = (some tkc, ⟨0, 0, 4⟩) := by kernel_rfl
theorem tk_e : tdo tn4 0 ⟨5, [2, 1], [], 0, 0, 0⟩ = (some tke, ⟨0, 0, 1⟩) := by kernel_rfl
theorem tk_g : tdo tn4 0 ⟨5, [6], [], 0, 0, 0⟩ = (none, ⟨4, 0, 0⟩) := by kernel_rfl
end Go.Proofs.YtjnohbahjlidoaaGreat
