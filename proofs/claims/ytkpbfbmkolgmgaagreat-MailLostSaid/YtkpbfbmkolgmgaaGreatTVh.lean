/-
  Sent and taken out again; what is handed on: plain facts for layer 18's laws. No condition.
-/
import Derived.Test.YtkpbfbmkolgmgaaGreatTVa
namespace Go.Proofs.YtkpbfbmkolgmgaaGreat
open Go.RowKit
set_option linter.unusedSimpArgs false
set_option linter.unusedVariables false

theorem mmay_at {k : Cp} {o : Int} (h3 : k.ty = 3) : mmay k o = if mbit k o = true then 0 else 6 := if_pos h3
/-- a call of one who may: what is told of it -/
theorem mdo_at {s : St} {t : Int} {c : Cl} {k : Cp} {f i : Nat} (hc : cgood c = true) (ho : c.op = 7 ∨ c.op = 8) (hf : fcap s t c.a = ((f : Int), k, 0)) (h3 : k.ty = 3) (hi : k.th = (i : Int)) :
    mdo s t c = if mbit k c.op = true then (if c.op = 7 then msend s t c k else mrecv s t c i) else (none, ⟨6, 0, 0⟩) := by
  have hn : k.th.toNat = i := by omega
  rw [mdo, if_pos ⟨ho, hc⟩, hf]
  dsimp only
  rw [if_pos rfl, mmay_at h3, hn]
  by_cases hb : mbit k c.op = true
  · rw [if_pos hb, if_pos hb, if_pos rfl]
  · rw [if_neg hb, if_neg hb, if_neg (by decide)]
end Go.Proofs.YtkpbfbmkolgmgaaGreat
