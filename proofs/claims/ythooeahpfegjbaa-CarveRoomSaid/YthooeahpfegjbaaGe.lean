/-
  The walks of the law's geoOf and of the reference's GoodGeo, long, slots, Desc, Slot, Thing, Copy, Rows. No condition.
-/
import Derived.Test.YthooeahpfegjbaaGb
namespace Go.Proofs.Ythooeahpfegjbaa
open Go.RowKit


/-- three ways in which a number is none -/
theorem Gd.has_ways {g : Gd} {n i : Int} (h : g.has n i = false) : g.ok = false ∨ (g.ok = true ∧ i < 0) ∨ (g.ok = true ∧ 0 ≤ i ∧ n ≤ i) := by
  rcases hq : g.ok with _ | _
  · exact .inl rfl
  · refine .inr ?_
    by_cases h0 : 0 ≤ i
    · refine .inr ⟨rfl, h0, ?_⟩
      by_cases h1 : i ≤ n - 1
      · rw [Gd.has_iff.2 ⟨hq, h0, h1⟩] at h; cases h
      · omega
    · exact .inl ⟨rfl, by omega⟩

end Go.Proofs.Ythooeahpfegjbaa
