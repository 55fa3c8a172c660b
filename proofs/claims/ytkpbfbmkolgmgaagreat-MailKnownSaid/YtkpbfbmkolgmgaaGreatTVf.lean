/-
  The law's own way, first, heavy (layer 18). Condition: none.
-/
import Derived.Test.YtkpbfbmkolgmgaaGreatTVc
namespace Go.Proofs.YtkpbfbmkolgmgaaGreat
open Go.RowKit
set_option linter.unusedSimpArgs false
set_option linter.unusedVariables false
theorem way18_is {A : Option Addr} {n cap : Nat} (w : World) : Calls Tryz.prog 27 #[.slice A n cap] w fun e w' => e = .returned (.agg #[.slice A n cap]) ∧ Below w.heap.size w w' := by
  go_enter Tryz.func27, Tryz.ntmps27
  go_wp2
  go_returns
  exact ⟨rfl, below_alloc _ _⟩
set_option maxHeartbeats 2000000 in
theorem first18_is (w : World) : Calls Tryz.prog 26 #[] w fun e w' => ∃ A ca C cc, e = .returned (.agg #[.int .i64 2, .int .i64 32, .int .i64 16, .slice A 32 ca, .slice C 16 cc]) ∧ StH w' s64 2 32 16 A 32 ca C 16 cc ∧ Fsh w w' s64 A C ∧ Below w.heap.size w w' := by
  have k1 := Sbx.new w 0 0 0 none 0 0 none 0 0 27
  have hf : ∀ k, (w.alloc (.cells #[.int .i64 0, .int .i64 0, .int .i64 0, .slice none 0 0, .slice none 0 0] 27)).frozen? ⟨w.heap.size, k, none⟩ = false := fun k => frozen_of_row _ _ k _ _ (heap_alloc_new w _)
  go_enter Tryz.func26, Tryz.ntmps26
  go_wp2_with fail
  obtain ⟨g, hg⟩ : ∃ g, g = w.heap.size := ⟨_, rfl⟩
  rw [← hg] at k1 hf ⊢
  have HGG := Lib.hid hg
  clear hg
  generalize hw1 : w.alloc _ = w1 at k1 hf ⊢
  clear hw1
  refine (plain_any w1).mono ?_
  rintro e w2 ⟨rfl, hb2⟩
  have K2 := Lib.hid (k1.on hb2)
  have hf2 : ∀ k, w2.frozen? ⟨g, k, none⟩ = false := fun k => (hb2.frozen (p := ⟨g, k, none⟩) k1.lt).trans (hf k)
  clear hb2 hf k1
  go_wp2_with fail
  refine (pnew_is s64_new).mono ?_
  rintro e w3 ⟨A, ca, C, cc, rfl, hca, hcc, hF, hb3⟩
  simp only [s64_geo, s64_slots, s64_things] at hca hcc ⊢
  have K3 := Lib.hid (K2.out.on hb3)
  have hf3 : ∀ k, w3.frozen? ⟨g, k, none⟩ = false := fun k => (hb3.frozen (p := ⟨g, k, none⟩) K2.out.lt).trans (hf2 k)
  have HF := Lib.hid hF
  have HB3 := Lib.hid hb3
  have HCA := Lib.hid hca
  have HCC := Lib.hid hcc
  obtain ⟨b0, b1, b2, c3, c4, -, -, lt⟩ := K3.out
  have f0 := hf3 0
  have f1 := hf3 1
  have f2 := hf3 2
  have f3 := hf3 3
  have f4 := hf3 4
  clear hf3 hf2 hb3 hF hca hcc
  go_wp2_with fail
  have hp := put5_cells b0 b1 b2 c3 c4 (v0 := .int .i64 2) (v1 := .int .i64 32) (v2 := .int .i64 16) (v3 := .slice A 32 ca) (v4 := .slice C 16 cc)
  have hz := put5_size w3 g (.int .i64 2) (.int .i64 32) (.int .i64 16) (.slice A 32 ca) (.slice C 16 cc)
  have hh : ∀ k, k ≠ g → (put5 w3 g (.int .i64 2) (.int .i64 32) (.int .i64 16) (.slice A 32 ca) (.slice C 16 cc)).heap[k]? = w3.heap[k]? := fun k hk => put5_heap w3 g _ _ _ _ _ hk
  have hbl := put5_below K3.out.old (by rw [← HGG.out]; exact Nat.le_refl _) (.int .i64 2) (.int .i64 32) (.int .i64 16) (.slice A 32 ca) (.slice C 16 cc)
  change bodyPost _ _ _ _ _ ((put5 w3 g (.int .i64 2) (.int .i64 32) (.int .i64 16) (.slice A 32 ca) (.slice C 16 cc)).alloc _)
  generalize put5 w3 g (.int .i64 2) (.int .i64 32) (.int .i64 16) (.slice A 32 ca) (.slice C 16 cc) = w4 at hp hz hh hbl ⊢
  obtain ⟨e0, e1, e2, e3, e4⟩ := hp
  have hba := below_alloc w4 (.cells #[.int .i64 2, .int .i64 32, .int .i64 16, .slice A 32 ca, .slice C 16 cc] 27)
  have hg4 : g < w4.heap.size := by rw [hz]; exact lt
  replace e0 := (hba.cell (p := ⟨g, 0, none⟩) hg4).trans e0
  replace e1 := (hba.cell (p := ⟨g, 1, none⟩) hg4).trans e1
  replace e2 := (hba.cell (p := ⟨g, 2, none⟩) hg4).trans e2
  replace e3 := (hba.cell (p := ⟨g, 3, none⟩) hg4).trans e3
  replace e4 := (hba.cell (p := ⟨g, 4, none⟩) hg4).trans e4
  refine bodyPost_ret (by simp [results, Tryz.results26, go_sem, e0, e1, e2, e3, e4]; rfl) rfl ?_
  have hF : Fsh w (w4.alloc (.cells #[.int .i64 2, .int .i64 32, .int .i64 16, .slice A 32 ca, .slice C 16 cc] 27)) s64 A C := HF.out.move K2.out.old.size (by rw [← hz]; exact hba.size) fun k h1 h2 => by
    have := K2.out.lt
    exact (hba.block k (by omega)).trans (hh k (by omega))
  exact ⟨A, ca, C, cc, rfl, ⟨hF.lies, s64_geo, s64_slots.symm, s64_things.symm, by omega, by omega, HCA.out, HCC.out⟩, hF, below_on hbl hba⟩
end Go.Proofs.YtkpbfbmkolgmgaaGreat
