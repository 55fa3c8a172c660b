/-
  The law's own first, way, awake; the law FindEmpty walked. Condition: the state and the steps lie in memory.
  The law's own awake; the law FindEmpty walked. Condition: the state and the steps lie in memory.
-/
import Derived.Test.YtmcgnjhjidfkdaaGreatLc
import Derived.Test.YtmcgnjhjidfkdaaGreatKo
namespace Go.Proofs.YtmcgnjhjidfkdaaGreat
open Go.RowKit

theorem Fsh.move {W W' w w' : World} {s : St} {A C : Option Addr} (h : Fsh W w s A C) (hW : W'.heap.size ≤ W.heap.size) (hsz : w.heap.size ≤ w'.heap.size) (e : ∀ k, W.heap.size ≤ k → k < w.heap.size → w'.heap[k]? = w.heap[k]?) : Fsh W' w' s A C := by
  refine ⟨⟨fun h0 => ?_, fun h0 => ?_⟩, fun h0 => ?_, fun h0 => ?_, h.ne⟩
  · obtain ⟨b, e1, h1, h2, -⟩ := h.sl h0
    obtain ⟨b', o', e2, h3, h4⟩ := h.lies.sl h0
    obtain ⟨rfl, rfl⟩ : b = b' ∧ 0 = o' := by rw [e1] at e2; simpa using e2
    exact ⟨b, 0, e1, by omega, fun j hj => (h4 j hj).same fun k => World.cell?_of_block (w := w) (a := ⟨b, k, none⟩) (e b h1 h2)⟩
  · obtain ⟨b, e1, h1, h2, -⟩ := h.th h0
    obtain ⟨b', o', e2, h3, h4⟩ := h.lies.th h0
    obtain ⟨rfl, rfl⟩ : b = b' ∧ 0 = o' := by rw [e1] at e2; simpa using e2
    exact ⟨b, 0, e1, by omega, fun j hj => (h4 j hj).same fun k => World.cell?_of_block (w := w) (a := ⟨b, k, none⟩) (e b h1 h2)⟩
  · obtain ⟨b, e1, h1, h2, h3⟩ := h.sl h0
    exact ⟨b, e1, by omega, by omega, fun k => (World.frozen?_of_block (w := w) (a := ⟨b, k, none⟩) (e b h1 h2)).trans (h3 k)⟩
  · obtain ⟨b, e1, h1, h2, h3⟩ := h.th h0
    exact ⟨b, e1, by omega, by omega, fun k => (World.frozen?_of_block (w := w) (a := ⟨b, k, none⟩) (e b h1 h2)).trans (h3 k)⟩
theorem way_is {A : Option Addr} {n cap : Nat} (w : World) : Calls Tryz.prog 7 #[.slice A n cap] w fun e w' => e = .returned (.agg #[.slice A n cap]) ∧ Below w.heap.size w w' := by
  go_enter Tryz.func7, Tryz.ntmps7
  go_wp2
  go_returns
  exact ⟨rfl, below_alloc _ _⟩
set_option maxHeartbeats 2000000 in
theorem first_is (w : World) : Calls Tryz.prog 14 #[] w fun e w' => ∃ A ca C cc, e = .returned (.agg #[.int .i64 2, .int .i64 32, .int .i64 16, .slice A 32 ca, .slice C 16 cc]) ∧ StH w' s64 2 32 16 A 32 ca C 16 cc ∧ Fsh w w' s64 A C ∧ Below w.heap.size w w' := by
  have k1 := Sbx.new w 0 0 0 none 0 0 none 0 0 28
  have hf : ∀ k, (w.alloc (.cells #[.int .i64 0, .int .i64 0, .int .i64 0, .slice none 0 0, .slice none 0 0] 28)).frozen? ⟨w.heap.size, k, none⟩ = false := fun k => frozen_of_row _ _ k _ _ (heap_alloc_new w _)
  go_enter Tryz.func14, Tryz.ntmps14
  go_wp2_with fail
  obtain ⟨g, hg⟩ : ∃ g, g = w.heap.size := ⟨_, rfl⟩
  rw [← hg] at k1 hf ⊢
  have HGG := Lib.hid hg
  clear hg
  generalize hw1 : w.alloc _ = w1 at k1 hf ⊢
  clear hw1
  refine (plain_any w1).mono ?_
  rintro e w2 ⟨rfl, hb2⟩
  have K2 := Lib.hid (k1.on hb2)
  have hf2 : ∀ k, w2.frozen? ⟨g, k, none⟩ = false := fun k => (hb2.frozen (p := ⟨g, k, none⟩) k1.lt).trans (hf k)
  clear hb2 hf k1
  go_wp2_with fail
  refine (pnew_is s64_new).mono ?_
  rintro e w3 ⟨A, ca, C, cc, rfl, hca, hcc, hF, hb3⟩
  simp only [s64_geo, s64_slots, s64_things] at hca hcc ⊢
  have K3 := Lib.hid (K2.out.on hb3)
  have hf3 : ∀ k, w3.frozen? ⟨g, k, none⟩ = false := fun k => (hb3.frozen (p := ⟨g, k, none⟩) K2.out.lt).trans (hf2 k)
  have HF := Lib.hid hF
  have HB3 := Lib.hid hb3
  have HCA := Lib.hid hca
  have HCC := Lib.hid hcc
  obtain ⟨b0, b1, b2, c3, c4, -, -, lt⟩ := K3.out
  have f0 := hf3 0
  have f1 := hf3 1
  have f2 := hf3 2
  have f3 := hf3 3
  have f4 := hf3 4
  clear hf3 hf2 hb3 hF hca hcc
  go_wp2_with fail
  have hp := put5_cells b0 b1 b2 c3 c4 (v0 := .int .i64 2) (v1 := .int .i64 32) (v2 := .int .i64 16) (v3 := .slice A 32 ca) (v4 := .slice C 16 cc)
  have hz := put5_size w3 g (.int .i64 2) (.int .i64 32) (.int .i64 16) (.slice A 32 ca) (.slice C 16 cc)
  have hh : ∀ k, k ≠ g → (put5 w3 g (.int .i64 2) (.int .i64 32) (.int .i64 16) (.slice A 32 ca) (.slice C 16 cc)).heap[k]? = w3.heap[k]? := fun k hk => put5_heap w3 g _ _ _ _ _ hk
  have hbl := put5_below K3.out.old (by rw [← HGG.out]; exact Nat.le_refl _) (.int .i64 2) (.int .i64 32) (.int .i64 16) (.slice A 32 ca) (.slice C 16 cc)
  change bodyPost _ _ _ _ _ ((put5 w3 g (.int .i64 2) (.int .i64 32) (.int .i64 16) (.slice A 32 ca) (.slice C 16 cc)).alloc _)
  generalize put5 w3 g (.int .i64 2) (.int .i64 32) (.int .i64 16) (.slice A 32 ca) (.slice C 16 cc) = w4 at hp hz hh hbl ⊢
  obtain ⟨e0, e1, e2, e3, e4⟩ := hp
  have hba := below_alloc w4 (.cells #[.int .i64 2, .int .i64 32, .int .i64 16, .slice A 32 ca, .slice C 16 cc] 28)
  have hg4 : g < w4.heap.size := by rw [hz]; exact lt
  replace e0 := (hba.cell (p := ⟨g, 0, none⟩) hg4).trans e0
  replace e1 := (hba.cell (p := ⟨g, 1, none⟩) hg4).trans e1
  replace e2 := (hba.cell (p := ⟨g, 2, none⟩) hg4).trans e2
  replace e3 := (hba.cell (p := ⟨g, 3, none⟩) hg4).trans e3
  replace e4 := (hba.cell (p := ⟨g, 4, none⟩) hg4).trans e4
  refine bodyPost_ret (by simp [results, Tryz.results14, go_sem, e0, e1, e2, e3, e4]; rfl) rfl ?_
  have hF : Fsh w (w4.alloc (.cells #[.int .i64 2, .int .i64 32, .int .i64 16, .slice A 32 ca, .slice C 16 cc] 28)) s64 A C := HF.out.move K2.out.old.size (by rw [← hz]; exact hba.size) fun k h1 h2 => by
    have := K2.out.lt
    exact (hba.block k (by omega)).trans (hh k (by omega))
  exact ⟨A, ca, C, cc, rfl, ⟨hF.lies, s64_geo, s64_slots.symm, s64_things.symm, by omega, by omega, HCA.out, HCC.out⟩, hF, below_on hbl hba⟩
end Go.Proofs.YtmcgnjhjidfkdaaGreat
namespace Go.Proofs.YtmcgnjhjidfkdaaGreat
open Go.RowKit

theorem s64_thread {t : Int} (h0 : 0 ≤ t) (h1 : t < 2) : fthread s64 t = true := fthread_iff.2 ⟨s64_good, h0, h1⟩
theorem s64_slot : fslot s64 1 [1] = (9, 0) := by
  rw [fslot, if_pos ⟨s64_thread (by omega) (by omega), by decide⟩]
  decide +kernel
theorem s64_slot0 : fslot s64 0 [0] = (0, 0) := by
  rw [fslot, if_pos ⟨s64_thread (by omega) (by omega), by decide⟩]
  decide +kernel
theorem s64_cap : fcap s64 0 [0] = (0, ⟨1, 0, 7, 0⟩, 0) := by
  rw [fcap, s64_slot0]
  show (if (0 : Int) = 0 then (if (slAt s64.sl 0).c.non = true then ((0 : Int), Cp.none, (4 : Int)) else (0, (slAt s64.sl 0).c, 0)) else (0, .none, 0)) = _
  rw [if_pos rfl, if_neg (by decide +kernel), show (slAt s64.sl 0).c = (⟨1, 0, 7, 0⟩ : Cp) from rfl]
theorem one_at (w : World) (z : Int) : IntsAt (w.alloc (.cells #[.int .i64 z] 3)) (w.alloc (.cells #[.int .i64 z] 3)).heap.size (some ⟨w.heap.size, 0, none⟩) [z] := fun _ =>
  ⟨w.heap.size, 0, rfl, by simp, fun j y hy => by
    match j, hy with
    | 0, hy =>
      obtain rfl : z = y := by simpa using hy
      simp⟩
theorem field_sl (a b c : Int) (A : Option Addr) (n ca : Nat) (C : Option Addr) (m cc : Nat) (w : World) : (Instr.field 28 (.agg #[.int .i64 a, .int .i64 b, .int .i64 c, .slice A n ca, .slice C m cc]) 1).run Tryz.prog w = .ok (.slice A n ca) w := by kernel_rfl
set_option maxRecDepth 100000 in
set_option maxHeartbeats 8000000 in
theorem fawake_is (w : World) : Calls Tryz.prog 4 #[] w fun e w' => e = .returned (.bool true) ∧ Below w.heap.size w w' := by
  go_enter Tryz.func4, Tryz.ntmps4
  go_wp2_with fail
  refine (first_is w).mono ?_
  rintro e w1 ⟨A, ca, C, cc, rfl, hS, -, hb1⟩
  have HS := Lib.hid hS
  have HB1 := Lib.hid hb1
  clear hS hb1
  have HL1 := Lib.hid (one_at w1 1)
  have hb2 := below_alloc w1 (.cells #[.int .i64 1] 3)
  go_wp2_with fail
  generalize w1.alloc _ = w2 at HL1 hb2 ⊢
  have HB2 := Lib.hid hb2
  refine (way_is w2).mono ?_
  rintro e w3 ⟨rfl, hb3⟩
  have HB3 := Lib.hid (below_on HB2.out hb3)
  have HL3 := Lib.hid (HL1.out.on hb3)
  clear hb2 hb3
  go_wp2_with fail
  refine (slot_is (HS.out.on HB3.out) rfl (by simp) HL3.out s64_slot).mono ?_
  rintro e w4 ⟨rfl, hb4⟩
  have HB4 := Lib.hid (below_on (below_on HB1.out HB3.out) hb4)
  clear hb4 HS HB1 HB2 HB3 HL1 HL3
  go_wp2_with fail
  refine (first_is w4).mono ?_
  rintro e w5 ⟨A, ca, C, cc, rfl, hS, -, hb1⟩
  have HS := Lib.hid hS
  have HB1 := Lib.hid hb1
  clear hS hb1
  have HL1 := Lib.hid (one_at w5 0)
  have hb2 := below_alloc w5 (.cells #[.int .i64 0] 3)
  go_wp2_with fail
  generalize w5.alloc _ = w6 at HL1 hb2 ⊢
  have HB2 := Lib.hid hb2
  refine (way_is w6).mono ?_
  rintro e w7 ⟨rfl, hb3⟩
  have HB3 := Lib.hid (below_on HB2.out hb3)
  have HL3 := Lib.hid (HL1.out.on hb3)
  clear hb2 hb3
  go_wp2_with fail
  refine (fcap_is (HS.out.on HB3.out) rfl (by simp) HL3.out s64_cap).mono ?_
  rintro e w8 ⟨rfl, hb4⟩
  have HB8 := Lib.hid (below_on HB4.out (below_on (below_on HB1.out HB3.out) hb4))
  clear hb4 HS HB1 HB2 HB3 HL1 HL3 HB4
  unfold Cp.val
  have G := Fr.new w8 1 0 7 0 38
  go_wp2_with fail
  generalize w8.alloc _ = w9 at G ⊢
  obtain ⟨g0, g1, g2, g3, -, -, -, hb9⟩ := G
  have HB9 := Lib.hid (below_on HB8.out hb9)
  clear hb9
  go_wp2_with fail
  refine (first_is w9).mono ?_
  rintro e w10 ⟨A, ca, C, cc, rfl, -, -, hb1⟩
  have HB10 := Lib.hid (below_on HB9.out hb1)
  clear hb1 g0 g1 g2 g3
  have hfld := fun w => field_sl 2 32 16 A 32 ca C 16 cc w
  go_wp2
  go_ret
  exact ⟨rfl, HB10.out⟩

/-! ### FindEmpty -/
theorem fempty_of {s : St} {t : Int} {l : List Int} {x y : Int} (h : fslot s t l = (x, y)) :
    ((y ≠ 0 ∧ fcap s t l = (0, .none, y) ∧ fempty s t l = (0, y)) ∨ (y = 0 ∧ ∃ c : Cp, c.non = false ∧ fcap s t l = (x, c, 0) ∧ fempty s t l = (0, 5)) ∨ (y = 0 ∧ fcap s t l = (0, .none, 4) ∧ fempty s t l = (x, 0))) := by
  rw [fcap, fempty, h]
  simp only
  by_cases hy : y = 0
  · refine .inr ?_
    rw [if_pos hy, if_pos hy]
    rcases hz : (slAt s.sl x.toNat).c.non with _ | _
    · exact .inl ⟨hy, (slAt s.sl x.toNat).c, hz, by simp, by simp⟩
    · exact .inr ⟨hy, by simp, by simp⟩
  · rw [if_neg hy, if_neg hy]
    exact .inl ⟨hy, rfl, rfl⟩
end Go.Proofs.YtmcgnjhjidfkdaaGreat
