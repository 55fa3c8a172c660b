/-
  The walks of ofKind, fits, Good, Cost, New and of what they call. No condition.
-/
import Derived.Test.YtglibcmlophieaaIc
import Derived.Test.YtglibcmlophieaaOa
import Derived.BigRegion
namespace Go.Proofs.Ytglibcmlophieaa
open Go.RowKit

theorem sizefits_is (s : Int) (w : World) : Calls Try.prog 27 #[.int .i64 s] w fun e w' => e = .returned (.bool (inr3 s 1 4096)) ∧ w' = w := by
  by_cases h1 : 1 ≤ s
  · by_cases h2 : s ≤ 4096
    · have HF : Hid (inr3 s 1 4096 = true) := Lib.hid (inr3_iff.2 ⟨h1, h2⟩)
      go_enter Try.func27, Try.ntmps27
      go_wp2
      go_ret
      exact ⟨by rw [HF.out]; rfl, rfl⟩
    · have HF : Hid (inr3 s 1 4096 = false) := Lib.hid (Bool.eq_false_iff.2 fun e => h2 (inr3_iff.1 e).2)
      go_enter Try.func27, Try.ntmps27
      go_wp2
      go_ret
      exact ⟨by rw [HF.out]; rfl, rfl⟩
  · have HF : Hid (inr3 s 1 4096 = false) := Lib.hid (Bool.eq_false_iff.2 fun e => h1 (inr3_iff.1 e).1)
    go_enter Try.func27, Try.ntmps27
    go_wp2
    go_ret
    exact ⟨by rw [HF.out]; rfl, rfl⟩
theorem bitsfit_is (s : Int) (w : World) : Calls Try.prog 28 #[.int .i64 s] w fun e w' => e = .returned (.bool (inr3 s 1 4)) ∧ w' = w := by
  by_cases h1 : 1 ≤ s
  · by_cases h2 : s ≤ 4
    · have HF : Hid (inr3 s 1 4 = true) := Lib.hid (inr3_iff.2 ⟨h1, h2⟩)
      go_enter Try.func28, Try.ntmps28
      go_wp2
      go_ret
      exact ⟨by rw [HF.out]; rfl, rfl⟩
    · have HF : Hid (inr3 s 1 4 = false) := Lib.hid (Bool.eq_false_iff.2 fun e => h2 (inr3_iff.1 e).2)
      go_enter Try.func28, Try.ntmps28
      go_wp2
      go_ret
      exact ⟨by rw [HF.out]; rfl, rfl⟩
  · have HF : Hid (inr3 s 1 4 = false) := Lib.hid (Bool.eq_false_iff.2 fun e => h1 (inr3_iff.1 e).1)
    go_enter Try.func28, Try.ntmps28
    go_wp2
    go_ret
    exact ⟨by rw [HF.out]; rfl, rfl⟩
theorem sizefits_at {s : Int} {z : Bool} (h : inr3 s 1 4096 = z) (w : World) : Calls Try.prog 27 #[.int .i64 s] w fun e w' => e = .returned (.bool z) ∧ w' = w := h ▸ sizefits_is s w
theorem bitsfit_at {s : Int} {z : Bool} (h : inr3 s 1 4 = z) (w : World) : Calls Try.prog 28 #[.int .i64 s] w fun e w' => e = .returned (.bool z) ∧ w' = w := h ▸ bitsfit_is s w
theorem slots_at {s n : Int} (h1 : inr3 s 1 4 = true) (hn : tw2 s = n) (w : World) : Calls Try.prog 29 #[.int .i64 s] w fun e w' => e = .returned (.int .i64 n) ∧ w' = w := by
  subst hn
  have h := inr3_iff.1 h1
  have h4 : s = 1 ∨ s = 2 ∨ s = 3 ∨ s = 4 := by omega
  clear h h1
  rcases h4 with rfl | rfl | rfl | rfl
  all_goals
    go_enter Try.func29, Try.ntmps29
    go_wp2
    go_ret
    exact ⟨rfl, rfl⟩
theorem full_is (t : Tng) (w : World) : Calls Try.prog 25 #[t.val] w fun e w' => e = .returned (.int .u64 (fulln t : Int)) ∧ Below w.heap.size w w' := by
  obtain ⟨ty, bits, base, size, used, frm, badge, full, word, d0, d1, d2, d3⟩ := t
  cases full
  · have HF : Hid (fulln ⟨ty, bits, base, size, used, frm, badge, false, word, d0, d1, d2, d3⟩ = 0) := Lib.hid rfl
    generalize fulln ⟨ty, bits, base, size, used, frm, badge, false, word, d0, d1, d2, d3⟩ = f at HF ⊢
    unfold Tng.val
    go_enter Try.func25, Try.ntmps25
    go_wp2
    go_ret
    exact ⟨by rw [HF.out]; rfl, below_alloc _ _⟩
  · have HF : Hid (fulln ⟨ty, bits, base, size, used, frm, badge, true, word, d0, d1, d2, d3⟩ = 1) := Lib.hid rfl
    generalize fulln ⟨ty, bits, base, size, used, frm, badge, true, word, d0, d1, d2, d3⟩ = f at HF ⊢
    unfold Tng.val
    go_enter Try.func25, Try.ntmps25
    go_wp2
    go_ret
    exact ⟨by rw [HF.out]; rfl, below_alloc _ _⟩

/-! ### ofKind -/
set_option maxHeartbeats 4000000 in
theorem kind_any (t : Tng) (w : World) : Calls Try.prog 21 #[t.val] w fun e w' => e = .returned t.kin.val ∧ Below w.heap.size w w' := by
  obtain ⟨ty, bits, base, size, used, frm, badge, full, word, d0, d1, d2, d3⟩ := t
  obtain ⟨v, hv⟩ : ∃ v, (Tng.mk ty bits base size used frm badge full word d0 d1 d2 d3).kin.val = v := ⟨_, rfl⟩
  rw [hv]
  have HV := Lib.hid hv
  clear hv
  unfold Tng.val at *
  simp only at *
  by_cases k1 : ty = 1
  · subst k1
    go_enter Try.func21, Try.ntmps21
    go_wp2
    go_returns
    exact ⟨by rw [← HV.out]; rfl, below_on (below_alloc _ _) (below_alloc _ _)⟩
  by_cases k2 : ty = 2
  · subst k2
    go_enter Try.func21, Try.ntmps21
    go_wp2
    go_returns
    exact ⟨by rw [← HV.out]; rfl, below_on (below_alloc _ _) (below_alloc _ _)⟩
  by_cases k3 : ty = 3
  · subst k3
    cases full
    · go_enter Try.func21, Try.ntmps21
      go_wp2
      go_returns
      exact ⟨by rw [← HV.out]; rfl, below_on (below_alloc _ _) (below_alloc _ _)⟩
    · go_enter Try.func21, Try.ntmps21
      go_wp2
      go_returns
      exact ⟨by rw [← HV.out]; rfl, below_on (below_alloc _ _) (below_alloc _ _)⟩
  by_cases k4 : ty = 4
  · subst k4
    go_enter Try.func21, Try.ntmps21
    go_wp2
    go_returns
    exact ⟨by rw [← HV.out]; rfl, below_on (below_alloc _ _) (below_alloc _ _)⟩
  by_cases k5 : ty = 5
  · subst k5
    go_enter Try.func21, Try.ntmps21
    go_wp2
    go_returns
    exact ⟨by rw [← HV.out]; rfl, below_on (below_alloc _ _) (below_alloc _ _)⟩
  · have hk : (Tng.mk ty bits base size used frm badge full word d0 d1 d2 d3).kin = Tng.of 0 := by
      unfold Tng.kin
      rw [if_neg k1, if_neg k2, if_neg k3, if_neg k4, if_neg k5]
    have HK := Lib.hid hk
    clear hk
    go_enter Try.func21, Try.ntmps21
    go_wp2
    go_returns
    exact ⟨by rw [← HV.out, HK.out]; rfl, below_on (below_alloc _ _) (below_alloc _ _)⟩
end Go.Proofs.Ytglibcmlophieaa
