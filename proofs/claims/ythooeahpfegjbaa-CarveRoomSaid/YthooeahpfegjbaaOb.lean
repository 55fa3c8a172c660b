/-
  The walks of ofKind, fits, Good, Cost, New and of what they call. No condition.
-/
import Derived.Test.YthooeahpfegjbaaOa
import Derived.BigRegion
namespace Go.Proofs.Ythooeahpfegjbaa
open Go.RowKit

theorem sizefits_is (s : Int) (w : World) : Calls Try.prog 38 #[.int .i64 s] w fun e w' => e = .returned (.bool (inr3 s 1 4096)) ∧ w' = w := by
  by_cases h1 : 1 ≤ s
  · by_cases h2 : s ≤ 4096
    · have HF : Hid (inr3 s 1 4096 = true) := Lib.hid (inr3_iff.2 ⟨h1, h2⟩)
      go_enter Try.func38, Try.ntmps38
      go_wp2
      go_ret
      exact ⟨by rw [HF.out]; rfl, rfl⟩
    · have HF : Hid (inr3 s 1 4096 = false) := Lib.hid (Bool.eq_false_iff.2 fun e => h2 (inr3_iff.1 e).2)
      go_enter Try.func38, Try.ntmps38
      go_wp2
      go_ret
      exact ⟨by rw [HF.out]; rfl, rfl⟩
  · have HF : Hid (inr3 s 1 4096 = false) := Lib.hid (Bool.eq_false_iff.2 fun e => h1 (inr3_iff.1 e).1)
    go_enter Try.func38, Try.ntmps38
    go_wp2
    go_ret
    exact ⟨by rw [HF.out]; rfl, rfl⟩
theorem bitsfit_is (s : Int) (w : World) : Calls Try.prog 39 #[.int .i64 s] w fun e w' => e = .returned (.bool (inr3 s 1 4)) ∧ w' = w := by
  by_cases h1 : 1 ≤ s
  · by_cases h2 : s ≤ 4
    · have HF : Hid (inr3 s 1 4 = true) := Lib.hid (inr3_iff.2 ⟨h1, h2⟩)
      go_enter Try.func39, Try.ntmps39
      go_wp2
      go_ret
      exact ⟨by rw [HF.out]; rfl, rfl⟩
    · have HF : Hid (inr3 s 1 4 = false) := Lib.hid (Bool.eq_false_iff.2 fun e => h2 (inr3_iff.1 e).2)
      go_enter Try.func39, Try.ntmps39
      go_wp2
      go_ret
      exact ⟨by rw [HF.out]; rfl, rfl⟩
  · have HF : Hid (inr3 s 1 4 = false) := Lib.hid (Bool.eq_false_iff.2 fun e => h1 (inr3_iff.1 e).1)
    go_enter Try.func39, Try.ntmps39
    go_wp2
    go_ret
    exact ⟨by rw [HF.out]; rfl, rfl⟩
theorem sizefits_at {s : Int} {z : Bool} (h : inr3 s 1 4096 = z) (w : World) : Calls Try.prog 38 #[.int .i64 s] w fun e w' => e = .returned (.bool z) ∧ w' = w := h ▸ sizefits_is s w
theorem bitsfit_at {s : Int} {z : Bool} (h : inr3 s 1 4 = z) (w : World) : Calls Try.prog 39 #[.int .i64 s] w fun e w' => e = .returned (.bool z) ∧ w' = w := h ▸ bitsfit_is s w
theorem tslots_at {s n : Int} (h1 : inr3 s 1 4 = true) (hn : tw2 s = n) (w : World) : Calls Try.prog 40 #[.int .i64 s] w fun e w' => e = .returned (.int .i64 n) ∧ w' = w := by
  subst hn
  have h := inr3_iff.1 h1
  have h4 : s = 1 ∨ s = 2 ∨ s = 3 ∨ s = 4 := by omega
  clear h h1
  rcases h4 with rfl | rfl | rfl | rfl
  all_goals
    go_enter Try.func40, Try.ntmps40
    go_wp2
    go_ret
    exact ⟨rfl, rfl⟩
/-! ### ofKind -/
set_option maxHeartbeats 4000000 in
theorem kind_any (t : Tng) (w : World) : Calls Try.prog 72 #[t.val] w fun e w' => e = .returned t.kin.val ∧ Below w.heap.size w w' := by
  obtain ⟨ty, bits, base, size, used, frm, badge, full, word, d0, d1, d2, d3⟩ := t
  obtain ⟨v, hv⟩ : ∃ v, (Tng.mk ty bits base size used frm badge full word d0 d1 d2 d3).kin.val = v := ⟨_, rfl⟩
  rw [hv]
  have HV := Lib.hid hv
  clear hv
  unfold Tng.val at *
  simp only at *
  by_cases k1 : ty = 1
  · subst k1
    go_enter Try.func72, Try.ntmps72
    go_wp2
    go_returns
    exact ⟨by rw [← HV.out]; rfl, below_on (below_alloc _ _) (below_alloc _ _)⟩
  by_cases k2 : ty = 2
  · subst k2
    go_enter Try.func72, Try.ntmps72
    go_wp2
    go_returns
    exact ⟨by rw [← HV.out]; rfl, below_on (below_alloc _ _) (below_alloc _ _)⟩
  by_cases k3 : ty = 3
  · subst k3
    cases full
    · go_enter Try.func72, Try.ntmps72
      go_wp2
      go_returns
      exact ⟨by rw [← HV.out]; rfl, below_on (below_alloc _ _) (below_alloc _ _)⟩
    · go_enter Try.func72, Try.ntmps72
      go_wp2
      go_returns
      exact ⟨by rw [← HV.out]; rfl, below_on (below_alloc _ _) (below_alloc _ _)⟩
  by_cases k4 : ty = 4
  · subst k4
    go_enter Try.func72, Try.ntmps72
    go_wp2
    go_returns
    exact ⟨by rw [← HV.out]; rfl, below_on (below_alloc _ _) (below_alloc _ _)⟩
  by_cases k5 : ty = 5
  · subst k5
    go_enter Try.func72, Try.ntmps72
    go_wp2
    go_returns
    exact ⟨by rw [← HV.out]; rfl, below_on (below_alloc _ _) (below_alloc _ _)⟩
  · have hk : (Tng.mk ty bits base size used frm badge full word d0 d1 d2 d3).kin = Tng.of 0 := by
      unfold Tng.kin
      rw [if_neg k1, if_neg k2, if_neg k3, if_neg k4, if_neg k5]
    have HK := Lib.hid hk
    clear hk
    go_enter Try.func72, Try.ntmps72
    go_wp2
    go_returns
    exact ⟨by rw [← HV.out, HK.out]; rfl, below_on (below_alloc _ _) (below_alloc _ _)⟩
end Go.Proofs.Ythooeahpfegjbaa
