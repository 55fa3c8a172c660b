/-
  The walks of fits and Good. No condition.
-/
import Derived.Test.YthooeahpfegjbaaOb
namespace Go.Proofs.Ythooeahpfegjbaa
open Go.RowKit

set_option maxHeartbeats 4000000 in
theorem tfits1 (bits base size used frm badge : Int) (full : Bool) (word d0 d1 d2 d3 : Nat) (w : World) :
    Calls Try.prog 73 #[.agg #[.int .i64 1, .int .i64 bits, .int .i64 base, .int .i64 size, .int .i64 used, .int .i64 frm, .int .i64 badge, .bool full, .int .u64 (word : Int), .int .u64 (d0 : Int), .int .u64 (d1 : Int), .int .u64 (d2 : Int), .int .u64 (d3 : Int)]] w fun e w' => e = .returned (.bool (Tng.mk 1 bits base size used frm badge full word d0 d1 d2 d3).fitp) ∧ Below w.heap.size w w' := by
  have HG : Hid ((Tng.mk 1 bits base size used frm badge full word d0 d1 d2 d3).fitp = (inr3 size 1 4096 && inr3 used 0 size)) := Lib.hid rfl
  generalize (Tng.mk 1 bits base size used frm badge full word d0 d1 d2 d3).fitp = g at HG ⊢
  rcases h1 : inr3 size 1 4096 with _ | _
  · have H1 := Lib.hid h1
    have HF : Hid (g = false) := Lib.hid (by rw [HG.out, H1.out]; rfl)
    clear h1
    go_enter Try.func73, Try.ntmps73
    go_wp2_with ((go_at_call 38; ((with_reducible refine (sizefits_at H1.out _).mono ?_); rintro e w' ⟨rfl, rfl⟩)))
    go_ret
    exact ⟨by rw [HF.out]; rfl, below_alloc _ _⟩
  have H1 := Lib.hid h1
  clear h1
  by_cases h2 : 0 ≤ used
  · by_cases h3 : used ≤ size
    · have HF : Hid (g = true) := Lib.hid (by rw [HG.out, H1.out, inr3_iff.2 ⟨h2, h3⟩]; rfl)
      go_enter Try.func73, Try.ntmps73
      go_wp2_with ((go_at_call 38; ((with_reducible refine (sizefits_at H1.out _).mono ?_); rintro e w' ⟨rfl, rfl⟩)))
      go_ret
      exact ⟨by rw [HF.out]; rfl, below_alloc _ _⟩
    · have HF : Hid (g = false) := Lib.hid (by rw [HG.out, H1.out, Bool.eq_false_iff.2 fun e => h3 (inr3_iff.1 e).2]; rfl)
      have hd : decide (used ≤ size) = false := decide_eq_false h3
      go_enter Try.func73, Try.ntmps73
      go_wp2_with ((go_at_call 38; ((with_reducible refine (sizefits_at H1.out _).mono ?_); rintro e w' ⟨rfl, rfl⟩)))
      go_ret
      exact ⟨by rw [HF.out]; rfl, below_alloc _ _⟩
  · have HF : Hid (g = false) := Lib.hid (by rw [HG.out, H1.out, Bool.eq_false_iff.2 fun e => h2 (inr3_iff.1 e).1]; rfl)
    go_enter Try.func73, Try.ntmps73
    go_wp2_with ((go_at_call 38; ((with_reducible refine (sizefits_at H1.out _).mono ?_); rintro e w' ⟨rfl, rfl⟩)))
    go_ret
    exact ⟨by rw [HF.out]; rfl, below_alloc _ _⟩
set_option maxHeartbeats 4000000 in
theorem tfits0 (ty : Int) (bits base size used frm badge : Int) (full : Bool) (word d0 d1 d2 d3 : Nat) (k1 : ¬ ty = 1) (k2 : ¬ ty = 2) (w : World) :
    Calls Try.prog 73 #[.agg #[.int .i64 ty, .int .i64 bits, .int .i64 base, .int .i64 size, .int .i64 used, .int .i64 frm, .int .i64 badge, .bool full, .int .u64 (word : Int), .int .u64 (d0 : Int), .int .u64 (d1 : Int), .int .u64 (d2 : Int), .int .u64 (d3 : Int)]] w fun e w' => e = .returned (.bool (Tng.mk ty bits base size used frm badge full word d0 d1 d2 d3).fitp) ∧ Below w.heap.size w w' := by
  have HG : Hid ((Tng.mk ty bits base size used frm badge full word d0 d1 d2 d3).fitp = (inr3 badge 0 65535 && inr3 frm 0 96)) := Lib.hid (by unfold Tng.fitp; rw [if_neg k1, if_neg k2])
  generalize (Tng.mk ty bits base size used frm badge full word d0 d1 d2 d3).fitp = g at HG ⊢
  by_cases h1 : 0 ≤ badge
  · by_cases h2 : badge ≤ 65535
    · by_cases h3 : 0 ≤ frm
      · by_cases h4 : frm ≤ 96
        ·
          have HF : Hid (g = true) := Lib.hid (by rw [HG.out, inr3_iff.2 ⟨h1, h2⟩, inr3_iff.2 ⟨h3, h4⟩]; rfl)
          go_enter Try.func73, Try.ntmps73
          go_wp2
          go_ret
          exact ⟨by rw [HF.out]; rfl, below_alloc _ _⟩
        ·
          have HF : Hid (g = false) := Lib.hid (by rw [HG.out, Bool.eq_false_iff.2 fun e : inr3 frm 0 96 = true => h4 (inr3_iff.1 e).2]; simp)
          go_enter Try.func73, Try.ntmps73
          go_wp2
          go_ret
          exact ⟨by rw [HF.out]; rfl, below_alloc _ _⟩
      ·
        have HF : Hid (g = false) := Lib.hid (by rw [HG.out, Bool.eq_false_iff.2 fun e : inr3 frm 0 96 = true => h3 (inr3_iff.1 e).1]; simp)
        go_enter Try.func73, Try.ntmps73
        go_wp2
        go_ret
        exact ⟨by rw [HF.out]; rfl, below_alloc _ _⟩
    ·
      have HF : Hid (g = false) := Lib.hid (by rw [HG.out, Bool.eq_false_iff.2 fun e : inr3 badge 0 65535 = true => h2 (inr3_iff.1 e).2]; rfl)
      go_enter Try.func73, Try.ntmps73
      go_wp2
      go_ret
      exact ⟨by rw [HF.out]; rfl, below_alloc _ _⟩
  ·
    have HF : Hid (g = false) := Lib.hid (by rw [HG.out, Bool.eq_false_iff.2 fun e : inr3 badge 0 65535 = true => h1 (inr3_iff.1 e).1]; rfl)
    go_enter Try.func73, Try.ntmps73
    go_wp2
    go_ret
    exact ⟨by rw [HF.out]; rfl, below_alloc _ _⟩
set_option maxHeartbeats 4000000 in
theorem tfits2 (bits base size used frm badge : Int) (full : Bool) (word d0 d1 d2 d3 : Nat) (w : World) :
    Calls Try.prog 73 #[.agg #[.int .i64 2, .int .i64 bits, .int .i64 base, .int .i64 size, .int .i64 used, .int .i64 frm, .int .i64 badge, .bool full, .int .u64 (word : Int), .int .u64 (d0 : Int), .int .u64 (d1 : Int), .int .u64 (d2 : Int), .int .u64 (d3 : Int)]] w fun e w' => e = .returned (.bool (Tng.mk 2 bits base size used frm badge full word d0 d1 d2 d3).fitp) ∧ Below w.heap.size w w' := by
  have HG : Hid ((Tng.mk 2 bits base size used frm badge full word d0 d1 d2 d3).fitp = (inr3 bits 1 4 && inr3 base 0 (96 - tw2 bits))) := Lib.hid rfl
  generalize (Tng.mk 2 bits base size used frm badge full word d0 d1 d2 d3).fitp = g at HG ⊢
  rcases h1 : inr3 bits 1 4 with _ | _
  · have H1 := Lib.hid h1
    have HF : Hid (g = false) := Lib.hid (by rw [HG.out, H1.out]; rfl)
    clear h1
    have hK := Tbx.new w (Tng.mk 2 bits base size used frm badge full word d0 d1 d2 d3) 45
    unfold tcells at hK
    go_enter Try.func73, Try.ntmps73
    go_wp2_with fail
    generalize w.alloc _ = w1 at hK ⊢
    have HO := Lib.hid hK.old
    obtain ⟨c0, c1, c2, c3, c4, c5, c6, c7, c8, c9, c10, c11, c12, _, _, _, lt⟩ := hK
    simp only at c0 c1 c2 c3 c4 c5 c6 c7 c8 c9 c10 c11 c12
    go_wp2_with fail
    go_quiet ((first | (go_at_call 39; with_reducible refine Calls.quiet_of_same (bitsfit_at H1.out _))))
    go_wp2
    go_ret
    exact ⟨by rw [HF.out]; rfl, below_draws HO.out _⟩
  have hb := inr3_iff.1 h1
  have h16 : 1 ≤ tw2 bits ∧ tw2 bits ≤ 16 := by
    obtain ⟨k, rfl⟩ : ∃ k : Nat, bits = k := ⟨bits.toNat, by omega⟩
    have : k = 1 ∨ k = 2 ∨ k = 3 ∨ k = 4 := by omega
    rcases this with rfl | rfl | rfl | rfl <;> decide
  have H1 := Lib.hid h1
  obtain ⟨q, hq⟩ : ∃ q, tw2 bits = q := ⟨_, rfl⟩
  rw [hq] at h16 HG
  obtain ⟨h5, h6⟩ := h16
  have HQ := Lib.hid hq
  clear h1 hb hq
  by_cases h2 : 0 ≤ base
  · by_cases h3 : base ≤ 96 - q
    · have HF : Hid (g = true) := Lib.hid (by rw [HG.out, H1.out, inr3_iff.2 ⟨h2, h3⟩]; rfl)
      have hK := Tbx.new w (Tng.mk 2 bits base size used frm badge full word d0 d1 d2 d3) 45
      unfold tcells at hK
      go_enter Try.func73, Try.ntmps73
      go_wp2_with fail
      generalize w.alloc _ = w1 at hK ⊢
      have HO := Lib.hid hK.old
      obtain ⟨c0, c1, c2, c3, c4, c5, c6, c7, c8, c9, c10, c11, c12, _, _, _, lt⟩ := hK
      simp only at c0 c1 c2 c3 c4 c5 c6 c7 c8 c9 c10 c11 c12
      go_wp2_with fail
      go_quiet ((first | (go_at_call 39; with_reducible refine Calls.quiet_of_same (bitsfit_at H1.out _)) | (go_at_call 40; with_reducible refine Calls.quiet_of_same (tslots_at H1.out HQ.out _))))
      go_wp2
      go_ret
      exact ⟨by rw [HF.out]; rfl, below_draws HO.out _⟩
    · have HF : Hid (g = false) := Lib.hid (by rw [HG.out, H1.out, Bool.eq_false_iff.2 fun e => h3 (inr3_iff.1 e).2]; rfl)
      have hd : decide (base ≤ 96 - q) = false := decide_eq_false h3
      have hK := Tbx.new w (Tng.mk 2 bits base size used frm badge full word d0 d1 d2 d3) 45
      unfold tcells at hK
      go_enter Try.func73, Try.ntmps73
      go_wp2_with fail
      generalize w.alloc _ = w1 at hK ⊢
      have HO := Lib.hid hK.old
      obtain ⟨c0, c1, c2, c3, c4, c5, c6, c7, c8, c9, c10, c11, c12, _, _, _, lt⟩ := hK
      simp only at c0 c1 c2 c3 c4 c5 c6 c7 c8 c9 c10 c11 c12
      go_wp2_with fail
      go_quiet ((first | (go_at_call 39; with_reducible refine Calls.quiet_of_same (bitsfit_at H1.out _)) | (go_at_call 40; with_reducible refine Calls.quiet_of_same (tslots_at H1.out HQ.out _))))
      go_wp2
      go_ret
      exact ⟨by rw [HF.out]; rfl, below_draws HO.out _⟩
  · have HF : Hid (g = false) := Lib.hid (by rw [HG.out, H1.out, Bool.eq_false_iff.2 fun e => h2 (inr3_iff.1 e).1]; rfl)
    have hd : decide (0 ≤ base) = false := decide_eq_false h2
    have hK := Tbx.new w (Tng.mk 2 bits base size used frm badge full word d0 d1 d2 d3) 45
    unfold tcells at hK
    go_enter Try.func73, Try.ntmps73
    go_wp2_with fail
    generalize w.alloc _ = w1 at hK ⊢
    have HO := Lib.hid hK.old
    obtain ⟨c0, c1, c2, c3, c4, c5, c6, c7, c8, c9, c10, c11, c12, _, _, _, lt⟩ := hK
    simp only at c0 c1 c2 c3 c4 c5 c6 c7 c8 c9 c10 c11 c12
    go_wp2_with fail
    go_quiet ((first | (go_at_call 39; with_reducible refine Calls.quiet_of_same (bitsfit_at H1.out _))))
    go_wp2
    go_ret
    exact ⟨by rw [HF.out]; rfl, below_draws HO.out _⟩
theorem tfits_any (t : Tng) (w : World) : Calls Try.prog 73 #[t.val] w fun e w' => e = .returned (.bool t.fitp) ∧ Below w.heap.size w w' := by
  obtain ⟨ty, bits, base, size, used, frm, badge, full, word, d0, d1, d2, d3⟩ := t
  by_cases k1 : ty = 1
  · subst k1
    exact tfits1 bits base size used frm badge full word d0 d1 d2 d3 w
  by_cases k2 : ty = 2
  · subst k2
    exact tfits2 bits base size used frm badge full word d0 d1 d2 d3 w
  · exact tfits0 ty bits base size used frm badge full word d0 d1 d2 d3 k1 k2 w
end Go.Proofs.Ythooeahpfegjbaa
