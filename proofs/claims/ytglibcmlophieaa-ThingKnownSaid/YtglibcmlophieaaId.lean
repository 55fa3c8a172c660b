/-
  The walk of the reference's GoodThing. No condition.
-/
import Derived.Test.YtglibcmlophieaaIc
import Derived.BigRegion
namespace Go.Proofs.Ytglibcmlophieaa
open Go.RowKit

set_option maxHeartbeats 4000000 in
theorem rgood0 (bits base size used frm badge : Int) (full : Bool) (word d0 d1 d2 d3 : Nat) (w : World) :
    Calls Try.prog 17 #[.agg #[.int .i64 0, .int .i64 bits, .int .i64 base, .int .i64 size, .int .i64 used, .int .i64 frm, .int .i64 badge, .bool full, .int .u64 (word : Int), .int .u64 (d0 : Int), .int .u64 (d1 : Int), .int .u64 (d2 : Int), .int .u64 (d3 : Int)]] w fun e w' => e = .returned (.bool (Tng.mk 0 bits base size used frm badge full word d0 d1 d2 d3).good) ∧ Below w.heap.size w w' := by
  obtain ⟨z, hz⟩ : ∃ z, (Tng.mk 0 0 0 0 0 0 0 false 0 0 0 0 0).eq (Tng.mk 0 bits base size used frm badge full word d0 d1 d2 d3) = z := ⟨_, rfl⟩
  have heq : ∀ w, (Op.equalIn 10000 36 (.agg #[.int .i64 0, .int .i64 0, .int .i64 0, .int .i64 0, .int .i64 0, .int .i64 0, .int .i64 0, .bool false, .int .u64 0, .int .u64 0, .int .u64 0, .int .u64 0, .int .u64 0]) (.agg #[.int .i64 0, .int .i64 bits, .int .i64 base, .int .i64 size, .int .i64 used, .int .i64 frm, .int .i64 badge, .bool full, .int .u64 (word : Int), .int .u64 (d0 : Int), .int .u64 (d1 : Int), .int .u64 (d2 : Int), .int .u64 (d3 : Int)])).run Try.prog w = .ok z w := fun w => hz ▸ teq36 (Tng.mk 0 0 0 0 0 0 0 false 0 0 0 0 0) (Tng.mk 0 bits base size used frm badge full word d0 d1 d2 d3) w
  have HG : Hid ((Tng.mk 0 bits base size used frm badge full word d0 d1 d2 d3).good = (z)) := Lib.hid (by rw [← hz]; rfl)
  clear hz
  generalize (Tng.mk 0 bits base size used frm badge full word d0 d1 d2 d3).good = g at HG ⊢
  go_enter Try.func17, Try.ntmps17
  go_wp2
  go_ret
  exact ⟨by rw [HG.out]; rfl, below_on (below_alloc _ _) (below_alloc _ _)⟩
set_option maxHeartbeats 4000000 in
theorem rgood4 (bits base size used frm badge : Int) (full : Bool) (word d0 d1 d2 d3 : Nat) (w : World) :
    Calls Try.prog 17 #[.agg #[.int .i64 4, .int .i64 bits, .int .i64 base, .int .i64 size, .int .i64 used, .int .i64 frm, .int .i64 badge, .bool full, .int .u64 (word : Int), .int .u64 (d0 : Int), .int .u64 (d1 : Int), .int .u64 (d2 : Int), .int .u64 (d3 : Int)]] w fun e w' => e = .returned (.bool (Tng.mk 4 bits base size used frm badge full word d0 d1 d2 d3).good) ∧ Below w.heap.size w w' := by
  obtain ⟨z, hz⟩ : ∃ z, (Tng.mk 4 0 0 0 0 0 0 false word 0 0 0 0).eq (Tng.mk 4 bits base size used frm badge full word d0 d1 d2 d3) = z := ⟨_, rfl⟩
  have heq : ∀ w, (Op.equalIn 10000 36 (.agg #[.int .i64 4, .int .i64 0, .int .i64 0, .int .i64 0, .int .i64 0, .int .i64 0, .int .i64 0, .bool false, .int .u64 (word : Int), .int .u64 0, .int .u64 0, .int .u64 0, .int .u64 0]) (.agg #[.int .i64 4, .int .i64 bits, .int .i64 base, .int .i64 size, .int .i64 used, .int .i64 frm, .int .i64 badge, .bool full, .int .u64 (word : Int), .int .u64 (d0 : Int), .int .u64 (d1 : Int), .int .u64 (d2 : Int), .int .u64 (d3 : Int)])).run Try.prog w = .ok z w := fun w => hz ▸ teq36 (Tng.mk 4 0 0 0 0 0 0 false word 0 0 0 0) (Tng.mk 4 bits base size used frm badge full word d0 d1 d2 d3) w
  have HG : Hid ((Tng.mk 4 bits base size used frm badge full word d0 d1 d2 d3).good = (z)) := Lib.hid (by rw [← hz]; rfl)
  clear hz
  generalize (Tng.mk 4 bits base size used frm badge full word d0 d1 d2 d3).good = g at HG ⊢
  go_enter Try.func17, Try.ntmps17
  go_wp2
  go_ret
  exact ⟨by rw [HG.out]; rfl, below_on (below_alloc _ _) (below_alloc _ _)⟩
set_option maxHeartbeats 4000000 in
theorem rgood5 (bits base size used frm badge : Int) (full : Bool) (word d0 d1 d2 d3 : Nat) (w : World) :
    Calls Try.prog 17 #[.agg #[.int .i64 5, .int .i64 bits, .int .i64 base, .int .i64 size, .int .i64 used, .int .i64 frm, .int .i64 badge, .bool full, .int .u64 (word : Int), .int .u64 (d0 : Int), .int .u64 (d1 : Int), .int .u64 (d2 : Int), .int .u64 (d3 : Int)]] w fun e w' => e = .returned (.bool (Tng.mk 5 bits base size used frm badge full word d0 d1 d2 d3).good) ∧ Below w.heap.size w w' := by
  obtain ⟨z, hz⟩ : ∃ z, (Tng.mk 5 0 0 0 0 0 0 false 0 d0 d1 d2 d3).eq (Tng.mk 5 bits base size used frm badge full word d0 d1 d2 d3) = z := ⟨_, rfl⟩
  have heq : ∀ w, (Op.equalIn 10000 36 (.agg #[.int .i64 5, .int .i64 0, .int .i64 0, .int .i64 0, .int .i64 0, .int .i64 0, .int .i64 0, .bool false, .int .u64 0, .int .u64 (d0 : Int), .int .u64 (d1 : Int), .int .u64 (d2 : Int), .int .u64 (d3 : Int)]) (.agg #[.int .i64 5, .int .i64 bits, .int .i64 base, .int .i64 size, .int .i64 used, .int .i64 frm, .int .i64 badge, .bool full, .int .u64 (word : Int), .int .u64 (d0 : Int), .int .u64 (d1 : Int), .int .u64 (d2 : Int), .int .u64 (d3 : Int)])).run Try.prog w = .ok z w := fun w => hz ▸ teq36 (Tng.mk 5 0 0 0 0 0 0 false 0 d0 d1 d2 d3) (Tng.mk 5 bits base size used frm badge full word d0 d1 d2 d3) w
  have HG : Hid ((Tng.mk 5 bits base size used frm badge full word d0 d1 d2 d3).good = (z)) := Lib.hid (by rw [← hz]; rfl)
  clear hz
  generalize (Tng.mk 5 bits base size used frm badge full word d0 d1 d2 d3).good = g at HG ⊢
  go_enter Try.func17, Try.ntmps17
  go_wp2
  go_ret
  exact ⟨by rw [HG.out]; rfl, below_on (below_alloc _ _) (below_alloc _ _)⟩
set_option maxHeartbeats 4000000 in
theorem rgood1 (bits base size used frm badge : Int) (full : Bool) (word d0 d1 d2 d3 : Nat) (w : World) :
    Calls Try.prog 17 #[.agg #[.int .i64 1, .int .i64 bits, .int .i64 base, .int .i64 size, .int .i64 used, .int .i64 frm, .int .i64 badge, .bool full, .int .u64 (word : Int), .int .u64 (d0 : Int), .int .u64 (d1 : Int), .int .u64 (d2 : Int), .int .u64 (d3 : Int)]] w fun e w' => e = .returned (.bool (Tng.mk 1 bits base size used frm badge full word d0 d1 d2 d3).good) ∧ Below w.heap.size w w' := by
  obtain ⟨z, hz⟩ : ∃ z, (Tng.mk 1 0 0 size used 0 0 false 0 0 0 0 0).eq (Tng.mk 1 bits base size used frm badge full word d0 d1 d2 d3) = z := ⟨_, rfl⟩
  have heq : ∀ w, (Op.equalIn 10000 36 (.agg #[.int .i64 1, .int .i64 0, .int .i64 0, .int .i64 size, .int .i64 used, .int .i64 0, .int .i64 0, .bool false, .int .u64 0, .int .u64 0, .int .u64 0, .int .u64 0, .int .u64 0]) (.agg #[.int .i64 1, .int .i64 bits, .int .i64 base, .int .i64 size, .int .i64 used, .int .i64 frm, .int .i64 badge, .bool full, .int .u64 (word : Int), .int .u64 (d0 : Int), .int .u64 (d1 : Int), .int .u64 (d2 : Int), .int .u64 (d3 : Int)])).run Try.prog w = .ok z w := fun w => hz ▸ teq36 (Tng.mk 1 0 0 size used 0 0 false 0 0 0 0 0) (Tng.mk 1 bits base size used frm badge full word d0 d1 d2 d3) w
  have HG : Hid ((Tng.mk 1 bits base size used frm badge full word d0 d1 d2 d3).good = (inr3 size 1 4096 && (inr3 used 0 size && z))) := Lib.hid (by rw [← hz]; rw [← Bool.and_assoc]; rfl)
  clear hz
  generalize (Tng.mk 1 bits base size used frm badge full word d0 d1 d2 d3).good = g at HG ⊢
  rcases h1 : inr3 size 1 4096 with _ | _
  · have H1 := Lib.hid h1
    have HF : Hid (g = false) := Lib.hid (by rw [HG.out, H1.out]; simp)
    clear h1
    go_enter Try.func17, Try.ntmps17
    go_wp2_with fail
    go_region
    go_wp2_with (first | (go_at_call 32; (with_reducible refine (rwithin_at H1.out _).mono ?_); rintro e w' ⟨rfl, rfl⟩))
    go_ret
    exact ⟨by rw [HF.out]; rfl, (below_on (below_alloc _ _) (below_alloc _ _)).drew⟩
  have H1 := Lib.hid h1
  clear h1
  rcases h2 : inr3 used 0 size with _ | _
  · have H2 := Lib.hid h2
    have HF : Hid (g = false) := Lib.hid (by rw [HG.out, H1.out, H2.out]; simp)
    clear h2
    go_enter Try.func17, Try.ntmps17
    go_wp2_with fail
    go_region
    go_wp2_with (first | (go_at_call 32; (with_reducible refine (rwithin_at H1.out _).mono ?_); rintro e w' ⟨rfl, rfl⟩) | (go_at_call 32; (with_reducible refine (rwithin_at H2.out _).mono ?_); rintro e w' ⟨rfl, rfl⟩))
    go_ret
    exact ⟨by rw [HF.out]; rfl, (below_on (below_alloc _ _) (below_alloc _ _)).drew⟩
  have H2 := Lib.hid h2
  clear h2
  have HF : Hid (g = z) := Lib.hid (by rw [HG.out, H1.out, H2.out]; simp)
  go_enter Try.func17, Try.ntmps17
  go_wp2_with fail
  go_region
  go_wp2_with (first | (go_at_call 32; (with_reducible refine (rwithin_at H1.out _).mono ?_); rintro e w' ⟨rfl, rfl⟩) | (go_at_call 32; (with_reducible refine (rwithin_at H2.out _).mono ?_); rintro e w' ⟨rfl, rfl⟩))
  go_ret
  exact ⟨by rw [HF.out]; rfl, (below_on (below_alloc _ _) (below_alloc _ _)).drew⟩
set_option maxHeartbeats 4000000 in
theorem rgood3 (bits base size used frm badge : Int) (word d0 d1 d2 d3 : Nat) (w : World) :
    Calls Try.prog 17 #[.agg #[.int .i64 3, .int .i64 bits, .int .i64 base, .int .i64 size, .int .i64 used, .int .i64 frm, .int .i64 badge, .bool false, .int .u64 (word : Int), .int .u64 (d0 : Int), .int .u64 (d1 : Int), .int .u64 (d2 : Int), .int .u64 (d3 : Int)]] w fun e w' => e = .returned (.bool (Tng.mk 3 bits base size used frm badge false word d0 d1 d2 d3).good) ∧ Below w.heap.size w w' := by
  obtain ⟨z, hz⟩ : ∃ z, (Tng.mk 3 0 0 0 0 0 0 false 0 0 0 0 0).eq (Tng.mk 3 bits base size used frm badge false word d0 d1 d2 d3) = z := ⟨_, rfl⟩
  have heq : ∀ w, (Op.equalIn 10000 36 (.agg #[.int .i64 3, .int .i64 0, .int .i64 0, .int .i64 0, .int .i64 0, .int .i64 0, .int .i64 0, .bool false, .int .u64 0, .int .u64 0, .int .u64 0, .int .u64 0, .int .u64 0]) (.agg #[.int .i64 3, .int .i64 bits, .int .i64 base, .int .i64 size, .int .i64 used, .int .i64 frm, .int .i64 badge, .bool false, .int .u64 (word : Int), .int .u64 (d0 : Int), .int .u64 (d1 : Int), .int .u64 (d2 : Int), .int .u64 (d3 : Int)])).run Try.prog w = .ok z w := fun w => hz ▸ teq36 (Tng.mk 3 0 0 0 0 0 0 false 0 0 0 0 0) (Tng.mk 3 bits base size used frm badge false word d0 d1 d2 d3) w
  have HG : Hid ((Tng.mk 3 bits base size used frm badge false word d0 d1 d2 d3).good = (inr3 badge 0 65535 && (inr3 frm 0 96 && z))) := Lib.hid (by rw [← hz]; rw [← Bool.and_assoc]; rfl)
  clear hz
  generalize (Tng.mk 3 bits base size used frm badge false word d0 d1 d2 d3).good = g at HG ⊢
  rcases h1 : inr3 badge 0 65535 with _ | _
  · have H1 := Lib.hid h1
    have HF : Hid (g = false) := Lib.hid (by rw [HG.out, H1.out]; simp)
    clear h1
    go_enter Try.func17, Try.ntmps17
    go_wp2_with (first | (go_at_call 32; (with_reducible refine (rwithin_at H1.out _).mono ?_); rintro e w' ⟨rfl, rfl⟩))
    go_ret
    exact ⟨by rw [HF.out]; rfl, below_on (below_alloc _ _) (below_alloc _ _)⟩
  have H1 := Lib.hid h1
  clear h1
  rcases h2 : inr3 frm 0 96 with _ | _
  · have H2 := Lib.hid h2
    have HF : Hid (g = false) := Lib.hid (by rw [HG.out, H1.out, H2.out]; simp)
    clear h2
    go_enter Try.func17, Try.ntmps17
    go_wp2_with (first | (go_at_call 32; (with_reducible refine (rwithin_at H1.out _).mono ?_); rintro e w' ⟨rfl, rfl⟩) | (go_at_call 32; (with_reducible refine (rwithin_at H2.out _).mono ?_); rintro e w' ⟨rfl, rfl⟩))
    go_ret
    exact ⟨by rw [HF.out]; rfl, below_on (below_alloc _ _) (below_alloc _ _)⟩
  have H2 := Lib.hid h2
  clear h2
  have HF : Hid (g = z) := Lib.hid (by rw [HG.out, H1.out, H2.out]; simp)
  go_enter Try.func17, Try.ntmps17
  go_wp2_with (first | (go_at_call 32; (with_reducible refine (rwithin_at H1.out _).mono ?_); rintro e w' ⟨rfl, rfl⟩) | (go_at_call 32; (with_reducible refine (rwithin_at H2.out _).mono ?_); rintro e w' ⟨rfl, rfl⟩))
  go_ret
  exact ⟨by rw [HF.out]; rfl, below_on (below_alloc _ _) (below_alloc _ _)⟩
set_option maxHeartbeats 4000000 in
theorem rgood6 (bits base size used frm badge : Int) (word d0 d1 d2 d3 : Nat) (w : World) :
    Calls Try.prog 17 #[.agg #[.int .i64 3, .int .i64 bits, .int .i64 base, .int .i64 size, .int .i64 used, .int .i64 frm, .int .i64 badge, .bool true, .int .u64 (word : Int), .int .u64 (d0 : Int), .int .u64 (d1 : Int), .int .u64 (d2 : Int), .int .u64 (d3 : Int)]] w fun e w' => e = .returned (.bool (Tng.mk 3 bits base size used frm badge true word d0 d1 d2 d3).good) ∧ Below w.heap.size w w' := by
  obtain ⟨z, hz⟩ : ∃ z, (Tng.mk 3 0 0 0 0 frm badge true word 0 0 0 0).eq (Tng.mk 3 bits base size used frm badge true word d0 d1 d2 d3) = z := ⟨_, rfl⟩
  have heq : ∀ w, (Op.equalIn 10000 36 (.agg #[.int .i64 3, .int .i64 0, .int .i64 0, .int .i64 0, .int .i64 0, .int .i64 frm, .int .i64 badge, .bool true, .int .u64 (word : Int), .int .u64 0, .int .u64 0, .int .u64 0, .int .u64 0]) (.agg #[.int .i64 3, .int .i64 bits, .int .i64 base, .int .i64 size, .int .i64 used, .int .i64 frm, .int .i64 badge, .bool true, .int .u64 (word : Int), .int .u64 (d0 : Int), .int .u64 (d1 : Int), .int .u64 (d2 : Int), .int .u64 (d3 : Int)])).run Try.prog w = .ok z w := fun w => hz ▸ teq36 (Tng.mk 3 0 0 0 0 frm badge true word 0 0 0 0) (Tng.mk 3 bits base size used frm badge true word d0 d1 d2 d3) w
  have HG : Hid ((Tng.mk 3 bits base size used frm badge true word d0 d1 d2 d3).good = (inr3 badge 0 65535 && (inr3 frm 0 96 && z))) := Lib.hid (by rw [← hz]; rw [← Bool.and_assoc]; rfl)
  clear hz
  generalize (Tng.mk 3 bits base size used frm badge true word d0 d1 d2 d3).good = g at HG ⊢
  rcases h1 : inr3 badge 0 65535 with _ | _
  · have H1 := Lib.hid h1
    have HF : Hid (g = false) := Lib.hid (by rw [HG.out, H1.out]; simp)
    clear h1
    go_enter Try.func17, Try.ntmps17
    go_wp2_with fail
    go_region
    go_wp2_with (first | (go_at_call 32; (with_reducible refine (rwithin_at H1.out _).mono ?_); rintro e w' ⟨rfl, rfl⟩))
    go_ret
    exact ⟨by rw [HF.out]; rfl, (below_on (below_alloc _ _) (below_alloc _ _)).drew⟩
  have H1 := Lib.hid h1
  clear h1
  rcases h2 : inr3 frm 0 96 with _ | _
  · have H2 := Lib.hid h2
    have HF : Hid (g = false) := Lib.hid (by rw [HG.out, H1.out, H2.out]; simp)
    clear h2
    go_enter Try.func17, Try.ntmps17
    go_wp2_with fail
    go_region
    go_wp2_with (first | (go_at_call 32; (with_reducible refine (rwithin_at H1.out _).mono ?_); rintro e w' ⟨rfl, rfl⟩) | (go_at_call 32; (with_reducible refine (rwithin_at H2.out _).mono ?_); rintro e w' ⟨rfl, rfl⟩))
    go_ret
    exact ⟨by rw [HF.out]; rfl, (below_on (below_alloc _ _) (below_alloc _ _)).drew⟩
  have H2 := Lib.hid h2
  clear h2
  have HF : Hid (g = z) := Lib.hid (by rw [HG.out, H1.out, H2.out]; simp)
  go_enter Try.func17, Try.ntmps17
  go_wp2_with fail
  go_region
  go_wp2_with (first | (go_at_call 32; (with_reducible refine (rwithin_at H1.out _).mono ?_); rintro e w' ⟨rfl, rfl⟩) | (go_at_call 32; (with_reducible refine (rwithin_at H2.out _).mono ?_); rintro e w' ⟨rfl, rfl⟩))
  go_ret
  exact ⟨by rw [HF.out]; rfl, (below_on (below_alloc _ _) (below_alloc _ _)).drew⟩
set_option maxHeartbeats 4000000 in
theorem rgood2 (bits base size used frm badge : Int) (full : Bool) (word d0 d1 d2 d3 : Nat) (w : World) :
    Calls Try.prog 17 #[.agg #[.int .i64 2, .int .i64 bits, .int .i64 base, .int .i64 size, .int .i64 used, .int .i64 frm, .int .i64 badge, .bool full, .int .u64 (word : Int), .int .u64 (d0 : Int), .int .u64 (d1 : Int), .int .u64 (d2 : Int), .int .u64 (d3 : Int)]] w fun e w' => e = .returned (.bool (Tng.mk 2 bits base size used frm badge full word d0 d1 d2 d3).good) ∧ Below w.heap.size w w' := by
  obtain ⟨z, hz⟩ : ∃ z, (Tng.mk 2 bits base 0 0 0 0 false 0 0 0 0 0).eq (Tng.mk 2 bits base size used frm badge full word d0 d1 d2 d3) = z := ⟨_, rfl⟩
  have heq : ∀ w, (Op.equalIn 10000 36 (.agg #[.int .i64 2, .int .i64 bits, .int .i64 base, .int .i64 0, .int .i64 0, .int .i64 0, .int .i64 0, .bool false, .int .u64 0, .int .u64 0, .int .u64 0, .int .u64 0, .int .u64 0]) (.agg #[.int .i64 2, .int .i64 bits, .int .i64 base, .int .i64 size, .int .i64 used, .int .i64 frm, .int .i64 badge, .bool full, .int .u64 (word : Int), .int .u64 (d0 : Int), .int .u64 (d1 : Int), .int .u64 (d2 : Int), .int .u64 (d3 : Int)])).run Try.prog w = .ok z w := fun w => hz ▸ teq36 (Tng.mk 2 bits base 0 0 0 0 false 0 0 0 0 0) (Tng.mk 2 bits base size used frm badge full word d0 d1 d2 d3) w
  have HG : Hid ((Tng.mk 2 bits base size used frm badge full word d0 d1 d2 d3).good = (inr3 bits 1 4 && (inr3 base 0 (96 - tw2 bits) && z))) := Lib.hid (by rw [← hz]; rw [← Bool.and_assoc]; rfl)
  clear hz
  generalize (Tng.mk 2 bits base size used frm badge full word d0 d1 d2 d3).good = g at HG ⊢
  rcases h1 : inr3 bits 1 4 with _ | _
  · have H1 := Lib.hid h1
    have HF : Hid (g = false) := Lib.hid (by rw [HG.out, H1.out]; simp)
    clear h1
    go_enter Try.func17, Try.ntmps17
    go_wp2_with fail
    go_region
    go_wp2_with fail
    have hT : Tbx w (((w.alloc (.cells #[.int .i64 2, .int .i64 bits, .int .i64 base, .int .i64 size, .int .i64 used, .int .i64 frm, .int .i64 badge, .bool full, .int .u64 (word : Int), .int .u64 (d0 : Int), .int .u64 (d1 : Int), .int .u64 (d2 : Int), .int .u64 (d3 : Int)] 36)).alloc (.cells #[.int .i64 2, .int .i64 bits, .int .i64 base, .int .i64 0, .int .i64 0, .int .i64 0, .int .i64 0, .bool false, .int .u64 0, .int .u64 0, .int .u64 0, .int .u64 0, .int .u64 0] 36)).drew) w.heap.size (Tng.mk 2 bits base size used frm badge full word d0 d1 d2 d3) := ((Tbx.new w (Tng.mk 2 bits base size used frm badge full word d0 d1 d2 d3) 36).on (below_alloc _ _)).on (below_self _).drew
    have hU : Tbx (w.alloc (.cells #[.int .i64 2, .int .i64 bits, .int .i64 base, .int .i64 size, .int .i64 used, .int .i64 frm, .int .i64 badge, .bool full, .int .u64 (word : Int), .int .u64 (d0 : Int), .int .u64 (d1 : Int), .int .u64 (d2 : Int), .int .u64 (d3 : Int)] 36)) (((w.alloc (.cells #[.int .i64 2, .int .i64 bits, .int .i64 base, .int .i64 size, .int .i64 used, .int .i64 frm, .int .i64 badge, .bool full, .int .u64 (word : Int), .int .u64 (d0 : Int), .int .u64 (d1 : Int), .int .u64 (d2 : Int), .int .u64 (d3 : Int)] 36)).alloc (.cells #[.int .i64 2, .int .i64 bits, .int .i64 base, .int .i64 0, .int .i64 0, .int .i64 0, .int .i64 0, .bool false, .int .u64 0, .int .u64 0, .int .u64 0, .int .u64 0, .int .u64 0] 36)).drew) (w.alloc (.cells #[.int .i64 2, .int .i64 bits, .int .i64 base, .int .i64 size, .int .i64 used, .int .i64 frm, .int .i64 badge, .bool full, .int .u64 (word : Int), .int .u64 (d0 : Int), .int .u64 (d1 : Int), .int .u64 (d2 : Int), .int .u64 (d3 : Int)] 36)).heap.size (Tng.mk 2 bits base 0 0 0 0 false 0 0 0 0 0) := (Tbx.new _ (Tng.mk 2 bits base 0 0 0 0 false 0 0 0 0 0) 36).on (below_self _).drew
    have hs : (w.alloc (.cells #[.int .i64 2, .int .i64 bits, .int .i64 base, .int .i64 size, .int .i64 used, .int .i64 frm, .int .i64 badge, .bool full, .int .u64 (word : Int), .int .u64 (d0 : Int), .int .u64 (d1 : Int), .int .u64 (d2 : Int), .int .u64 (d3 : Int)] 36)).heap.size = w.heap.size + 1 := by simp
    rw [hs] at hU
    generalize ((w.alloc (.cells #[.int .i64 2, .int .i64 bits, .int .i64 base, .int .i64 size, .int .i64 used, .int .i64 frm, .int .i64 badge, .bool full, .int .u64 (word : Int), .int .u64 (d0 : Int), .int .u64 (d1 : Int), .int .u64 (d2 : Int), .int .u64 (d3 : Int)] 36)).alloc (.cells #[.int .i64 2, .int .i64 bits, .int .i64 base, .int .i64 0, .int .i64 0, .int .i64 0, .int .i64 0, .bool false, .int .u64 0, .int .u64 0, .int .u64 0, .int .u64 0, .int .u64 0] 36)).drew = wk at hT hU ⊢
    clear hs
    have HT := Lib.hid hT
    obtain ⟨c0, c1, c2, c3, c4, c5, c6, c7, c8, c9, c10, c11, c12, _, _, _, _⟩ := hT
    obtain ⟨e0, e1, e2, e3, e4, e5, e6, e7, e8, e9, e10, e11, e12, _, _, _, _⟩ := hU
    simp only [Int.ofNat_zero] at e8 e9 e10 e11 e12
    go_quiet ((go_at_call 32; with_reducible refine Calls.quiet_of_same (rwithin_at H1.out _)))
    go_wp2
    go_ret
    exact ⟨by rw [HF.out]; rfl, below_draws HT.out.old _⟩
  have hb := inr3_iff.1 h1
  have h16 : 1 ≤ tw2 bits ∧ tw2 bits ≤ 16 := by
    obtain ⟨k, rfl⟩ : ∃ k : Nat, bits = k := ⟨bits.toNat, by omega⟩
    have : k = 1 ∨ k = 2 ∨ k = 3 ∨ k = 4 := by omega
    rcases this with rfl | rfl | rfl | rfl <;> decide
  have H1 := Lib.hid h1
  have HB : Hid (0 ≤ bits ∧ bits ≤ 60) := Lib.hid (by omega)
  obtain ⟨q, hq⟩ : ∃ q, tw2 bits = q := ⟨_, rfl⟩
  rw [hq] at h16 HG
  obtain ⟨h5, h6⟩ := h16
  have h2t := fun w => hq ▸ two_is bits HB.out.1 HB.out.2 w
  have H2T := Lib.hid h2t
  clear h1 hb hq h2t
  rcases h2 : inr3 base 0 (96 - q) with _ | _
  · have H2 := Lib.hid h2
    have HF : Hid (g = false) := Lib.hid (by rw [HG.out, H1.out, H2.out]; simp)
    clear h2
    go_enter Try.func17, Try.ntmps17
    go_wp2_with fail
    go_region
    go_wp2_with fail
    have hT : Tbx w (((w.alloc (.cells #[.int .i64 2, .int .i64 bits, .int .i64 base, .int .i64 size, .int .i64 used, .int .i64 frm, .int .i64 badge, .bool full, .int .u64 (word : Int), .int .u64 (d0 : Int), .int .u64 (d1 : Int), .int .u64 (d2 : Int), .int .u64 (d3 : Int)] 36)).alloc (.cells #[.int .i64 2, .int .i64 bits, .int .i64 base, .int .i64 0, .int .i64 0, .int .i64 0, .int .i64 0, .bool false, .int .u64 0, .int .u64 0, .int .u64 0, .int .u64 0, .int .u64 0] 36)).drew) w.heap.size (Tng.mk 2 bits base size used frm badge full word d0 d1 d2 d3) := ((Tbx.new w (Tng.mk 2 bits base size used frm badge full word d0 d1 d2 d3) 36).on (below_alloc _ _)).on (below_self _).drew
    have hU : Tbx (w.alloc (.cells #[.int .i64 2, .int .i64 bits, .int .i64 base, .int .i64 size, .int .i64 used, .int .i64 frm, .int .i64 badge, .bool full, .int .u64 (word : Int), .int .u64 (d0 : Int), .int .u64 (d1 : Int), .int .u64 (d2 : Int), .int .u64 (d3 : Int)] 36)) (((w.alloc (.cells #[.int .i64 2, .int .i64 bits, .int .i64 base, .int .i64 size, .int .i64 used, .int .i64 frm, .int .i64 badge, .bool full, .int .u64 (word : Int), .int .u64 (d0 : Int), .int .u64 (d1 : Int), .int .u64 (d2 : Int), .int .u64 (d3 : Int)] 36)).alloc (.cells #[.int .i64 2, .int .i64 bits, .int .i64 base, .int .i64 0, .int .i64 0, .int .i64 0, .int .i64 0, .bool false, .int .u64 0, .int .u64 0, .int .u64 0, .int .u64 0, .int .u64 0] 36)).drew) (w.alloc (.cells #[.int .i64 2, .int .i64 bits, .int .i64 base, .int .i64 size, .int .i64 used, .int .i64 frm, .int .i64 badge, .bool full, .int .u64 (word : Int), .int .u64 (d0 : Int), .int .u64 (d1 : Int), .int .u64 (d2 : Int), .int .u64 (d3 : Int)] 36)).heap.size (Tng.mk 2 bits base 0 0 0 0 false 0 0 0 0 0) := (Tbx.new _ (Tng.mk 2 bits base 0 0 0 0 false 0 0 0 0 0) 36).on (below_self _).drew
    have hs : (w.alloc (.cells #[.int .i64 2, .int .i64 bits, .int .i64 base, .int .i64 size, .int .i64 used, .int .i64 frm, .int .i64 badge, .bool full, .int .u64 (word : Int), .int .u64 (d0 : Int), .int .u64 (d1 : Int), .int .u64 (d2 : Int), .int .u64 (d3 : Int)] 36)).heap.size = w.heap.size + 1 := by simp
    rw [hs] at hU
    generalize ((w.alloc (.cells #[.int .i64 2, .int .i64 bits, .int .i64 base, .int .i64 size, .int .i64 used, .int .i64 frm, .int .i64 badge, .bool full, .int .u64 (word : Int), .int .u64 (d0 : Int), .int .u64 (d1 : Int), .int .u64 (d2 : Int), .int .u64 (d3 : Int)] 36)).alloc (.cells #[.int .i64 2, .int .i64 bits, .int .i64 base, .int .i64 0, .int .i64 0, .int .i64 0, .int .i64 0, .bool false, .int .u64 0, .int .u64 0, .int .u64 0, .int .u64 0, .int .u64 0] 36)).drew = wk at hT hU ⊢
    clear hs
    have HT := Lib.hid hT
    obtain ⟨c0, c1, c2, c3, c4, c5, c6, c7, c8, c9, c10, c11, c12, _, _, _, _⟩ := hT
    obtain ⟨e0, e1, e2, e3, e4, e5, e6, e7, e8, e9, e10, e11, e12, _, _, _, _⟩ := hU
    simp only [Int.ofNat_zero] at e8 e9 e10 e11 e12
    go_quiet ((first | (go_at_call 33; with_reducible refine Calls.quiet_of_same (H2T.out _)) | (go_at_call 32; with_reducible refine Calls.quiet_of_same (rwithin_at H1.out _)) | (go_at_call 32; with_reducible refine Calls.quiet_of_same (rwithin_at H2.out _))))
    go_wp2
    go_ret
    exact ⟨by rw [HF.out]; rfl, below_draws HT.out.old _⟩
  have H2 := Lib.hid h2
  have HF : Hid (g = z) := Lib.hid (by rw [HG.out, H1.out, H2.out]; simp)
  clear h2
  go_enter Try.func17, Try.ntmps17
  go_wp2_with fail
  go_region
  go_wp2_with fail
  have hT : Tbx w (((w.alloc (.cells #[.int .i64 2, .int .i64 bits, .int .i64 base, .int .i64 size, .int .i64 used, .int .i64 frm, .int .i64 badge, .bool full, .int .u64 (word : Int), .int .u64 (d0 : Int), .int .u64 (d1 : Int), .int .u64 (d2 : Int), .int .u64 (d3 : Int)] 36)).alloc (.cells #[.int .i64 2, .int .i64 bits, .int .i64 base, .int .i64 0, .int .i64 0, .int .i64 0, .int .i64 0, .bool false, .int .u64 0, .int .u64 0, .int .u64 0, .int .u64 0, .int .u64 0] 36)).drew) w.heap.size (Tng.mk 2 bits base size used frm badge full word d0 d1 d2 d3) := ((Tbx.new w (Tng.mk 2 bits base size used frm badge full word d0 d1 d2 d3) 36).on (below_alloc _ _)).on (below_self _).drew
  have hU : Tbx (w.alloc (.cells #[.int .i64 2, .int .i64 bits, .int .i64 base, .int .i64 size, .int .i64 used, .int .i64 frm, .int .i64 badge, .bool full, .int .u64 (word : Int), .int .u64 (d0 : Int), .int .u64 (d1 : Int), .int .u64 (d2 : Int), .int .u64 (d3 : Int)] 36)) (((w.alloc (.cells #[.int .i64 2, .int .i64 bits, .int .i64 base, .int .i64 size, .int .i64 used, .int .i64 frm, .int .i64 badge, .bool full, .int .u64 (word : Int), .int .u64 (d0 : Int), .int .u64 (d1 : Int), .int .u64 (d2 : Int), .int .u64 (d3 : Int)] 36)).alloc (.cells #[.int .i64 2, .int .i64 bits, .int .i64 base, .int .i64 0, .int .i64 0, .int .i64 0, .int .i64 0, .bool false, .int .u64 0, .int .u64 0, .int .u64 0, .int .u64 0, .int .u64 0] 36)).drew) (w.alloc (.cells #[.int .i64 2, .int .i64 bits, .int .i64 base, .int .i64 size, .int .i64 used, .int .i64 frm, .int .i64 badge, .bool full, .int .u64 (word : Int), .int .u64 (d0 : Int), .int .u64 (d1 : Int), .int .u64 (d2 : Int), .int .u64 (d3 : Int)] 36)).heap.size (Tng.mk 2 bits base 0 0 0 0 false 0 0 0 0 0) := (Tbx.new _ (Tng.mk 2 bits base 0 0 0 0 false 0 0 0 0 0) 36).on (below_self _).drew
  have hs : (w.alloc (.cells #[.int .i64 2, .int .i64 bits, .int .i64 base, .int .i64 size, .int .i64 used, .int .i64 frm, .int .i64 badge, .bool full, .int .u64 (word : Int), .int .u64 (d0 : Int), .int .u64 (d1 : Int), .int .u64 (d2 : Int), .int .u64 (d3 : Int)] 36)).heap.size = w.heap.size + 1 := by simp
  rw [hs] at hU
  generalize ((w.alloc (.cells #[.int .i64 2, .int .i64 bits, .int .i64 base, .int .i64 size, .int .i64 used, .int .i64 frm, .int .i64 badge, .bool full, .int .u64 (word : Int), .int .u64 (d0 : Int), .int .u64 (d1 : Int), .int .u64 (d2 : Int), .int .u64 (d3 : Int)] 36)).alloc (.cells #[.int .i64 2, .int .i64 bits, .int .i64 base, .int .i64 0, .int .i64 0, .int .i64 0, .int .i64 0, .bool false, .int .u64 0, .int .u64 0, .int .u64 0, .int .u64 0, .int .u64 0] 36)).drew = wk at hT hU ⊢
  clear hs
  have HT := Lib.hid hT
  obtain ⟨c0, c1, c2, c3, c4, c5, c6, c7, c8, c9, c10, c11, c12, _, _, _, _⟩ := hT
  obtain ⟨e0, e1, e2, e3, e4, e5, e6, e7, e8, e9, e10, e11, e12, _, _, _, _⟩ := hU
  simp only [Int.ofNat_zero] at e8 e9 e10 e11 e12
  go_quiet ((first | (go_at_call 33; with_reducible refine Calls.quiet_of_same (H2T.out _)) | (go_at_call 32; with_reducible refine Calls.quiet_of_same (rwithin_at H1.out _)) | (go_at_call 32; with_reducible refine Calls.quiet_of_same (rwithin_at H2.out _))))
  go_wp2
  go_ret
  exact ⟨by rw [HF.out]; rfl, below_draws HT.out.old _⟩
theorem rgoodx (ty bits base size used frm badge : Int) (full : Bool) (word d0 d1 d2 d3 : Nat) (h0 : ¬ ty = 0) (h1 : ¬ ty = 1) (h2 : ¬ ty = 2) (h3 : ¬ ty = 3) (h4 : ¬ ty = 4) (h5 : ¬ ty = 5) (w : World) :
    Calls Try.prog 17 #[.agg #[.int .i64 ty, .int .i64 bits, .int .i64 base, .int .i64 size, .int .i64 used, .int .i64 frm, .int .i64 badge, .bool full, .int .u64 (word : Int), .int .u64 (d0 : Int), .int .u64 (d1 : Int), .int .u64 (d2 : Int), .int .u64 (d3 : Int)]] w fun e w' => e = .returned (.bool (Tng.mk ty bits base size used frm badge full word d0 d1 d2 d3).good) ∧ Below w.heap.size w w' := by
  have HG : Hid ((Tng.mk ty bits base size used frm badge full word d0 d1 d2 d3).good = false) := Lib.hid (by rw [Tng.good, Tng.fits]; simp [h0, h1, h2, h3, h4, h5])
  generalize (Tng.mk ty bits base size used frm badge full word d0 d1 d2 d3).good = g at HG ⊢
  go_enter Try.func17, Try.ntmps17
  go_wp2
  go_ret
  exact ⟨by rw [HG.out]; rfl, below_on (below_alloc _ _) (below_alloc _ _)⟩
theorem rgoodt_any (t : Tng) (w : World) : Calls Try.prog 17 #[t.val] w fun e w' => e = .returned (.bool t.good) ∧ Below w.heap.size w w' := by
  obtain ⟨ty, bits, base, size, used, frm, badge, full, word, d0, d1, d2, d3⟩ := t
  by_cases h0 : ty = 0
  · subst h0
    exact rgood0 _ _ _ _ _ _ _ _ _ _ _ _ w
  by_cases h1 : ty = 1
  · subst h1
    exact rgood1 _ _ _ _ _ _ _ _ _ _ _ _ w
  by_cases h2 : ty = 2
  · subst h2
    exact rgood2 _ _ _ _ _ _ _ _ _ _ _ _ w
  by_cases h3 : ty = 3
  · subst h3
    cases full
    · exact rgood3 _ _ _ _ _ _ _ _ _ _ _ w
    · exact rgood6 _ _ _ _ _ _ _ _ _ _ _ w
  by_cases h4 : ty = 4
  · subst h4
    exact rgood4 _ _ _ _ _ _ _ _ _ _ _ _ w
  by_cases h5 : ty = 5
  · subst h5
    exact rgood5 _ _ _ _ _ _ _ _ _ _ _ _ w
  exact rgoodx _ _ _ _ _ _ _ _ _ _ _ _ _ h0 h1 h2 h3 h4 h5 w
end Go.Proofs.Ytglibcmlophieaa
