/-
  The walk of the law's awake: it answers true. No condition.
-/
import Derived.Test.YtbhjjpmldhlobaaQf
namespace Go.Proofs.Ytbhjjpmldhlobaa
open Go.RowKit

theorem text_5 (w : World) : Calls Try.prog 11 #[.int .i64 5] w fun e w' => e = .returned (.string ⟨#[114, 103]⟩) ∧ Below w.heap.size w w' := text_nat 5 (by decide) w
theorem good_to {x : Int} {b : Bool} (h : inr x 7 = b) (w : World) : Calls Try.prog 10 #[.int .i64 x] w fun e w' => e = .returned (.bool b) ∧ w = w' := h ▸ good_any x w
theorem all_below (w : World) : Calls Try.prog 9 #[] w fun e w' => ∃ g, e = .returned (.slice (some ⟨g, 0, none⟩) 8 8) ∧ Below w.heap.size w w' := (all_any w).mono fun _ _ ⟨g, he, hb⟩ => ⟨g, he, hb.old⟩

set_option maxHeartbeats 1000000 in
theorem awake_any (w : World) : Calls Try.prog 7 #[] w fun e w' => e = .returned (.bool true) ∧ Below w.heap.size w w' := by
  have HB := Lib.hid (Below.refl w.heap.size w)
  go_enter Try.func7, Try.ntmps7
  go_wp2_with (first
    | (go_at_call 11; (with_reducible refine (text_5 _).mono ?_); rintro e w' ⟨rfl, hb⟩; replace HB := Lib.hid (below_on HB.out hb); clear hb)
    | (go_at_call 10; (with_reducible refine (good_to (b := true) (by decide) _).mono ?_); rintro e w' ⟨rfl, rfl⟩)
    | (go_at_call 9; (with_reducible refine (all_below _).mono ?_); rintro e w' ⟨g, rfl, hb⟩; replace HB := Lib.hid (below_on HB.out hb); clear hb))
  go_ret
  exact ⟨rfl, HB.out⟩
end Go.Proofs.Ytbhjjpmldhlobaa
