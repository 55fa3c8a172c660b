/-
  The walk of the law's awake: it answers true. No condition.
-/
import Derived.Test.YtibdmceanddeaaaGb
namespace Go.Proofs.Ytibdmceanddeaaa
open Go.RowKit

def plain : Gd := ⟨2, 32, 16⟩
theorem plain_new (w : World) : Kp w w.heap.size plain (w.alloc (.cells #[.int .i64 2, .int .i64 32, .int .i64 16] 24)) := Kp.new w plain 24

set_option maxHeartbeats 1000000 in
theorem awake_any (w : World) : Calls Try.prog 6 #[] w fun e w' => e = .returned (.bool true) ∧ Below w.heap.size w w' := by
  go_enter Try.func6, Try.ntmps6
  go_wp2_with fail
  refine (plain_any _).mono ?_
  rintro e w1 ⟨rfl, hb⟩
  have HB := Lib.hid hb
  have hk := plain_new w1
  have c1 : (w1.alloc (.cells #[.int .i64 2, .int .i64 32, .int .i64 16] 24)).cell? ⟨w1.heap.size, 0, none⟩ = some (.int .i64 2) := hk.1.t
  have c2 : (w1.alloc (.cells #[.int .i64 2, .int .i64 32, .int .i64 16] 24)).cell? ⟨w1.heap.size, 1, none⟩ = some (.int .i64 32) := hk.1.s
  have c3 : (w1.alloc (.cells #[.int .i64 2, .int .i64 32, .int .i64 16] 24)).cell? ⟨w1.heap.size, 2, none⟩ = some (.int .i64 16) := hk.1.k
  have HK := Lib.hid hk
  clear hb hk
  go_wp2_with (first
    | (go_at_call 8; (with_reducible refine (good_to (r := true) (by decide) _).mono ?_); rintro e w' ⟨rfl, hb⟩; replace HK := Lib.hid (HK.out.on hb); clear hb c1 c2 c3; have c1 : w'.cell? ⟨w1.heap.size, 0, none⟩ = some (.int .i64 2) := HK.out.1.t; have c2 : w'.cell? ⟨w1.heap.size, 1, none⟩ = some (.int .i64 32) := HK.out.1.s; have c3 : w'.cell? ⟨w1.heap.size, 2, none⟩ = some (.int .i64 16) := HK.out.1.k)
    | (go_at_call 10; (with_reducible refine (lock_to (r := 8) (by decide) _).mono ?_); rintro e w' ⟨rfl, hb⟩; replace HK := Lib.hid (HK.out.on hb); clear hb c1 c2 c3; have c1 : w'.cell? ⟨w1.heap.size, 0, none⟩ = some (.int .i64 2) := HK.out.1.t; have c2 : w'.cell? ⟨w1.heap.size, 1, none⟩ = some (.int .i64 32) := HK.out.1.s; have c3 : w'.cell? ⟨w1.heap.size, 2, none⟩ = some (.int .i64 16) := HK.out.1.k)
    | (go_at_call 11; (with_reducible refine (slot_to (r := 2432) (by decide) _).mono ?_); rintro e w' ⟨rfl, hb⟩; replace HK := Lib.hid (HK.out.on hb); clear hb c1 c2 c3; have c1 : w'.cell? ⟨w1.heap.size, 0, none⟩ = some (.int .i64 2) := HK.out.1.t; have c2 : w'.cell? ⟨w1.heap.size, 1, none⟩ = some (.int .i64 32) := HK.out.1.s; have c3 : w'.cell? ⟨w1.heap.size, 2, none⟩ = some (.int .i64 16) := HK.out.1.k)
    | (go_at_call 14; (with_reducible refine (root_to (r := 8) (by decide) _).mono ?_); rintro e w' ⟨rfl, hb⟩; replace HK := Lib.hid (HK.out.on hb); clear hb c1 c2 c3))
  go_ret
  exact ⟨rfl, below_on HB.out HK.out.2⟩
end Go.Proofs.Ytibdmceanddeaaa
