/-
  The walk of the law's awake: it answers true. No condition.
-/
import Derived.Test.YtjmenekhdkpaaaaTf
namespace Go.Proofs.Ytjmenekhdkpaaaa
open Go.RowKit

/-- fields written out -/
theorem lit_fds (w : World) (l : List Fd) (t : TypeId) (cs : Array Value) (hcs : cs = (fcells l).toArray) : FdsAt (w.alloc (.cells cs t)) (w.heap.size + 1) (some ⟨w.heap.size, 0, none⟩) l := fun _ => by
  subst hcs
  have hg := heap_alloc_new w (.cells (fcells l).toArray t)
  refine ⟨w.heap.size, 0, rfl, by omega, fun j x hx => ?_⟩
  obtain ⟨e1, e2⟩ := fcells_get hx
  rw [Nat.zero_add]
  exact ⟨by rw [cell_of_row _ _ (j * 2) _ _ _ hg]; simpa using e1, by rw [cell_of_row _ _ (j * 2 + 1) _ _ _ hg]; simpa using e2⟩
def ucells (l : List Nat) : List Value := l.map fun z : Nat => .int .u64 (z : Int)
theorem lit_words (w : World) (l : List Nat) (t : TypeId) (cs : Array Value) (hcs : cs = (ucells l).toArray) : WordsAt (w.alloc (.cells cs t)) (w.heap.size + 1) (some ⟨w.heap.size, 0, none⟩) l := fun _ => by
  subst hcs
  have hg := heap_alloc_new w (.cells (ucells l).toArray t)
  refine ⟨w.heap.size, 0, rfl, by omega, fun j z hz => ?_⟩
  rw [Nat.zero_add, cell_of_row _ _ j _ _ _ hg]
  unfold ucells
  simp [hz]

def two4 : List Fd := [⟨0, 4⟩, ⟨4, 4⟩]
theorem put_two4 : put two4 [1, 2] = some 33 := by kernel_rfl
theorem get_two4 : gotten 33 two4 = [1, 2] := by kernel_rfl
theorem good_two4 : good two4 = true := by kernel_rfl

theorem put_at {r n m cap cap' : Nat} {A A' : Option Addr} {l : List Fd} {v : List Nat} {w : World} (hn : n = l.length) (hm : m = v.length) (hl : n ≤ 1000000) (hv : m ≤ 1000000)
    (hL : FdsAt w w.heap.size A l) (hV : WordsAt w w.heap.size A' v) (hw : ∀ z ∈ v, z ≤ top) (hr : put l v = some r) :
    Calls Try.prog 9 #[.slice A n cap, .slice A' m cap'] w fun e w' => e = .returned (.tuple #[.int .u64 (r : Int), .bool true]) ∧ Below w.heap.size w w' := by
  subst hn hm
  have := put_any A cap l A' cap' v w hl hL hv hV hw
  rw [hr] at this
  exact this
theorem put_off {n m cap cap' : Nat} {A A' : Option Addr} {l : List Fd} {v : List Nat} {w : World} (hn : n = l.length) (hm : m = v.length) (hl : n ≤ 1000000) (hv : m ≤ 1000000)
    (hL : FdsAt w w.heap.size A l) (hV : WordsAt w w.heap.size A' v) (hw : ∀ z ∈ v, z ≤ top) (hr : put l v = none) :
    Calls Try.prog 9 #[.slice A n cap, .slice A' m cap'] w fun e w' => e = .returned (.tuple #[.int .u64 0, .bool false]) ∧ Below w.heap.size w w' := by
  subst hn hm
  have := put_any A cap l A' cap' v w hl hL hv hV hw
  rw [hr] at this
  exact this
theorem get_at {z n cap : Nat} {A : Option Addr} {l : List Fd} {g : List Nat} {w : World} (hz : z ≤ top) (hn : n = l.length) (hl : n ≤ 1000000) (hL : FdsAt w w.heap.size A l) (hg : gotten z l = g) :
    Calls Try.prog 11 #[.int .u64 (z : Int), .slice A n cap] w fun e w' => ∃ v, e = .returned v ∧ Words w' v g ∧ Below w.heap.size w w' := by
  subst hn hg
  exact get_any z A cap l w hz hl hL
theorem rest_at {z r n cap : Nat} {A : Option Addr} {l : List Fd} {w : World} (hz : z ≤ top) (hn : n = l.length) (hl : n ≤ 1000000) (hL : FdsAt w w.heap.size A l) (hr : rest z l = r) :
    Calls Try.prog 12 #[.int .u64 (z : Int), .slice A n cap] w fun e w' => e = .returned (.int .u64 (r : Int)) ∧ Below w.heap.size w w' := by
  subst hn hr
  exact rest_any z A cap l w hz hl hL
theorem FdsAt.grow {w w' : World} {A : Option Addr} {l : List Fd} (h : FdsAt w w.heap.size A l) (hb : Below w.heap.size w w') : FdsAt w' w'.heap.size A l := (h.below hb).mono hb.size
theorem WordsAt.grow {w w' : World} {A : Option Addr} {l : List Nat} (h : WordsAt w w.heap.size A l) (hb : Below w.heap.size w w') : WordsAt w' w'.heap.size A l := (h.below hb).mono hb.size
theorem below_alloc (w : World) (ob : Obj) : Below w.heap.size w (w.alloc ob) := (Below.refl _ _).alloc (Nat.le_refl _) _
theorem below_self (w : World) : Below w.heap.size w w := Below.refl _ _
theorem lit_fds' (w : World) (l : List Fd) (t : TypeId) (cs : Array Value) (hcs : cs = (fcells l).toArray) : FdsAt (w.alloc (.cells cs t)) (w.alloc (.cells cs t)).heap.size (some ⟨w.heap.size, 0, none⟩) l :=
  (lit_fds w l t cs hcs).mono (by simp)
theorem lit_words' (w : World) (l : List Nat) (t : TypeId) (cs : Array Value) (hcs : cs = (ucells l).toArray) : WordsAt (w.alloc (.cells cs t)) (w.alloc (.cells cs t)).heap.size (some ⟨w.heap.size, 0, none⟩) l :=
  (lit_words w l t cs hcs).mono (by simp)

set_option maxHeartbeats 1000000 in
theorem awake_any (w : World) : Calls Try.prog 8 #[] w fun e w' => e = .returned (.bool true) ∧ Below w.heap.size w w' := by
  have HF : Hid (∀ w : World, FdsAt (w.alloc (.cells #[.int .i64 0, .int .i64 4, .int .i64 4, .int .i64 4] 24)) (w.alloc (.cells #[.int .i64 0, .int .i64 4, .int .i64 4, .int .i64 4] 24)).heap.size (some ⟨w.heap.size, 0, none⟩) two4) := Lib.hid fun w => lit_fds' w two4 24 _ rfl
  have HW : Hid (∀ w : World, WordsAt (w.alloc (.cells #[.int .u64 1, .int .u64 2] 27)) (w.alloc (.cells #[.int .u64 1, .int .u64 2] 27)).heap.size (some ⟨w.heap.size, 0, none⟩) [1, 2]) := Lib.hid fun w => lit_words' w [1, 2] 27 _ rfl
  have HT : Hid (∀ z ∈ [1, 2], z ≤ top) := Lib.hid (by decide)
  obtain ⟨w1, hw1⟩ : ∃ w1, w1 = w.alloc (.cells #[.int .i64 0, .int .i64 4, .int .i64 4, .int .i64 4] 24) := ⟨_, rfl⟩
  have H1 : Hid (FdsAt w1 w1.heap.size (some ⟨w.heap.size, 0, none⟩) two4) := Lib.hid (by rw [hw1]; exact HF.out w)
  have HB1 : Hid (Below w.heap.size w w1) := Lib.hid (by rw [hw1]; exact below_alloc _ _)
  have hs1 : w1.heap.size = w.heap.size + 1 := by rw [hw1]; simp
  have HW1 := Lib.hid hw1
  clear hw1
  go_enter Try.func8, Try.ntmps8
  go_wp2_with fail
  rw [← HW1.out, ← hs1]
  refine (put_at rfl rfl (by decide) (by decide) (H1.out.grow (below_alloc _ _)) (HW.out w1) HT.out put_two4).mono ?_
  rintro e w2 ⟨rfl, hb⟩
  have HB2 := Lib.hid (below_on (below_on HB1.out (below_alloc _ _)) hb)
  have H2 := Lib.hid ((H1.out.grow (below_alloc _ _)).grow hb)
  clear hb
  go_wp2_with fail
  refine (get_at (by decide) rfl (by decide) H2.out get_two4).mono ?_
  rintro e w3 ⟨v, rfl, hv, hb⟩
  have HB3 := Lib.hid (below_on HB2.out hb)
  have H3 := Lib.hid (H2.out.grow hb)
  have HV := Lib.hid hv
  clear hb hv
  go_wp2_with fail
  refine (words_same _ _ [1, 2] _ (HV.out.below (below_alloc _ _)) ⟨_, _, rfl, HW.out w3⟩ (by decide)).mono ?_
  rintro e w4 ⟨rfl, hb⟩
  have HB4 := Lib.hid (below_on (below_on HB3.out (below_alloc _ _)) hb)
  have H4 := Lib.hid ((H3.out.grow (below_alloc _ _)).grow hb)
  clear hb
  go_wp2_with fail
  refine (good_yes (l := two4) rfl (by decide) H4.out good_two4).mono ?_
  rintro e w5 ⟨rfl, hb⟩
  have HB5 := Lib.hid (below_on HB4.out hb)
  clear hb
  go_wp2
  go_ret
  exact ⟨rfl, HB5.out⟩
end Go.Proofs.Ytjmenekhdkpaaaa
