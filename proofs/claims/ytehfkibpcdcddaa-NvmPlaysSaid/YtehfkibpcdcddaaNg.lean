/-
  The walk of the law's awake: it answers true. No condition.
-/
import Derived.Test.YtehfkibpcdcddaaNf
namespace Go.Proofs.Ytehfkibpcdcddaa
open Go.RowKit

theorem ints_none (w : World) (B : Nat) : IntsAt w B none [] := fun h => absurd h (by simp)

def w1 : Mm := ((fresh 2).store 9 7).2
def w2 : Mm := (w1.flush 1).2
def w3 : Mm := w2.fence.2
def w4 : Mm := w3.crash []
def w5 : Mm := w4.on

set_option maxRecDepth 100000 in
set_option maxHeartbeats 4000000 in
theorem awake_any (w : World) :
    Calls Try.prog 8 #[] w fun e w' => e = .returned (.bool true) ∧ Below w.heap.size w w' := by
  have a1 := Lib.hid (show ((fresh 2).store 9 7).1 = 0 from rfl)
  have a2 := Lib.hid (show (w1.flush 1).1 = 0 from rfl)
  have a3 := Lib.hid (show w2.fence.1 = 0 from rfl)
  have b1 := Lib.hid (show (w4.load 9).1 = 0 from rfl)
  have b2 := Lib.hid (show (w4.load 9).2 = 12 from rfl)
  have b3 := Lib.hid (show (w5.load 9).1 = 7 from rfl)
  have b4 := Lib.hid (show (w5.load 9).2 = 0 from rfl)
  have b5 := Lib.hid (show w5.n = 3 from rfl)
  go_enter Try.func8, Try.ntmps8
  go_wp2_with fail
  refine (new_any 2 (by omega) (by omega) w).mono ?_
  rintro e x0 ⟨rfl, hm, hs, hb⟩
  have B0 := Lib.hid hb
  have M0 := Lib.hid hm
  clear hs hm hb
  have R1 : Hid (w.heap.size ≤ w.heap.size + 1) := Lib.hid (by omega)
  obtain ⟨b, hbb⟩ : ∃ b, b = w.heap.size + 1 := ⟨_, rfl⟩
  obtain ⟨rb, hrb⟩ : ∃ rb, rb = w.heap.size := ⟨_, rfl⟩
  have HB1 : Hid (w.heap.size ≤ b) := Lib.hid (by omega)
  have HB2 : Hid (w.heap.size ≤ rb) := Lib.hid (by omega)
  generalize w.heap.size + 2 = F at M0
  rw [← hbb, ← hrb] at M0
  rw [← hbb]
  clear hbb hrb R1
  go_wp2_with (first
    | (go_at_call 12; refine (mstore_any b rb F _ 9 7 _ M0.out (by decide) (by decide)).mono ?_; rw [a1.out]; rintro e x1 ⟨rfl, hm, ho⟩; have M1 := Lib.hid hm; have O1 := Lib.hid ho; clear hm ho)
    | (go_at_call 13; refine (mflush_any b rb F w1 1 _ M1.out (by decide) (by decide)).mono ?_; rw [a2.out]; rintro e x2 ⟨rfl, hm, ho⟩; have M2 := Lib.hid hm; have O2 := Lib.hid ho; clear hm ho)
    | (go_at_call 29; refine (mfence_any b rb F w2 _ M2.out (by decide) (by decide)).mono ?_; rw [a3.out]; rintro e x3 ⟨rfl, hm, ho⟩; have M3 := Lib.hid hm; have O3 := Lib.hid ho; clear hm ho)
    | (go_at_call 19; refine (mcrash_any b rb F w3 none 0 [] _ M3.out (by decide) (ints_none _ _)).mono ?_; rintro e x4 ⟨rfl, hm, ho⟩; have M4 := Lib.hid hm; have O4 := Lib.hid ho; clear hm ho)
    | (go_at_call 18; refine (mon_any b rb F w4 _ M4.out).mono ?_; rintro e x5 ⟨rfl, hm, ho⟩; have M5 := Lib.hid hm; have O5 := Lib.hid ho; clear hm ho)
    | (go_at_call 20; refine (mload_any b rb F w5 9 _ M5.out).mono ?_; rw [b3.out, b4.out]; rintro e x6 ⟨rfl, rfl⟩)
    | (go_at_call 20; refine (mload_any b rb F w4 9 _ M4.out).mono ?_; rw [b1.out, b2.out]; rintro e x6 ⟨rfl, rfl⟩)
    | (go_at_call 24; refine (mcount_any b rb F w5 _ M5.out).mono ?_; rw [b5.out]; rintro e x6 ⟨rfl, rfl⟩))
  go_ret
  exact ⟨rfl, B0.out.trans (((((O1.out.trans O2.out).trans O3.out).trans O4.out).trans O5.out).below HB1.out HB2.out B0.out.size)⟩
end Go.Proofs.Ytehfkibpcdcddaa
