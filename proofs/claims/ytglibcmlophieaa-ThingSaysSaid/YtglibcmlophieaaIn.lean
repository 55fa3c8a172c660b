/-
  The walk of the reference's GetThing, whatever the words. Condition: the words lie in memory.
-/
import Derived.Test.YtglibcmlophieaaIg
namespace Go.Proofs.Ytglibcmlophieaa
open Go.RowKit

set_option maxHeartbeats 2000000 in
theorem rget_short {A : Option Addr} {n cap : Nat} {w : World} (h : ¬ n = 8) : Calls Try.prog 14 #[.slice A n cap] w fun e w' => e = .returned (tv none) ∧ Below w.heap.size w w' := by
  have h8 : ¬ (n : Int) = 8 := by omega
  go_enter Try.func14, Try.ntmps14
  go_wp2
  go_returns
  exact ⟨rfl, below_alloc _ _⟩
theorem eight_of {l : List Nat} (h : l.length = 8) : ∃ a b x d0 d1 d2 d3 z, l = [a, b, x, d0, d1, d2, d3, z] := by
  match l, h with
  | [a, b, x, d0, d1, d2, d3, z], _ => exact ⟨a, b, x, d0, d1, d2, d3, z, rfl⟩
theorem tput_len (t : Tng) : tput t = [] ∨ (tput t).length = 8 := by
  unfold tput
  split
  · exact .inr rfl
  · exact .inl rfl
theorem tget_eq {l : List Nat} (h : l.length = 8) : (if tput (tof l) = l then some (tof l) else none) = tget l := by
  rcases hg : (tof l).good with _ | _
  · have h0 : tput (tof l) = [] := by rw [tput, hg]; rfl
    rw [h0, if_neg (fun e => by rw [← e] at h; simp at h), tget, if_neg (fun q => by rw [hg] at q; simp at q)]
  · have h0 : tput (tof l) = (tof l).words := by rw [tput, if_pos hg]
    rw [h0, tget]
    by_cases e : (tof l).words = l
    · rw [if_pos e, if_pos ⟨h, hg, e⟩]
    · rw [if_neg e, if_neg (fun q => e q.2.2)]
theorem rgett_is {A : Option Addr} {n cap : Nat} {l : List Nat} {r : Option Tng} {w : World} (hn : n = l.length) (hL : WordsAt w w.heap.size A l) (hT : ∀ z ∈ l, z < 18446744073709551616) (hr : tget l = r) :
    Calls Try.prog 14 #[.slice A n cap] w fun e w' => e = .returned (tv r) ∧ Below w.heap.size w w' := by
  by_cases h8 : n = 8
  · subst h8
    have hl := hn.symm
    have h1 := tget_eq hl
    rw [hr] at h1
    obtain ⟨a, b, x, d0, d1, d2, d3, z, rfl⟩ := eight_of hl
    obtain ⟨bk, o, rfl, _⟩ := hL (by simp)
    exact rget_walk rfl hL (parts_of (hT a (by simp)) (hT b (by simp)) x d0 d1 d2 d3) rfl (tput_len _) h1
  · have : r = none := by rw [← hr, tget, if_neg (fun q => h8 (hn.trans q.1))]
    subst this
    exact rget_short h8
end Go.Proofs.Ytglibcmlophieaa
