/-
  The program's five calls answer as told. Condition: the words lie in memory.
-/
import Derived.Test.YtglibcmlophieaaOj
import Derived.Test.YtglibcmlophieaaOe
namespace Go.Proofs.Ytglibcmlophieaa
open Go.RowKit

theorem eight_ofp {l : List Nat} (h : l.length = 8) : ∃ a e x d0 d1 d2 d3 z, l = [a, e, x, d0, d1, d2, d3, z] := by
  match l, h with
  | [a, e, x, d0, d1, d2, d3, z], _ => exact ⟨a, e, x, d0, d1, d2, d3, z, rfl⟩
theorem pget_is {A : Option Addr} {n cap : Nat} {l : List Nat} {w : World} (hn : n = l.length) (hc : n ≤ cap) (hW : WordsAt w w.heap.size A l) (hz : ∀ z ∈ l, z < 18446744073709551616) {r : Option Tng} (hr : tget l = r) :
    Calls Try.prog 13 #[.slice A n cap] w fun e w' => e = .returned (tv r) ∧ Below w.heap.size w w' := by
  subst hn hr
  by_cases h8 : l.length = 8
  · obtain ⟨a, e, x, d0, d1, d2, d3, z, rfl⟩ := eight_ofp h8
    obtain ⟨b, o, rfl, hlt, hcs⟩ := hW (by simp)
    have hc3 : ¬ cap = 3 := by
      have : 8 ≤ cap := hc
      omega
    have ha : a ≤ top := by
      have := hz a (by simp)
      unfold top
      omega
    have he : e ≤ top := by
      have := hz e (by simp)
      unfold top
      omega
    rw [tget_code ha he]
    have hcells := And.intro (hcs 0 _ rfl) (And.intro (hcs 1 _ rfl) (And.intro (hcs 2 _ rfl) (And.intro (hcs 3 _ rfl) (And.intro (hcs 4 _ rfl) (And.intro (hcs 5 _ rfl) (And.intro (hcs 6 _ rfl) (hcs 7 _ rfl)))))))
    by_cases h : z = 0 ∧ rest a smallf = 0 ∧ rest e largef = 0
    · rw [if_pos h]
      exact get_all hcells hlt h.1 ha he h.2.1 h.2.2 rfl hc3
    · rw [if_neg h]
      by_cases h0 : z = 0
      · by_cases h1 : rest a smallf = 0
        · exact get_beside2 hcells hlt h0 ha he h1 rfl (fun h2 => h ⟨h0, h1, h2⟩)
        · exact get_beside hcells hlt h0 ha rfl h1
      · exact get_last hcells hlt h0
  · have e : tget l = none := by rw [tget, if_neg (fun h => h8 h.1)]
    rw [e]
    exact get_len (by omega)
theorem pcost_any {k s : Int} {w : World} {r : Option Int} (hr : tcost k s = r) : Calls Try.prog 11 #[.int .i64 k, .int .i64 s] w fun e w' => e = .returned (cv r) ∧ Below w.heap.size w w' := by
  refine (pcost_is hr).mono ?_
  rintro e w' ⟨rfl, rfl⟩
  exact ⟨rfl, below_self _⟩
theorem cot : Cot where
  good := goodt_any
  put := putt_any
  get := fun hn hc _ hW hz _ hr => pget_is hn hc hW hz hr
  cost := pcost_any
  new := pnewt_is
end Go.Proofs.Ytglibcmlophieaa
