/-
  How an argument of []uint64 reads, nil told apart, and the walk of the law GaussLong of reevelaw1 put together. No condition but that the arguments are lists of words.
-/
import Derived.Test.YtpbekngchhafcaaWp
namespace Go.Proofs.Ytpbekngchhafcaa
open Go.ChangeShapes Go.WideShapes Go.ChangeAt Go.RowKit

theorem open_list {H : Type} {enc : TypeId × Value → H} {W : World} {base : Nat} {v : Value} {d : DataW H} {p : List MemPlace}
    (hv : Value.okWide Try.prog W .any base 36 v) (h : DataW.Trod enc Try.prog W 0 (fun _ => true) true 36 v d p) :
    ∃ (A : Option Addr) (cap : Nat) (zs : List Int), v = .slice A zs.length cap ∧ zs.length ≤ maxLen ∧ Lies W W.heap.size A zs ∧ Wds zs ∧ (A = none → zs = [] ∧ cap = 0) := by
  obtain ⟨a0, len, cap, rfl⟩ := okWide_slice Try.underlying36 hv
  obtain ⟨A, c, zs, e, hl, hL, hW⟩ := open_words hv h
  refine ⟨A, c, zs, e, hl, hL, hW, ?_⟩
  rintro rfl
  have hz : zs = [] := by
    rcases zs with _ | ⟨x, r⟩
    · rfl
    · obtain ⟨ad, h1, _⟩ := hL (by simp)
      cases h1
  subst hz
  refine ⟨rfl, ?_⟩
  obtain ⟨fuel, hf⟩ := h
  rcases open_ints Try.underlying36 Try.underlying30 cells30 hf with ⟨hcs, _⟩ | ⟨a, len', cap', zs, hcs, _⟩
  · simp [Value.cells] at hcs
    simp at e
    omega
  · simp [Value.cells] at hcs
    obtain ⟨rfl, _⟩ := hcs
    simp at e

theorem long_walk (A B : Option Addr) (cap cap' : Nat) (zs ys : List Int) (w : World) (hl : zs.length ≤ maxLen) (hl' : ys.length ≤ maxLen) (hL : Lies w w.heap.size A zs) (hL' : Lies w w.heap.size B ys) (hW : Wds zs) (hW' : Wds ys)
    (hN : A = none → zs = [] ∧ cap = 0) (hN' : B = none → ys = [] ∧ cap' = 0) :
    Calls Try.prog 9 #[.slice A zs.length cap, .slice B ys.length cap'] w fun e w' => e = .returned (.bool true) ∧ Below w.heap.size w w' := by
  by_cases h : 60 < zs.length
  · exact long_far A B _ _ cap cap' hl hl' (.inl h) w
  by_cases h2 : 60 < ys.length
  · exact long_far A B _ _ cap cap' hl hl' (.inr ⟨h, h2⟩) w
  cases A with
  | none =>
    obtain ⟨rfl, rfl⟩ := hN rfl
    cases B with
    | none =>
      obtain ⟨rfl, rfl⟩ := hN' rfl
      exact long_nn w
    | some bd => exact long_ns w bd cap' ys (by omega) hL' hW'
  | some ad =>
    cases B with
    | none =>
      obtain ⟨rfl, rfl⟩ := hN' rfl
      exact long_sn w ad cap zs (by omega) hL hW
    | some bd => exact long_ss w ad cap zs (by omega) hL hW bd cap' ys (by omega) hL' hW'
end Go.Proofs.Ytpbekngchhafcaa
