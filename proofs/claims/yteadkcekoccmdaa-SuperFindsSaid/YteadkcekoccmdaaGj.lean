/-
  How an argument Geo reads. No condition.
-/
import Derived.Test.YteadkcekoccmdaaGa
import Derived.ProofKit
import Derived.OpenShut
import Derived.Carry
import Derived.Deep.Slices
namespace Go.Proofs.Yteadkcekoccmdaa
open Go.ChangeShapes Go.WideShapes Go.ChangeAt Go.RowKit Go.Deep

theorem laid_out : laidOutB Try.prog = true := by kernel_rfl
theorem cells24 : Try.prog.cellsOf 26 = 3 := by kernel_rfl

theorem open_geo {H : Type} {enc : TypeId × Value → H} {W : World} {base : Nat} {v : Value} {d : DataW H} {p : List MemPlace}
    (hv : Value.okWide Try.prog W .any base 26 v) (h : DataW.Trod enc Try.prog W 0 (fun _ => true) true 26 v d p) :
    ∃ g : Gd, v = .agg #[.int .i64 g.t, .int .i64 g.s, .int .i64 g.k] := by
  obtain ⟨cs, rfl, hsz⟩ := okWide_struct Try.underlying26 hv
  rw [cells24] at hsz
  obtain ⟨fuel, hf⟩ := h
  obtain ⟨xs, n, _, _, hlen, hxs, hg⟩ := DataW.trod_struct Try.underlying26 hf
  obtain ⟨l⟩ := cs
  replace hsz : l.length = 3 := by simpa using hsz
  match l, hsz with
  | [c0, c1, c2], _ =>
    match xs, hxs with
    | [y0, y1, y2], _ =>
      have f0 := hg 0 _ rfl
      have f1 := hg 1 _ rfl
      have f2 := hg 2 _ rfl
      simp only [List.getElem?_cons_zero, List.getElem?_cons_succ] at f0 f1 f2
      obtain ⟨a, e0, _⟩ := DataW.trod_int Try.underlying3 f0
      obtain ⟨b, e1, _⟩ := DataW.trod_int Try.underlying3 f1
      obtain ⟨c, e2, _⟩ := DataW.trod_int Try.underlying3 f2
      injection e0 with e0
      injection e1 with e1
      injection e2 with e2
      exact ⟨⟨a, b, c⟩, by rw [e0, e1, e2]⟩
end Go.Proofs.Yteadkcekoccmdaa
