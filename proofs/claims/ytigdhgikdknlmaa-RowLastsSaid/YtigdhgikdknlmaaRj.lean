/-
  How an argument that is a list of acts reads: cells of acts. No condition.
-/
import Derived.Test.YtigdhgikdknlmaaRh
import Derived.ProofKit
import Derived.OpenShut
import Derived.Carry
import Derived.Deep.Slices
namespace Go.Proofs.Ytigdhgikdknlmaa
open Go.ChangeShapes Go.WideShapes Go.ChangeAt Go.RowKit Go.Deep

instance : Inhabited Ac := ⟨⟨0, 0, 0⟩⟩

theorem laid_out : laidOutB Try.prog = true := by kernel_rfl
theorem cells35 : Try.prog.cellsOf 35 = 3 := by kernel_rfl

/-- three cells that read as an act are an act's -/
theorem act_of {H : Type} {enc : TypeId × Value → H} {W : World} {base : Nat} {sp : Nat → Bool} {hd : Bool} {n : Nat} {cs : List Value} {x : DataW H × List MemPlace}
    (h : DataW.trod enc Try.prog W base sp hd n 35 cs = some x) : ∃ a : Ac, cs = [.int .i64 a.op, .int .i64 a.at_, .int .u64 a.v] := by
  obtain ⟨xs, m, _, _, hlen, hxs, hf⟩ := DataW.trod_struct Try.underlying35 h
  rw [cells35] at hlen
  match cs, hlen with
  | [c0, c1, c2], _ =>
    match xs, hxs with
    | [y0, y1, y2], _ =>
      have f0 := hf 0 _ rfl
      have f1 := hf 1 _ rfl
      have f2 := hf 2 _ rfl
      simp only [List.getElem?_cons_zero, List.getElem?_cons_succ] at f0 f1 f2
      obtain ⟨p, e0, _⟩ := DataW.trod_int Try.underlying3 f0
      obtain ⟨q, e1, _⟩ := DataW.trod_int Try.underlying3 f1
      obtain ⟨r, e2, _⟩ := DataW.trod_int Try.underlying24 f2
      injection e0 with e0
      injection e1 with e1
      injection e2 with e2
      exact ⟨⟨p, q, r⟩, by rw [e0, e1, e2]⟩

theorem open_acts {H : Type} {enc : TypeId × Value → H} {W : World} {base : Nat} {v : Value} {d : DataW H} {p : List MemPlace}
    (hv : Value.okWide Try.prog W .any base 31 v) (h : DataW.Trod enc Try.prog W 0 (fun _ => true) true 31 v d p) :
    ∃ (A : Option Addr) (cap : Nat) (l : List Ac), v = .slice A l.length cap ∧ l.length ≤ maxLen ∧ ActsAt W W.heap.size A l := by
  obtain ⟨a0, len, cap, rfl⟩ := okWide_slice Try.underlying31 hv
  obtain ⟨fuel, hf⟩ := h
  rcases open_slice Try.underlying31 hf with ⟨hcs, _⟩ | ⟨a, len', cap', m, n, D, Pl, hcs, _, hl, hm, hmm, _, hx⟩
  · simp [Value.cells] at hcs
    obtain ⟨rfl, rfl, rfl⟩ := hcs
    exact ⟨none, 0, [], rfl, Nat.zero_le _, fun h => absurd h (by simp)⟩
  · simp [Value.cells] at hcs
    obtain ⟨rfl, rfl, rfl⟩ := hcs
    have hlm : len ≤ m := by rw [hmm]; simpa using hl
    obtain ⟨f, hfa⟩ := choose_lt (α := Ac) (p := fun i (c : Ac) => W.cell? ((a.add (i * 3)).add 0) = some (.int .i64 c.op) ∧ W.cell? ((a.add (i * 3)).add 1) = some (.int .i64 c.at_) ∧ W.cell? ((a.add (i * 3)).add 2) = some (.int .u64 c.v)) (fun i (hi : i < len) => by
      obtain ⟨cs', h1, h2⟩ := hx i (by omega)
      rw [cells35] at h1
      obtain ⟨_, _, hat⟩ := World.cells?_some h1
      obtain ⟨c, rfl⟩ := act_of h2
      exact ⟨c, hat 0 (by omega), hat 1 (by omega), hat 2 (by omega)⟩)
    have hlen : ((List.range len).map f).length = len := by simp
    refine ⟨some a, cap, (List.range len).map f, by rw [hlen], by omega, fun h0 => ?_⟩
    rw [hlen] at h0
    obtain ⟨b, o, spot⟩ := a
    have hspot : spot = none := by simpa [Addr.add] using World.cell?_spot (hfa 0 h0).1
    subst hspot
    have hblt : b < W.heap.size := by
      have := World.block_lt_of_cell? W _ (hfa 0 h0).1
      simpa [Addr.add] using this
    refine ⟨b, o, rfl, hblt, fun j c hc => ?_⟩
    have hj : j < len := by
      have := (List.getElem?_eq_some_iff.1 hc).1
      rwa [hlen] at this
    have hcf : c = f j := by
      rw [List.getElem?_map, List.getElem?_range hj] at hc
      simpa using hc.symm
    subst hcf
    have h3 := hfa j hj
    simp only [add_plain, Nat.add_zero] at h3
    exact h3
end Go.Proofs.Ytigdhgikdknlmaa
