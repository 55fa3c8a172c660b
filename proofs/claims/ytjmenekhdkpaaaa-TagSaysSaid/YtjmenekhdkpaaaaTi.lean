/-
  How arguments read: a list of fields, a list of words. No condition.
-/
import Derived.Test.YtjmenekhdkpaaaaTh
import Derived.ProofKit
import Derived.OpenShut
import Derived.Carry
import Derived.Deep.Slices
namespace Go.Proofs.Ytjmenekhdkpaaaa
open Go.ChangeShapes Go.WideShapes Go.ChangeAt Go.RowKit Go.Deep

theorem laid_out : laidOutB Try.prog = true := by kernel_rfl
theorem cells24 : Try.prog.cellsOf 24 = 2 := by kernel_rfl
theorem cells27 : Try.prog.cellsOf 27 = 1 := by kernel_rfl

theorem words_of {H : Type} {enc : TypeId × Value → H} {W : World} {sp : Nat → Bool} {hd : Bool} {fuel : Nat} {c : Value} {x : DataW H × List MemPlace}
    (h : DataW.trod enc Try.prog W 0 sp hd fuel 31 [c] = some x) : ∃ (A : Option Addr) (cap : Nat) (l : List Nat), c = .slice A l.length cap ∧ l.length ≤ maxLen ∧ WordsAt W W.heap.size A l ∧ ∀ z ∈ l, z ≤ top := by
  rcases open_slice Try.underlying31 h with ⟨hcs, _⟩ | ⟨a, len', cap', m, n, D, Pl, hcs, _, hl, hm, hmm, _, hx⟩
  · simp at hcs
    subst hcs
    exact ⟨none, 0, [], rfl, Nat.zero_le _, fun h => absurd h (by simp), fun z hz => absurd hz (by simp)⟩
  · simp at hcs
    subst hcs
    have hlm : len' ≤ m := by rw [hmm]; split <;> omega
    obtain ⟨f, hfa⟩ := choose_lt (α := Nat) (p := fun i (z : Nat) => W.cell? ((a.add (i * 1)).add 0) = some (.int .u64 (z : Int)) ∧ z ≤ top) (fun i (hi : i < len') => by
      obtain ⟨cs', h1, h2⟩ := hx i (by omega)
      rw [cells27] at h1
      obtain ⟨_, _, hat⟩ := World.cells?_some h1
      obtain ⟨z, rfl, _, hw⟩ := DataW.trod_int Try.underlying27 h2
      obtain ⟨v, rfl, hv⟩ := word_of hw
      exact ⟨v, hat 0 (by omega), hv⟩)
    have hlen : ((List.range len').map f).length = len' := by simp
    refine ⟨some a, cap', (List.range len').map f, by rw [hlen], by omega, fun h0 => ?_, fun z hz => ?_⟩
    · rw [hlen] at h0
      obtain ⟨b, o, spot⟩ := a
      have hspot : spot = none := by simpa [Addr.add] using World.cell?_spot (hfa 0 h0).1
      subst hspot
      have hblt : b < W.heap.size := by
        have := World.block_lt_of_cell? W _ (hfa 0 h0).1
        simpa [Addr.add] using this
      refine ⟨b, o, rfl, hblt, fun j c hc => ?_⟩
      have hj : j < len' := by
        have := (List.getElem?_eq_some_iff.1 hc).1
        rwa [hlen] at this
      have hcf : c = f j := by
        rw [List.getElem?_map, List.getElem?_range hj] at hc
        simpa using hc.symm
      subst hcf
      have h3 := (hfa j hj).1
      simp only [add_plain, Nat.add_zero, Nat.mul_one] at h3
      exact h3
    · obtain ⟨j, hj, rfl⟩ := List.mem_map.1 hz
      exact (hfa j (List.mem_range.1 hj)).2
theorem open_words {H : Type} {enc : TypeId × Value → H} {W : World} {base : Nat} {v : Value} {d : DataW H} {p : List MemPlace}
    (hv : Value.okWide Try.prog W .any base 31 v) (h : DataW.Trod enc Try.prog W 0 (fun _ => true) true 31 v d p) :
    ∃ (A : Option Addr) (cap : Nat) (l : List Nat), v = .slice A l.length cap ∧ l.length ≤ maxLen ∧ WordsAt W W.heap.size A l ∧ ∀ z ∈ l, z ≤ top := by
  obtain ⟨a0, len, cap, rfl⟩ := okWide_slice Try.underlying31 hv
  obtain ⟨fuel, hf⟩ := h
  exact words_of (c := .slice a0 len cap) (by simpa [Value.cells] using hf)

/-- two cells that read as a field are a field's -/
theorem fd_of {H : Type} {enc : TypeId × Value → H} {W : World} {sp : Nat → Bool} {hd : Bool} {n : Nat} {cs : List Value} {x : DataW H × List MemPlace}
    (h : DataW.trod enc Try.prog W 0 sp hd n 24 cs = some x) : ∃ a : Fd, cs = [.int .i64 a.f, .int .i64 a.n] := by
  obtain ⟨xs, m, _, _, hlen, hxs, hf⟩ := DataW.trod_struct Try.underlying24 h
  rw [cells24] at hlen
  match cs, hlen with
  | [c0, c1], _ =>
    match xs, hxs with
    | [y0, y1], _ =>
      have f0 := hf 0 _ rfl
      have f1 := hf 1 _ rfl
      simp only [List.getElem?_cons_zero, List.getElem?_cons_succ] at f0 f1
      obtain ⟨p, e0, _⟩ := DataW.trod_int Try.underlying3 f0
      obtain ⟨q, e1, _⟩ := DataW.trod_int Try.underlying3 f1
      injection e0 with e0
      injection e1 with e1
      exact ⟨⟨p, q⟩, by rw [e0, e1]⟩

theorem open_fds {H : Type} {enc : TypeId × Value → H} {W : World} {base : Nat} {v : Value} {d : DataW H} {p : List MemPlace}
    (hv : Value.okWide Try.prog W .any base 25 v) (h : DataW.Trod enc Try.prog W 0 (fun _ => true) true 25 v d p) :
    ∃ (A : Option Addr) (cap : Nat) (l : List Fd), v = .slice A l.length cap ∧ l.length ≤ maxLen ∧ FdsAt W W.heap.size A l := by
  obtain ⟨a0, len, cap, rfl⟩ := okWide_slice Try.underlying25 hv
  obtain ⟨fuel, hf⟩ := h
  rcases open_slice Try.underlying25 hf with ⟨hcs, _⟩ | ⟨a, len', cap', m, n, D, Pl, hcs, _, hl, hm, hmm, _, hx⟩
  · simp [Value.cells] at hcs
    obtain ⟨rfl, rfl, rfl⟩ := hcs
    exact ⟨none, 0, [], rfl, Nat.zero_le _, fun h => absurd h (by simp)⟩
  · simp [Value.cells] at hcs
    obtain ⟨rfl, rfl, rfl⟩ := hcs
    have hlm : len ≤ m := by rw [hmm]; simpa using hl
    obtain ⟨f, hfa⟩ := choose_lt (α := Fd) (p := fun i (c : Fd) => W.cell? ((a.add (i * 2)).add 0) = some (.int .i64 c.f) ∧ W.cell? ((a.add (i * 2)).add 1) = some (.int .i64 c.n)) (fun i (hi : i < len) => by
      obtain ⟨cs', h1, h2⟩ := hx i (by omega)
      rw [cells24] at h1
      obtain ⟨_, _, hat⟩ := World.cells?_some h1
      obtain ⟨c, rfl⟩ := fd_of h2
      exact ⟨c, hat 0 (by omega), hat 1 (by omega)⟩)
    have hlen : ((List.range len).map f).length = len := by simp
    refine ⟨some a, cap, (List.range len).map f, by rw [hlen], by omega, fun h0 => ?_⟩
    rw [hlen] at h0
    obtain ⟨b, o, spot⟩ := a
    have hspot : spot = none := by simpa [Addr.add] using World.cell?_spot (hfa 0 h0).1
    subst hspot
    have hblt : b < W.heap.size := by
      have := World.block_lt_of_cell? W _ (hfa 0 h0).1
      simpa [Addr.add] using this
    refine ⟨b, o, rfl, hblt, fun j c hc => ?_⟩
    have hj : j < len := by
      have := (List.getElem?_eq_some_iff.1 hc).1
      rwa [hlen] at this
    have hcf : c = f j := by
      rw [List.getElem?_map, List.getElem?_range hj] at hc
      simpa using hc.symm
    subst hcf
    have h3 := hfa j hj
    simp only [add_plain, Nat.add_zero] at h3
    exact h3
end Go.Proofs.Ytjmenekhdkpaaaa
