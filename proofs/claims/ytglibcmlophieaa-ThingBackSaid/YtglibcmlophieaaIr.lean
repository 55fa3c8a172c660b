/-
  How arguments read: things, lists of words. No condition.
-/
import Derived.Test.YtglibcmlophieaaIk
import Derived.ProofKit
import Derived.OpenShut
import Derived.Carry
import Derived.Deep.Slices
namespace Go.Proofs.Ytglibcmlophieaa
open Go.ChangeShapes Go.WideShapes Go.ChangeAt Go.RowKit Go.Deep

theorem laid_out : laidOutB Try.prog = true := by kernel_rfl
theorem u64_range {a : Int} (h : (Lit.int .u64 a).wf = true) : 0 ≤ a ∧ a < 18446744073709551616 := by
  have g : IntKind.u64.min ≤ a ∧ a ≤ IntKind.u64.max := by simpa [Lit.wf] using h
  have e1 : IntKind.u64.min = 0 := by decide
  have e2 : IntKind.u64.max = 18446744073709551615 := by decide
  rw [e1, e2] at g
  omega
theorem cells3 : Try.prog.cellsOf 3 = 1 := by kernel_rfl
theorem cells4 : Try.prog.cellsOf 4 = 1 := by kernel_rfl
theorem cellsU : Try.prog.cellsOf 23 = 1 := by kernel_rfl
theorem cellsD : Try.prog.cellsOf 24 = 4 := by kernel_rfl
theorem cellsT : Try.prog.cellsOf 26 = 13 := by kernel_rfl
/-- a cell that reads as a word is one -/
theorem word_of {H : Type} {enc : TypeId × Value → H} {W : World} {sp : Nat → Bool} {hd : Bool} {n : Nat} {c : Value} {x : DataW H × List MemPlace}
    (h : DataW.trod enc Try.prog W 0 sp hd n 23 [c] = some x) : ∃ q : Nat, c = .int .u64 (q : Int) ∧ q < 18446744073709551616 := by
  obtain ⟨z, e, _, hw⟩ := DataW.trod_int Try.underlying23 h
  injection e with e
  have := u64_range hw
  exact ⟨z.toNat, by rw [e, Int.toNat_of_nonneg this.1], by omega⟩
theorem four_of {H : Type} {enc : TypeId × Value → H} {W : World} {sp : Nat → Bool} {hd : Bool} {n : Nat} {c0 c1 c2 c3 : Value} {x : DataW H × List MemPlace}
    (h : DataW.trod enc Try.prog W 0 sp hd n 24 [c0, c1, c2, c3] = some x) : ∃ a b c d : Nat, [c0, c1, c2, c3] = [.int .u64 (a : Int), .int .u64 (b : Int), .int .u64 (c : Int), .int .u64 (d : Int)] ∧ a < 18446744073709551616 ∧ b < 18446744073709551616 ∧ c < 18446744073709551616 ∧ d < 18446744073709551616 := by
  obtain ⟨xs, m, _, _, hlen, hxs, hf⟩ := DataW.trod_array Try.underlying24 h
  match xs, hxs with
  | [y0, y1, y2, y3], _ =>
    have f0 : DataW.trod enc Try.prog W 0 sp hd m 23 (List.take (Try.prog.cellsOf 23) (List.drop (0 * Try.prog.cellsOf 23) [c0, c1, c2, c3])) = some y0 := hf 0 (by decide)
    have f1 : DataW.trod enc Try.prog W 0 sp hd m 23 (List.take (Try.prog.cellsOf 23) (List.drop (1 * Try.prog.cellsOf 23) [c0, c1, c2, c3])) = some y1 := hf 1 (by decide)
    have f2 : DataW.trod enc Try.prog W 0 sp hd m 23 (List.take (Try.prog.cellsOf 23) (List.drop (2 * Try.prog.cellsOf 23) [c0, c1, c2, c3])) = some y2 := hf 2 (by decide)
    have f3 : DataW.trod enc Try.prog W 0 sp hd m 23 (List.take (Try.prog.cellsOf 23) (List.drop (3 * Try.prog.cellsOf 23) [c0, c1, c2, c3])) = some y3 := hf 3 (by decide)
    rw [cellsU] at f0 f1 f2 f3
    obtain ⟨a, rfl, ha⟩ := word_of (show DataW.trod enc Try.prog W 0 sp hd m 23 [c0] = some y0 from f0)
    obtain ⟨b, rfl, hb⟩ := word_of (show DataW.trod enc Try.prog W 0 sp hd m 23 [c1] = some y1 from f1)
    obtain ⟨c, rfl, hc⟩ := word_of (show DataW.trod enc Try.prog W 0 sp hd m 23 [c2] = some y2 from f2)
    obtain ⟨d, rfl, hd⟩ := word_of (show DataW.trod enc Try.prog W 0 sp hd m 23 [c3] = some y3 from f3)
    exact ⟨a, b, c, d, rfl, ha, hb, hc, hd⟩
theorem open_thing {H : Type} {enc : TypeId × Value → H} {W : World} {base : Nat} {v : Value} {d : DataW H} {p : List MemPlace}
    (hv : Value.okWide Try.prog W .any base 26 v) (h : DataW.Trod enc Try.prog W 0 (fun _ => true) true 26 v d p) :
    ∃ t : Tng, v = t.val ∧ Wide t := by
  obtain ⟨cs, rfl, hsz⟩ := okWide_struct Try.underlying26 hv
  rw [cellsT] at hsz
  obtain ⟨fuel, hf⟩ := h
  obtain ⟨xs, n, _, _, hlen, hxs, hg⟩ := DataW.trod_struct Try.underlying26 hf
  obtain ⟨l⟩ := cs
  replace hsz : l.length = 13 := by simpa using hsz
  match l, hsz with
  | [c0, c1, c2, c3, c4, c5, c6, c7, c8, c9, c10, c11, c12], _ =>
    match xs, hxs with
    | [y0, y1, y2, y3, y4, y5, y6, y7, y8, y9], _ =>
      have f0 : DataW.trod enc Try.prog W 0 (fun _ => true) true n 3 (List.take (Try.prog.cellsOf 3) [c0, c1, c2, c3, c4, c5, c6, c7, c8, c9, c10, c11, c12]) = some y0 := hg 0 _ rfl
      rw [cells3] at f0
      obtain ⟨a0, e0, _⟩ := DataW.trod_int Try.underlying3 (show DataW.trod enc Try.prog W 0 (fun _ => true) true n 3 [c0] = some (y0.1, y0.2) from f0)
      injection e0 with e0
      have f1 : DataW.trod enc Try.prog W 0 (fun _ => true) true n 3 (List.take (Try.prog.cellsOf 3) [c1, c2, c3, c4, c5, c6, c7, c8, c9, c10, c11, c12]) = some y1 := hg 1 _ rfl
      rw [cells3] at f1
      obtain ⟨a1, e1, _⟩ := DataW.trod_int Try.underlying3 (show DataW.trod enc Try.prog W 0 (fun _ => true) true n 3 [c1] = some (y1.1, y1.2) from f1)
      injection e1 with e1
      have f2 : DataW.trod enc Try.prog W 0 (fun _ => true) true n 3 (List.take (Try.prog.cellsOf 3) [c2, c3, c4, c5, c6, c7, c8, c9, c10, c11, c12]) = some y2 := hg 2 _ rfl
      rw [cells3] at f2
      obtain ⟨a2, e2, _⟩ := DataW.trod_int Try.underlying3 (show DataW.trod enc Try.prog W 0 (fun _ => true) true n 3 [c2] = some (y2.1, y2.2) from f2)
      injection e2 with e2
      have f3 : DataW.trod enc Try.prog W 0 (fun _ => true) true n 3 (List.take (Try.prog.cellsOf 3) [c3, c4, c5, c6, c7, c8, c9, c10, c11, c12]) = some y3 := hg 3 _ rfl
      rw [cells3] at f3
      obtain ⟨a3, e3, _⟩ := DataW.trod_int Try.underlying3 (show DataW.trod enc Try.prog W 0 (fun _ => true) true n 3 [c3] = some (y3.1, y3.2) from f3)
      injection e3 with e3
      have f4 : DataW.trod enc Try.prog W 0 (fun _ => true) true n 3 (List.take (Try.prog.cellsOf 3) [c4, c5, c6, c7, c8, c9, c10, c11, c12]) = some y4 := hg 4 _ rfl
      rw [cells3] at f4
      obtain ⟨a4, e4, _⟩ := DataW.trod_int Try.underlying3 (show DataW.trod enc Try.prog W 0 (fun _ => true) true n 3 [c4] = some (y4.1, y4.2) from f4)
      injection e4 with e4
      have f5 : DataW.trod enc Try.prog W 0 (fun _ => true) true n 3 (List.take (Try.prog.cellsOf 3) [c5, c6, c7, c8, c9, c10, c11, c12]) = some y5 := hg 5 _ rfl
      rw [cells3] at f5
      obtain ⟨a5, e5, _⟩ := DataW.trod_int Try.underlying3 (show DataW.trod enc Try.prog W 0 (fun _ => true) true n 3 [c5] = some (y5.1, y5.2) from f5)
      injection e5 with e5
      have f6 : DataW.trod enc Try.prog W 0 (fun _ => true) true n 3 (List.take (Try.prog.cellsOf 3) [c6, c7, c8, c9, c10, c11, c12]) = some y6 := hg 6 _ rfl
      rw [cells3] at f6
      obtain ⟨a6, e6, _⟩ := DataW.trod_int Try.underlying3 (show DataW.trod enc Try.prog W 0 (fun _ => true) true n 3 [c6] = some (y6.1, y6.2) from f6)
      injection e6 with e6
      have f7 : DataW.trod enc Try.prog W 0 (fun _ => true) true n 4 (List.take (Try.prog.cellsOf 4) [c7, c8, c9, c10, c11, c12]) = some y7 := hg 7 _ rfl
      rw [cells4] at f7
      obtain ⟨b7, e7, _⟩ := DataW.trod_bool Try.underlying4 (show DataW.trod enc Try.prog W 0 (fun _ => true) true n 4 [c7] = some (y7.1, y7.2) from f7)
      injection e7 with e7
      have f8 : DataW.trod enc Try.prog W 0 (fun _ => true) true n 23 (List.take (Try.prog.cellsOf 23) [c8, c9, c10, c11, c12]) = some y8 := hg 8 _ rfl
      rw [cellsU] at f8
      obtain ⟨a8, e8, w8⟩ := word_of (show DataW.trod enc Try.prog W 0 (fun _ => true) true n 23 [c8] = some y8 from f8)
      have f9 : DataW.trod enc Try.prog W 0 (fun _ => true) true n 24 (List.take (Try.prog.cellsOf 24) [c9, c10, c11, c12]) = some y9 := hg 9 _ rfl
      rw [cellsD] at f9
      obtain ⟨d0, d1, d2, d3, e9, q0, q1, q2, q3⟩ := four_of (show DataW.trod enc Try.prog W 0 (fun _ => true) true n 24 [c9, c10, c11, c12] = some y9 from f9)
      injection e9 with e9 e9t
      injection e9t with e10 e10t
      injection e10t with e11 e11t
      injection e11t with e12 _
      exact ⟨⟨a0, a1, a2, a3, a4, a5, a6, b7, a8, d0, d1, d2, d3⟩, by rw [e0, e1, e2, e3, e4, e5, e6, e7, e8, e9, e10, e11, e12]; rfl, ⟨w8, q0, q1, q2, q3⟩⟩
theorem open_twords {H : Type} {enc : TypeId × Value → H} {W : World} {base : Nat} {v : Value} {d : DataW H} {p : List MemPlace}
    (hv : Value.okWide Try.prog W .any base 29 v) (h : DataW.Trod enc Try.prog W 0 (fun _ => true) true 29 v d p) :
    ∃ (A : Option Addr) (cap : Nat) (l : List Nat), v = .slice A l.length cap ∧ l.length ≤ cap ∧ WordsAt W W.heap.size A l ∧ ∀ z ∈ l, z < 18446744073709551616 := by
  obtain ⟨a0, len, cap, rfl⟩ := okWide_slice Try.underlying29 hv
  obtain ⟨fuel, hf⟩ := h
  rcases open_ints Try.underlying29 Try.underlying23 cellsU hf with ⟨hcs, _⟩ | ⟨a, len', cap', zs, hcs, _, hl, hm, hz, _, hcell, hwz⟩
  · simp [Value.cells] at hcs
    obtain ⟨rfl, rfl, rfl⟩ := hcs
    exact ⟨none, 0, [], rfl, Nat.le_refl _, fun h => absurd h (by simp), fun x hx => by cases hx⟩
  · simp [Value.cells] at hcs
    obtain ⟨rfl, rfl, rfl⟩ := hcs
    simp only [if_true] at hz
    have hlen : ((zs.take len).map Int.toNat).length = len := by rw [List.length_map, List.length_take]; omega
    have hr : ∀ z ∈ zs.take len, 0 ≤ z ∧ z < 18446744073709551616 := fun z hx => u64_range (hwz z (List.mem_of_mem_take hx))
    refine ⟨some a, cap, (zs.take len).map Int.toNat, by rw [hlen], by omega, ?_, fun x hx => ?_⟩
    · intro h0
      rw [hlen] at h0
      have hc0 := hcell 0 (by omega)
      obtain ⟨b, o, spot⟩ := a
      have hspot : spot = none := by simpa [Addr.add] using World.cell?_spot hc0
      subst hspot
      refine ⟨b, o, rfl, ?_, fun j z hj => ?_⟩
      · have := World.block_lt_of_cell? W _ hc0
        simpa [Addr.add] using this
      · rw [List.getElem?_map, Option.map_eq_some_iff] at hj
        obtain ⟨y, hj, rfl⟩ := hj
        have hy := hr y (List.mem_of_getElem? hj)
        have hjl : j < len := by have := (List.getElem?_eq_some_iff.1 hj).1; rw [List.length_take] at this; omega
        have := hcell j (by omega)
        rw [Addr.add_mid] at this
        rw [this, Int.toNat_of_nonneg hy.1]
        rw [List.getElem?_take_of_lt hjl] at hj
        rw [List.getD, hj]
        rfl
    · obtain ⟨y, hy, rfl⟩ := List.mem_map.1 hx
      have := hr y hy
      omega
end Go.Proofs.Ytglibcmlophieaa
