/-
  How an argument Super reads. No condition.
-/
import Derived.Test.YteadkcekoccmdaaGj
import Derived.Test.YteadkcekoccmdaaSb
namespace Go.Proofs.Yteadkcekoccmdaa
open Go.ChangeShapes Go.WideShapes Go.ChangeAt Go.RowKit Go.Deep

theorem u64_range {a : Int} (h : (Lit.int .u64 a).wf = true) : 0 ≤ a ∧ a < 18446744073709551616 := by
  have g : IntKind.u64.min ≤ a ∧ a ≤ IntKind.u64.max := by simpa [Lit.wf] using h
  have e1 : IntKind.u64.min = 0 := by decide
  have e2 : IntKind.u64.max = 18446744073709551615 := by decide
  rw [e1, e2] at g
  omega
theorem u16_range {a : Int} (h : (Lit.int .u16 a).wf = true) : 0 ≤ a ∧ a < 65536 := by
  have g : IntKind.u16.min ≤ a ∧ a ≤ IntKind.u16.max := by simpa [Lit.wf] using h
  have e1 : IntKind.u16.min = 0 := by decide
  have e2 : IntKind.u16.max = 65535 := by decide
  rw [e1, e2] at g
  omega
theorem cells28 : Try.prog.cellsOf 28 = 1 := by kernel_rfl
theorem cells3 : Try.prog.cellsOf 3 = 1 := by kernel_rfl
theorem cells30 : Try.prog.cellsOf 30 = 4 := by kernel_rfl

theorem open_super {H : Type} {enc : TypeId × Value → H} {W : World} {base : Nat} {v : Value} {d : DataW H} {p : List MemPlace}
    (hv : Value.okWide Try.prog W .any base 30 v) (h : DataW.Trod enc Try.prog W 0 (fun _ => true) true 30 v d p) :
    ∃ s : Sp, v = .agg #[.int .i64 s.g.t, .int .i64 s.g.s, .int .i64 s.g.k, .int .u64 s.b] ∧ 0 ≤ s.b ∧ s.b < 18446744073709551616 := by
  obtain ⟨cs, rfl, hsz⟩ := okWide_struct Try.underlying30 hv
  rw [cells30] at hsz
  obtain ⟨fuel, hf⟩ := h
  obtain ⟨xs, n, _, _, hlen, hxs, hg⟩ := DataW.trod_struct Try.underlying30 hf
  obtain ⟨l⟩ := cs
  replace hsz : l.length = 4 := by simpa using hsz
  match l, hsz with
  | [c0, c1, c2, c3], _ =>
    match xs, hxs with
    | [y0, y1], _ =>
      have f0 : DataW.trod enc Try.prog W 0 (fun _ => true) true n 26 (List.take (Try.prog.cellsOf 26) [c0, c1, c2, c3]) = some y0 := hg 0 _ rfl
      have f1 : DataW.trod enc Try.prog W 0 (fun _ => true) true n 28 (List.take (Try.prog.cellsOf 28) [c3]) = some y1 := hg 1 _ rfl
      rw [cells24] at f0
      rw [cells28] at f1
      obtain ⟨q, e3, _, hw⟩ := DataW.trod_int Try.underlying28 (show DataW.trod enc Try.prog W 0 (fun _ => true) true n 28 [c3] = some (y1.1, y1.2) from f1)
      injection e3 with e3
      obtain ⟨xs', n', _, _, _, hxs', hg'⟩ := DataW.trod_struct Try.underlying26 (show DataW.trod enc Try.prog W 0 (fun _ => true) true n 26 [c0, c1, c2] = some (y0.1, y0.2) from f0)
      match xs', hxs' with
      | [z0, z1, z2], _ =>
        have k0 : DataW.trod enc Try.prog W 0 (fun _ => true) true n' 3 (List.take (Try.prog.cellsOf 3) [c0, c1, c2]) = some z0 := hg' 0 _ rfl
        have k1 : DataW.trod enc Try.prog W 0 (fun _ => true) true n' 3 (List.take (Try.prog.cellsOf 3) [c1, c2]) = some z1 := hg' 1 _ rfl
        have k2 : DataW.trod enc Try.prog W 0 (fun _ => true) true n' 3 (List.take (Try.prog.cellsOf 3) [c2]) = some z2 := hg' 2 _ rfl
        rw [cells3] at k0 k1 k2
        obtain ⟨a, e0, _⟩ := DataW.trod_int Try.underlying3 (show DataW.trod enc Try.prog W 0 (fun _ => true) true n' 3 [c0] = some (z0.1, z0.2) from k0)
        obtain ⟨b, e1, _⟩ := DataW.trod_int Try.underlying3 (show DataW.trod enc Try.prog W 0 (fun _ => true) true n' 3 [c1] = some (z1.1, z1.2) from k1)
        obtain ⟨c, e2, _⟩ := DataW.trod_int Try.underlying3 (show DataW.trod enc Try.prog W 0 (fun _ => true) true n' 3 [c2] = some (z2.1, z2.2) from k2)
        injection e0 with e0
        injection e1 with e1
        injection e2 with e2
        exact ⟨⟨⟨a, b, c⟩, q⟩, by rw [e0, e1, e2, e3], u64_range hw⟩

theorem open_words {H : Type} {enc : TypeId × Value → H} {W : World} {base : Nat} {v : Value} {d : DataW H} {p : List MemPlace}
    (hv : Value.okWide Try.prog W .any base 23 v) (h : DataW.Trod enc Try.prog W 0 (fun _ => true) true 23 v d p) :
    ∃ (A : Option Addr) (cap : Nat) (zs : List Int), v = .slice A zs.length cap ∧ zs.length ≤ maxLen ∧ zs.length ≤ cap ∧ WordsAt W W.heap.size A zs ∧ Wds zs := by
  obtain ⟨a0, len, cap, rfl⟩ := okWide_slice Try.underlying23 hv
  obtain ⟨fuel, hf⟩ := h
  rcases open_ints Try.underlying23 Try.underlying28 cells28 hf with ⟨hcs, _⟩ | ⟨a, len', cap', zs, hcs, _, hl, hm, hz, _, hcell, hwz⟩
  · simp [Value.cells] at hcs
    obtain ⟨rfl, rfl, rfl⟩ := hcs
    exact ⟨none, 0, [], rfl, Nat.zero_le _, Nat.le_refl _, fun h => absurd h (by simp), fun x hx => by cases hx⟩
  · simp [Value.cells] at hcs
    obtain ⟨rfl, rfl, rfl⟩ := hcs
    simp only [if_true] at hz
    have hlen : (zs.take len).length = len := by rw [List.length_take]; omega
    refine ⟨some a, cap, zs.take len, by rw [hlen], by omega, by omega, ?_, fun x hx => u64_range (hwz x (List.mem_of_mem_take hx))⟩
    intro h0
    rw [hlen] at h0
    have hc0 := hcell 0 (by omega)
    obtain ⟨b, o, spot⟩ := a
    have hspot : spot = none := by simpa [Addr.add] using World.cell?_spot hc0
    subst hspot
    refine ⟨b, o, rfl, ?_, fun j z hj => ?_⟩
    · have := World.block_lt_of_cell? W _ hc0
      simpa [Addr.add] using this
    · have hjl : j < len := by have := (List.getElem?_eq_some_iff.1 hj).1; omega
      have := hcell j (by omega)
      rw [Addr.add_mid] at this
      rw [this]
      rw [List.getElem?_take_of_lt hjl] at hj
      rw [List.getD, hj]
      rfl
end Go.Proofs.Yteadkcekoccmdaa
