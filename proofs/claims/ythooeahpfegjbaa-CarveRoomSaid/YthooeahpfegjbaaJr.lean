/-
  How an argument that is a state reads; a Geo. No condition.
-/
import Derived.Test.YthooeahpfegjbaaJo
import Derived.ProofKit
import Derived.OpenShut
import Derived.Carry
import Derived.Deep.Slices
namespace Go.Proofs.Ythooeahpfegjbaa
open Go.ChangeShapes Go.WideShapes Go.ChangeAt Go.RowKit Go.Deep

instance : Inhabited Sl := ⟨.zero⟩
instance : Inhabited Tng := ⟨.zero⟩
theorem laid_out : laidOutB Try.prog = true := by kernel_rfl
theorem cellsI : Try.prog.cellsOf 3 = 1 := by kernel_rfl
theorem cellsB : Try.prog.cellsOf 4 = 1 := by kernel_rfl
theorem cellsU : Try.prog.cellsOf 42 = 1 := by kernel_rfl
theorem cellsD : Try.prog.cellsOf 43 = 4 := by kernel_rfl
theorem cellsC : Try.prog.cellsOf 39 = 4 := by kernel_rfl
theorem cellsS : Try.prog.cellsOf 41 = 5 := by kernel_rfl
theorem cellsT : Try.prog.cellsOf 45 = 13 := by kernel_rfl
theorem cellsG : Try.prog.cellsOf 24 = 3 := by kernel_rfl
theorem cellsZ : Try.prog.cellsOf 28 = 5 := by kernel_rfl
theorem cellsSs : Try.prog.cellsOf 25 = 1 := by kernel_rfl
theorem cellsTs : Try.prog.cellsOf 26 = 1 := by kernel_rfl
section
variable {H : Type} {enc : TypeId × Value → H} {W : World} {base : Nat} {sp : Nat → Bool} {hd : Bool} {n : Nat} {x : DataW H × List MemPlace}
set_option maxRecDepth 100000 in
theorem int_of {c : Value} (h : DataW.trod enc Try.prog W base sp hd n 3 [c] = some x) : ∃ a : Int, c = .int .i64 a := by
  obtain ⟨a, e, _⟩ := DataW.trod_int Try.underlying3 h
  injection e with e
  exact ⟨a, e⟩
set_option maxRecDepth 100000 in
theorem uint_of {c : Value} (h : DataW.trod enc Try.prog W base sp hd n 42 [c] = some x) : ∃ q : Nat, c = .int .u64 (q : Int) := by
  obtain ⟨z, e, _, hw⟩ := DataW.trod_int Try.underlying42 h
  injection e with e
  have g : IntKind.u64.min ≤ z ∧ z ≤ IntKind.u64.max := by simpa [Lit.wf] using hw
  have e1 : IntKind.u64.min = 0 := by decide
  rw [e1] at g
  exact ⟨z.toNat, by rw [e, Int.toNat_of_nonneg g.1]⟩
set_option maxRecDepth 100000 in
theorem cap_of {cs : List Value} (h : DataW.trod enc Try.prog W base sp hd n 39 cs = some x) : ∃ c : Cp, cs = [.int .i64 c.ty, .int .i64 c.th, .int .i64 c.ri, .int .i64 c.ba] := by
  obtain ⟨xs, m, _, _, hlen, hxs, hf⟩ := DataW.trod_struct Try.underlying39 h
  rw [cellsC] at hlen
  match cs, hlen with
  | [c0, c1, c2, c3], _ =>
    match xs, hxs with
    | [y0, y1, y2, y3], _ =>
      have f0 : DataW.trod enc Try.prog W base sp hd m 3 (List.take (Try.prog.cellsOf 3) [c0, c1, c2, c3]) = some y0 := hf 0 _ rfl
      rw [cellsI] at f0
      have k0 : DataW.trod enc Try.prog W base sp hd m 3 [c0] = some y0 := f0
      obtain ⟨a0, rfl⟩ := int_of k0
      have f1 : DataW.trod enc Try.prog W base sp hd m 3 (List.take (Try.prog.cellsOf 3) [c1, c2, c3]) = some y1 := hf 1 _ rfl
      rw [cellsI] at f1
      have k1 : DataW.trod enc Try.prog W base sp hd m 3 [c1] = some y1 := f1
      obtain ⟨a1, rfl⟩ := int_of k1
      have f2 : DataW.trod enc Try.prog W base sp hd m 3 (List.take (Try.prog.cellsOf 3) [c2, c3]) = some y2 := hf 2 _ rfl
      rw [cellsI] at f2
      have k2 : DataW.trod enc Try.prog W base sp hd m 3 [c2] = some y2 := f2
      obtain ⟨a2, rfl⟩ := int_of k2
      have f3 : DataW.trod enc Try.prog W base sp hd m 3 (List.take (Try.prog.cellsOf 3) [c3]) = some y3 := hf 3 _ rfl
      rw [cellsI] at f3
      have k3 : DataW.trod enc Try.prog W base sp hd m 3 [c3] = some y3 := f3
      obtain ⟨a3, rfl⟩ := int_of k3
      exact ⟨⟨a0, a1, a2, a3⟩, rfl⟩
set_option maxRecDepth 100000 in
theorem geo_of {cs : List Value} (h : DataW.trod enc Try.prog W base sp hd n 24 cs = some x) : ∃ g : Gd, cs = [.int .i64 g.t, .int .i64 g.s, .int .i64 g.k] := by
  obtain ⟨xs, m, _, _, hlen, hxs, hf⟩ := DataW.trod_struct Try.underlying24 h
  rw [cellsG] at hlen
  match cs, hlen with
  | [c0, c1, c2], _ =>
    match xs, hxs with
    | [y0, y1, y2], _ =>
      have f0 : DataW.trod enc Try.prog W base sp hd m 3 (List.take (Try.prog.cellsOf 3) [c0, c1, c2]) = some y0 := hf 0 _ rfl
      rw [cellsI] at f0
      have k0 : DataW.trod enc Try.prog W base sp hd m 3 [c0] = some y0 := f0
      obtain ⟨a0, rfl⟩ := int_of k0
      have f1 : DataW.trod enc Try.prog W base sp hd m 3 (List.take (Try.prog.cellsOf 3) [c1, c2]) = some y1 := hf 1 _ rfl
      rw [cellsI] at f1
      have k1 : DataW.trod enc Try.prog W base sp hd m 3 [c1] = some y1 := f1
      obtain ⟨a1, rfl⟩ := int_of k1
      have f2 : DataW.trod enc Try.prog W base sp hd m 3 (List.take (Try.prog.cellsOf 3) [c2]) = some y2 := hf 2 _ rfl
      rw [cellsI] at f2
      have k2 : DataW.trod enc Try.prog W base sp hd m 3 [c2] = some y2 := f2
      obtain ⟨a2, rfl⟩ := int_of k2
      exact ⟨⟨a0, a1, a2⟩, rfl⟩
set_option maxRecDepth 100000 in
theorem slot_of {cs : List Value} (h : DataW.trod enc Try.prog W base sp hd n 41 cs = some x) : ∃ x : Sl, cs = slist x := by
  obtain ⟨xs, m, _, _, hlen, hxs, hf⟩ := DataW.trod_struct Try.underlying41 h
  rw [cellsS] at hlen
  match cs, hlen with
  | [c0, c1, c2, c3, c4], _ =>
    match xs, hxs with
    | [y0, y1], _ =>
      have f0 : DataW.trod enc Try.prog W base sp hd m 39 (List.take (Try.prog.cellsOf 39) [c0, c1, c2, c3, c4]) = some y0 := hf 0 _ rfl
      rw [cellsC] at f0
      have k0 : DataW.trod enc Try.prog W base sp hd m 39 [c0, c1, c2, c3] = some y0 := f0
      obtain ⟨p, hp⟩ := cap_of k0
      injection hp with p0 hp
      injection hp with p1 hp
      injection hp with p2 hp
      injection hp with p3 hp
      subst p0 p1 p2 p3
      have f1 : DataW.trod enc Try.prog W base sp hd m 3 (List.take (Try.prog.cellsOf 3) [c4]) = some y1 := hf 1 _ rfl
      rw [cellsI] at f1
      have k1 : DataW.trod enc Try.prog W base sp hd m 3 [c4] = some y1 := f1
      obtain ⟨a1, rfl⟩ := int_of k1
      exact ⟨⟨p, a1⟩, rfl⟩
set_option maxRecDepth 100000 in
theorem fourw_of {c0 c1 c2 c3 : Value} (h : DataW.trod enc Try.prog W base sp hd n 43 [c0, c1, c2, c3] = some x) : ∃ a b c d : Nat, [c0, c1, c2, c3] = [.int .u64 (a : Int), .int .u64 (b : Int), .int .u64 (c : Int), .int .u64 (d : Int)] := by
  obtain ⟨xs, m, _, _, hlen, hxs, hf⟩ := DataW.trod_array Try.underlying43 h
  match xs, hxs with
  | [y0, y1, y2, y3], _ =>
    have f0 : DataW.trod enc Try.prog W base sp hd m 42 (List.take (Try.prog.cellsOf 42) (List.drop (0 * Try.prog.cellsOf 42) [c0, c1, c2, c3])) = some y0 := hf 0 (by decide)
    have f1 : DataW.trod enc Try.prog W base sp hd m 42 (List.take (Try.prog.cellsOf 42) (List.drop (1 * Try.prog.cellsOf 42) [c0, c1, c2, c3])) = some y1 := hf 1 (by decide)
    have f2 : DataW.trod enc Try.prog W base sp hd m 42 (List.take (Try.prog.cellsOf 42) (List.drop (2 * Try.prog.cellsOf 42) [c0, c1, c2, c3])) = some y2 := hf 2 (by decide)
    have f3 : DataW.trod enc Try.prog W base sp hd m 42 (List.take (Try.prog.cellsOf 42) (List.drop (3 * Try.prog.cellsOf 42) [c0, c1, c2, c3])) = some y3 := hf 3 (by decide)
    rw [cellsU] at f0 f1 f2 f3
    obtain ⟨a, rfl⟩ := uint_of (show DataW.trod enc Try.prog W base sp hd m 42 [c0] = some y0 from f0)
    obtain ⟨b, rfl⟩ := uint_of (show DataW.trod enc Try.prog W base sp hd m 42 [c1] = some y1 from f1)
    obtain ⟨c, rfl⟩ := uint_of (show DataW.trod enc Try.prog W base sp hd m 42 [c2] = some y2 from f2)
    obtain ⟨d, rfl⟩ := uint_of (show DataW.trod enc Try.prog W base sp hd m 42 [c3] = some y3 from f3)
    exact ⟨a, b, c, d, rfl⟩
set_option maxRecDepth 100000 in
theorem thing_of {cs : List Value} (h : DataW.trod enc Try.prog W base sp hd n 45 cs = some x) : ∃ t : Tng, cs = thist t := by
  obtain ⟨xs, m, _, _, hlen, hxs, hf⟩ := DataW.trod_struct Try.underlying45 h
  rw [cellsT] at hlen
  match cs, hlen with
  | [c0, c1, c2, c3, c4, c5, c6, c7, c8, c9, c10, c11, c12], _ =>
    match xs, hxs with
    | [y0, y1, y2, y3, y4, y5, y6, y7, y8, y9], _ =>
      have f0 : DataW.trod enc Try.prog W base sp hd m 3 (List.take (Try.prog.cellsOf 3) [c0, c1, c2, c3, c4, c5, c6, c7, c8, c9, c10, c11, c12]) = some y0 := hf 0 _ rfl
      rw [cellsI] at f0
      have k0 : DataW.trod enc Try.prog W base sp hd m 3 [c0] = some y0 := f0
      obtain ⟨a0, rfl⟩ := int_of k0
      have f1 : DataW.trod enc Try.prog W base sp hd m 3 (List.take (Try.prog.cellsOf 3) [c1, c2, c3, c4, c5, c6, c7, c8, c9, c10, c11, c12]) = some y1 := hf 1 _ rfl
      rw [cellsI] at f1
      have k1 : DataW.trod enc Try.prog W base sp hd m 3 [c1] = some y1 := f1
      obtain ⟨a1, rfl⟩ := int_of k1
      have f2 : DataW.trod enc Try.prog W base sp hd m 3 (List.take (Try.prog.cellsOf 3) [c2, c3, c4, c5, c6, c7, c8, c9, c10, c11, c12]) = some y2 := hf 2 _ rfl
      rw [cellsI] at f2
      have k2 : DataW.trod enc Try.prog W base sp hd m 3 [c2] = some y2 := f2
      obtain ⟨a2, rfl⟩ := int_of k2
      have f3 : DataW.trod enc Try.prog W base sp hd m 3 (List.take (Try.prog.cellsOf 3) [c3, c4, c5, c6, c7, c8, c9, c10, c11, c12]) = some y3 := hf 3 _ rfl
      rw [cellsI] at f3
      have k3 : DataW.trod enc Try.prog W base sp hd m 3 [c3] = some y3 := f3
      obtain ⟨a3, rfl⟩ := int_of k3
      have f4 : DataW.trod enc Try.prog W base sp hd m 3 (List.take (Try.prog.cellsOf 3) [c4, c5, c6, c7, c8, c9, c10, c11, c12]) = some y4 := hf 4 _ rfl
      rw [cellsI] at f4
      have k4 : DataW.trod enc Try.prog W base sp hd m 3 [c4] = some y4 := f4
      obtain ⟨a4, rfl⟩ := int_of k4
      have f5 : DataW.trod enc Try.prog W base sp hd m 3 (List.take (Try.prog.cellsOf 3) [c5, c6, c7, c8, c9, c10, c11, c12]) = some y5 := hf 5 _ rfl
      rw [cellsI] at f5
      have k5 : DataW.trod enc Try.prog W base sp hd m 3 [c5] = some y5 := f5
      obtain ⟨a5, rfl⟩ := int_of k5
      have f6 : DataW.trod enc Try.prog W base sp hd m 3 (List.take (Try.prog.cellsOf 3) [c6, c7, c8, c9, c10, c11, c12]) = some y6 := hf 6 _ rfl
      rw [cellsI] at f6
      have k6 : DataW.trod enc Try.prog W base sp hd m 3 [c6] = some y6 := f6
      obtain ⟨a6, rfl⟩ := int_of k6
      have f7 : DataW.trod enc Try.prog W base sp hd m 4 (List.take (Try.prog.cellsOf 4) [c7, c8, c9, c10, c11, c12]) = some y7 := hf 7 _ rfl
      rw [cellsB] at f7
      have k7 : DataW.trod enc Try.prog W base sp hd m 4 [c7] = some y7 := f7
      obtain ⟨a7, e7, _⟩ := DataW.trod_bool Try.underlying4 k7
      injection e7 with e7
      subst e7
      have f8 : DataW.trod enc Try.prog W base sp hd m 42 (List.take (Try.prog.cellsOf 42) [c8, c9, c10, c11, c12]) = some y8 := hf 8 _ rfl
      rw [cellsU] at f8
      have k8 : DataW.trod enc Try.prog W base sp hd m 42 [c8] = some y8 := f8
      obtain ⟨a8, rfl⟩ := uint_of k8
      have f9 : DataW.trod enc Try.prog W base sp hd m 43 (List.take (Try.prog.cellsOf 43) [c9, c10, c11, c12]) = some y9 := hf 9 _ rfl
      rw [cellsD] at f9
      have k9 : DataW.trod enc Try.prog W base sp hd m 43 [c9, c10, c11, c12] = some y9 := f9
      obtain ⟨d0, d1, d2, d3, hp⟩ := fourw_of k9
      injection hp with p0 hp
      injection hp with p1 hp
      injection hp with p2 hp
      injection hp with p3 hp
      subst p0 p1 p2 p3
      exact ⟨⟨a0, a1, a2, a3, a4, a5, a6, a7, a8, d0, d1, d2, d3⟩, rfl⟩
set_option maxRecDepth 100000 in
theorem slots_of {fuel : Nat} {v : Value} (h : DataW.trod enc Try.prog W 0 sp hd fuel 25 [v] = some x) : ∃ (A : Option Addr) (cap : Nat) (l : List Sl), v = .slice A l.length cap ∧ l.length ≤ cap ∧ l.length ≤ maxLen ∧ SlotsAt W W.heap.size A l := by
  rcases open_slice Try.underlying25 h with ⟨hcs, _⟩ | ⟨a, len, cap, m, k, D, Pl, hcs, _, hl, hm, hmm, _, hx⟩
  · injection hcs with hcs
    exact ⟨none, 0, [], hcs, Nat.le_refl _, Nat.zero_le _, fun h => absurd h (by simp)⟩
  · injection hcs with hcs
    have hlm : len ≤ m := by rw [hmm]; split <;> omega
    obtain ⟨f, hfa⟩ := choose_lt (α := Sl) (p := fun i (c : Sl) => ∀ j, j < 5 → W.cell? ((a.add (i * 5)).add j) = (slist c)[j]?) (fun i (hi : i < len) => by
      obtain ⟨cs', h1, h2⟩ := hx i (by omega)
      rw [cellsS] at h1
      obtain ⟨_, _, hat⟩ := World.cells?_some h1
      obtain ⟨c, rfl⟩ := slot_of h2
      exact ⟨c, fun j hj => hat j hj⟩)
    have hlen : ((List.range len).map f).length = len := by simp
    refine ⟨some a, cap, (List.range len).map f, by rw [hlen]; exact hcs, by rw [hlen]; exact hl, by rw [hlen]; omega, fun h0 => ?_⟩
    rw [hlen] at h0
    obtain ⟨b, o, spot⟩ := a
    have hc0 : W.cell? (((⟨b, o, spot⟩ : Addr).add (0 * 5)).add 0) = some ((.int .i64 (f 0).c.ty)) := hfa 0 h0 0 (by omega)
    have hspot : spot = none := by simpa [Addr.add] using World.cell?_spot hc0
    subst hspot
    have hblt : b < W.heap.size := by
      have := World.block_lt_of_cell? W _ hc0
      simpa [Addr.add] using this
    refine ⟨b, o, rfl, hblt, fun j hj => ?_⟩
    rw [hlen] at hj
    rw [slAt_range f hj]
    have h3 := hfa j hj
    simp only [Addr.add_mid] at h3
    exact ⟨h3 0 (by omega), h3 1 (by omega), h3 2 (by omega), h3 3 (by omega), h3 4 (by omega)⟩
set_option maxRecDepth 100000 in
theorem things_of {fuel : Nat} {v : Value} (h : DataW.trod enc Try.prog W 0 sp hd fuel 26 [v] = some x) : ∃ (A : Option Addr) (cap : Nat) (l : List Tng), v = .slice A l.length cap ∧ l.length ≤ cap ∧ l.length ≤ maxLen ∧ ThingsAt W W.heap.size A l := by
  rcases open_slice Try.underlying26 h with ⟨hcs, _⟩ | ⟨a, len, cap, m, k, D, Pl, hcs, _, hl, hm, hmm, _, hx⟩
  · injection hcs with hcs
    exact ⟨none, 0, [], hcs, Nat.le_refl _, Nat.zero_le _, fun h => absurd h (by simp)⟩
  · injection hcs with hcs
    have hlm : len ≤ m := by rw [hmm]; split <;> omega
    obtain ⟨f, hfa⟩ := choose_lt (α := Tng) (p := fun i (c : Tng) => ∀ j, j < 13 → W.cell? ((a.add (i * 13)).add j) = (thist c)[j]?) (fun i (hi : i < len) => by
      obtain ⟨cs', h1, h2⟩ := hx i (by omega)
      rw [cellsT] at h1
      obtain ⟨_, _, hat⟩ := World.cells?_some h1
      obtain ⟨c, rfl⟩ := thing_of h2
      exact ⟨c, fun j hj => hat j hj⟩)
    have hlen : ((List.range len).map f).length = len := by simp
    refine ⟨some a, cap, (List.range len).map f, by rw [hlen]; exact hcs, by rw [hlen]; exact hl, by rw [hlen]; omega, fun h0 => ?_⟩
    rw [hlen] at h0
    obtain ⟨b, o, spot⟩ := a
    have hc0 : W.cell? (((⟨b, o, spot⟩ : Addr).add (0 * 13)).add 0) = some ((.int .i64 (f 0).ty)) := hfa 0 h0 0 (by omega)
    have hspot : spot = none := by simpa [Addr.add] using World.cell?_spot hc0
    subst hspot
    have hblt : b < W.heap.size := by
      have := World.block_lt_of_cell? W _ hc0
      simpa [Addr.add] using this
    refine ⟨b, o, rfl, hblt, fun j hj => ?_⟩
    rw [hlen] at hj
    rw [thAt_range f hj]
    have h3 := hfa j hj
    simp only [Addr.add_mid] at h3
    exact ⟨h3 0 (by omega), h3 1 (by omega), h3 2 (by omega), h3 3 (by omega), h3 4 (by omega), h3 5 (by omega), h3 6 (by omega), h3 7 (by omega), h3 8 (by omega), h3 9 (by omega), h3 10 (by omega), h3 11 (by omega), h3 12 (by omega)⟩
end

set_option maxRecDepth 100000 in
theorem open_state {H : Type} {enc : TypeId × Value → H} {W : World} {base : Nat} {v : Value} {d : DataW H} {p : List MemPlace}
    (hv : Value.okWide Try.prog W .any base 28 v) (h : DataW.Trod enc Try.prog W 0 (fun _ => true) true 28 v d p) :
    ∃ (s : St) (A : Option Addr) (ca : Nat) (C : Option Addr) (cc : Nat), v = .agg #[.int .i64 s.g.t, .int .i64 s.g.s, .int .i64 s.g.k, .slice A s.sl.length ca, .slice C s.th.length cc] ∧ s.sl.length ≤ ca ∧ s.th.length ≤ cc ∧ s.sl.length ≤ maxLen ∧ s.th.length ≤ maxLen ∧ StAt W s A C := by
  obtain ⟨cs, rfl, hsz⟩ := okWide_struct Try.underlying28 hv
  rw [cellsZ] at hsz
  obtain ⟨fuel, hf⟩ := h
  obtain ⟨xs, n, _, _, hlen, hxs, hg⟩ := DataW.trod_struct Try.underlying28 hf
  obtain ⟨l⟩ := cs
  replace hsz : l.length = 5 := by simpa using hsz
  match l, hsz with
  | [c0, c1, c2, c3, c4], _ =>
    match xs, hxs with
    | [y0, y1, y2], _ =>
      have f0 : DataW.trod enc Try.prog W 0 (fun _ => true) true n 24 (List.take (Try.prog.cellsOf 24) [c0, c1, c2, c3, c4]) = some y0 := hg 0 _ rfl
      have f1 : DataW.trod enc Try.prog W 0 (fun _ => true) true n 25 (List.take (Try.prog.cellsOf 25) [c3, c4]) = some y1 := hg 1 _ rfl
      have f2 : DataW.trod enc Try.prog W 0 (fun _ => true) true n 26 (List.take (Try.prog.cellsOf 26) [c4]) = some y2 := hg 2 _ rfl
      rw [cellsG] at f0
      rw [cellsSs] at f1
      rw [cellsTs] at f2
      obtain ⟨g, hgd⟩ := geo_of (show DataW.trod enc Try.prog W 0 (fun _ => true) true n 24 [c0, c1, c2] = some y0 from f0)
      obtain ⟨A, ca, sl, rfl, h1, h2, h3⟩ := slots_of (show DataW.trod enc Try.prog W 0 (fun _ => true) true n 25 [c3] = some y1 from f1)
      obtain ⟨C, cc, th, rfl, q1, q2, q3⟩ := things_of (show DataW.trod enc Try.prog W 0 (fun _ => true) true n 26 [c4] = some y2 from f2)
      injection hgd with e0 hgd
      injection hgd with e1 hgd
      injection hgd with e2 _
      subst e0 e1 e2
      exact ⟨⟨g, sl, th⟩, A, ca, C, cc, rfl, h1, q1, h2, q2, h3, q3⟩
set_option maxRecDepth 100000 in
theorem open_geo {H : Type} {enc : TypeId × Value → H} {W : World} {base : Nat} {v : Value} {d : DataW H} {p : List MemPlace}
    (hv : Value.okWide Try.prog W .any base 24 v) (h : DataW.Trod enc Try.prog W 0 (fun _ => true) true 24 v d p) :
    ∃ g : Gd, v = .agg #[.int .i64 g.t, .int .i64 g.s, .int .i64 g.k] := by
  obtain ⟨cs, rfl, hsz⟩ := okWide_struct Try.underlying24 hv
  obtain ⟨fuel, hf⟩ := h
  obtain ⟨l⟩ := cs
  obtain ⟨g, hg⟩ := geo_of (show DataW.trod enc Try.prog W 0 (fun _ => true) true fuel 24 l = some (d, p) from hf)
  exact ⟨g, by rw [hg]⟩
end Go.Proofs.Ythooeahpfegjbaa
