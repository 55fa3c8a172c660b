/-
  How an argument that is a call reads, its ways' room told, too. No condition.
-/
import Derived.Test.YtfoklgenpafciaaA2
import Derived.Test.YtfoklgenpafciaaB1
namespace Go.Proofs.Ytfoklgenpafciaa
open Go.ChangeShapes Go.WideShapes Go.ChangeAt Go.RowKit Go.Deep

theorem cellsL : Try.prog.cellsOf 33 = 1 := by kernel_rfl
theorem cellsP : Try.prog.cellsOf 35 = 1 := by kernel_rfl
theorem cellsCl : Try.prog.cellsOf 51 = 6 := by kernel_rfl
section
variable {H : Type} {enc : TypeId × Value → H} {W : World} {base : Nat} {sp : Nat → Bool} {hd : Bool} {n : Nat} {x : DataW H × List MemPlace}
set_option maxRecDepth 100000 in
theorem ints_of {v : Value} (h : DataW.trod enc Try.prog W 0 sp hd n 33 [v] = some x) : ∃ (A : Option Addr) (cap : Nat) (l : List Int), v = .slice A l.length cap ∧ l.length ≤ cap ∧ IntsAt W W.heap.size A l := by
  rcases open_slice Try.underlying33 h with ⟨hcs, _⟩ | ⟨a, len, cap, m, k, D, Pl, hcs, _, hl, hm, hmm, _, hx⟩
  · injection hcs with hcs
    exact ⟨none, 0, [], hcs, Nat.le_refl _, fun h => absurd h (by simp)⟩
  · injection hcs with hcs
    have hlm : len ≤ m := by rw [hmm]; split <;> omega
    obtain ⟨f, hfa⟩ := choose_lt (α := Int) (p := fun i (z : Int) => W.cell? ((a.add (i * 1)).add 0) = some (.int .i64 z)) (fun i (hi : i < len) => by
      obtain ⟨cs', h1, h2⟩ := hx i (by omega)
      rw [cellsI] at h1
      obtain ⟨_, _, hat⟩ := World.cells?_some h1
      obtain ⟨z, rfl, _⟩ := DataW.trod_int Try.underlying3 h2
      exact ⟨z, hat 0 (by omega)⟩)
    have hlen : ((List.range len).map f).length = len := by simp
    refine ⟨some a, cap, (List.range len).map f, by rw [hlen]; exact hcs, by rw [hlen]; exact hl, fun h0 => ?_⟩
    rw [hlen] at h0
    obtain ⟨b, o, spot⟩ := a
    have hspot : spot = none := by simpa [Addr.add] using World.cell?_spot (hfa 0 h0)
    subst hspot
    have hblt : b < W.heap.size := by
      have := World.block_lt_of_cell? W _ (hfa 0 h0)
      simpa [Addr.add] using this
    refine ⟨b, o, rfl, hblt, fun j c hc => ?_⟩
    have hj : j < len := by
      have := (List.getElem?_eq_some_iff.1 hc).1
      rwa [hlen] at this
    have hcf : c = f j := by
      rw [List.getElem?_map, List.getElem?_range hj] at hc
      simpa using hc.symm
    subst hcf
    have h3 := hfa j hj
    simp only [Addr.add_mid, Nat.add_zero, Nat.mul_one] at h3
    exact h3
set_option maxRecDepth 100000 in
theorem path_of {v : Value} (h : DataW.trod enc Try.prog W 0 sp hd n 35 [v] = some x) : ∃ (A : Option Addr) (cap : Nat) (l : List Int), v = .slice A l.length cap ∧ l.length ≤ cap ∧ IntsAt W W.heap.size A l := by
  obtain ⟨xs, m, _, _, hlen, hxs, hf⟩ := DataW.trod_struct Try.underlying35 h
  match xs, hxs with
  | [y0], _ =>
    have f0 : DataW.trod enc Try.prog W 0 sp hd m 33 (List.take (Try.prog.cellsOf 33) [v]) = some y0 := hf 0 _ rfl
    rw [cellsL] at f0
    exact ints_of (show DataW.trod enc Try.prog W 0 sp hd m 33 [v] = some y0 from f0)
end
set_option maxRecDepth 100000 in
theorem open_ccall {H : Type} {enc : TypeId × Value → H} {W : World} {base : Nat} {v : Value} {d : DataW H} {p : List MemPlace}
    (hv : Value.okWide Try.prog W .any base 51 v) (h : DataW.Trod enc Try.prog W 0 (fun _ => true) true 51 v d p) :
    ∃ (o : Int) (A : Option Addr) (ca : Nat) (a : List Int) (B : Option Addr) (cb : Nat) (b : List Int) (x y : Int) (z : Nat), v = .agg #[.int .i64 o, .slice A a.length ca, .slice B b.length cb, .int .i64 x, .int .i64 y, .int .u64 (z : Int)] ∧ a.length ≤ ca ∧ IntsAt W W.heap.size A a ∧ b.length ≤ cb ∧ IntsAt W W.heap.size B b := by
  obtain ⟨cs, rfl, hsz⟩ := okWide_struct Try.underlying51 hv
  rw [cellsCl] at hsz
  obtain ⟨fuel, hf⟩ := h
  obtain ⟨xs, n, _, _, hlen, hxs, hg⟩ := DataW.trod_struct Try.underlying51 hf
  obtain ⟨l⟩ := cs
  replace hsz : l.length = 6 := by simpa using hsz
  match l, hsz with
  | [c0, c1, c2, c3, c4, c5], _ =>
    match xs, hxs with
    | [y0, y1, y2, y3, y4, y5], _ =>
      have f0 : DataW.trod enc Try.prog W 0 (fun _ => true) true n 3 (List.take (Try.prog.cellsOf 3) [c0, c1, c2, c3, c4, c5]) = some y0 := hg 0 _ rfl
      have f1 : DataW.trod enc Try.prog W 0 (fun _ => true) true n 35 (List.take (Try.prog.cellsOf 35) [c1, c2, c3, c4, c5]) = some y1 := hg 1 _ rfl
      have f2 : DataW.trod enc Try.prog W 0 (fun _ => true) true n 35 (List.take (Try.prog.cellsOf 35) [c2, c3, c4, c5]) = some y2 := hg 2 _ rfl
      have f3 : DataW.trod enc Try.prog W 0 (fun _ => true) true n 3 (List.take (Try.prog.cellsOf 3) [c3, c4, c5]) = some y3 := hg 3 _ rfl
      have f4 : DataW.trod enc Try.prog W 0 (fun _ => true) true n 3 (List.take (Try.prog.cellsOf 3) [c4, c5]) = some y4 := hg 4 _ rfl
      have f5 : DataW.trod enc Try.prog W 0 (fun _ => true) true n 42 (List.take (Try.prog.cellsOf 42) [c5]) = some y5 := hg 5 _ rfl
      rw [cellsI] at f0 f3 f4
      rw [cellsP] at f1 f2
      rw [cellsU] at f5
      obtain ⟨o, rfl⟩ := int_of (show DataW.trod enc Try.prog W 0 (fun _ => true) true n 3 [c0] = some y0 from f0)
      obtain ⟨A, ca, a, rfl, h1c, h1⟩ := path_of (show DataW.trod enc Try.prog W 0 (fun _ => true) true n 35 [c1] = some y1 from f1)
      obtain ⟨B, cb, b, rfl, h2c, h2⟩ := path_of (show DataW.trod enc Try.prog W 0 (fun _ => true) true n 35 [c2] = some y2 from f2)
      obtain ⟨x, rfl⟩ := int_of (show DataW.trod enc Try.prog W 0 (fun _ => true) true n 3 [c3] = some y3 from f3)
      obtain ⟨y, rfl⟩ := int_of (show DataW.trod enc Try.prog W 0 (fun _ => true) true n 3 [c4] = some y4 from f4)
      obtain ⟨z, rfl⟩ := uint_of (show DataW.trod enc Try.prog W 0 (fun _ => true) true n 42 [c5] = some y5 from f5)
      exact ⟨o, A, ca, a, B, cb, b, x, y, z, rfl, h1c, h1, h2c, h2⟩
end Go.Proofs.Ytfoklgenpafciaa
