/-
  How an argument that is a call reads, a list of words; what the laid tables give. No condition.
-/
import Derived.Test.YtfcifheejjppfaaDoorAj
import Derived.ProofKit
import Derived.OpenShut
import Derived.Carry
import Derived.Deep.Slices
import Derived.LaidMore
import Derived.Stop.Joined
import Derived.Lib.LaidTab
import Derived.Stop.LaidErr
import Derived.Test.YtfcifheejjppfaaDoorRows
namespace Go.Proofs.YtfcifheejjppfaaDoor
open Go.ChangeShapes Go.WideShapes Go.ChangeAt Go.RowKit Go.Deep

theorem laid_out : laidOutB Tryd.prog = true := by kernel_rfl
theorem cellsI : Tryd.prog.cellsOf 3 = 1 := by kernel_rfl
theorem cellsU : Tryd.prog.cellsOf 27 = 1 := by kernel_rfl
theorem cellsL : Tryd.prog.cellsOf 23 = 1 := by kernel_rfl
theorem cellsP : Tryd.prog.cellsOf 25 = 1 := by kernel_rfl
theorem cellsC : Tryd.prog.cellsOf 29 = 6 := by kernel_rfl
section
variable {H : Type} {enc : TypeId × Value → H} {W : World} {base : Nat} {sp : Nat → Bool} {hd : Bool} {n : Nat} {x : DataW H × List MemPlace}
set_option maxRecDepth 100000 in
theorem int_of {c : Value} (h : DataW.trod enc Tryd.prog W base sp hd n 3 [c] = some x) : ∃ a : Int, c = .int .i64 a := by
  obtain ⟨a, e, _⟩ := DataW.trod_int Tryd.underlying3 h
  injection e with e
  exact ⟨a, e⟩
set_option maxRecDepth 100000 in
theorem uint_of {c : Value} (h : DataW.trod enc Tryd.prog W base sp hd n 27 [c] = some x) : ∃ q : Nat, c = .int .u64 (q : Int) ∧ q < 18446744073709551616 := by
  obtain ⟨z, e, _, hw⟩ := DataW.trod_int Tryd.underlying27 h
  injection e with e
  have g : IntKind.u64.min ≤ z ∧ z ≤ IntKind.u64.max := by simpa [Lit.wf] using hw
  have e1 : IntKind.u64.min = 0 := by decide
  have e2 : IntKind.u64.max = 18446744073709551615 := by decide
  rw [e1, e2] at g
  exact ⟨z.toNat, by rw [e, Int.toNat_of_nonneg g.1], by omega⟩
set_option maxRecDepth 100000 in
theorem ints_of {v : Value} (h : DataW.trod enc Tryd.prog W 0 sp hd n 23 [v] = some x) : ∃ (A : Option Addr) (cap : Nat) (l : List Int), v = .slice A l.length cap ∧ l.length ≤ cap ∧ IntsAt W W.heap.size A l := by
  rcases open_slice Tryd.underlying23 h with ⟨hcs, _⟩ | ⟨a, len, cap, m, k, D, Pl, hcs, _, hl, hm, hmm, _, hx⟩
  · injection hcs with hcs
    exact ⟨none, 0, [], hcs, Nat.le_refl _, fun h => absurd h (by simp)⟩
  · injection hcs with hcs
    have hlm : len ≤ m := by rw [hmm]; split <;> omega
    obtain ⟨f, hfa⟩ := choose_lt (α := Int) (p := fun i (z : Int) => W.cell? ((a.add (i * 1)).add 0) = some (.int .i64 z)) (fun i (hi : i < len) => by
      obtain ⟨cs', h1, h2⟩ := hx i (by omega)
      rw [cellsI] at h1
      obtain ⟨_, _, hat⟩ := World.cells?_some h1
      obtain ⟨z, rfl, _⟩ := DataW.trod_int Tryd.underlying3 h2
      exact ⟨z, hat 0 (by omega)⟩)
    have hlen : ((List.range len).map f).length = len := by simp
    refine ⟨some a, cap, (List.range len).map f, by rw [hlen]; exact hcs, by rw [hlen]; exact hl, fun h0 => ?_⟩
    rw [hlen] at h0
    obtain ⟨b, o, spot⟩ := a
    have hspot : spot = none := by simpa [Addr.add] using World.cell?_spot (hfa 0 h0)
    subst hspot
    have hblt : b < W.heap.size := by
      have := World.block_lt_of_cell? W _ (hfa 0 h0)
      simpa [Addr.add] using this
    refine ⟨b, o, rfl, hblt, fun j c hc => ?_⟩
    have hj : j < len := by
      have := (List.getElem?_eq_some_iff.1 hc).1
      rwa [hlen] at this
    have hcf : c = f j := by
      rw [List.getElem?_map, List.getElem?_range hj] at hc
      simpa using hc.symm
    subst hcf
    have h3 := hfa j hj
    simp only [Addr.add_mid, Nat.add_zero, Nat.mul_one] at h3
    exact h3
set_option maxRecDepth 100000 in
theorem nats_of {v : Value} (h : DataW.trod enc Tryd.prog W 0 sp hd n 32 [v] = some x) : ∃ (A : Option Addr) (cap : Nat) (l : List Nat), v = .slice A l.length cap ∧ Words W v (l.map fun (n : Nat) => (n : Int)) ∧ ∀ n ∈ l, n < 18446744073709551616 := by
  rcases open_slice Tryd.underlying32 h with ⟨hcs, _⟩ | ⟨a, len, cap, m, k, D, Pl, hcs, _, hl, hm, hmm, _, hx⟩
  · injection hcs with hcs
    subst hcs
    exact ⟨none, 0, [], rfl, words_none W 0, fun n hn => absurd hn (by simp)⟩
  · injection hcs with hcs
    have hlm : len ≤ m := by rw [hmm]; split <;> omega
    obtain ⟨f, hfa⟩ := choose_lt (α := Nat) (p := fun i (z : Nat) => W.cell? ((a.add (i * 1)).add 0) = some (.int .u64 (z : Int)) ∧ z < 18446744073709551616) (fun i (hi : i < len) => by
      obtain ⟨cs', h1, h2⟩ := hx i (by omega)
      rw [cellsU] at h1
      obtain ⟨hsz, _, hat⟩ := World.cells?_some h1
      match cs', hsz, hat, h2 with
      | [c0], _, hat, h2 =>
        obtain ⟨z, rfl, hz⟩ := uint_of h2
        exact ⟨z, hat 0 (by omega), hz⟩)
    have hlen : ((List.range len).map f).length = len := by simp
    refine ⟨some a, cap, (List.range len).map f, by rw [hlen]; exact hcs, ⟨some a, cap, by rw [List.length_map, hlen]; exact hcs, by rw [List.length_map, hlen]; exact hl, fun h0 => ?_⟩, fun n hn => ?_⟩
    · rw [List.length_map, hlen] at h0
      obtain ⟨b, o, spot⟩ := a
      have hspot : spot = none := by simpa [Addr.add] using World.cell?_spot (hfa 0 h0).1
      subst hspot
      have hblt : b < W.heap.size := by
        have := World.block_lt_of_cell? W _ (hfa 0 h0).1
        simpa [Addr.add] using this
      refine ⟨b, o, rfl, hblt, fun j c hc => ?_⟩
      have hj : j < len := by
        have := (List.getElem?_eq_some_iff.1 hc).1
        rwa [List.length_map, hlen] at this
      have hcf : c = (f j : Int) := by
        rw [List.getElem?_map, List.getElem?_map, List.getElem?_range hj] at hc
        simpa using hc.symm
      subst hcf
      have h3 := (hfa j hj).1
      simp only [Addr.add_mid, Nat.add_zero, Nat.mul_one] at h3
      exact h3
    · obtain ⟨i, hi, rfl⟩ := List.mem_map.1 hn
      exact (hfa i (List.mem_range.1 hi)).2
set_option maxRecDepth 100000 in
theorem path_of {v : Value} (h : DataW.trod enc Tryd.prog W 0 sp hd n 25 [v] = some x) : ∃ (A : Option Addr) (cap : Nat) (l : List Int), v = .slice A l.length cap ∧ l.length ≤ cap ∧ IntsAt W W.heap.size A l := by
  obtain ⟨xs, m, _, _, hlen, hxs, hf⟩ := DataW.trod_struct Tryd.underlying25 h
  match xs, hxs with
  | [y0], _ =>
    have f0 : DataW.trod enc Tryd.prog W 0 sp hd m 23 (List.take (Tryd.prog.cellsOf 23) [v]) = some y0 := hf 0 _ rfl
    rw [cellsL] at f0
    exact ints_of (show DataW.trod enc Tryd.prog W 0 sp hd m 23 [v] = some y0 from f0)
end
set_option maxRecDepth 100000 in
theorem open_call {H : Type} {enc : TypeId × Value → H} {W : World} {base : Nat} {v : Value} {d : DataW H} {p : List MemPlace}
    (hv : Value.okWide Tryd.prog W .any base 29 v) (h : DataW.Trod enc Tryd.prog W 0 (fun _ => true) true 29 v d p) :
    ∃ (o : Int) (A : Option Addr) (ca : Nat) (a : List Int) (B : Option Addr) (cb : Nat) (b : List Int) (x y : Int) (z : Nat), v = .agg #[.int .i64 o, .slice A a.length ca, .slice B b.length cb, .int .i64 x, .int .i64 y, .int .u64 (z : Int)] ∧ IntsAt W W.heap.size A a ∧ IntsAt W W.heap.size B b ∧ z < 18446744073709551616 := by
  obtain ⟨cs, rfl, hsz⟩ := okWide_struct Tryd.underlying29 hv
  rw [cellsC] at hsz
  obtain ⟨fuel, hf⟩ := h
  obtain ⟨xs, n, _, _, hlen, hxs, hg⟩ := DataW.trod_struct Tryd.underlying29 hf
  obtain ⟨l⟩ := cs
  replace hsz : l.length = 6 := by simpa using hsz
  match l, hsz with
  | [c0, c1, c2, c3, c4, c5], _ =>
    match xs, hxs with
    | [y0, y1, y2, y3, y4, y5], _ =>
      have f0 : DataW.trod enc Tryd.prog W 0 (fun _ => true) true n 3 (List.take (Tryd.prog.cellsOf 3) [c0, c1, c2, c3, c4, c5]) = some y0 := hg 0 _ rfl
      have f1 : DataW.trod enc Tryd.prog W 0 (fun _ => true) true n 25 (List.take (Tryd.prog.cellsOf 25) [c1, c2, c3, c4, c5]) = some y1 := hg 1 _ rfl
      have f2 : DataW.trod enc Tryd.prog W 0 (fun _ => true) true n 25 (List.take (Tryd.prog.cellsOf 25) [c2, c3, c4, c5]) = some y2 := hg 2 _ rfl
      have f3 : DataW.trod enc Tryd.prog W 0 (fun _ => true) true n 3 (List.take (Tryd.prog.cellsOf 3) [c3, c4, c5]) = some y3 := hg 3 _ rfl
      have f4 : DataW.trod enc Tryd.prog W 0 (fun _ => true) true n 3 (List.take (Tryd.prog.cellsOf 3) [c4, c5]) = some y4 := hg 4 _ rfl
      have f5 : DataW.trod enc Tryd.prog W 0 (fun _ => true) true n 27 (List.take (Tryd.prog.cellsOf 27) [c5]) = some y5 := hg 5 _ rfl
      rw [cellsI] at f0 f3 f4
      rw [cellsP] at f1 f2
      rw [cellsU] at f5
      obtain ⟨o, rfl⟩ := int_of (show DataW.trod enc Tryd.prog W 0 (fun _ => true) true n 3 [c0] = some y0 from f0)
      obtain ⟨A, ca, a, rfl, -, h1⟩ := path_of (show DataW.trod enc Tryd.prog W 0 (fun _ => true) true n 25 [c1] = some y1 from f1)
      obtain ⟨B, cb, b, rfl, -, h2⟩ := path_of (show DataW.trod enc Tryd.prog W 0 (fun _ => true) true n 25 [c2] = some y2 from f2)
      obtain ⟨x, rfl⟩ := int_of (show DataW.trod enc Tryd.prog W 0 (fun _ => true) true n 3 [c3] = some y3 from f3)
      obtain ⟨y, rfl⟩ := int_of (show DataW.trod enc Tryd.prog W 0 (fun _ => true) true n 3 [c4] = some y4 from f4)
      obtain ⟨z, rfl, hz⟩ := uint_of (show DataW.trod enc Tryd.prog W 0 (fun _ => true) true n 27 [c5] = some y5 from f5)
      exact ⟨o, A, ca, a, B, cb, b, x, y, z, rfl, h1, h2, hz⟩
theorem open_nats {H : Type} {enc : TypeId × Value → H} {W : World} {base : Nat} {v : Value} {d : DataW H} {p : List MemPlace}
    (hv : Value.okWide Tryd.prog W .any base 32 v) (h : DataW.Trod enc Tryd.prog W 0 (fun _ => true) true 32 v d p) : ∃ (A : Option Addr) (cap : Nat) (l : List Nat), v = .slice A l.length cap ∧ Words W (.slice A l.length cap) (l.map fun (n : Nat) => (n : Int)) ∧ ∀ n ∈ l, n < 18446744073709551616 := by
  obtain ⟨a0, len, cap, rfl⟩ := okWide_slice Tryd.underlying32 hv
  obtain ⟨fuel, hf⟩ := h
  obtain ⟨A, c, l, e, h1, h2⟩ := nats_of (v := .slice a0 len cap) (by simpa [Value.cells] using hf)
  exact ⟨A, c, l, e, e ▸ h1, h2⟩

/-- the tables that are laid -/
def laid3 : List (String × DataW Unit) := [("math/bits.deBruijn32tab", Rows.laid_math_bits_deBruijn32tab), ("math/bits.deBruijn64tab", Rows.laid_math_bits_deBruijn64tab), ("internal/strconv.uint64pow10", Rows.laid_internal_strconv_uint64pow10)]
/-- the door's own heap meets the condition -/
theorem door_met (os : Os) (args : Array Value) : laidMetH Tryd.prog laid3 ((World.doorLaid Tryd.prog 400 os).forCall (fun _ _ => 0) ⟨#[], args, []⟩).memory :=
  laidMetH_of_parts3 (fuel := 8) (laidMet_of_run' 8 (by kernel_rfl) (by kernel_rfl)) (by kernel_rfl) (by kernel_rfl)
theorem gT : Tryd.prog.globalNamed "internal/strconv.uint64pow10" = some 0 := by kernel_rfl
theorem gTType : (Tryd.prog.globals[0]?).map (·.type) = some 94 := by kernel_rfl
theorem tab_of_laid {W : World} (h : laidMetH Tryd.prog laid3 W) : Tab W := by
  rw [MakeChecks.laidMetH_plain _ _ _ (by kernel_rfl)] at h
  exact Lib.tabIs_of_head gT gTType Tryd.underlying94 Tryd.underlying27 (by kernel_rfl) (by kernel_rfl) (laidMet.tail (laidMet.tail h))
theorem own_knob : ownKnob Tryd.prog.godebug = none := by kernel_rfl
end Go.Proofs.YtfcifheejjppfaaDoor
