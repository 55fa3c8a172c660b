/-
  How arguments read: a list of acts, a list of whole numbers, a list of words. No condition.
-/
import Derived.Test.YtehfkibpcdcddaaNg
import Derived.ProofKit
import Derived.OpenShut
import Derived.Carry
import Derived.Deep.Slices
namespace Go.Proofs.Ytehfkibpcdcddaa
open Go.ChangeShapes Go.WideShapes Go.ChangeAt Go.RowKit Go.Deep

/-- words lie in a block below B -/
def WordsAt (w : World) (B : Nat) (A : Option Addr) (l : List Int) : Prop :=
  0 < l.length → ∃ b o, A = some ⟨b, o, none⟩ ∧ b < B ∧ ∀ (j : Nat) (z : Int), l[j]? = some z → w.cell? ⟨b, o + j, none⟩ = some (.int .u64 z)
theorem WordsAt.below {w w' : World} {B : Nat} {A : Option Addr} {l : List Int} (h : WordsAt w B A l) (hb : Below B w w') : WordsAt w' B A l := fun h0 => by
  obtain ⟨b, o, e, hlt, hc⟩ := h h0
  exact ⟨b, o, e, hlt, fun j a ha => by rw [hb.cell (p := ⟨b, _, none⟩) hlt]; exact hc j a ha⟩
theorem WordsAt.mono {w : World} {B B' : Nat} {A : Option Addr} {l : List Int} (h : WordsAt w B A l) (hB : B ≤ B') : WordsAt w B' A l := fun h0 => by
  obtain ⟨b, o, e, hlt, hc⟩ := h h0
  exact ⟨b, o, e, by omega, hc⟩

/-- an act of the laws: its kind, its place, its words, its list of lines -/
structure Ac where
  op : Int
  at_ : Int
  old : Int
  v : Int
  A : Option Addr
  cap : Nat
  keep : List Int
instance : Inhabited Ac := ⟨⟨0, 0, 0, 0, none, 0, []⟩⟩

def Ac.ok (a : Ac) : Prop := a.at_ ≤ 9223372036854775807 ∧ a.keep.length ≤ maxLen ∧ (a.A = none → a.cap = 0)
/-- acts lie in a block below B -/
def ActsAt (w : World) (B : Nat) (A : Option Addr) (l : List Ac) : Prop :=
  0 < l.length → ∃ b o, A = some ⟨b, o, none⟩ ∧ b < B ∧ ∀ j a, l[j]? = some a →
    w.cell? ⟨b, o + j * 5, none⟩ = some (.int .i64 a.op) ∧ w.cell? ⟨b, o + j * 5 + 1, none⟩ = some (.int .i64 a.at_) ∧ w.cell? ⟨b, o + j * 5 + 2, none⟩ = some (.int .u64 a.old) ∧
    w.cell? ⟨b, o + j * 5 + 3, none⟩ = some (.int .u64 a.v) ∧ w.cell? ⟨b, o + j * 5 + 4, none⟩ = some (.slice a.A a.keep.length a.cap) ∧ a.ok ∧ IntsAt w B a.A a.keep
theorem ActsAt.below {w w' : World} {B : Nat} {A : Option Addr} {l : List Ac} (h : ActsAt w B A l) (hb : Below B w w') : ActsAt w' B A l := fun h0 => by
  obtain ⟨b, o, e, hlt, hc⟩ := h h0
  refine ⟨b, o, e, hlt, fun j a ha => ?_⟩
  obtain ⟨h1, h2, h3, h4, h5, h6, h7⟩ := hc j a ha
  rw [hb.cell (p := ⟨b, _, none⟩) hlt, hb.cell (p := ⟨b, _, none⟩) hlt, hb.cell (p := ⟨b, _, none⟩) hlt, hb.cell (p := ⟨b, _, none⟩) hlt, hb.cell (p := ⟨b, _, none⟩) hlt]
  exact ⟨h1, h2, h3, h4, h5, h6, h7.below hb⟩

theorem laid_out : laidOutB Try.prog = true := by kernel_rfl
theorem cells49 : Try.prog.cellsOf 49 = 5 := by kernel_rfl
theorem cells3 : Try.prog.cellsOf 3 = 1 := by kernel_rfl
theorem cells28' : Try.prog.cellsOf 28 = 1 := by kernel_rfl

theorem wf_i64 {n : Int} (h : (Lit.int .i64 n).wf = true) : n ≤ 9223372036854775807 := by
  simp [Lit.wf] at h
  have := IntKind.wrap_i64 n
  omega

theorem ints_of {H : Type} {enc : TypeId × Value → H} {W : World} {sp : Nat → Bool} {hd : Bool} {fuel : Nat} {c : Value} {x : DataW H × List MemPlace}
    (h : DataW.trod enc Try.prog W 0 sp hd fuel 33 [c] = some x) : ∃ (A : Option Addr) (cap : Nat) (l : List Int), c = .slice A l.length cap ∧ l.length ≤ maxLen ∧ (A = none → cap = 0) ∧ IntsAt W W.heap.size A l := by
  rcases open_slice Try.underlying33 h with ⟨hcs, _⟩ | ⟨a, len', cap', m, n, D, Pl, hcs, _, hl, hm, hmm, _, hx⟩
  · simp at hcs
    subst hcs
    exact ⟨none, 0, [], rfl, Nat.zero_le _, fun _ => rfl, fun h => absurd h (by simp)⟩
  · simp at hcs
    subst hcs
    have hlm : len' ≤ m := by rw [hmm]; split <;> omega
    obtain ⟨f, hfa⟩ := choose_lt (α := Int) (p := fun i (z : Int) => W.cell? ((a.add (i * 1)).add 0) = some (.int .i64 z)) (fun i (hi : i < len') => by
      obtain ⟨cs', h1, h2⟩ := hx i (by omega)
      rw [cells3] at h1
      obtain ⟨_, _, hat⟩ := World.cells?_some h1
      obtain ⟨z, rfl, _⟩ := DataW.trod_int Try.underlying3 h2
      exact ⟨z, hat 0 (by omega)⟩)
    have hlen : ((List.range len').map f).length = len' := by simp
    refine ⟨some a, cap', (List.range len').map f, by rw [hlen], by omega, fun e => (by cases e), fun h0 => ?_⟩
    rw [hlen] at h0
    obtain ⟨b, o, spot⟩ := a
    have hspot : spot = none := by simpa [Addr.add] using World.cell?_spot (hfa 0 h0)
    subst hspot
    have hblt : b < W.heap.size := by
      have := World.block_lt_of_cell? W _ (hfa 0 h0)
      simpa [Addr.add] using this
    refine ⟨b, o, rfl, hblt, fun j c hc => ?_⟩
    have hj : j < len' := by
      have := (List.getElem?_eq_some_iff.1 hc).1
      rwa [hlen] at this
    have hcf : c = f j := by
      rw [List.getElem?_map, List.getElem?_range hj] at hc
      simpa using hc.symm
    subst hcf
    have h3 := hfa j hj
    simp only [add_plain, Nat.add_zero, Nat.mul_one] at h3
    exact h3
theorem words_of {H : Type} {enc : TypeId × Value → H} {W : World} {sp : Nat → Bool} {hd : Bool} {fuel : Nat} {c : Value} {x : DataW H × List MemPlace}
    (h : DataW.trod enc Try.prog W 0 sp hd fuel 36 [c] = some x) : ∃ (A : Option Addr) (cap : Nat) (l : List Int), c = .slice A l.length cap ∧ l.length ≤ maxLen ∧ WordsAt W W.heap.size A l := by
  rcases open_slice Try.underlying36 h with ⟨hcs, _⟩ | ⟨a, len', cap', m, n, D, Pl, hcs, _, hl, hm, hmm, _, hx⟩
  · simp at hcs
    subst hcs
    exact ⟨none, 0, [], rfl, Nat.zero_le _, fun h => absurd h (by simp)⟩
  · simp at hcs
    subst hcs
    have hlm : len' ≤ m := by rw [hmm]; split <;> omega
    obtain ⟨f, hfa⟩ := choose_lt (α := Int) (p := fun i (z : Int) => W.cell? ((a.add (i * 1)).add 0) = some (.int .u64 z)) (fun i (hi : i < len') => by
      obtain ⟨cs', h1, h2⟩ := hx i (by omega)
      rw [cells28'] at h1
      obtain ⟨_, _, hat⟩ := World.cells?_some h1
      obtain ⟨z, rfl, _⟩ := DataW.trod_int Try.underlying28 h2
      exact ⟨z, hat 0 (by omega)⟩)
    have hlen : ((List.range len').map f).length = len' := by simp
    refine ⟨some a, cap', (List.range len').map f, by rw [hlen], by omega, fun h0 => ?_⟩
    rw [hlen] at h0
    obtain ⟨b, o, spot⟩ := a
    have hspot : spot = none := by simpa [Addr.add] using World.cell?_spot (hfa 0 h0)
    subst hspot
    have hblt : b < W.heap.size := by
      have := World.block_lt_of_cell? W _ (hfa 0 h0)
      simpa [Addr.add] using this
    refine ⟨b, o, rfl, hblt, fun j c hc => ?_⟩
    have hj : j < len' := by
      have := (List.getElem?_eq_some_iff.1 hc).1
      rwa [hlen] at this
    have hcf : c = f j := by
      rw [List.getElem?_map, List.getElem?_range hj] at hc
      simpa using hc.symm
    subst hcf
    have h3 := hfa j hj
    simp only [add_plain, Nat.add_zero, Nat.mul_one] at h3
    exact h3
theorem open_ints {H : Type} {enc : TypeId × Value → H} {W : World} {base : Nat} {v : Value} {d : DataW H} {p : List MemPlace}
    (hv : Value.okWide Try.prog W .any base 33 v) (h : DataW.Trod enc Try.prog W 0 (fun _ => true) true 33 v d p) : ∃ (A : Option Addr) (cap : Nat) (l : List Int), v = .slice A l.length cap ∧ l.length ≤ maxLen ∧ IntsAt W W.heap.size A l := by
  obtain ⟨a0, len, cap, rfl⟩ := okWide_slice Try.underlying33 hv
  obtain ⟨fuel, hf⟩ := h
  obtain ⟨A, c, l, h1, h2, _, h3⟩ := ints_of (c := .slice a0 len cap) (by simpa [Value.cells] using hf)
  exact ⟨A, c, l, h1, h2, h3⟩
theorem open_words {H : Type} {enc : TypeId × Value → H} {W : World} {base : Nat} {v : Value} {d : DataW H} {p : List MemPlace}
    (hv : Value.okWide Try.prog W .any base 36 v) (h : DataW.Trod enc Try.prog W 0 (fun _ => true) true 36 v d p) : ∃ (A : Option Addr) (cap : Nat) (l : List Int), v = .slice A l.length cap ∧ l.length ≤ maxLen ∧ WordsAt W W.heap.size A l := by
  obtain ⟨a0, len, cap, rfl⟩ := okWide_slice Try.underlying36 hv
  obtain ⟨fuel, hf⟩ := h
  exact words_of (c := .slice a0 len cap) (by simpa [Value.cells] using hf)

/-- five cells that read as an act are an act's -/
theorem act_of {H : Type} {enc : TypeId × Value → H} {W : World} {sp : Nat → Bool} {hd : Bool} {n : Nat} {cs : List Value} {x : DataW H × List MemPlace}
    (h : DataW.trod enc Try.prog W 0 sp hd n 49 cs = some x) : ∃ a : Ac, cs = [.int .i64 a.op, .int .i64 a.at_, .int .u64 a.old, .int .u64 a.v, .slice a.A a.keep.length a.cap] ∧ a.ok ∧ IntsAt W W.heap.size a.A a.keep := by
  obtain ⟨xs, m, _, _, hlen, hxs, hf⟩ := DataW.trod_struct Try.underlying49 h
  rw [cells49] at hlen
  match cs, hlen with
  | [c0, c1, c2, c3, c4], _ =>
    match xs, hxs with
    | [y0, y1, y2, y3, y4], _ =>
      have f0 := hf 0 _ rfl
      have f1 := hf 1 _ rfl
      have f2 := hf 2 _ rfl
      have f3 := hf 3 _ rfl
      have f4 := hf 4 _ rfl
      simp only [List.getElem?_cons_zero, List.getElem?_cons_succ] at f0 f1 f2 f3 f4
      obtain ⟨p, e0, _⟩ := DataW.trod_int Try.underlying3 f0
      obtain ⟨q, e1, _, hw⟩ := DataW.trod_int Try.underlying3 f1
      obtain ⟨r, e2, _⟩ := DataW.trod_int Try.underlying28 f2
      obtain ⟨s, e3, _⟩ := DataW.trod_int Try.underlying28 f3
      injection e0 with e0
      injection e1 with e1
      injection e2 with e2
      injection e3 with e3
      obtain ⟨A, cap, l, e4, hl, hA, hL⟩ := ints_of (c := c4) f4
      exact ⟨⟨p, q, r, s, A, cap, l⟩, by rw [e0, e1, e2, e3, e4], ⟨wf_i64 hw, hl, hA⟩, hL⟩

theorem open_acts {H : Type} {enc : TypeId × Value → H} {W : World} {base : Nat} {v : Value} {d : DataW H} {p : List MemPlace}
    (hv : Value.okWide Try.prog W .any base 45 v) (h : DataW.Trod enc Try.prog W 0 (fun _ => true) true 45 v d p) :
    ∃ (A : Option Addr) (cap : Nat) (l : List Ac), v = .slice A l.length cap ∧ l.length ≤ maxLen ∧ ActsAt W W.heap.size A l := by
  obtain ⟨a0, len, cap, rfl⟩ := okWide_slice Try.underlying45 hv
  obtain ⟨fuel, hf⟩ := h
  rcases open_slice Try.underlying45 hf with ⟨hcs, _⟩ | ⟨a, len', cap', m, n, D, Pl, hcs, _, hl, hm, hmm, _, hx⟩
  · simp [Value.cells] at hcs
    obtain ⟨rfl, rfl, rfl⟩ := hcs
    exact ⟨none, 0, [], rfl, Nat.zero_le _, fun h => absurd h (by simp)⟩
  · simp [Value.cells] at hcs
    obtain ⟨rfl, rfl, rfl⟩ := hcs
    have hlm : len ≤ m := by rw [hmm]; simpa using hl
    obtain ⟨f, hfa⟩ := choose_lt (α := Ac) (p := fun i (c : Ac) => W.cell? ((a.add (i * 5)).add 0) = some (.int .i64 c.op) ∧ W.cell? ((a.add (i * 5)).add 1) = some (.int .i64 c.at_) ∧ W.cell? ((a.add (i * 5)).add 2) = some (.int .u64 c.old) ∧
        W.cell? ((a.add (i * 5)).add 3) = some (.int .u64 c.v) ∧ W.cell? ((a.add (i * 5)).add 4) = some (.slice c.A c.keep.length c.cap) ∧ c.ok ∧ IntsAt W W.heap.size c.A c.keep) (fun i (hi : i < len) => by
      obtain ⟨cs', h1, h2⟩ := hx i (by omega)
      rw [cells49] at h1
      obtain ⟨_, _, hat⟩ := World.cells?_some h1
      obtain ⟨c, rfl, h3, h4⟩ := act_of h2
      exact ⟨c, hat 0 (by omega), hat 1 (by omega), hat 2 (by omega), hat 3 (by omega), hat 4 (by omega), h3, h4⟩)
    have hlen : ((List.range len).map f).length = len := by simp
    refine ⟨some a, cap, (List.range len).map f, by rw [hlen], by omega, fun h0 => ?_⟩
    rw [hlen] at h0
    obtain ⟨b, o, spot⟩ := a
    have hspot : spot = none := by simpa [Addr.add] using World.cell?_spot (hfa 0 h0).1
    subst hspot
    have hblt : b < W.heap.size := by
      have := World.block_lt_of_cell? W _ (hfa 0 h0).1
      simpa [Addr.add] using this
    refine ⟨b, o, rfl, hblt, fun j c hc => ?_⟩
    have hj : j < len := by
      have := (List.getElem?_eq_some_iff.1 hc).1
      rwa [hlen] at this
    have hcf : c = f j := by
      rw [List.getElem?_map, List.getElem?_range hj] at hc
      simpa using hc.symm
    subst hcf
    have h3 := hfa j hj
    simp only [add_plain, Nat.add_zero] at h3
    exact h3
end Go.Proofs.Ytehfkibpcdcddaa
