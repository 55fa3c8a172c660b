/-
  Two memories beside one another, an act; each call of either, as a step of both. Condition: fewer counted than 2 to the 62.
-/
import Derived.Test.YtehfkibpcdcddaaNs
namespace Go.Proofs.Ytehfkibpcdcddaa
open Go.RowKit

/-- the program's memory, the reference's, and all that was there -/
structure QS (W w : World) (xb xr yb yr F : Nat) (mx my : Mm) : Prop where
  x : MAt w xb xr F mx
  y : RAt w yb yr F my
  d1 : xb ≠ yb
  d2 : xb ≠ yr
  d3 : xr ≠ yb
  d4 : xr ≠ yr
  w1 : W.heap.size ≤ xb
  w2 : W.heap.size ≤ xr
  w3 : W.heap.size ≤ yb
  w4 : W.heap.size ≤ yr
  old : Below W.heap.size W w
section
variable {W w w' : World} {xb xr yb yr F : Nat} {mx my m' : Mm}
theorem QS.stepX (h : QS W w xb xr yb yr F mx my) (hm : MAt w' xb xr F m') (ho : Own xb xr w w') : QS W w' xb xr yb yr F m' my :=
  ⟨hm, h.y.other ho h.x.bF h.x.rF (Ne.symm h.d1) (Ne.symm h.d3) (Ne.symm h.d2) (Ne.symm h.d4), h.d1, h.d2, h.d3, h.d4, h.w1, h.w2, h.w3, h.w4, h.old.trans (ho.below h.w1 h.w2 h.old.size)⟩
theorem QS.stepY (h : QS W w xb xr yb yr F mx my) (hm : RAt w' yb yr F m') (ho : Own yb yr w w') : QS W w' xb xr yb yr F mx m' :=
  ⟨h.x.other ho h.y.bF h.y.rF h.d1 h.d2 h.d3 h.d4, hm, h.d1, h.d2, h.d3, h.d4, h.w1, h.w2, h.w3, h.w4, h.old.trans (ho.below h.w3 h.w4 h.old.size)⟩
theorem QS.below (h : QS W w xb xr yb yr F mx my) (hb : Below w.heap.size w w') : QS W w' xb xr yb yr F mx my :=
  ⟨h.x.below hb, h.y.below hb, h.d1, h.d2, h.d3, h.d4, h.w1, h.w2, h.w3, h.w4, h.old.trans (hb.mono h.old.size)⟩
end

/-- an act lies in a box -/
structure GS (w : World) (G : Nat) (a : Ac) : Prop where
  op : w.cell? ⟨G, 0, none⟩ = some (.int .i64 a.op)
  pl : w.cell? ⟨G, 1, none⟩ = some (.int .i64 a.at_)
  od : w.cell? ⟨G, 2, none⟩ = some (.int .u64 a.old)
  wd : w.cell? ⟨G, 3, none⟩ = some (.int .u64 a.v)
  kp : w.cell? ⟨G, 4, none⟩ = some (.slice a.A a.keep.length a.cap)
theorem GS.lt {w : World} {G : Nat} {a : Ac} (h : GS w G a) : G < w.heap.size := World.block_lt_of_cell? w _ h.op
theorem GS.keep {w w' : World} {G : Nat} {a : Ac} (h : GS w G a) (hb : w'.heap[G]? = w.heap[G]?) : GS w' G a :=
  ⟨(World.cell?_of_block (w := w) hb).trans h.op, (World.cell?_of_block (w := w) hb).trans h.pl, (World.cell?_of_block (w := w) hb).trans h.od, (World.cell?_of_block (w := w) hb).trans h.wd, (World.cell?_of_block (w := w) hb).trans h.kp⟩

structure PS (W w : World) (xb xr yb yr F G : Nat) (a : Ac) (mx my : Mm) : Prop where
  q : QS W w xb xr yb yr F mx my
  g : GS w G a
  gF : F ≤ G
section
variable {W w w' : World} {xb xr yb yr F G : Nat} {a : Ac} {mx my m' : Mm}
theorem PS.stepX (h : PS W w xb xr yb yr F G a mx my) (hm : MAt w' xb xr F m') (ho : Own xb xr w w') : PS W w' xb xr yb yr F G a m' my :=
  ⟨h.q.stepX hm ho, h.g.keep (ho.block G h.g.lt (by have := h.gF; have := h.q.x.bF; omega) (by have := h.gF; have := h.q.x.rF; omega)), h.gF⟩
theorem PS.stepY (h : PS W w xb xr yb yr F G a mx my) (hm : RAt w' yb yr F m') (ho : Own yb yr w w') : PS W w' xb xr yb yr F G a mx m' :=
  ⟨h.q.stepY hm ho, h.g.keep (ho.block G h.g.lt (by have := h.gF; have := h.q.y.bF; omega) (by have := h.gF; have := h.q.y.rF; omega)), h.gF⟩
theorem PS.below (h : PS W w xb xr yb yr F G a mx my) (hb : Below w.heap.size w w') : PS W w' xb xr yb yr F G a mx my :=
  ⟨h.q.below hb, h.g.keep (hb.block G h.g.lt), h.gF⟩
theorem PS.drewN (h : PS W w xb xr yb yr F G a mx my) (n : Nat) : PS W (w.drewN n) xb xr yb yr F G a mx my := h.below ⟨rfl, rfl, rfl, Nat.le_refl _, fun _ _ => rfl⟩
end

/-- so many lines, at most c counted -/
structure Good (m : Mm) (R : Nat) (c : Int) : Prop where
  n0 : 0 ≤ m.n
  nc : m.n ≤ c
  len : m.rows.length = R
section
variable {m : Mm} {R : Nat} {c : Int}
theorem Good.more (h : Good m R c) : Good m R (c + 1) := ⟨h.n0, by have := h.nc; omega, h.len⟩
theorem Good.down (h : Good m R c) (k : Nat → Bool) : Good (m.down k) R c := ⟨h.n0, h.nc, by rw [Mm.down_length]; exact h.len⟩
theorem Good.put (h : Good m R c) (i : Nat) (r : Ln) : Good (m.put i r) R c := ⟨h.n0, h.nc, by unfold Mm.put; simp only [List.length_set]; exact h.len⟩
theorem Good.begin (h : Good m R c) (t : Bool) : Good (m.begin t).2 R (c + 1) := by
  unfold Mm.begin
  split
  · split
    · exact (h.down _).more
    · exact ⟨by have := h.n0; simp only; omega, by have := h.nc; simp only; omega, h.len⟩
  · exact h.more
theorem Good.store (h : Good m R c) (i v : Int) : Good (m.store i v).2 R (c + 1) := by
  unfold Mm.store
  split
  · exact (h.begin _).put _ _
  · exact h.begin _
theorem Good.flush (h : Good m R c) (i : Int) : Good (m.flush i).2 R (c + 1) := by
  unfold Mm.flush
  split
  · exact (h.begin _).put _ _
  · exact h.begin _
theorem Good.fence (h : Good m R c) : Good m.fence.2 R (c + 1) := by
  unfold Mm.fence
  split
  · have := h.begin true
    exact ⟨this.n0, this.nc, by unfold Mm.fences; simp only [List.length_mapIdx]; exact this.len⟩
  · exact h.begin _
theorem Good.swap (h : Good m R c) (i o v : Int) : Good (m.swap i o v).2 R (c + 1) := by
  unfold Mm.swap
  split
  · exact h.store i v
  · exact h.more
theorem Good.evict (h : Good m R c) (i : Int) : Good (m.evict i).2 R (c + 1) := by
  unfold Mm.evict
  split
  · exact (h.put _ _).more
  · exact h.more
theorem Good.crash (h : Good m R c) (l : List Int) : Good (m.crash l) R (c + 1) := by
  unfold Mm.crash
  split
  · exact h.more
  · exact (h.down _).more
theorem Good.on (h : Good m R c) : Good m.on R (c + 1) := ⟨h.n0, by have := h.nc; unfold Mm.on; simp only; omega, h.len⟩
theorem Good.light (h : Good m R c) (k : Int) (l : List Int) : Good (m.light k l) R (c + 1) := by
  have h1 := h.more
  unfold Mm.light
  split
  · exact h1
  · split <;> exact ⟨h1.n0, h1.nc, h1.len⟩
theorem Good.lt (h : Good m R c) (hc : c ≤ 100) : m.n < 4611686018427387904 := by have := h.nc; omega
end

section
variable {W w : World} {xb xr yb yr F G : Nat} {a : Ac} {mx my : Mm} {R : Nat} {c : Int}
theorem x_store (h : PS W w xb xr yb yr F G a mx my) (hg : Good mx R c) (hc : c ≤ 100) (i v : Int) : Calls Try.prog 12 #[.pointer (some ⟨xb, 0, none⟩), .int .i64 i, .int .u64 v] w fun e w' =>
    e = .returned (.int .i64 (mx.store i v).1) ∧ PS W w' xb xr yb yr F G a (mx.store i v).2 my ∧ w'.cell? ⟨G, 1, none⟩ = some (.int .i64 a.at_) ∧ w'.cell? ⟨G, 3, none⟩ = some (.int .u64 a.v) :=
  (mstore_any xb xr F mx i v w h.q.x hg.n0 (hg.lt hc)).mono fun _ _ ⟨h1, h2, h3⟩ => ⟨h1, h.stepX h2 h3, (h.stepX h2 h3).g.pl, (h.stepX h2 h3).g.wd⟩
theorem y_store (h : PS W w xb xr yb yr F G a mx my) (hg : Good my R c) (hc : c ≤ 100) (i v : Int) : Calls Try.prog 26 #[.pointer (some ⟨yb, 0, none⟩), .int .i64 i, .int .u64 v] w fun e w' =>
    e = .returned (.int .i64 (my.store i v).1) ∧ PS W w' xb xr yb yr F G a mx (my.store i v).2 ∧ w'.cell? ⟨G, 1, none⟩ = some (.int .i64 a.at_) ∧ w'.cell? ⟨G, 3, none⟩ = some (.int .u64 a.v) :=
  (rmstore_any yb yr F my i v w h.q.y hg.n0 (hg.lt hc)).mono fun _ _ ⟨h1, h2, h3⟩ => ⟨h1, h.stepY h2 h3, (h.stepY h2 h3).g.pl, (h.stepY h2 h3).g.wd⟩
theorem x_flush (h : PS W w xb xr yb yr F G a mx my) (hg : Good mx R c) (hc : c ≤ 100) (i : Int) : Calls Try.prog 13 #[.pointer (some ⟨xb, 0, none⟩), .int .i64 i] w fun e w' =>
    e = .returned (.int .i64 (mx.flush i).1) ∧ PS W w' xb xr yb yr F G a (mx.flush i).2 my ∧ w'.cell? ⟨G, 1, none⟩ = some (.int .i64 a.at_) :=
  (mflush_any xb xr F mx i w h.q.x hg.n0 (hg.lt hc)).mono fun _ _ ⟨h1, h2, h3⟩ => ⟨h1, h.stepX h2 h3, (h.stepX h2 h3).g.pl⟩
theorem y_flush (h : PS W w xb xr yb yr F G a mx my) (hg : Good my R c) (hc : c ≤ 100) (i : Int) : Calls Try.prog 28 #[.pointer (some ⟨yb, 0, none⟩), .int .i64 i] w fun e w' =>
    e = .returned (.int .i64 (my.flush i).1) ∧ PS W w' xb xr yb yr F G a mx (my.flush i).2 ∧ w'.cell? ⟨G, 1, none⟩ = some (.int .i64 a.at_) :=
  (rmflush_any yb yr F my i w h.q.y hg.n0 (hg.lt hc)).mono fun _ _ ⟨h1, h2, h3⟩ => ⟨h1, h.stepY h2 h3, (h.stepY h2 h3).g.pl⟩
theorem x_evict (h : PS W w xb xr yb yr F G a mx my) (i : Int) : Calls Try.prog 31 #[.pointer (some ⟨xb, 0, none⟩), .int .i64 i] w fun e w' =>
    e = .returned (.int .i64 (mx.evict i).1) ∧ PS W w' xb xr yb yr F G a (mx.evict i).2 my ∧ w'.cell? ⟨G, 1, none⟩ = some (.int .i64 a.at_) :=
  (mevict_any xb xr F mx i w h.q.x).mono fun _ _ ⟨h1, h2, h3⟩ => ⟨h1, h.stepX h2 h3, (h.stepX h2 h3).g.pl⟩
theorem y_evict (h : PS W w xb xr yb yr F G a mx my) (i : Int) : Calls Try.prog 32 #[.pointer (some ⟨yb, 0, none⟩), .int .i64 i] w fun e w' =>
    e = .returned (.int .i64 (my.evict i).1) ∧ PS W w' xb xr yb yr F G a mx (my.evict i).2 ∧ w'.cell? ⟨G, 1, none⟩ = some (.int .i64 a.at_) :=
  (rmevict_any yb yr F my i w h.q.y).mono fun _ _ ⟨h1, h2, h3⟩ => ⟨h1, h.stepY h2 h3, (h.stepY h2 h3).g.pl⟩
theorem x_swap (h : PS W w xb xr yb yr F G a mx my) (hg : Good mx R c) (hc : c ≤ 100) (i o v : Int) : Calls Try.prog 11 #[.pointer (some ⟨xb, 0, none⟩), .int .i64 i, .int .u64 o, .int .u64 v] w fun e w' =>
    e = .returned (.tuple #[.bool (mx.swap i o v).1.1, .int .i64 (mx.swap i o v).1.2]) ∧ PS W w' xb xr yb yr F G a (mx.swap i o v).2 my :=
  (mswap_any xb xr F mx i o v w h.q.x hg.n0 (hg.lt hc)).mono fun _ _ ⟨h1, h2, h3⟩ => ⟨h1, h.stepX h2 h3⟩
theorem y_swap (h : PS W w xb xr yb yr F G a mx my) (hg : Good my R c) (hc : c ≤ 100) (i o v : Int) : Calls Try.prog 27 #[.pointer (some ⟨yb, 0, none⟩), .int .i64 i, .int .u64 o, .int .u64 v] w fun e w' =>
    e = .returned (.tuple #[.bool (my.swap i o v).1.1, .int .i64 (my.swap i o v).1.2]) ∧ PS W w' xb xr yb yr F G a mx (my.swap i o v).2 :=
  (rswap_any yb yr F my i o v w h.q.y hg.n0 (hg.lt hc)).mono fun _ _ ⟨h1, h2, h3⟩ => ⟨h1, h.stepY h2 h3⟩
theorem x_fence (h : PS W w xb xr yb yr F G a mx my) (hg : Good mx R c) (hc : c ≤ 100) : Calls Try.prog 29 #[.pointer (some ⟨xb, 0, none⟩)] w fun e w' =>
    e = .returned (.int .i64 mx.fence.1) ∧ PS W w' xb xr yb yr F G a mx.fence.2 my :=
  (mfence_any xb xr F mx w h.q.x hg.n0 (hg.lt hc)).mono fun _ _ ⟨h1, h2, h3⟩ => ⟨h1, h.stepX h2 h3⟩
theorem y_fence (h : PS W w xb xr yb yr F G a mx my) (hg : Good my R c) (hc : c ≤ 100) : Calls Try.prog 30 #[.pointer (some ⟨yb, 0, none⟩)] w fun e w' =>
    e = .returned (.int .i64 my.fence.1) ∧ PS W w' xb xr yb yr F G a mx my.fence.2 :=
  (rmfence_any yb yr F my w h.q.y hg.n0 (hg.lt hc)).mono fun _ _ ⟨h1, h2, h3⟩ => ⟨h1, h.stepY h2 h3⟩
theorem x_crash (h : PS W w xb xr yb yr F G a mx my) (hl : a.keep.length ≤ 1000000) (hK : IntsAt W W.heap.size a.A a.keep) : Calls Try.prog 19 #[.pointer (some ⟨xb, 0, none⟩), .slice a.A a.keep.length a.cap] w fun e w' =>
    e = .returned (.tuple #[]) ∧ PS W w' xb xr yb yr F G a (mx.crash a.keep) my :=
  (mcrash_any xb xr F mx a.A a.cap a.keep w h.q.x hl ((hK.below h.q.old).mono h.q.old.size)).mono fun _ _ ⟨h1, h2, h3⟩ => ⟨h1, h.stepX h2 h3⟩
theorem y_crash (h : PS W w xb xr yb yr F G a mx my) (hl : a.keep.length ≤ 1000000) (hK : IntsAt W W.heap.size a.A a.keep) : Calls Try.prog 33 #[.pointer (some ⟨yb, 0, none⟩), .slice a.A a.keep.length a.cap] w fun e w' =>
    e = .returned (.tuple #[]) ∧ PS W w' xb xr yb yr F G a mx (my.crash a.keep) :=
  (rcrash_any yb yr F my a.A a.cap a.keep w h.q.y hl ((hK.below h.q.old).apart h.q.w3 h.q.w4 h.q.old.size)).mono fun _ _ ⟨h1, h2, h3⟩ => ⟨h1, h.stepY h2 h3⟩
theorem x_fuse (h : PS W w xb xr yb yr F G a mx my) (ha : a.ok) (hl : a.keep.length ≤ 1000000) (hK : IntsAt W W.heap.size a.A a.keep) : Calls Try.prog 15 #[.pointer (some ⟨xb, 0, none⟩), .int .i64 a.at_, .slice a.A a.keep.length a.cap] w fun e w' =>
    e = .returned (.tuple #[]) ∧ PS W w' xb xr yb yr F G a (mx.light a.at_ a.keep) my :=
  (mfuse_any xb xr F W.heap.size mx a.at_ a.A a.cap a.keep w h.q.x ha.1 hl (hK.below h.q.old) h.q.w1 h.q.w2).mono fun _ _ ⟨h1, h2, h3⟩ => ⟨h1, h.stepX h2 h3⟩
theorem y_fuse (h : PS W w xb xr yb yr F G a mx my) (ha : a.ok) (hl : a.keep.length ≤ 1000000) (hK : IntsAt W W.heap.size a.A a.keep) : Calls Try.prog 34 #[.pointer (some ⟨yb, 0, none⟩), .int .i64 a.at_, .slice a.A a.keep.length a.cap] w fun e w' =>
    e = .returned (.tuple #[]) ∧ PS W w' xb xr yb yr F G a mx (my.light a.at_ a.keep) :=
  (rfuse_any yb yr F W.heap.size my a.at_ a.A a.cap a.keep w h.q.y ha.1 hl ha.2.2 (hK.below h.q.old) h.q.old.size).mono fun _ _ ⟨h1, h2, h3⟩ => ⟨h1, h.stepY h2 h3⟩
theorem x_on (h : PS W w xb xr yb yr F G a mx my) : Calls Try.prog 18 #[.pointer (some ⟨xb, 0, none⟩)] w fun e w' =>
    e = .returned (.tuple #[]) ∧ PS W w' xb xr yb yr F G a mx.on my :=
  (mon_any xb xr F mx w h.q.x).mono fun _ _ ⟨h1, h2, h3⟩ => ⟨h1, h.stepX h2 h3⟩
theorem y_on (h : PS W w xb xr yb yr F G a mx my) : PS W (w.setCell ⟨yb, 1, none⟩ (.bool false)) xb xr yb yr F G a mx my.on := by
  have s := h.q.y.cell_ my.on 1 (.bool false) rfl (by omega) (by omega) (.inr ⟨rfl, rfl⟩) (fun _ => rfl) (fun _ => rfl) (fun q => absurd q (by decide)) (fun z v _ _ hz => ⟨z, v, fun q => absurd q (by decide), fun _ => rfl, fun q => absurd q (by decide), fun _ => rfl, hz⟩)
  exact h.stepY s.1 s.2
end

/-- what a call that only tells leaves: both memories, two cells of the reference's -/
def Tells (W : World) (xb xr yb yr F : Nat) (m : Mm) (w : World) : Prop := QS W w xb xr yb yr F m m ∧ w.cell? ⟨yb, 2, none⟩ = some (.int .i64 m.n) ∧ w.cell? ⟨yb, 1, none⟩ = some (.bool m.off)
theorem tells_of {W w : World} {xb xr yb yr F : Nat} {m : Mm} (h : QS W w xb xr yb yr F m m) : Tells W xb xr yb yr F m w := ⟨h, h.y.c2, h.y.c1⟩
end Go.Proofs.Ytehfkibpcdcddaa
