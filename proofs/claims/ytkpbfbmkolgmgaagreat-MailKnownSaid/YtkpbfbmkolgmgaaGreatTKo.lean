/-
  The program's New: the first state. No condition.
  The walk of the program's New. No condition.
-/
import Derived.Test.YtkpbfbmkolgmgaaGreatTKe
import Derived.Test.YtkpbfbmkolgmgaaGreatTKi
import Derived.Deep.MidRow
namespace Go.Proofs.YtkpbfbmkolgmgaaGreat
open Go.RowKit

theorem Fnd.setCells (b : Nat) : ∀ (vs : List Value) (o : Nat) (w : World), Fnd w (w.setCells b o vs) b
  | [], _, w => Fnd.refl w b
  | v :: vs, o, w => (Fnd.mark w b o v).trans (Fnd.setCells b vs (o + 1) (w.setCell ⟨b, o, none⟩ v))
theorem Fnd.range {w w' : World} {G k o : Nat} {cs : List Value} (h : Fnd w w' G) (hk : k < w.heap.size) (hG : k ≠ G) (hr : w.rangeAt k o cs) : w'.rangeAt k o cs := fun j v hv => (h.cell hk hG).trans (hr j v hv)
theorem Fnd.frozen {w w' : World} {G k j : Nat} (h : Fnd w w' G) (hk : k < w.heap.size) (hG : k ≠ G) : w'.frozen? ⟨k, j, none⟩ = w.frozen? ⟨k, j, none⟩ := World.frozen?_of_block (a := ⟨k, j, none⟩) (h.block k hk hG)
theorem step_store_mid {P : Program} {ops : Array Oper} {o : Oper} {a : Act} {w : World} {K : Act → World → Prop} {Q : Exit → Act → World → Prop} {E : Prop} (hgd : o.guard = none) (ty : TypeId) (x y : Operand) (ho : o.op = .store ty x y)
    (b off : Nat) (cells : Array Value) (hx : a.eval x = .pointer (some ⟨b, off, none⟩)) (hy : a.eval y = .agg cells) (ht : w.there b off cells.size) (hi : (P.info? ty).map (·.size) = some cells.size) (h1 : cells.all (·.oneCell') = true)
    (h : K (a.put o.dst undef) (w.setCells b off cells.toList)) : if Region.wanted o (yielded ops a.tmps) = true then Oper.wp P o a w K Q else E := by
  have hw : Region.wanted o (yielded ops a.tmps) = true := by simp [Region.wanted, hgd]
  rw [if_pos hw]
  exact wp_store_mid ty x y ho b off cells hx hy ht hi h1 h
/-- the boxes that New makes first -/
structure Bs (W w : World) (g q P : Nat) (a b c : Int) (x : Tng) : Prop where
  bx : Bx w g ⟨a, b, c⟩
  old : Below W.heap.size W w
  base : W.heap.size ≤ g
  qr : w.rangeAt q 0 [.int .i64 0, .int .i64 0, .int .i64 0, .slice none 0 0, .slice none 0 0]
  qf : ∀ j, w.frozen? ⟨q, j, none⟩ = false
  pr : w.rangeAt P 0 (thist x)
  gq : g < q
  qP : q < P
  lt : P < w.heap.size
theorem Bs.step {W w w' : World} {g q P k : Nat} {a b c : Int} {x : Tng} (h : Bs W w g q P a b c x) (f : Fnd w w' k) (hk : P < k) : Bs W w' g q P a b c x := by
  have h1 := h.gq
  have h2 := h.qP
  have h3 := h.lt
  have h4 := h.base
  exact ⟨⟨(f.cell (by omega) (by omega)).trans h.bx.t, (f.cell (by omega) (by omega)).trans h.bx.s, (f.cell (by omega) (by omega)).trans h.bx.k, Nat.lt_of_lt_of_le h.bx.lt f.size⟩,
    ⟨f.os.trans h.old.os, f.tape.trans h.old.tape, f.output.trans h.old.output, Nat.le_trans h.old.size f.size, fun i hi => (f.block i (Nat.lt_of_lt_of_le hi h.old.size) (by omega)).trans (h.old.block i hi)⟩, h4,
    f.range (by omega) (by omega) h.qr, fun j => (f.frozen (by omega) (by omega)).trans (h.qf j), f.range h3 (by omega) h.pr, h1, h2, Nat.lt_of_lt_of_le h3 f.size⟩
theorem Bs.on {W w w' : World} {g q P : Nat} {a b c : Int} {x : Tng} (h : Bs W w g q P a b c x) (hb : Below w.heap.size w w') : Bs W w' g q P a b c x := h.step (.of hb (P + 1)) (Nat.lt_succ_self P)
/-- what region 4 has made -/
structure Mk (W w : World) (g q P : Nat) (a b c : Int) (x : Tng) (n m X G T Q : Nat) (fx fg ft fq : Bool) : Prop where
  bs : Bs W w g q P a b c x
  hx : fx = true → w.rangeAt X 0 [.int .i64 0, .int .i64 0, .int .i64 0, .int .i64 0, .int .i64 (-1)] ∧ X < w.heap.size
  hg : fg = true → RepAt w G n 64 [.int .i64 0, .int .i64 0, .int .i64 0, .int .i64 0, .int .i64 (-1)] n ∧ P < G ∧ G < w.heap.size
  ht : ft = true → w.heap[T]? = some (.cells (madeCells #[.int .i64 0, .int .i64 0, .int .i64 0, .int .i64 0, .int .i64 0, .int .i64 0, .int .i64 0, .bool false, .int .u64 0, .int .u64 0, .int .u64 0, .int .u64 0, .int .u64 0] (m * 13)) 67 (0, 0)) ∧ P < T ∧ T < w.heap.size
  hq : fq = true → w.heap[Q]? = some (.cells #[.int .i64 0, .int .i64 0, .int .i64 0, .slice none 0 0, .slice none 0 0] 27 (0, 0)) ∧ P < Q ∧ Q < w.heap.size
  d1 : fg = true → ft = true → G ≠ T
  d2 : fg = true → fq = true → G ≠ Q
  d3 : ft = true → fq = true → T ≠ Q
section
variable {W w w' : World} {g q P : Nat} {a b c : Int} {x : Tng} {n m X G T Q : Nat} {fx fg ft fq : Bool}
theorem RepAt.on {w w' : World} {G n k : Nat} {t : TypeId} {e : List Value} (h : RepAt w G n t e k) (hG : G < w.heap.size) (hb : Below w.heap.size w w') : RepAt w' G n t e k := by
  obtain ⟨h1, rest, h2, h3⟩ := h
  exact ⟨h1, rest, h2, (hb.block G hG).trans h3⟩
theorem Mk.on (h : Mk W w g q P a b c x n m X G T Q fx fg ft fq) (hb : Below w.heap.size w w') : Mk W w' g q P a b c x n m X G T Q fx fg ft fq :=
  ⟨h.bs.on hb, fun e => ⟨fun j v hv => (hb.cell (p := ⟨X, _, none⟩) (h.hx e).2).trans ((h.hx e).1 j v hv), Nat.lt_of_lt_of_le (h.hx e).2 hb.size⟩,
   fun e => ⟨(h.hg e).1.on (h.hg e).2.2 hb, (h.hg e).2.1, Nat.lt_of_lt_of_le (h.hg e).2.2 hb.size⟩,
   fun e => ⟨(hb.block T (h.ht e).2.2).trans (h.ht e).1, (h.ht e).2.1, Nat.lt_of_lt_of_le (h.ht e).2.2 hb.size⟩,
   fun e => ⟨(hb.block Q (h.hq e).2.2).trans (h.hq e).1, (h.hq e).2.1, Nat.lt_of_lt_of_le (h.hq e).2.2 hb.size⟩, h.d1, h.d2, h.d3⟩
theorem Mk.addX (h : Mk W w g q P a b c x n m X G T Q fx fg ft fq) : Mk W (w.alloc (.cells #[.int .i64 0, .int .i64 0, .int .i64 0, .int .i64 0, .int .i64 (-1)] 64)) g q P a b c x n m w.heap.size G T Q true fg ft fq := by
  have k := h.on (below_alloc w (.cells #[.int .i64 0, .int .i64 0, .int .i64 0, .int .i64 0, .int .i64 (-1)] 64))
  refine ⟨k.bs, fun _ => ⟨fun j v hv => ?_, by simp⟩, k.hg, k.ht, k.hq, k.d1, k.d2, k.d3⟩
  rw [Nat.zero_add, cell_of_row _ _ _ _ _ _ (heap_alloc_new w _), ← hv]
  simp
theorem Mk.addT (h : Mk W w g q P a b c x n m X G T Q fx fg ft fq) : Mk W (w.alloc (.cells (madeCells #[.int .i64 0, .int .i64 0, .int .i64 0, .int .i64 0, .int .i64 0, .int .i64 0, .int .i64 0, .bool false, .int .u64 0, .int .u64 0, .int .u64 0, .int .u64 0, .int .u64 0] (m * 13)) 67)) g q P a b c x n m X G w.heap.size Q fx fg true fq := by
  have k := h.on (below_alloc w (.cells (madeCells #[.int .i64 0, .int .i64 0, .int .i64 0, .int .i64 0, .int .i64 0, .int .i64 0, .int .i64 0, .bool false, .int .u64 0, .int .u64 0, .int .u64 0, .int .u64 0, .int .u64 0] (m * 13)) 67))
  exact ⟨k.bs, k.hx, k.hg, fun _ => ⟨heap_alloc_new w _, h.bs.lt, by simp⟩, k.hq, fun e _ => Nat.ne_of_lt (h.hg e).2.2, k.d2, fun _ e => (Nat.ne_of_lt (h.hq e).2.2).symm⟩
theorem Mk.addQ (h : Mk W w g q P a b c x n m X G T Q fx fg ft fq) : Mk W (w.alloc (.cells #[.int .i64 0, .int .i64 0, .int .i64 0, .slice none 0 0, .slice none 0 0] 27)) g q P a b c x n m X G T w.heap.size fx fg ft true := by
  have k := h.on (below_alloc w (.cells #[.int .i64 0, .int .i64 0, .int .i64 0, .slice none 0 0, .slice none 0 0] 27))
  exact ⟨k.bs, k.hx, k.hg, k.ht, fun _ => ⟨heap_alloc_new w _, h.bs.lt, by simp⟩, k.d1, fun e _ => Nat.ne_of_lt (h.hg e).2.2, fun e _ => Nat.ne_of_lt (h.ht e).2.2⟩
theorem Mk.addG {G' : Nat} (h : Mk W w g q P a b c x n m X G T Q fx fg ft fq) (hb : Below w.heap.size w w') (hr : RepAt w' G' n 64 [.int .i64 0, .int .i64 0, .int .i64 0, .int .i64 0, .int .i64 (-1)] n) (h1 : w.heap.size ≤ G') (h2 : G' < w'.heap.size) : Mk W w' g q P a b c x n m X G' T Q fx true ft fq := by
  have k := h.on hb
  have := h.bs.lt
  exact ⟨k.bs, k.hx, fun _ => ⟨hr, by omega, h2⟩, k.ht, k.hq, fun _ e => by have := (h.ht e).2.2; omega, fun _ e => by have := (h.hq e).2.2; omega, k.d3⟩
end
/-- the state that New fills -/
structure Nw (W w : World) (g q P : Nat) (a b c : Int) (x : Tng) (n m G T Q : Nat) (u : Nat → Sl) (v : Nat → Tng) : Prop where
  bs : Bs W w g q P a b c x
  s : w.rangeAt Q 0 [.int .i64 a, .int .i64 b, .int .i64 c, .slice (some ⟨G, 0, none⟩) n n, .slice (some ⟨T, 0, none⟩) m m]
  sl : ∀ i, i < n → w.rangeAt G (i * 5) (slist (u i))
  th : ∀ i, i < m → w.rangeAt T (i * 13) (thist (v i))
  Gf : ∀ j, w.frozen? ⟨G, j, none⟩ = false
  Tf : ∀ j, w.frozen? ⟨T, j, none⟩ = false
  PG : P < G
  PT : P < T
  PQ : P < Q
  GT : G ≠ T
  GQ : G ≠ Q
  TQ : T ≠ Q
  lG : G < w.heap.size
  lT : T < w.heap.size
  lQ : Q < w.heap.size
section
variable {W w w' : World} {g q P : Nat} {a b c : Int} {x : Tng} {n m G T Q : Nat} {u u' : Nat → Sl} {v v' : Nat → Tng}
theorem Nw.on (h : Nw W w g q P a b c x n m G T Q u v) (hb : Below w.heap.size w w') : Nw W w' g q P a b c x n m G T Q u v := by
  have r : ∀ {k o : Nat} {cs : List Value}, k < w.heap.size → w.rangeAt k o cs → w'.rangeAt k o cs := fun hk hr j v hv => (hb.cell (p := ⟨_, _, none⟩) hk).trans (hr j v hv)
  have f : ∀ {k j : Nat}, k < w.heap.size → w'.frozen? ⟨k, j, none⟩ = w.frozen? ⟨k, j, none⟩ := fun hk => World.frozen?_of_block (a := ⟨_, _, none⟩) (hb.block _ hk)
  exact ⟨h.bs.on hb, r h.lQ h.s, fun i hi => r h.lG (h.sl i hi), fun i hi => r h.lT (h.th i hi), fun j => (f h.lG).trans (h.Gf j), fun j => (f h.lT).trans (h.Tf j), h.PG, h.PT, h.PQ, h.GT, h.GQ, h.TQ, Nat.lt_of_lt_of_le h.lG hb.size, Nat.lt_of_lt_of_le h.lT hb.size, Nat.lt_of_lt_of_le h.lQ hb.size⟩
theorem Nw.thereT (h : Nw W w g q P a b c x n m G T Q u v) {i : Nat} (hi : i < m) : w.there T (i * 13) 13 := fun j hj => ⟨(h.th i hi).isSome j hj, h.Tf _⟩
theorem Nw.thereG (h : Nw W w g q P a b c x n m G T Q u v) {i : Nat} (hi : i < n) : w.there G (i * 5) 5 := fun j hj => ⟨(h.sl i hi).isSome j hj, h.Gf _⟩
theorem Nw.putT (h : Nw W w g q P a b c x n m G T Q u v) {i : Nat} (hi : i < m) (y : Tng) (e : ∀ j, j < m → v' j = if j = i then y else v j) : Nw W (w.setCells T (i * 13) (thist y)) g q P a b c x n m G T Q u v' := by
  have f := Fnd.setCells T (thist y) (i * 13) w
  refine ⟨h.bs.step f h.PT, f.range h.lQ h.TQ.symm h.s, fun j hj => f.range h.lG h.GT (h.sl j hj), fun j hj => ?_, fun j => (f.frozen h.lG h.GT).trans (h.Gf j), fun j => by rw [World.frozen?_setCells]; exact h.Tf j, h.PG, h.PT, h.PQ, h.GT, h.GQ, h.TQ, Nat.lt_of_lt_of_le h.lG f.size, Nat.lt_of_lt_of_le h.lT f.size, Nat.lt_of_lt_of_le h.lQ f.size⟩
  rw [e j hj]
  by_cases hj2 : j = i
  · subst hj2
    rw [if_pos rfl]
    exact World.rangeAt_setCells_same _ _ _ _ (h.thereT hi)
  · rw [if_neg hj2]
    refine World.rangeAt_setCells_apart (h.th j hj) _ _ _ (.inr ?_)
    rw [thist_len, thist_len]
    omega
theorem Nw.putG (h : Nw W w g q P a b c x n m G T Q u v) {i : Nat} (hi : i < n) (y : Sl) (e : ∀ j, j < n → u' j = if j = i then y else u j) : Nw W (w.setCells G (i * 5) (slist y)) g q P a b c x n m G T Q u' v := by
  have f := Fnd.setCells G (slist y) (i * 5) w
  refine ⟨h.bs.step f h.PG, f.range h.lQ h.GQ.symm h.s, fun j hj => ?_, fun j hj => f.range h.lT h.GT.symm (h.th j hj), fun j => by rw [World.frozen?_setCells]; exact h.Gf j, fun j => (f.frozen h.lT h.GT.symm).trans (h.Tf j), h.PG, h.PT, h.PQ, h.GT, h.GQ, h.TQ, Nat.lt_of_lt_of_le h.lG f.size, Nat.lt_of_lt_of_le h.lT f.size, Nat.lt_of_lt_of_le h.lQ f.size⟩
  rw [e j hj]
  by_cases hj2 : j = i
  · subst hj2
    rw [if_pos rfl]
    exact World.rangeAt_setCells_same _ _ _ _ (h.thereG hi)
  · rw [if_neg hj2]
    refine World.rangeAt_setCells_apart (h.sl j hj) _ _ _ (.inr ?_)
    rw [slist_len, slist_len]
    omega
/-- part of one slot is stored: the others stay; what is there behind it, the caller shows -/
theorem Nw.partG (h : Nw W w g q P a b c x n m G T Q u v) {i o : Nat} {vs : List Value} (hi : i < n) (ho : o + vs.length ≤ 5) (y : Sl) (hy : (w.setCells G (i * 5 + o) vs).rangeAt G (i * 5) (slist y)) (e : ∀ j, j < n → u' j = if j = i then y else u j) : Nw W (w.setCells G (i * 5 + o) vs) g q P a b c x n m G T Q u' v := by
  have f := Fnd.setCells G vs (i * 5 + o) w
  refine ⟨h.bs.step f h.PG, f.range h.lQ h.GQ.symm h.s, fun j hj => ?_, fun j hj => f.range h.lT h.GT.symm (h.th j hj), fun j => by rw [World.frozen?_setCells]; exact h.Gf j, fun j => (f.frozen h.lT h.GT.symm).trans (h.Tf j), h.PG, h.PT, h.PQ, h.GT, h.GQ, h.TQ, Nat.lt_of_lt_of_le h.lG f.size, Nat.lt_of_lt_of_le h.lT f.size, Nat.lt_of_lt_of_le h.lQ f.size⟩
  rw [e j hj]
  by_cases hj2 : j = i
  · subst hj2
    rw [if_pos rfl]
    exact hy
  · rw [if_neg hj2]
    refine World.rangeAt_setCells_apart (h.sl j hj) _ _ _ (.inr ?_)
    rw [slist_len]
    omega
theorem made13 (n k : Nat) (hk : k < n) : ∀ j w', (thist .zero)[j]? = some w' → (madeCells #[.int .i64 0, .int .i64 0, .int .i64 0, .int .i64 0, .int .i64 0, .int .i64 0, .int .i64 0, .bool false, .int .u64 0, .int .u64 0, .int .u64 0, .int .u64 0, .int .u64 0] (n * 13))[k * 13 + j]? = some w' := fun j w' hj => by
  have hj2 : j < 13 := (List.getElem?_eq_some_iff.1 hj).1
  have hlt : k * 13 + j < n * 13 := by omega
  unfold madeCells
  simp only [Array.getElem?_map, Array.getElem?_range, hlt, if_true, Option.map_some]
  have e : (k * 13 + j) % (#[.int .i64 0, .int .i64 0, .int .i64 0, .int .i64 0, .int .i64 0, .int .i64 0, .int .i64 0, .bool false, .int .u64 0, .int .u64 0, .int .u64 0, .int .u64 0, .int .u64 0] : Array Value).size = j := by show (k * 13 + j) % 13 = j; omega
  rw [e]
  have h13 : j = 0 ∨ j = 1 ∨ j = 2 ∨ j = 3 ∨ j = 4 ∨ j = 5 ∨ j = 6 ∨ j = 7 ∨ j = 8 ∨ j = 9 ∨ j = 10 ∨ j = 11 ∨ j = 12 := by omega
  rcases h13 with rfl | rfl | rfl | rfl | rfl | rfl | rfl | rfl | rfl | rfl | rfl | rfl | rfl <;> (cases hj; rfl)
theorem Mk.fin {X : Nat} {fx : Bool} (h : Mk W w g q P a b c x n m X G T Q fx true true true) : Nw W (w.setCells Q 0 [.int .i64 a, .int .i64 b, .int .i64 c, .slice (some ⟨G, 0, none⟩) n n, .slice (some ⟨T, 0, none⟩) m m]) g q P a b c x n m G T Q (fun _ => ⟨.none, -1⟩) (fun _ => .zero) := by
  have f := Fnd.setCells Q [.int .i64 a, .int .i64 b, .int .i64 c, .slice (some ⟨G, 0, none⟩) n n, .slice (some ⟨T, 0, none⟩) m m] 0 w
  obtain ⟨hg, hg1, hg2⟩ := h.hg rfl
  obtain ⟨ht, ht1, ht2⟩ := h.ht rfl
  obtain ⟨hq, hq1, hq2⟩ := h.hq rfl
  have d1 := h.d1 rfl rfl
  have d2 := h.d2 rfl rfl
  have d3 := h.d3 rfl rfl
  refine ⟨h.bs.step f hq1, World.rangeAt_setCells_same _ _ _ _ fun j hj => ⟨?_, frozen_of_row _ _ _ _ _ hq⟩, fun i hi => f.range hg2 d2 fun j v hv => ?_, fun i hi => f.range ht2 d3 fun j v hv => ?_, fun j => (f.frozen hg2 d2).trans ?_, fun j => (f.frozen ht2 d3).trans (frozen_of_row _ _ _ _ _ ht), hg1, ht1, hq1, d1, d2, d3, Nat.lt_of_lt_of_le hg2 f.size, Nat.lt_of_lt_of_le ht2 f.size, Nat.lt_of_lt_of_le hq2 f.size⟩
  · rw [Nat.zero_add, cell_of_row _ _ _ _ _ _ hq]
    have hj5 : j < 5 := hj
    have h5 : j = 0 ∨ j = 1 ∨ j = 2 ∨ j = 3 ∨ j = 4 := by omega
    rcases h5 with rfl | rfl | rfl | rfl | rfl <;> rfl
  · have hj : j < 5 := (List.getElem?_eq_some_iff.1 hv).1
    have := hg.cell hi (j := j) hj
    exact this.trans hv
  · rw [cell_of_row _ _ _ _ _ _ ht]
    exact made13 m i hi j v hv
  · obtain ⟨_, rest, _, h3⟩ := hg
    exact frozen_of_row _ _ _ _ _ h3
end

/-! ### New -/
def roomT (x : Int) : Tng := ⟨1, 0, 0, x, 0, 0, 0, false, 0, 0, 0, 0, 0⟩
theorem tnew_room {x : Int} (h : inr3 x 1 4096 = true) : tnew 1 x 0 = some (roomT x) := by
  have h1 := inr3_iff.1 h
  have hg : (roomT x).good = true := tng_good.2 (Gth.room x 0 h1.1 h1.2 (by omega) (by omega))
  have hc : (tcost 1 x).isSome = true := by rw [tcost, if_pos rfl, if_pos h]; rfl
  have ht : tnewt 1 x 0 = roomT x := by rw [tnewt, if_pos rfl]; rfl
  rw [tnew, ht, if_pos ⟨hc, hg⟩]
theorem tnew_noroom {x : Int} (h : inr3 x 1 4096 = false) : tnew 1 x 0 = none := by
  rw [tnew, if_neg]
  rintro ⟨h1, _⟩
  rw [tcost, if_pos rfl, if_neg (by rw [h]; decide)] at h1
  cases h1
/-- the Geo's box, the result's -/
structure Gq (W w : World) (g q : Nat) (a b c : Int) : Prop where
  bx : Bx w g ⟨a, b, c⟩
  old : Below W.heap.size W w
  base : W.heap.size ≤ g
  qr : w.rangeAt q 0 [.int .i64 0, .int .i64 0, .int .i64 0, .slice none 0 0, .slice none 0 0]
  qf : ∀ j, w.frozen? ⟨q, j, none⟩ = false
  gq : g < q
  lt : q < w.heap.size
theorem Gq.on {W w w' : World} {g q : Nat} {a b c : Int} (h : Gq W w g q a b c) (hb : Below w.heap.size w w') : Gq W w' g q a b c :=
  ⟨h.bx.on hb, below_on h.old hb, h.base, fun j v hv => (hb.cell (p := ⟨q, _, none⟩) h.lt).trans (h.qr j v hv), fun j => by rw [World.frozen?_of_block (w := w) (a := ⟨q, j, none⟩) (hb.block q h.lt)]; exact h.qf j, h.gq, Nat.lt_of_lt_of_le h.lt hb.size⟩
theorem Gq.new (w : World) (a b c : Int) : Gq w ((w.alloc (.cells #[.int .i64 a, .int .i64 b, .int .i64 c] 23)).alloc (.cells #[.int .i64 0, .int .i64 0, .int .i64 0, .slice none 0 0, .slice none 0 0] 27)) w.heap.size (w.heap.size + 1) a b c := by
  have hsz : (w.alloc (.cells #[.int .i64 a, .int .i64 b, .int .i64 c] 23)).heap.size = w.heap.size + 1 := by simp
  have hr := heap_alloc_new (w.alloc (.cells #[.int .i64 a, .int .i64 b, .int .i64 c] 23)) (.cells #[.int .i64 0, .int .i64 0, .int .i64 0, .slice none 0 0, .slice none 0 0] 27)
  rw [hsz] at hr
  refine ⟨(Bx.new w ⟨a, b, c⟩ 23).on (below_alloc _ _), below_on (below_alloc _ _) (below_alloc _ _), Nat.le_refl _, fun j v hv => ?_, fun j => frozen_of_row _ _ _ _ _ hr, by omega, by simp⟩
  rw [Nat.zero_add, cell_of_row _ _ _ _ _ _ hr, ← hv]
  simp
theorem Gq.bs {W w : World} {g q : Nat} {a b c : Int} (h : Gq W w g q a b c) (x : Int) : Bs W (w.alloc (.cells #[.int .i64 1, .int .i64 0, .int .i64 0, .int .i64 x, .int .i64 0, .int .i64 0, .int .i64 0, .bool false, .int .u64 0, .int .u64 0, .int .u64 0, .int .u64 0, .int .u64 0] 67)) g q w.heap.size a b c (roomT x) := by
  have k := h.on (below_alloc w (.cells #[.int .i64 1, .int .i64 0, .int .i64 0, .int .i64 x, .int .i64 0, .int .i64 0, .int .i64 0, .bool false, .int .u64 0, .int .u64 0, .int .u64 0, .int .u64 0, .int .u64 0] 67))
  refine ⟨k.bx, k.old, k.base, k.qr, k.qf, fun j v hv => ?_, k.gq, h.lt, by simp⟩
  rw [Nat.zero_add, cell_of_row _ _ _ _ _ _ (heap_alloc_new w _), List.getElem?_toArray, ← hv]
  rfl
theorem earg_cells {W w : World} {g q : Nat} {a b c : Int} (h : Gq W w g q a b c) :
    (((((w.setCell ⟨q, 0, none⟩ (.int .i64 0)).setCell ⟨q, 1, none⟩ (.int .i64 0)).setCell ⟨q, 2, none⟩ (.int .i64 0)).setCell ⟨q, 3, none⟩ (.slice none 0 0)).setCell ⟨q, 4, none⟩ (.slice none 0 0)).rangeAt q 0 [.int .i64 0, .int .i64 0, .int .i64 0, .slice none 0 0, .slice none 0 0] ∧ q < (((((w.setCell ⟨q, 0, none⟩ (.int .i64 0)).setCell ⟨q, 1, none⟩ (.int .i64 0)).setCell ⟨q, 2, none⟩ (.int .i64 0)).setCell ⟨q, 3, none⟩ (.slice none 0 0)).setCell ⟨q, 4, none⟩ (.slice none 0 0)).heap.size :=
  ⟨World.rangeAt_setCells_same w q 0 [.int .i64 0, .int .i64 0, .int .i64 0, .slice none 0 0, .slice none 0 0] fun j hj => ⟨h.qr.isSome j hj, h.qf _⟩, by simpa [World.setCell] using h.lt⟩
theorem earg_end {W w : World} {g q : Nat} {a b c : Int} (h : Gq W w g q a b c) : Below W.heap.size W (((((w.setCell ⟨q, 0, none⟩ (.int .i64 0)).setCell ⟨q, 1, none⟩ (.int .i64 0)).setCell ⟨q, 2, none⟩ (.int .i64 0)).setCell ⟨q, 3, none⟩ (.slice none 0 0)).setCell ⟨q, 4, none⟩ (.slice none 0 0)) := by
  have hq : W.heap.size ≤ q := by have := h.base; have := h.gq; omega
  exact below_set (below_set (below_set (below_set (below_set h.old hq) hq) hq) hq) hq

theorem infoth : (Tryz.prog.info? 67).map (·.size) = some 13 := by kernel_rfl
theorem make_things (m : Nat) (hm : m ≤ 1000) (w : World) : (Instr.makeSlice 25 (.int .i64 (m : Int)) (.int .i64 (m : Int))).run Tryz.prog w = .ok (.slice (some ⟨w.heap.size, 0, none⟩) m m) (w.alloc (.cells (madeCells #[.int .i64 0, .int .i64 0, .int .i64 0, .int .i64 0, .int .i64 0, .int .i64 0, .int .i64 0, .bool false, .int .u64 0, .int .u64 0, .int .u64 0, .int .u64 0, .int .u64 0] (m * 13)) 67)) := by
  obtain ⟨i, h1, h2, h3, h4⟩ := infopt_parts
  have := run_make w 25 67 i Tng.zero.val Tryz.underlying25 h1 h2 .i64 .i64 m m (by omega) (by omega) (by rw [h4]; omega) (by omega)
  rw [h3] at this
  simpa [Value.cells, Tng.val, Tng.zero, Tng.of] using this
section
variable {W w w' : World} {g q P : Nat} {a b c : Int} {x : Tng} {n m G T Q : Nat} {u u' : Nat → Sl} {v v' : Nat → Tng}
theorem Nw.capG (h : Nw W w g q P a b c x n m G T Q u v) {i : Nat} (hi : i < n) (d : Cp) (e : ∀ j, j < n → u' j = if j = i then ⟨d, (u i).up⟩ else u j) : Nw W (w.setCells G (i * 5 + 0) [.int .i64 d.ty, .int .i64 d.th, .int .i64 d.ri, .int .i64 d.ba]) g q P a b c x n m G T Q u' v := by
  have hs : (w.setCells G (i * 5) [.int .i64 d.ty, .int .i64 d.th, .int .i64 d.ri, .int .i64 d.ba]).rangeAt G (i * 5) [.int .i64 d.ty, .int .i64 d.th, .int .i64 d.ri, .int .i64 d.ba] := World.rangeAt_setCells_same _ _ _ _ fun j hj => h.thereG hi j (Nat.lt_of_lt_of_le hj (by show 4 ≤ 5; omega))
  refine h.partG hi (by show 0 + 4 ≤ 5; omega) ⟨d, (u i).up⟩ (fun j k hk => ?_) e
  have hj : j < 5 := (List.getElem?_eq_some_iff.1 hk).1
  by_cases h4 : j < 4
  · refine hs j k ?_
    rw [← hk]
    have h5 : j = 0 ∨ j = 1 ∨ j = 2 ∨ j = 3 := by omega
    rcases h5 with rfl | rfl | rfl | rfl <;> rfl
  · obtain rfl : j = 4 := by omega
    rw [World.cell?_setCells_out _ _ _ _ _ (fun _ _ => .inr (by show i * 5 + 0 + 4 ≤ i * 5 + 4; omega))]
    exact (h.sl i hi 4 _ rfl).trans hk
theorem Nw.upG (h : Nw W w g q P a b c x n m G T Q u v) {i : Nat} (hi : i < n) (d : Int) (e : ∀ j, j < n → u' j = if j = i then ⟨(u i).c, d⟩ else u j) : Nw W (w.setCells G (i * 5 + 4) [.int .i64 d]) g q P a b c x n m G T Q u' v := by
  refine h.partG hi (by show 4 + 1 ≤ 5; omega) ⟨(u i).c, d⟩ (fun j k hk => ?_) e
  have hj : j < 5 := (List.getElem?_eq_some_iff.1 hk).1
  by_cases h4 : j < 4
  · rw [World.cell?_setCells_out _ _ _ _ _ (fun _ _ => .inl (by show i * 5 + j < i * 5 + 4; omega))]
    refine h.sl i hi j k ?_
    rw [← hk]
    have h5 : j = 0 ∨ j = 1 ∨ j = 2 ∨ j = 3 := by omega
    rcases h5 with rfl | rfl | rfl | rfl <;> rfl
  · obtain rfl : j = 4 := by omega
    have := World.rangeAt_setCells_same w G (i * 5 + 4) [.int .i64 d] (fun j hj => by
      have hj1 : j < 1 := hj
      obtain rfl : j = 0 := by omega
      exact h.thereG hi 4 (by omega))
    exact (this 0 _ rfl).trans hk
theorem Nw.fsh (h : Nw W w g q P a b c x n m G T Q u v) {s : St} (hn : n = s.sl.length) (hm : m = s.th.length) (hu : ∀ i, i < n → u i = slAt s.sl i) (hv : ∀ i, i < m → v i = thAt s.th i) : Fsh W w s (some ⟨G, 0, none⟩) (some ⟨T, 0, none⟩) := by
  have hb := h.bs.base
  have hgq := h.bs.gq
  have hqP := h.bs.qP
  have h1 := h.PG
  have h2 := h.PT
  refine ⟨⟨fun _ => ⟨G, 0, rfl, h.lG, fun j hj => ?_⟩, fun _ => ⟨T, 0, rfl, h.lT, fun j hj => ?_⟩⟩, fun _ => ⟨G, rfl, by omega, h.lG, h.Gf⟩, fun _ => ⟨T, rfl, by omega, h.lT, h.Tf⟩, fun _ _ e => by injection e with e; injection e with e; exact h.GT e⟩
  · have hr := h.sl j (by omega)
    rw [hu j (by omega)] at hr
    rw [Nat.zero_add]
    exact ⟨hr 0 _ rfl, hr 1 _ rfl, hr 2 _ rfl, hr 3 _ rfl, hr 4 _ rfl⟩
  · have hr := h.th j (by omega)
    rw [hv j (by omega)] at hr
    rw [Nat.zero_add]
    exact ⟨hr 0 _ rfl, hr 1 _ rfl, hr 2 _ rfl, hr 3 _ rfl, hr 4 _ rfl, hr 5 _ rfl, hr 6 _ rfl, hr 7 _ rfl, hr 8 _ rfl, hr 9 _ rfl, hr 10 _ rfl, hr 11 _ rfl, hr 12 _ rfl⟩
end
def NwF (W wx : World) (g q P : Nat) (a b c : Int) (x : Tng) (n m : Nat) (e : Value) : Prop := ∃ Q G T, e = .pointer (some ⟨Q, 0, none⟩) ∧ Nw W wx g q P a b c x n m G T Q (fun _ => ⟨.none, -1⟩) (fun _ => .zero)
end Go.Proofs.YtkpbfbmkolgmgaaGreat
namespace Go.Proofs.YtkpbfbmkolgmgaaGreat
open Go.RowKit

theorem th_one (t : Tng) : (thist t).toArray.all (·.oneCell') = true := all_oneCell_toArray fun u hu => by
  simp [thist] at hu
  rcases hu with rfl | rfl | rfl | rfl | rfl | rfl | rfl | rfl | rfl | rfl | rfl | rfl | rfl <;> rfl
theorem sl_one (t : Sl) : (slist t).toArray.all (·.oneCell') = true := all_oneCell_toArray fun u hu => by
  simp [slist] at hu
  rcases hu with rfl | rfl | rfl | rfl | rfl <;> rfl
def uT (t j : Nat) : Sl := if j = 0 then ⟨⟨1, 0, 7, 0⟩, -1⟩ else if j % 8 = 1 ∧ j / 8 < t then ⟨⟨3, 1, 7, 0⟩, 1⟩ else ⟨.none, -1⟩
def vT (x : Int) (t j : Nat) : Tng := if j = 0 then roomT x else if j = 1 then Tng.of 3 else if j < 2 + t then rootT ((j : Int) - 2) else .zero
theorem uT_zero (j : Nat) : uT 0 j = if j = 0 then ⟨⟨1, 0, 7, 0⟩, -1⟩ else ⟨.none, -1⟩ := by
  rw [uT]
  by_cases h : j = 0
  · rw [if_pos h, if_pos h]
  · rw [if_neg h, if_neg h, if_neg (by omega)]
theorem uT_succ (t j : Nat) : uT (t + 1) j = if j = t * 8 + 1 then ⟨⟨3, 1, 7, 0⟩, 1⟩ else uT t j := by
  rw [uT, uT]
  by_cases h : j = 0
  · rw [if_pos h, if_pos h, if_neg (by omega)]
  · rw [if_neg h, if_neg h]
    by_cases h2 : j = t * 8 + 1
    · rw [if_pos h2, if_pos (by omega)]
    · rw [if_neg h2]
      by_cases h3 : j % 8 = 1 ∧ j / 8 < t
      · rw [if_pos h3, if_pos (by omega)]
      · rw [if_neg h3, if_neg (by omega)]
theorem vT_succ (x : Int) (t j : Nat) : vT x (t + 1) j = if j = 2 + t then rootT t else vT x t j := by
  rw [vT, vT]
  by_cases h : j = 0
  · rw [if_pos h, if_pos h, if_neg (by omega)]
  · rw [if_neg h, if_neg h]
    by_cases h1 : j = 1
    · rw [if_pos h1, if_pos h1, if_neg (by omega)]
    · rw [if_neg h1, if_neg h1]
      by_cases h2 : j = 2 + t
      · rw [if_pos h2, if_pos (by omega), show (j : Int) - 2 = t by omega]
      · rw [if_neg h2]
        by_cases h3 : j < 2 + t
        · rw [if_pos h3, if_pos (by omega)]
        · rw [if_neg h3, if_neg (by omega)]
theorem vT_zero (x : Int) (j : Nat) : vT x 0 j = if j = 1 then Tng.of 3 else if j = 0 then roomT x else .zero := by
  rw [vT]
  by_cases h : j = 0
  · rw [if_pos h, if_neg (by omega), if_pos h]
  · rw [if_neg h]
    by_cases h1 : j = 1
    · rw [if_pos h1, if_pos h1]
    · rw [if_neg h1, if_neg h1, if_neg h, if_neg (by omega)]
theorem uT_end (t j : Nat) (ht : 1 ≤ t) : newS t j = if j = 1 then ⟨(uT t 1).c, -1⟩ else uT t j := by
  have e1 : uT t 1 = ⟨⟨3, 1, 7, 0⟩, 1⟩ := by rw [uT, if_neg (by decide), if_pos ⟨by decide, by omega⟩]
  rw [e1, newS]
  by_cases h : j = 0
  · rw [if_pos h, if_neg (by omega), uT, if_pos h]
  · by_cases h1 : j = 1
    · subst h1
      rw [if_neg (by decide), if_pos ⟨by decide, by omega⟩, if_pos rfl, if_pos rfl]
    · rw [if_neg h, if_neg h1, uT, if_neg h]
      by_cases h3 : j % 8 = 1 ∧ j / 8 < t
      · rw [if_pos h3, if_pos ⟨h3.1, by omega⟩, if_neg h1]
      · rw [if_neg h3, if_neg (by omega), if_neg h1]
theorem vT_end (x : Int) (t j : Nat) : newT t x j = vT x t j := by
  rw [newT, vT]
  by_cases h : j = 0
  · rw [if_pos h, if_pos h]; rfl
  · rw [if_neg h, if_neg h]
    by_cases h1 : j = 1
    · rw [if_pos h1, if_pos h1]
    · rw [if_neg h1, if_neg h1]
      by_cases h3 : j < 2 + t
      · rw [if_pos h3, if_pos (by omega)]
      · rw [if_neg h3, if_neg (by omega)]
theorem Nw.same {W w : World} {g q P : Nat} {a b c : Int} {x : Tng} {n m G T Q : Nat} {u u' : Nat → Sl} {v v' : Nat → Tng} (h : Nw W w g q P a b c x n m G T Q u v) (hu : ∀ j, u' j = u j) (hv : ∀ j, v' j = v j) : Nw W w g q P a b c x n m G T Q u' v' := by
  rw [show u' = u from funext hu, show v' = v from funext hv]
  exact h
theorem SlotsAt.fndq {w w' : World} {A : Option Addr} {l : List Sl} {g : Nat} (h : SlotsAt w w.heap.size A l) (k : Fnd w w' g) (hne : ∀ b o, A = some ⟨b, o, none⟩ → b ≠ g) : SlotsAt w' w'.heap.size A l := fun h0 => by
  obtain ⟨b, o, e, hlt, hc⟩ := h h0
  exact ⟨b, o, e, Nat.lt_of_lt_of_le hlt k.size, fun j hj => (hc j hj).same fun i => k.cell hlt (hne b o e)⟩
theorem ThingsAt.fndq {w w' : World} {A : Option Addr} {l : List Tng} {g : Nat} (h : ThingsAt w w.heap.size A l) (k : Fnd w w' g) (hne : ∀ b o, A = some ⟨b, o, none⟩ → b ≠ g) : ThingsAt w' w'.heap.size A l := fun h0 => by
  obtain ⟨b, o, e, hlt, hc⟩ := h h0
  exact ⟨b, o, e, Nat.lt_of_lt_of_le hlt k.size, fun j hj => (hc j hj).same fun i => k.cell hlt (hne b o e)⟩
def NlRel (W : World) (g q P τ n m : Nat) (x : Int) (G T Q : Nat) (f : Nat) (p : Value) (wr : World) : Prop :=
  ∃ t : Nat, f + t = τ ∧ p = .int .i64 t ∧ Nw W wr g q P (τ : Int) (n : Int) (m : Int) (roomT x) n m G T Q (uT t) (vT x t)
set_option maxRecDepth 100000 in
set_option maxHeartbeats 16000000 in
theorem pnew_is {a b c x : Int} {r : Option St} {w : World} (hr : snew ⟨a, b, c⟩ x = r) :
    Calls Tryz.prog 69 #[.agg #[.int .i64 a, .int .i64 b, .int .i64 c], .int .i64 x] w fun e w' => NewF w w' e r := by
  have HR := Lib.hid hr
  have k1 := Gq.new w a b c
  clear hr
  obtain ⟨z, hz⟩ : ∃ z, inr3 x 1 4096 = z := ⟨_, rfl⟩
  have HZ := Lib.hid hz
  clear hz
  have hmkT := fun (m : Nat) (h : m ≤ 1000) => make_things m h
  have HMK := Lib.hid hmkT
  clear hmkT
  go_enter Tryz.func69, Tryz.ntmps69
  go_wp2_with fail
  obtain ⟨g, hg⟩ : ∃ g, g = w.heap.size := ⟨_, rfl⟩
  obtain ⟨q, hq⟩ : ∃ q, q = g + 1 := ⟨_, rfl⟩
  rw [← hg, ← hq] at k1
  rw [← hg]
  try rw [← hq]
  clear hg hq
  generalize (w.alloc _).alloc _ = w0 at k1 ⊢
  rcases z with _ | _
  · have HF : Hid (r = none) := Lib.hid (by rw [← HR.out, snew, if_neg (fun e => by rw [HZ.out] at e; cases e.2)])
    refine (pnewt_is (tnew_noroom HZ.out)).mono ?_
    rintro e w1 ⟨rfl, hb⟩
    have hG1 := k1.on hb
    clear hb k1
    have HG1 := Lib.hid hG1
    simp only [tv, Option.getD_none, Option.isSome_none, Tng.val, Tng.zero, Tng.of]
    clear hG1
    have hE := earg_cells HG1.out
    have hB9 := earg_end HG1.out
    obtain ⟨-, -, -, qr, qf, -, qlt⟩ := HG1.out
    have q0 : w1.cell? ⟨q, 0, none⟩ = some (.int .i64 0) := qr 0 _ rfl
    have q1 : w1.cell? ⟨q, 1, none⟩ = some (.int .i64 0) := qr 1 _ rfl
    have q2 : w1.cell? ⟨q, 2, none⟩ = some (.int .i64 0) := qr 2 _ rfl
    have q3 : w1.cell? ⟨q, 3, none⟩ = some (.slice none 0 0) := qr 3 _ rfl
    have q4 : w1.cell? ⟨q, 4, none⟩ = some (.slice none 0 0) := qr 4 _ rfl
    have f0 := qf 0
    have f1 := qf 1
    have f2 := qf 2
    have f3 := qf 3
    have f4 := qf 4
    clear qr qf
    go_wp2
    generalize World.setCell (World.setCell (World.setCell (World.setCell (World.setCell w1 _ _) _ _) _ _) _ _) _ _ = w9 at hE hB9 ⊢
    clear q0 q1 q2 q3 q4 f0 f1 f2 f3 f4 qlt
    have hal := below_alloc w9 (.cells #[.int .i64 0, .int .i64 0, .int .i64 0, .int .i64 0, .int .i64 0, .int .i64 0, .int .i64 0, .bool false, .int .u64 0, .int .u64 0, .int .u64 0, .int .u64 0, .int .u64 0] 67)
    have q0 := (hal.cell (p := ⟨q, 0, none⟩) hE.2).trans (hE.1 0 _ rfl)
    have q1 := (hal.cell (p := ⟨q, 1, none⟩) hE.2).trans (hE.1 1 _ rfl)
    have q2 := (hal.cell (p := ⟨q, 2, none⟩) hE.2).trans (hE.1 2 _ rfl)
    have q3 := (hal.cell (p := ⟨q, 3, none⟩) hE.2).trans (hE.1 3 _ rfl)
    have q4 := (hal.cell (p := ⟨q, 4, none⟩) hE.2).trans (hE.1 4 _ rfl)
    have hB10 := below_on hB9 hal
    clear hal hB9 hE
    generalize w9.alloc _ = w10 at q0 q1 q2 q3 q4 hB10 ⊢
    refine bodyPost_ret (by simp [results, Tryz.results69, go_sem, q0, q1, q2, q3, q4]; rfl) rfl ?_
    rw [HF.out]
    exact ⟨none, 0, none, 0, rfl, hB10⟩
  · obtain ⟨y, hy⟩ : ∃ y, Gd.ok ⟨a, b, c⟩ = y := ⟨_, rfl⟩
    have HY := Lib.hid hy
    clear hy
    refine (pnewt_is (tnew_room HZ.out)).mono ?_
    rintro e w1 ⟨rfl, hb⟩
    have hG1 := k1.on hb
    clear hb k1
    have hB2 := hG1.bs x
    have hglt : g < w1.heap.size := by have := hG1.gq; have := hG1.lt; omega
    obtain ⟨⟨g0, g1, g2, glt⟩, -, -, -, -, -, -⟩ := hG1
    simp only at g0 g1 g2
    simp only [tv, Option.getD_some, Option.isSome_some, Tng.val, roomT] at hB2 ⊢
    go_wp2_with fail
    obtain ⟨P, hP⟩ : ∃ P, P = w1.heap.size := ⟨_, rfl⟩
    rw [← hP] at hB2 ⊢
    clear hP g0 g1 g2 glt hglt
    generalize w1.alloc _ = w2 at hB2 ⊢
    have HB2 := Lib.hid hB2
    clear hB2
    refine (good_to HY.out w2).mono ?_
    rintro e w3 ⟨rfl, hb⟩
    have HB3 := Lib.hid (HB2.out.on hb)
    clear hb HB2
    rcases y with _ | _
    · have HF : Hid (r = none) := Lib.hid (by rw [← HR.out, snew, if_neg (fun e => by rw [HY.out] at e; cases e.1)])
      have HG3 : Hid (Gq w w3 g q a b c) := Lib.hid ⟨HB3.out.bx, HB3.out.old, HB3.out.base, HB3.out.qr, HB3.out.qf, HB3.out.gq, Nat.lt_trans HB3.out.qP HB3.out.lt⟩
      obtain ⟨-, -, -, qr, qf, -, qlt⟩ := HG3.out
      have q0 : w3.cell? ⟨q, 0, none⟩ = some (.int .i64 0) := qr 0 _ rfl
      have q1 : w3.cell? ⟨q, 1, none⟩ = some (.int .i64 0) := qr 1 _ rfl
      have q2 : w3.cell? ⟨q, 2, none⟩ = some (.int .i64 0) := qr 2 _ rfl
      have q3 : w3.cell? ⟨q, 3, none⟩ = some (.slice none 0 0) := qr 3 _ rfl
      have q4 : w3.cell? ⟨q, 4, none⟩ = some (.slice none 0 0) := qr 4 _ rfl
      have f0 := qf 0
      have f1 := qf 1
      have f2 := qf 2
      have f3 := qf 3
      have f4 := qf 4
      clear qr qf
      go_wp2
      refine bodyPost_ret (by simp [results, Tryz.results69, go_sem, q0, q1, q2, q3, q4]; rfl) rfl ?_
      rw [HF.out]
      exact ⟨none, 0, none, 0, rfl, by first | exact earg_end HG3.out | exact below_on (earg_end HG3.out) (below_alloc _ _)⟩
    · have hok := Gd.ok_iff.1 HY.out
      simp only at hok
      obtain ⟨τ, rfl⟩ : ∃ τ : Nat, a = τ := ⟨a.toNat, by omega⟩
      obtain ⟨n, rfl⟩ : ∃ n : Nat, b = n := ⟨b.toNat, by omega⟩
      obtain ⟨m, rfl⟩ : ∃ m : Nat, c = m := ⟨c.toNat, by omega⟩
      have HFEW : Hid (n ≤ 1000 ∧ m ≤ 1000) := Lib.hid (by omega)
      have HOK : Hid (1 ≤ τ ∧ τ ≤ 4 ∧ 8 * τ ≤ n ∧ n ≤ 96 ∧ τ + 2 ≤ m ∧ m ≤ 48) := Lib.hid (by omega)
      clear hok
      go_wp2_with fail
      go_cut [8] from 24 to 33 (fun e wx => NwF w wx g q P (τ : Int) (n : Int) (m : Int) (roomT x) n m e)
      case first =>
        have hmkT := HMK.out m HFEW.out.2
        have HM : Hid (Mk w w3.drew g q P (τ : Int) (n : Int) (m : Int) (roomT x) n m 0 0 0 0 false false false false) := Lib.hid ⟨HB3.out.on (below_self w3).drew, fun e => absurd e (by decide), fun e => absurd e (by decide), fun e => absurd e (by decide), fun e => absurd e (by decide), fun e => absurd e (by decide), fun e => absurd e (by decide), fun e => absurd e (by decide)⟩
        refine wp_region_held_drew (S := (fun w' => w'.cell? ⟨g, 0, none⟩ = some (.int .i64 (τ : Int)) ∧ w'.cell? ⟨g, 1, none⟩ = some (.int .i64 (n : Int)) ∧ w'.cell? ⟨g, 2, none⟩ = some (.int .i64 (m : Int)))) (by kernel_rfl) ⟨HM.out.bs.bx.t, HM.out.bs.bx.s, HM.out.bs.bx.k⟩ (fun hHeld => ?_)
        generalize w3.drew = v at HM hHeld ⊢
        refine wpAnyH_take (i := 0) (v := ?_) rfl (by kernel_rfl) (by kernel_rfl) (by kernel_rfl) (fun _ _ _ h => h) (Or.inl ⟨by rfl, ?_⟩) (by assumption) ?_
        rotate_left
        · intro w hSw; go_split_ands; go_simp; try with_reducible rfl
        simp only [Act.put, List.setIfInBounds_toArray, List.set_cons_zero, List.set_cons_succ, List.getElem_toArray, List.getElem_cons_zero]
        refine wpAnyH_take (i := 1) (v := ?_) rfl (by kernel_rfl) (by kernel_rfl) (by kernel_rfl) (fun _ _ _ h => h) (Or.inl ⟨by rfl, ?_⟩) (by assumption) ?_
        rotate_left
        · intro w hSw; go_split_ands; go_simp; try with_reducible rfl
        simp only [Act.put, List.setIfInBounds_toArray, List.set_cons_zero, List.set_cons_succ, List.getElem_toArray, List.getElem_cons_zero, List.getElem_cons_succ]
        refine wpAnyH_take (i := 3) (v := ?_) rfl (by kernel_rfl) (by kernel_rfl) (by kernel_rfl) (fun _ _ _ h => h) (Or.inl ⟨by rfl, ?_⟩) (by assumption) ?_
        rotate_left
        · intro w hSw; go_split_ands; go_simp; try with_reducible rfl
        simp only [Act.put, List.setIfInBounds_toArray, List.set_cons_zero, List.set_cons_succ, List.getElem_toArray, List.getElem_cons_zero, List.getElem_cons_succ]
        refine wpAnyH_take (i := 4) (v := ?_) rfl (by kernel_rfl) (by kernel_rfl) (by kernel_rfl) (fun _ _ _ h => h) (Or.inl ⟨by rfl, ?_⟩) (by assumption) ?_
        rotate_left
        · intro w hSw; go_split_ands; go_simp; try with_reducible rfl
        simp only [Act.put, List.setIfInBounds_toArray, List.set_cons_zero, List.set_cons_succ, List.getElem_toArray, List.getElem_cons_zero, List.getElem_cons_succ]
        refine wpAnyH_take (i := 6) (v := ?_) rfl (by kernel_rfl) (by kernel_rfl) (by kernel_rfl) (fun _ _ _ h => h) (Or.inl ⟨by rfl, ?_⟩) (by assumption) ?_
        rotate_left
        · intro w hSw; go_split_ands; go_simp; try with_reducible rfl
        simp only [Act.put, List.setIfInBounds_toArray, List.set_cons_zero, List.set_cons_succ, List.getElem_toArray, List.getElem_cons_zero, List.getElem_cons_succ]
        refine wpAnyH_take (i := 7) (v := ?_) rfl (by kernel_rfl) (by kernel_rfl) (by kernel_rfl) (fun _ _ _ h => h) (Or.inl ⟨by rfl, ?_⟩) (by assumption) ?_
        rotate_left
        · intro w hSw; go_split_ands; go_simp; try with_reducible rfl
        simp only [Act.put, List.setIfInBounds_toArray, List.set_cons_zero, List.set_cons_succ, List.getElem_toArray, List.getElem_cons_zero, List.getElem_cons_succ]
        refine wpAnyH_ready (rs := [2, 8, 10]) (by kernel_rfl) (by simp) ?_
        refine AllReadyH.cons rfl (fun K hK => ?_) (AllReadyH.cons rfl (fun K hK => ?_) (AllReadyH.cons rfl (fun K hK => ?_) AllReadyH.nil))
        · go_simp
          have HM2 := Lib.hid HM.out.addX
          refine hK.out _ _ ⟨HM2.out.bs.bx.t, HM2.out.bs.bx.s, HM2.out.bs.bx.k⟩ (fun hHeld => ?_)
          clear hK K
          try simp only [Act.put, List.setIfInBounds_toArray, List.set_cons_zero, List.set_cons_succ, List.getElem_toArray, List.getElem_cons_zero, List.getElem_cons_succ]
          generalize World.alloc v _ = v2 at HM2 hHeld ⊢
          refine wpAnyH_ready (rs := [5, 8, 10]) (by kernel_rfl) (by simp) ?_
          refine AllReadyH.cons rfl (fun K hK => ?_) (AllReadyH.cons rfl (fun K hK => ?_) (AllReadyH.cons rfl (fun K hK => ?_) AllReadyH.nil))
          · go_simp
            refine (reps_at (v0 := 0) (v1 := 0) (v2 := 0) (v3 := 0) (v4 := -1) HFEW.out.1 ⟨(HM2.out.hx rfl).1 0 _ rfl, (HM2.out.hx rfl).1 1 _ rfl, (HM2.out.hx rfl).1 2 _ rfl, (HM2.out.hx rfl).1 3 _ rfl, (HM2.out.hx rfl).1 4 _ rfl⟩ (HM2.out.hx rfl).2).mono ?_
            rintro e v25 ⟨G, rfl, hr, h1, h2, hb⟩
            have HM25 := Lib.hid (HM2.out.addG hb hr h1 h2)
            clear hr h1 h2 hb
            refine hK.out _ _ ⟨HM25.out.bs.bx.t, HM25.out.bs.bx.s, HM25.out.bs.bx.k⟩ (fun hHeld => ?_)
            clear hK K
            try simp only [Act.put, List.setIfInBounds_toArray, List.set_cons_zero, List.set_cons_succ, List.getElem_toArray, List.getElem_cons_zero, List.getElem_cons_succ]
            refine wpAnyH_ready (rs := [8, 10]) (by kernel_rfl) (by simp) ?_
            refine AllReadyH.cons rfl (fun K hK => ?_) (AllReadyH.cons rfl (fun K hK => ?_) AllReadyH.nil)
            · go_simp
              have HM258 := Lib.hid HM25.out.addT
              refine hK.out _ _ ⟨HM258.out.bs.bx.t, HM258.out.bs.bx.s, HM258.out.bs.bx.k⟩ (fun hHeld => ?_)
              clear hK K
              try simp only [Act.put, List.setIfInBounds_toArray, List.set_cons_zero, List.set_cons_succ, List.getElem_toArray, List.getElem_cons_zero, List.getElem_cons_succ]
              generalize World.alloc v25 _ = v258 at HM258 hHeld ⊢
              refine wpAnyH_take (i := 9) (v := ?_) rfl (by kernel_rfl) (by kernel_rfl) (by kernel_rfl) (fun _ _ _ h => h) (Or.inl ⟨by rfl, ?_⟩) (by assumption) ?_
              rotate_left
              · intro w hSw; go_split_ands; go_simp; try with_reducible rfl
              simp only [Act.put, List.setIfInBounds_toArray, List.set_cons_zero, List.set_cons_succ, List.getElem_toArray, List.getElem_cons_zero, List.getElem_cons_succ]
              refine wpAnyH_ready (rs := [10]) (by kernel_rfl) (by simp) ?_
              refine AllReadyH.cons rfl (fun K hK => ?_) AllReadyH.nil
              go_simp
              have HM25810 := Lib.hid HM258.out.addQ
              refine hK.out _ _ ⟨HM25810.out.bs.bx.t, HM25810.out.bs.bx.s, HM25810.out.bs.bx.k⟩ (fun hHeld => ?_)
              clear hK K
              try simp only [Act.put, List.setIfInBounds_toArray, List.set_cons_zero, List.set_cons_succ, List.getElem_toArray, List.getElem_cons_zero, List.getElem_cons_succ]
              generalize World.alloc v258 _ = v25810 at HM25810 hHeld ⊢
              obtain ⟨hQ, -, hQl⟩ := HM25810.out.hq rfl
              have y0 : v25810.cell? ⟨v258.heap.size, 0, none⟩ = some (.int .i64 0) := by rw [cell_of_row _ _ _ _ _ _ hQ]; rfl
              have yf0 : v25810.frozen? ⟨v258.heap.size, 0, none⟩ = false := frozen_of_row _ _ _ _ _ hQ
              have y1 : v25810.cell? ⟨v258.heap.size, 1, none⟩ = some (.int .i64 0) := by rw [cell_of_row _ _ _ _ _ _ hQ]; rfl
              have yf1 : v25810.frozen? ⟨v258.heap.size, 1, none⟩ = false := frozen_of_row _ _ _ _ _ hQ
              have y2 : v25810.cell? ⟨v258.heap.size, 2, none⟩ = some (.int .i64 0) := by rw [cell_of_row _ _ _ _ _ _ hQ]; rfl
              have yf2 : v25810.frozen? ⟨v258.heap.size, 2, none⟩ = false := frozen_of_row _ _ _ _ _ hQ
              have y3 : v25810.cell? ⟨v258.heap.size, 3, none⟩ = some (.slice none 0 0) := by rw [cell_of_row _ _ _ _ _ _ hQ]; rfl
              have yf3 : v25810.frozen? ⟨v258.heap.size, 3, none⟩ = false := frozen_of_row _ _ _ _ _ hQ
              have y4 : v25810.cell? ⟨v258.heap.size, 4, none⟩ = some (.slice none 0 0) := by rw [cell_of_row _ _ _ _ _ _ hQ]; rfl
              have yf4 : v25810.frozen? ⟨v258.heap.size, 4, none⟩ = false := frozen_of_row _ _ _ _ _ hQ
              have HN := Lib.hid HM25810.out.fin
              clear hQ
              refine wpAnyH_ready (rs := [11]) (by kernel_rfl) (by simp) ?_
              refine AllReadyH.cons rfl (fun K hK => ?_) AllReadyH.nil
              go_simp
              refine hK.out _ _ ⟨HN.out.bs.bx.t, HN.out.bs.bx.s, HN.out.bs.bx.k⟩ (fun hHeld => ?_)
              clear hK K
              try simp only [Act.put, List.setIfInBounds_toArray, List.set_cons_zero, List.set_cons_succ, List.getElem_toArray, List.getElem_cons_zero, List.getElem_cons_succ]
              refine wpAnyH_done (by kernel_rfl) ?_ _
              go_wp2_with fail
              go_meet
              exact ⟨_, _, _, rfl, HN.out⟩
            · go_simp
              have HM2510 := Lib.hid HM25.out.addQ
              refine hK.out _ _ ⟨HM2510.out.bs.bx.t, HM2510.out.bs.bx.s, HM2510.out.bs.bx.k⟩ (fun hHeld => ?_)
              clear hK K
              try simp only [Act.put, List.setIfInBounds_toArray, List.set_cons_zero, List.set_cons_succ, List.getElem_toArray, List.getElem_cons_zero, List.getElem_cons_succ]
              generalize World.alloc v25 _ = v2510 at HM2510 hHeld ⊢
              refine wpAnyH_ready (rs := [8]) (by kernel_rfl) (by simp) ?_
              refine AllReadyH.cons rfl (fun K hK => ?_) AllReadyH.nil
              go_simp
              have HM25108 := Lib.hid HM2510.out.addT
              refine hK.out _ _ ⟨HM25108.out.bs.bx.t, HM25108.out.bs.bx.s, HM25108.out.bs.bx.k⟩ (fun hHeld => ?_)
              clear hK K
              try simp only [Act.put, List.setIfInBounds_toArray, List.set_cons_zero, List.set_cons_succ, List.getElem_toArray, List.getElem_cons_zero, List.getElem_cons_succ]
              generalize World.alloc v2510 _ = v25108 at HM25108 hHeld ⊢
              refine wpAnyH_take (i := 9) (v := ?_) rfl (by kernel_rfl) (by kernel_rfl) (by kernel_rfl) (fun _ _ _ h => h) (Or.inl ⟨by rfl, ?_⟩) (by assumption) ?_
              rotate_left
              · intro w hSw; go_split_ands; go_simp; try with_reducible rfl
              simp only [Act.put, List.setIfInBounds_toArray, List.set_cons_zero, List.set_cons_succ, List.getElem_toArray, List.getElem_cons_zero, List.getElem_cons_succ]
              obtain ⟨hQ, -, hQl⟩ := HM25108.out.hq rfl
              have y0 : v25108.cell? ⟨v25.heap.size, 0, none⟩ = some (.int .i64 0) := by rw [cell_of_row _ _ _ _ _ _ hQ]; rfl
              have yf0 : v25108.frozen? ⟨v25.heap.size, 0, none⟩ = false := frozen_of_row _ _ _ _ _ hQ
              have y1 : v25108.cell? ⟨v25.heap.size, 1, none⟩ = some (.int .i64 0) := by rw [cell_of_row _ _ _ _ _ _ hQ]; rfl
              have yf1 : v25108.frozen? ⟨v25.heap.size, 1, none⟩ = false := frozen_of_row _ _ _ _ _ hQ
              have y2 : v25108.cell? ⟨v25.heap.size, 2, none⟩ = some (.int .i64 0) := by rw [cell_of_row _ _ _ _ _ _ hQ]; rfl
              have yf2 : v25108.frozen? ⟨v25.heap.size, 2, none⟩ = false := frozen_of_row _ _ _ _ _ hQ
              have y3 : v25108.cell? ⟨v25.heap.size, 3, none⟩ = some (.slice none 0 0) := by rw [cell_of_row _ _ _ _ _ _ hQ]; rfl
              have yf3 : v25108.frozen? ⟨v25.heap.size, 3, none⟩ = false := frozen_of_row _ _ _ _ _ hQ
              have y4 : v25108.cell? ⟨v25.heap.size, 4, none⟩ = some (.slice none 0 0) := by rw [cell_of_row _ _ _ _ _ _ hQ]; rfl
              have yf4 : v25108.frozen? ⟨v25.heap.size, 4, none⟩ = false := frozen_of_row _ _ _ _ _ hQ
              have HN := Lib.hid HM25108.out.fin
              clear hQ
              refine wpAnyH_ready (rs := [11]) (by kernel_rfl) (by simp) ?_
              refine AllReadyH.cons rfl (fun K hK => ?_) AllReadyH.nil
              go_simp
              refine hK.out _ _ ⟨HN.out.bs.bx.t, HN.out.bs.bx.s, HN.out.bs.bx.k⟩ (fun hHeld => ?_)
              clear hK K
              try simp only [Act.put, List.setIfInBounds_toArray, List.set_cons_zero, List.set_cons_succ, List.getElem_toArray, List.getElem_cons_zero, List.getElem_cons_succ]
              refine wpAnyH_done (by kernel_rfl) ?_ _
              go_wp2_with fail
              go_meet
              exact ⟨_, _, _, rfl, HN.out⟩
          · go_simp
            have HM28 := Lib.hid HM2.out.addT
            refine hK.out _ _ ⟨HM28.out.bs.bx.t, HM28.out.bs.bx.s, HM28.out.bs.bx.k⟩ (fun hHeld => ?_)
            clear hK K
            try simp only [Act.put, List.setIfInBounds_toArray, List.set_cons_zero, List.set_cons_succ, List.getElem_toArray, List.getElem_cons_zero, List.getElem_cons_succ]
            generalize World.alloc v2 _ = v28 at HM28 hHeld ⊢
            refine wpAnyH_ready (rs := [5, 10]) (by kernel_rfl) (by simp) ?_
            refine AllReadyH.cons rfl (fun K hK => ?_) (AllReadyH.cons rfl (fun K hK => ?_) AllReadyH.nil)
            · go_simp
              refine (reps_at (v0 := 0) (v1 := 0) (v2 := 0) (v3 := 0) (v4 := -1) HFEW.out.1 ⟨(HM28.out.hx rfl).1 0 _ rfl, (HM28.out.hx rfl).1 1 _ rfl, (HM28.out.hx rfl).1 2 _ rfl, (HM28.out.hx rfl).1 3 _ rfl, (HM28.out.hx rfl).1 4 _ rfl⟩ (HM28.out.hx rfl).2).mono ?_
              rintro e v285 ⟨G, rfl, hr, h1, h2, hb⟩
              have HM285 := Lib.hid (HM28.out.addG hb hr h1 h2)
              clear hr h1 h2 hb
              refine hK.out _ _ ⟨HM285.out.bs.bx.t, HM285.out.bs.bx.s, HM285.out.bs.bx.k⟩ (fun hHeld => ?_)
              clear hK K
              try simp only [Act.put, List.setIfInBounds_toArray, List.set_cons_zero, List.set_cons_succ, List.getElem_toArray, List.getElem_cons_zero, List.getElem_cons_succ]
              refine wpAnyH_take (i := 9) (v := ?_) rfl (by kernel_rfl) (by kernel_rfl) (by kernel_rfl) (fun _ _ _ h => h) (Or.inl ⟨by rfl, ?_⟩) (by assumption) ?_
              rotate_left
              · intro w hSw; go_split_ands; go_simp; try with_reducible rfl
              simp only [Act.put, List.setIfInBounds_toArray, List.set_cons_zero, List.set_cons_succ, List.getElem_toArray, List.getElem_cons_zero, List.getElem_cons_succ]
              refine wpAnyH_ready (rs := [10]) (by kernel_rfl) (by simp) ?_
              refine AllReadyH.cons rfl (fun K hK => ?_) AllReadyH.nil
              go_simp
              have HM28510 := Lib.hid HM285.out.addQ
              refine hK.out _ _ ⟨HM28510.out.bs.bx.t, HM28510.out.bs.bx.s, HM28510.out.bs.bx.k⟩ (fun hHeld => ?_)
              clear hK K
              try simp only [Act.put, List.setIfInBounds_toArray, List.set_cons_zero, List.set_cons_succ, List.getElem_toArray, List.getElem_cons_zero, List.getElem_cons_succ]
              generalize World.alloc v285 _ = v28510 at HM28510 hHeld ⊢
              obtain ⟨hQ, -, hQl⟩ := HM28510.out.hq rfl
              have y0 : v28510.cell? ⟨v285.heap.size, 0, none⟩ = some (.int .i64 0) := by rw [cell_of_row _ _ _ _ _ _ hQ]; rfl
              have yf0 : v28510.frozen? ⟨v285.heap.size, 0, none⟩ = false := frozen_of_row _ _ _ _ _ hQ
              have y1 : v28510.cell? ⟨v285.heap.size, 1, none⟩ = some (.int .i64 0) := by rw [cell_of_row _ _ _ _ _ _ hQ]; rfl
              have yf1 : v28510.frozen? ⟨v285.heap.size, 1, none⟩ = false := frozen_of_row _ _ _ _ _ hQ
              have y2 : v28510.cell? ⟨v285.heap.size, 2, none⟩ = some (.int .i64 0) := by rw [cell_of_row _ _ _ _ _ _ hQ]; rfl
              have yf2 : v28510.frozen? ⟨v285.heap.size, 2, none⟩ = false := frozen_of_row _ _ _ _ _ hQ
              have y3 : v28510.cell? ⟨v285.heap.size, 3, none⟩ = some (.slice none 0 0) := by rw [cell_of_row _ _ _ _ _ _ hQ]; rfl
              have yf3 : v28510.frozen? ⟨v285.heap.size, 3, none⟩ = false := frozen_of_row _ _ _ _ _ hQ
              have y4 : v28510.cell? ⟨v285.heap.size, 4, none⟩ = some (.slice none 0 0) := by rw [cell_of_row _ _ _ _ _ _ hQ]; rfl
              have yf4 : v28510.frozen? ⟨v285.heap.size, 4, none⟩ = false := frozen_of_row _ _ _ _ _ hQ
              have HN := Lib.hid HM28510.out.fin
              clear hQ
              refine wpAnyH_ready (rs := [11]) (by kernel_rfl) (by simp) ?_
              refine AllReadyH.cons rfl (fun K hK => ?_) AllReadyH.nil
              go_simp
              refine hK.out _ _ ⟨HN.out.bs.bx.t, HN.out.bs.bx.s, HN.out.bs.bx.k⟩ (fun hHeld => ?_)
              clear hK K
              try simp only [Act.put, List.setIfInBounds_toArray, List.set_cons_zero, List.set_cons_succ, List.getElem_toArray, List.getElem_cons_zero, List.getElem_cons_succ]
              refine wpAnyH_done (by kernel_rfl) ?_ _
              go_wp2_with fail
              go_meet
              exact ⟨_, _, _, rfl, HN.out⟩
            · go_simp
              have HM2810 := Lib.hid HM28.out.addQ
              refine hK.out _ _ ⟨HM2810.out.bs.bx.t, HM2810.out.bs.bx.s, HM2810.out.bs.bx.k⟩ (fun hHeld => ?_)
              clear hK K
              try simp only [Act.put, List.setIfInBounds_toArray, List.set_cons_zero, List.set_cons_succ, List.getElem_toArray, List.getElem_cons_zero, List.getElem_cons_succ]
              generalize World.alloc v28 _ = v2810 at HM2810 hHeld ⊢
              refine wpAnyH_ready (rs := [5]) (by kernel_rfl) (by simp) ?_
              refine AllReadyH.cons rfl (fun K hK => ?_) AllReadyH.nil
              go_simp
              refine (reps_at (v0 := 0) (v1 := 0) (v2 := 0) (v3 := 0) (v4 := -1) HFEW.out.1 ⟨(HM2810.out.hx rfl).1 0 _ rfl, (HM2810.out.hx rfl).1 1 _ rfl, (HM2810.out.hx rfl).1 2 _ rfl, (HM2810.out.hx rfl).1 3 _ rfl, (HM2810.out.hx rfl).1 4 _ rfl⟩ (HM2810.out.hx rfl).2).mono ?_
              rintro e v28105 ⟨G, rfl, hr, h1, h2, hb⟩
              have HM28105 := Lib.hid (HM2810.out.addG hb hr h1 h2)
              clear hr h1 h2 hb
              refine hK.out _ _ ⟨HM28105.out.bs.bx.t, HM28105.out.bs.bx.s, HM28105.out.bs.bx.k⟩ (fun hHeld => ?_)
              clear hK K
              try simp only [Act.put, List.setIfInBounds_toArray, List.set_cons_zero, List.set_cons_succ, List.getElem_toArray, List.getElem_cons_zero, List.getElem_cons_succ]
              refine wpAnyH_take (i := 9) (v := ?_) rfl (by kernel_rfl) (by kernel_rfl) (by kernel_rfl) (fun _ _ _ h => h) (Or.inl ⟨by rfl, ?_⟩) (by assumption) ?_
              rotate_left
              · intro w hSw; go_split_ands; go_simp; try with_reducible rfl
              simp only [Act.put, List.setIfInBounds_toArray, List.set_cons_zero, List.set_cons_succ, List.getElem_toArray, List.getElem_cons_zero, List.getElem_cons_succ]
              obtain ⟨hQ, -, hQl⟩ := HM28105.out.hq rfl
              have y0 : v28105.cell? ⟨v28.heap.size, 0, none⟩ = some (.int .i64 0) := by rw [cell_of_row _ _ _ _ _ _ hQ]; rfl
              have yf0 : v28105.frozen? ⟨v28.heap.size, 0, none⟩ = false := frozen_of_row _ _ _ _ _ hQ
              have y1 : v28105.cell? ⟨v28.heap.size, 1, none⟩ = some (.int .i64 0) := by rw [cell_of_row _ _ _ _ _ _ hQ]; rfl
              have yf1 : v28105.frozen? ⟨v28.heap.size, 1, none⟩ = false := frozen_of_row _ _ _ _ _ hQ
              have y2 : v28105.cell? ⟨v28.heap.size, 2, none⟩ = some (.int .i64 0) := by rw [cell_of_row _ _ _ _ _ _ hQ]; rfl
              have yf2 : v28105.frozen? ⟨v28.heap.size, 2, none⟩ = false := frozen_of_row _ _ _ _ _ hQ
              have y3 : v28105.cell? ⟨v28.heap.size, 3, none⟩ = some (.slice none 0 0) := by rw [cell_of_row _ _ _ _ _ _ hQ]; rfl
              have yf3 : v28105.frozen? ⟨v28.heap.size, 3, none⟩ = false := frozen_of_row _ _ _ _ _ hQ
              have y4 : v28105.cell? ⟨v28.heap.size, 4, none⟩ = some (.slice none 0 0) := by rw [cell_of_row _ _ _ _ _ _ hQ]; rfl
              have yf4 : v28105.frozen? ⟨v28.heap.size, 4, none⟩ = false := frozen_of_row _ _ _ _ _ hQ
              have HN := Lib.hid HM28105.out.fin
              clear hQ
              refine wpAnyH_ready (rs := [11]) (by kernel_rfl) (by simp) ?_
              refine AllReadyH.cons rfl (fun K hK => ?_) AllReadyH.nil
              go_simp
              refine hK.out _ _ ⟨HN.out.bs.bx.t, HN.out.bs.bx.s, HN.out.bs.bx.k⟩ (fun hHeld => ?_)
              clear hK K
              try simp only [Act.put, List.setIfInBounds_toArray, List.set_cons_zero, List.set_cons_succ, List.getElem_toArray, List.getElem_cons_zero, List.getElem_cons_succ]
              refine wpAnyH_done (by kernel_rfl) ?_ _
              go_wp2_with fail
              go_meet
              exact ⟨_, _, _, rfl, HN.out⟩
          · go_simp
            have HM210 := Lib.hid HM2.out.addQ
            refine hK.out _ _ ⟨HM210.out.bs.bx.t, HM210.out.bs.bx.s, HM210.out.bs.bx.k⟩ (fun hHeld => ?_)
            clear hK K
            try simp only [Act.put, List.setIfInBounds_toArray, List.set_cons_zero, List.set_cons_succ, List.getElem_toArray, List.getElem_cons_zero, List.getElem_cons_succ]
            generalize World.alloc v2 _ = v210 at HM210 hHeld ⊢
            refine wpAnyH_ready (rs := [5, 8]) (by kernel_rfl) (by simp) ?_
            refine AllReadyH.cons rfl (fun K hK => ?_) (AllReadyH.cons rfl (fun K hK => ?_) AllReadyH.nil)
            · go_simp
              refine (reps_at (v0 := 0) (v1 := 0) (v2 := 0) (v3 := 0) (v4 := -1) HFEW.out.1 ⟨(HM210.out.hx rfl).1 0 _ rfl, (HM210.out.hx rfl).1 1 _ rfl, (HM210.out.hx rfl).1 2 _ rfl, (HM210.out.hx rfl).1 3 _ rfl, (HM210.out.hx rfl).1 4 _ rfl⟩ (HM210.out.hx rfl).2).mono ?_
              rintro e v2105 ⟨G, rfl, hr, h1, h2, hb⟩
              have HM2105 := Lib.hid (HM210.out.addG hb hr h1 h2)
              clear hr h1 h2 hb
              refine hK.out _ _ ⟨HM2105.out.bs.bx.t, HM2105.out.bs.bx.s, HM2105.out.bs.bx.k⟩ (fun hHeld => ?_)
              clear hK K
              try simp only [Act.put, List.setIfInBounds_toArray, List.set_cons_zero, List.set_cons_succ, List.getElem_toArray, List.getElem_cons_zero, List.getElem_cons_succ]
              refine wpAnyH_ready (rs := [8]) (by kernel_rfl) (by simp) ?_
              refine AllReadyH.cons rfl (fun K hK => ?_) AllReadyH.nil
              go_simp
              have HM21058 := Lib.hid HM2105.out.addT
              refine hK.out _ _ ⟨HM21058.out.bs.bx.t, HM21058.out.bs.bx.s, HM21058.out.bs.bx.k⟩ (fun hHeld => ?_)
              clear hK K
              try simp only [Act.put, List.setIfInBounds_toArray, List.set_cons_zero, List.set_cons_succ, List.getElem_toArray, List.getElem_cons_zero, List.getElem_cons_succ]
              generalize World.alloc v2105 _ = v21058 at HM21058 hHeld ⊢
              refine wpAnyH_take (i := 9) (v := ?_) rfl (by kernel_rfl) (by kernel_rfl) (by kernel_rfl) (fun _ _ _ h => h) (Or.inl ⟨by rfl, ?_⟩) (by assumption) ?_
              rotate_left
              · intro w hSw; go_split_ands; go_simp; try with_reducible rfl
              simp only [Act.put, List.setIfInBounds_toArray, List.set_cons_zero, List.set_cons_succ, List.getElem_toArray, List.getElem_cons_zero, List.getElem_cons_succ]
              obtain ⟨hQ, -, hQl⟩ := HM21058.out.hq rfl
              have y0 : v21058.cell? ⟨v2.heap.size, 0, none⟩ = some (.int .i64 0) := by rw [cell_of_row _ _ _ _ _ _ hQ]; rfl
              have yf0 : v21058.frozen? ⟨v2.heap.size, 0, none⟩ = false := frozen_of_row _ _ _ _ _ hQ
              have y1 : v21058.cell? ⟨v2.heap.size, 1, none⟩ = some (.int .i64 0) := by rw [cell_of_row _ _ _ _ _ _ hQ]; rfl
              have yf1 : v21058.frozen? ⟨v2.heap.size, 1, none⟩ = false := frozen_of_row _ _ _ _ _ hQ
              have y2 : v21058.cell? ⟨v2.heap.size, 2, none⟩ = some (.int .i64 0) := by rw [cell_of_row _ _ _ _ _ _ hQ]; rfl
              have yf2 : v21058.frozen? ⟨v2.heap.size, 2, none⟩ = false := frozen_of_row _ _ _ _ _ hQ
              have y3 : v21058.cell? ⟨v2.heap.size, 3, none⟩ = some (.slice none 0 0) := by rw [cell_of_row _ _ _ _ _ _ hQ]; rfl
              have yf3 : v21058.frozen? ⟨v2.heap.size, 3, none⟩ = false := frozen_of_row _ _ _ _ _ hQ
              have y4 : v21058.cell? ⟨v2.heap.size, 4, none⟩ = some (.slice none 0 0) := by rw [cell_of_row _ _ _ _ _ _ hQ]; rfl
              have yf4 : v21058.frozen? ⟨v2.heap.size, 4, none⟩ = false := frozen_of_row _ _ _ _ _ hQ
              have HN := Lib.hid HM21058.out.fin
              clear hQ
              refine wpAnyH_ready (rs := [11]) (by kernel_rfl) (by simp) ?_
              refine AllReadyH.cons rfl (fun K hK => ?_) AllReadyH.nil
              go_simp
              refine hK.out _ _ ⟨HN.out.bs.bx.t, HN.out.bs.bx.s, HN.out.bs.bx.k⟩ (fun hHeld => ?_)
              clear hK K
              try simp only [Act.put, List.setIfInBounds_toArray, List.set_cons_zero, List.set_cons_succ, List.getElem_toArray, List.getElem_cons_zero, List.getElem_cons_succ]
              refine wpAnyH_done (by kernel_rfl) ?_ _
              go_wp2_with fail
              go_meet
              exact ⟨_, _, _, rfl, HN.out⟩
            · go_simp
              have HM2108 := Lib.hid HM210.out.addT
              refine hK.out _ _ ⟨HM2108.out.bs.bx.t, HM2108.out.bs.bx.s, HM2108.out.bs.bx.k⟩ (fun hHeld => ?_)
              clear hK K
              try simp only [Act.put, List.setIfInBounds_toArray, List.set_cons_zero, List.set_cons_succ, List.getElem_toArray, List.getElem_cons_zero, List.getElem_cons_succ]
              generalize World.alloc v210 _ = v2108 at HM2108 hHeld ⊢
              refine wpAnyH_ready (rs := [5]) (by kernel_rfl) (by simp) ?_
              refine AllReadyH.cons rfl (fun K hK => ?_) AllReadyH.nil
              go_simp
              refine (reps_at (v0 := 0) (v1 := 0) (v2 := 0) (v3 := 0) (v4 := -1) HFEW.out.1 ⟨(HM2108.out.hx rfl).1 0 _ rfl, (HM2108.out.hx rfl).1 1 _ rfl, (HM2108.out.hx rfl).1 2 _ rfl, (HM2108.out.hx rfl).1 3 _ rfl, (HM2108.out.hx rfl).1 4 _ rfl⟩ (HM2108.out.hx rfl).2).mono ?_
              rintro e v21085 ⟨G, rfl, hr, h1, h2, hb⟩
              have HM21085 := Lib.hid (HM2108.out.addG hb hr h1 h2)
              clear hr h1 h2 hb
              refine hK.out _ _ ⟨HM21085.out.bs.bx.t, HM21085.out.bs.bx.s, HM21085.out.bs.bx.k⟩ (fun hHeld => ?_)
              clear hK K
              try simp only [Act.put, List.setIfInBounds_toArray, List.set_cons_zero, List.set_cons_succ, List.getElem_toArray, List.getElem_cons_zero, List.getElem_cons_succ]
              refine wpAnyH_take (i := 9) (v := ?_) rfl (by kernel_rfl) (by kernel_rfl) (by kernel_rfl) (fun _ _ _ h => h) (Or.inl ⟨by rfl, ?_⟩) (by assumption) ?_
              rotate_left
              · intro w hSw; go_split_ands; go_simp; try with_reducible rfl
              simp only [Act.put, List.setIfInBounds_toArray, List.set_cons_zero, List.set_cons_succ, List.getElem_toArray, List.getElem_cons_zero, List.getElem_cons_succ]
              obtain ⟨hQ, -, hQl⟩ := HM21085.out.hq rfl
              have y0 : v21085.cell? ⟨v2.heap.size, 0, none⟩ = some (.int .i64 0) := by rw [cell_of_row _ _ _ _ _ _ hQ]; rfl
              have yf0 : v21085.frozen? ⟨v2.heap.size, 0, none⟩ = false := frozen_of_row _ _ _ _ _ hQ
              have y1 : v21085.cell? ⟨v2.heap.size, 1, none⟩ = some (.int .i64 0) := by rw [cell_of_row _ _ _ _ _ _ hQ]; rfl
              have yf1 : v21085.frozen? ⟨v2.heap.size, 1, none⟩ = false := frozen_of_row _ _ _ _ _ hQ
              have y2 : v21085.cell? ⟨v2.heap.size, 2, none⟩ = some (.int .i64 0) := by rw [cell_of_row _ _ _ _ _ _ hQ]; rfl
              have yf2 : v21085.frozen? ⟨v2.heap.size, 2, none⟩ = false := frozen_of_row _ _ _ _ _ hQ
              have y3 : v21085.cell? ⟨v2.heap.size, 3, none⟩ = some (.slice none 0 0) := by rw [cell_of_row _ _ _ _ _ _ hQ]; rfl
              have yf3 : v21085.frozen? ⟨v2.heap.size, 3, none⟩ = false := frozen_of_row _ _ _ _ _ hQ
              have y4 : v21085.cell? ⟨v2.heap.size, 4, none⟩ = some (.slice none 0 0) := by rw [cell_of_row _ _ _ _ _ _ hQ]; rfl
              have yf4 : v21085.frozen? ⟨v2.heap.size, 4, none⟩ = false := frozen_of_row _ _ _ _ _ hQ
              have HN := Lib.hid HM21085.out.fin
              clear hQ
              refine wpAnyH_ready (rs := [11]) (by kernel_rfl) (by simp) ?_
              refine AllReadyH.cons rfl (fun K hK => ?_) AllReadyH.nil
              go_simp
              refine hK.out _ _ ⟨HN.out.bs.bx.t, HN.out.bs.bx.s, HN.out.bs.bx.k⟩ (fun hHeld => ?_)
              clear hK K
              try simp only [Act.put, List.setIfInBounds_toArray, List.set_cons_zero, List.set_cons_succ, List.getElem_toArray, List.getElem_cons_zero, List.getElem_cons_succ]
              refine wpAnyH_done (by kernel_rfl) ?_ _
              go_wp2_with fail
              go_meet
              exact ⟨_, _, _, rfl, HN.out⟩
        · go_simp
          have HM8 := Lib.hid HM.out.addT
          refine hK.out _ _ ⟨HM8.out.bs.bx.t, HM8.out.bs.bx.s, HM8.out.bs.bx.k⟩ (fun hHeld => ?_)
          clear hK K
          try simp only [Act.put, List.setIfInBounds_toArray, List.set_cons_zero, List.set_cons_succ, List.getElem_toArray, List.getElem_cons_zero, List.getElem_cons_succ]
          generalize World.alloc v _ = v8 at HM8 hHeld ⊢
          refine wpAnyH_ready (rs := [2, 10]) (by kernel_rfl) (by simp) ?_
          refine AllReadyH.cons rfl (fun K hK => ?_) (AllReadyH.cons rfl (fun K hK => ?_) AllReadyH.nil)
          · go_simp
            have HM82 := Lib.hid HM8.out.addX
            refine hK.out _ _ ⟨HM82.out.bs.bx.t, HM82.out.bs.bx.s, HM82.out.bs.bx.k⟩ (fun hHeld => ?_)
            clear hK K
            try simp only [Act.put, List.setIfInBounds_toArray, List.set_cons_zero, List.set_cons_succ, List.getElem_toArray, List.getElem_cons_zero, List.getElem_cons_succ]
            generalize World.alloc v8 _ = v82 at HM82 hHeld ⊢
            refine wpAnyH_ready (rs := [5, 10]) (by kernel_rfl) (by simp) ?_
            refine AllReadyH.cons rfl (fun K hK => ?_) (AllReadyH.cons rfl (fun K hK => ?_) AllReadyH.nil)
            · go_simp
              refine (reps_at (v0 := 0) (v1 := 0) (v2 := 0) (v3 := 0) (v4 := -1) HFEW.out.1 ⟨(HM82.out.hx rfl).1 0 _ rfl, (HM82.out.hx rfl).1 1 _ rfl, (HM82.out.hx rfl).1 2 _ rfl, (HM82.out.hx rfl).1 3 _ rfl, (HM82.out.hx rfl).1 4 _ rfl⟩ (HM82.out.hx rfl).2).mono ?_
              rintro e v825 ⟨G, rfl, hr, h1, h2, hb⟩
              have HM825 := Lib.hid (HM82.out.addG hb hr h1 h2)
              clear hr h1 h2 hb
              refine hK.out _ _ ⟨HM825.out.bs.bx.t, HM825.out.bs.bx.s, HM825.out.bs.bx.k⟩ (fun hHeld => ?_)
              clear hK K
              try simp only [Act.put, List.setIfInBounds_toArray, List.set_cons_zero, List.set_cons_succ, List.getElem_toArray, List.getElem_cons_zero, List.getElem_cons_succ]
              refine wpAnyH_take (i := 9) (v := ?_) rfl (by kernel_rfl) (by kernel_rfl) (by kernel_rfl) (fun _ _ _ h => h) (Or.inl ⟨by rfl, ?_⟩) (by assumption) ?_
              rotate_left
              · intro w hSw; go_split_ands; go_simp; try with_reducible rfl
              simp only [Act.put, List.setIfInBounds_toArray, List.set_cons_zero, List.set_cons_succ, List.getElem_toArray, List.getElem_cons_zero, List.getElem_cons_succ]
              refine wpAnyH_ready (rs := [10]) (by kernel_rfl) (by simp) ?_
              refine AllReadyH.cons rfl (fun K hK => ?_) AllReadyH.nil
              go_simp
              have HM82510 := Lib.hid HM825.out.addQ
              refine hK.out _ _ ⟨HM82510.out.bs.bx.t, HM82510.out.bs.bx.s, HM82510.out.bs.bx.k⟩ (fun hHeld => ?_)
              clear hK K
              try simp only [Act.put, List.setIfInBounds_toArray, List.set_cons_zero, List.set_cons_succ, List.getElem_toArray, List.getElem_cons_zero, List.getElem_cons_succ]
              generalize World.alloc v825 _ = v82510 at HM82510 hHeld ⊢
              obtain ⟨hQ, -, hQl⟩ := HM82510.out.hq rfl
              have y0 : v82510.cell? ⟨v825.heap.size, 0, none⟩ = some (.int .i64 0) := by rw [cell_of_row _ _ _ _ _ _ hQ]; rfl
              have yf0 : v82510.frozen? ⟨v825.heap.size, 0, none⟩ = false := frozen_of_row _ _ _ _ _ hQ
              have y1 : v82510.cell? ⟨v825.heap.size, 1, none⟩ = some (.int .i64 0) := by rw [cell_of_row _ _ _ _ _ _ hQ]; rfl
              have yf1 : v82510.frozen? ⟨v825.heap.size, 1, none⟩ = false := frozen_of_row _ _ _ _ _ hQ
              have y2 : v82510.cell? ⟨v825.heap.size, 2, none⟩ = some (.int .i64 0) := by rw [cell_of_row _ _ _ _ _ _ hQ]; rfl
              have yf2 : v82510.frozen? ⟨v825.heap.size, 2, none⟩ = false := frozen_of_row _ _ _ _ _ hQ
              have y3 : v82510.cell? ⟨v825.heap.size, 3, none⟩ = some (.slice none 0 0) := by rw [cell_of_row _ _ _ _ _ _ hQ]; rfl
              have yf3 : v82510.frozen? ⟨v825.heap.size, 3, none⟩ = false := frozen_of_row _ _ _ _ _ hQ
              have y4 : v82510.cell? ⟨v825.heap.size, 4, none⟩ = some (.slice none 0 0) := by rw [cell_of_row _ _ _ _ _ _ hQ]; rfl
              have yf4 : v82510.frozen? ⟨v825.heap.size, 4, none⟩ = false := frozen_of_row _ _ _ _ _ hQ
              have HN := Lib.hid HM82510.out.fin
              clear hQ
              refine wpAnyH_ready (rs := [11]) (by kernel_rfl) (by simp) ?_
              refine AllReadyH.cons rfl (fun K hK => ?_) AllReadyH.nil
              go_simp
              refine hK.out _ _ ⟨HN.out.bs.bx.t, HN.out.bs.bx.s, HN.out.bs.bx.k⟩ (fun hHeld => ?_)
              clear hK K
              try simp only [Act.put, List.setIfInBounds_toArray, List.set_cons_zero, List.set_cons_succ, List.getElem_toArray, List.getElem_cons_zero, List.getElem_cons_succ]
              refine wpAnyH_done (by kernel_rfl) ?_ _
              go_wp2_with fail
              go_meet
              exact ⟨_, _, _, rfl, HN.out⟩
            · go_simp
              have HM8210 := Lib.hid HM82.out.addQ
              refine hK.out _ _ ⟨HM8210.out.bs.bx.t, HM8210.out.bs.bx.s, HM8210.out.bs.bx.k⟩ (fun hHeld => ?_)
              clear hK K
              try simp only [Act.put, List.setIfInBounds_toArray, List.set_cons_zero, List.set_cons_succ, List.getElem_toArray, List.getElem_cons_zero, List.getElem_cons_succ]
              generalize World.alloc v82 _ = v8210 at HM8210 hHeld ⊢
              refine wpAnyH_ready (rs := [5]) (by kernel_rfl) (by simp) ?_
              refine AllReadyH.cons rfl (fun K hK => ?_) AllReadyH.nil
              go_simp
              refine (reps_at (v0 := 0) (v1 := 0) (v2 := 0) (v3 := 0) (v4 := -1) HFEW.out.1 ⟨(HM8210.out.hx rfl).1 0 _ rfl, (HM8210.out.hx rfl).1 1 _ rfl, (HM8210.out.hx rfl).1 2 _ rfl, (HM8210.out.hx rfl).1 3 _ rfl, (HM8210.out.hx rfl).1 4 _ rfl⟩ (HM8210.out.hx rfl).2).mono ?_
              rintro e v82105 ⟨G, rfl, hr, h1, h2, hb⟩
              have HM82105 := Lib.hid (HM8210.out.addG hb hr h1 h2)
              clear hr h1 h2 hb
              refine hK.out _ _ ⟨HM82105.out.bs.bx.t, HM82105.out.bs.bx.s, HM82105.out.bs.bx.k⟩ (fun hHeld => ?_)
              clear hK K
              try simp only [Act.put, List.setIfInBounds_toArray, List.set_cons_zero, List.set_cons_succ, List.getElem_toArray, List.getElem_cons_zero, List.getElem_cons_succ]
              refine wpAnyH_take (i := 9) (v := ?_) rfl (by kernel_rfl) (by kernel_rfl) (by kernel_rfl) (fun _ _ _ h => h) (Or.inl ⟨by rfl, ?_⟩) (by assumption) ?_
              rotate_left
              · intro w hSw; go_split_ands; go_simp; try with_reducible rfl
              simp only [Act.put, List.setIfInBounds_toArray, List.set_cons_zero, List.set_cons_succ, List.getElem_toArray, List.getElem_cons_zero, List.getElem_cons_succ]
              obtain ⟨hQ, -, hQl⟩ := HM82105.out.hq rfl
              have y0 : v82105.cell? ⟨v82.heap.size, 0, none⟩ = some (.int .i64 0) := by rw [cell_of_row _ _ _ _ _ _ hQ]; rfl
              have yf0 : v82105.frozen? ⟨v82.heap.size, 0, none⟩ = false := frozen_of_row _ _ _ _ _ hQ
              have y1 : v82105.cell? ⟨v82.heap.size, 1, none⟩ = some (.int .i64 0) := by rw [cell_of_row _ _ _ _ _ _ hQ]; rfl
              have yf1 : v82105.frozen? ⟨v82.heap.size, 1, none⟩ = false := frozen_of_row _ _ _ _ _ hQ
              have y2 : v82105.cell? ⟨v82.heap.size, 2, none⟩ = some (.int .i64 0) := by rw [cell_of_row _ _ _ _ _ _ hQ]; rfl
              have yf2 : v82105.frozen? ⟨v82.heap.size, 2, none⟩ = false := frozen_of_row _ _ _ _ _ hQ
              have y3 : v82105.cell? ⟨v82.heap.size, 3, none⟩ = some (.slice none 0 0) := by rw [cell_of_row _ _ _ _ _ _ hQ]; rfl
              have yf3 : v82105.frozen? ⟨v82.heap.size, 3, none⟩ = false := frozen_of_row _ _ _ _ _ hQ
              have y4 : v82105.cell? ⟨v82.heap.size, 4, none⟩ = some (.slice none 0 0) := by rw [cell_of_row _ _ _ _ _ _ hQ]; rfl
              have yf4 : v82105.frozen? ⟨v82.heap.size, 4, none⟩ = false := frozen_of_row _ _ _ _ _ hQ
              have HN := Lib.hid HM82105.out.fin
              clear hQ
              refine wpAnyH_ready (rs := [11]) (by kernel_rfl) (by simp) ?_
              refine AllReadyH.cons rfl (fun K hK => ?_) AllReadyH.nil
              go_simp
              refine hK.out _ _ ⟨HN.out.bs.bx.t, HN.out.bs.bx.s, HN.out.bs.bx.k⟩ (fun hHeld => ?_)
              clear hK K
              try simp only [Act.put, List.setIfInBounds_toArray, List.set_cons_zero, List.set_cons_succ, List.getElem_toArray, List.getElem_cons_zero, List.getElem_cons_succ]
              refine wpAnyH_done (by kernel_rfl) ?_ _
              go_wp2_with fail
              go_meet
              exact ⟨_, _, _, rfl, HN.out⟩
          · go_simp
            have HM810 := Lib.hid HM8.out.addQ
            refine hK.out _ _ ⟨HM810.out.bs.bx.t, HM810.out.bs.bx.s, HM810.out.bs.bx.k⟩ (fun hHeld => ?_)
            clear hK K
            try simp only [Act.put, List.setIfInBounds_toArray, List.set_cons_zero, List.set_cons_succ, List.getElem_toArray, List.getElem_cons_zero, List.getElem_cons_succ]
            generalize World.alloc v8 _ = v810 at HM810 hHeld ⊢
            refine wpAnyH_ready (rs := [2]) (by kernel_rfl) (by simp) ?_
            refine AllReadyH.cons rfl (fun K hK => ?_) AllReadyH.nil
            go_simp
            have HM8102 := Lib.hid HM810.out.addX
            refine hK.out _ _ ⟨HM8102.out.bs.bx.t, HM8102.out.bs.bx.s, HM8102.out.bs.bx.k⟩ (fun hHeld => ?_)
            clear hK K
            try simp only [Act.put, List.setIfInBounds_toArray, List.set_cons_zero, List.set_cons_succ, List.getElem_toArray, List.getElem_cons_zero, List.getElem_cons_succ]
            generalize World.alloc v810 _ = v8102 at HM8102 hHeld ⊢
            refine wpAnyH_ready (rs := [5]) (by kernel_rfl) (by simp) ?_
            refine AllReadyH.cons rfl (fun K hK => ?_) AllReadyH.nil
            go_simp
            refine (reps_at (v0 := 0) (v1 := 0) (v2 := 0) (v3 := 0) (v4 := -1) HFEW.out.1 ⟨(HM8102.out.hx rfl).1 0 _ rfl, (HM8102.out.hx rfl).1 1 _ rfl, (HM8102.out.hx rfl).1 2 _ rfl, (HM8102.out.hx rfl).1 3 _ rfl, (HM8102.out.hx rfl).1 4 _ rfl⟩ (HM8102.out.hx rfl).2).mono ?_
            rintro e v81025 ⟨G, rfl, hr, h1, h2, hb⟩
            have HM81025 := Lib.hid (HM8102.out.addG hb hr h1 h2)
            clear hr h1 h2 hb
            refine hK.out _ _ ⟨HM81025.out.bs.bx.t, HM81025.out.bs.bx.s, HM81025.out.bs.bx.k⟩ (fun hHeld => ?_)
            clear hK K
            try simp only [Act.put, List.setIfInBounds_toArray, List.set_cons_zero, List.set_cons_succ, List.getElem_toArray, List.getElem_cons_zero, List.getElem_cons_succ]
            refine wpAnyH_take (i := 9) (v := ?_) rfl (by kernel_rfl) (by kernel_rfl) (by kernel_rfl) (fun _ _ _ h => h) (Or.inl ⟨by rfl, ?_⟩) (by assumption) ?_
            rotate_left
            · intro w hSw; go_split_ands; go_simp; try with_reducible rfl
            simp only [Act.put, List.setIfInBounds_toArray, List.set_cons_zero, List.set_cons_succ, List.getElem_toArray, List.getElem_cons_zero, List.getElem_cons_succ]
            obtain ⟨hQ, -, hQl⟩ := HM81025.out.hq rfl
            have y0 : v81025.cell? ⟨v8.heap.size, 0, none⟩ = some (.int .i64 0) := by rw [cell_of_row _ _ _ _ _ _ hQ]; rfl
            have yf0 : v81025.frozen? ⟨v8.heap.size, 0, none⟩ = false := frozen_of_row _ _ _ _ _ hQ
            have y1 : v81025.cell? ⟨v8.heap.size, 1, none⟩ = some (.int .i64 0) := by rw [cell_of_row _ _ _ _ _ _ hQ]; rfl
            have yf1 : v81025.frozen? ⟨v8.heap.size, 1, none⟩ = false := frozen_of_row _ _ _ _ _ hQ
            have y2 : v81025.cell? ⟨v8.heap.size, 2, none⟩ = some (.int .i64 0) := by rw [cell_of_row _ _ _ _ _ _ hQ]; rfl
            have yf2 : v81025.frozen? ⟨v8.heap.size, 2, none⟩ = false := frozen_of_row _ _ _ _ _ hQ
            have y3 : v81025.cell? ⟨v8.heap.size, 3, none⟩ = some (.slice none 0 0) := by rw [cell_of_row _ _ _ _ _ _ hQ]; rfl
            have yf3 : v81025.frozen? ⟨v8.heap.size, 3, none⟩ = false := frozen_of_row _ _ _ _ _ hQ
            have y4 : v81025.cell? ⟨v8.heap.size, 4, none⟩ = some (.slice none 0 0) := by rw [cell_of_row _ _ _ _ _ _ hQ]; rfl
            have yf4 : v81025.frozen? ⟨v8.heap.size, 4, none⟩ = false := frozen_of_row _ _ _ _ _ hQ
            have HN := Lib.hid HM81025.out.fin
            clear hQ
            refine wpAnyH_ready (rs := [11]) (by kernel_rfl) (by simp) ?_
            refine AllReadyH.cons rfl (fun K hK => ?_) AllReadyH.nil
            go_simp
            refine hK.out _ _ ⟨HN.out.bs.bx.t, HN.out.bs.bx.s, HN.out.bs.bx.k⟩ (fun hHeld => ?_)
            clear hK K
            try simp only [Act.put, List.setIfInBounds_toArray, List.set_cons_zero, List.set_cons_succ, List.getElem_toArray, List.getElem_cons_zero, List.getElem_cons_succ]
            refine wpAnyH_done (by kernel_rfl) ?_ _
            go_wp2_with fail
            go_meet
            exact ⟨_, _, _, rfl, HN.out⟩
        · go_simp
          have HM10 := Lib.hid HM.out.addQ
          refine hK.out _ _ ⟨HM10.out.bs.bx.t, HM10.out.bs.bx.s, HM10.out.bs.bx.k⟩ (fun hHeld => ?_)
          clear hK K
          try simp only [Act.put, List.setIfInBounds_toArray, List.set_cons_zero, List.set_cons_succ, List.getElem_toArray, List.getElem_cons_zero, List.getElem_cons_succ]
          generalize World.alloc v _ = v10 at HM10 hHeld ⊢
          refine wpAnyH_ready (rs := [2, 8]) (by kernel_rfl) (by simp) ?_
          refine AllReadyH.cons rfl (fun K hK => ?_) (AllReadyH.cons rfl (fun K hK => ?_) AllReadyH.nil)
          · go_simp
            have HM102 := Lib.hid HM10.out.addX
            refine hK.out _ _ ⟨HM102.out.bs.bx.t, HM102.out.bs.bx.s, HM102.out.bs.bx.k⟩ (fun hHeld => ?_)
            clear hK K
            try simp only [Act.put, List.setIfInBounds_toArray, List.set_cons_zero, List.set_cons_succ, List.getElem_toArray, List.getElem_cons_zero, List.getElem_cons_succ]
            generalize World.alloc v10 _ = v102 at HM102 hHeld ⊢
            refine wpAnyH_ready (rs := [5, 8]) (by kernel_rfl) (by simp) ?_
            refine AllReadyH.cons rfl (fun K hK => ?_) (AllReadyH.cons rfl (fun K hK => ?_) AllReadyH.nil)
            · go_simp
              refine (reps_at (v0 := 0) (v1 := 0) (v2 := 0) (v3 := 0) (v4 := -1) HFEW.out.1 ⟨(HM102.out.hx rfl).1 0 _ rfl, (HM102.out.hx rfl).1 1 _ rfl, (HM102.out.hx rfl).1 2 _ rfl, (HM102.out.hx rfl).1 3 _ rfl, (HM102.out.hx rfl).1 4 _ rfl⟩ (HM102.out.hx rfl).2).mono ?_
              rintro e v1025 ⟨G, rfl, hr, h1, h2, hb⟩
              have HM1025 := Lib.hid (HM102.out.addG hb hr h1 h2)
              clear hr h1 h2 hb
              refine hK.out _ _ ⟨HM1025.out.bs.bx.t, HM1025.out.bs.bx.s, HM1025.out.bs.bx.k⟩ (fun hHeld => ?_)
              clear hK K
              try simp only [Act.put, List.setIfInBounds_toArray, List.set_cons_zero, List.set_cons_succ, List.getElem_toArray, List.getElem_cons_zero, List.getElem_cons_succ]
              refine wpAnyH_ready (rs := [8]) (by kernel_rfl) (by simp) ?_
              refine AllReadyH.cons rfl (fun K hK => ?_) AllReadyH.nil
              go_simp
              have HM10258 := Lib.hid HM1025.out.addT
              refine hK.out _ _ ⟨HM10258.out.bs.bx.t, HM10258.out.bs.bx.s, HM10258.out.bs.bx.k⟩ (fun hHeld => ?_)
              clear hK K
              try simp only [Act.put, List.setIfInBounds_toArray, List.set_cons_zero, List.set_cons_succ, List.getElem_toArray, List.getElem_cons_zero, List.getElem_cons_succ]
              generalize World.alloc v1025 _ = v10258 at HM10258 hHeld ⊢
              refine wpAnyH_take (i := 9) (v := ?_) rfl (by kernel_rfl) (by kernel_rfl) (by kernel_rfl) (fun _ _ _ h => h) (Or.inl ⟨by rfl, ?_⟩) (by assumption) ?_
              rotate_left
              · intro w hSw; go_split_ands; go_simp; try with_reducible rfl
              simp only [Act.put, List.setIfInBounds_toArray, List.set_cons_zero, List.set_cons_succ, List.getElem_toArray, List.getElem_cons_zero, List.getElem_cons_succ]
              obtain ⟨hQ, -, hQl⟩ := HM10258.out.hq rfl
              have y0 : v10258.cell? ⟨v.heap.size, 0, none⟩ = some (.int .i64 0) := by rw [cell_of_row _ _ _ _ _ _ hQ]; rfl
              have yf0 : v10258.frozen? ⟨v.heap.size, 0, none⟩ = false := frozen_of_row _ _ _ _ _ hQ
              have y1 : v10258.cell? ⟨v.heap.size, 1, none⟩ = some (.int .i64 0) := by rw [cell_of_row _ _ _ _ _ _ hQ]; rfl
              have yf1 : v10258.frozen? ⟨v.heap.size, 1, none⟩ = false := frozen_of_row _ _ _ _ _ hQ
              have y2 : v10258.cell? ⟨v.heap.size, 2, none⟩ = some (.int .i64 0) := by rw [cell_of_row _ _ _ _ _ _ hQ]; rfl
              have yf2 : v10258.frozen? ⟨v.heap.size, 2, none⟩ = false := frozen_of_row _ _ _ _ _ hQ
              have y3 : v10258.cell? ⟨v.heap.size, 3, none⟩ = some (.slice none 0 0) := by rw [cell_of_row _ _ _ _ _ _ hQ]; rfl
              have yf3 : v10258.frozen? ⟨v.heap.size, 3, none⟩ = false := frozen_of_row _ _ _ _ _ hQ
              have y4 : v10258.cell? ⟨v.heap.size, 4, none⟩ = some (.slice none 0 0) := by rw [cell_of_row _ _ _ _ _ _ hQ]; rfl
              have yf4 : v10258.frozen? ⟨v.heap.size, 4, none⟩ = false := frozen_of_row _ _ _ _ _ hQ
              have HN := Lib.hid HM10258.out.fin
              clear hQ
              refine wpAnyH_ready (rs := [11]) (by kernel_rfl) (by simp) ?_
              refine AllReadyH.cons rfl (fun K hK => ?_) AllReadyH.nil
              go_simp
              refine hK.out _ _ ⟨HN.out.bs.bx.t, HN.out.bs.bx.s, HN.out.bs.bx.k⟩ (fun hHeld => ?_)
              clear hK K
              try simp only [Act.put, List.setIfInBounds_toArray, List.set_cons_zero, List.set_cons_succ, List.getElem_toArray, List.getElem_cons_zero, List.getElem_cons_succ]
              refine wpAnyH_done (by kernel_rfl) ?_ _
              go_wp2_with fail
              go_meet
              exact ⟨_, _, _, rfl, HN.out⟩
            · go_simp
              have HM1028 := Lib.hid HM102.out.addT
              refine hK.out _ _ ⟨HM1028.out.bs.bx.t, HM1028.out.bs.bx.s, HM1028.out.bs.bx.k⟩ (fun hHeld => ?_)
              clear hK K
              try simp only [Act.put, List.setIfInBounds_toArray, List.set_cons_zero, List.set_cons_succ, List.getElem_toArray, List.getElem_cons_zero, List.getElem_cons_succ]
              generalize World.alloc v102 _ = v1028 at HM1028 hHeld ⊢
              refine wpAnyH_ready (rs := [5]) (by kernel_rfl) (by simp) ?_
              refine AllReadyH.cons rfl (fun K hK => ?_) AllReadyH.nil
              go_simp
              refine (reps_at (v0 := 0) (v1 := 0) (v2 := 0) (v3 := 0) (v4 := -1) HFEW.out.1 ⟨(HM1028.out.hx rfl).1 0 _ rfl, (HM1028.out.hx rfl).1 1 _ rfl, (HM1028.out.hx rfl).1 2 _ rfl, (HM1028.out.hx rfl).1 3 _ rfl, (HM1028.out.hx rfl).1 4 _ rfl⟩ (HM1028.out.hx rfl).2).mono ?_
              rintro e v10285 ⟨G, rfl, hr, h1, h2, hb⟩
              have HM10285 := Lib.hid (HM1028.out.addG hb hr h1 h2)
              clear hr h1 h2 hb
              refine hK.out _ _ ⟨HM10285.out.bs.bx.t, HM10285.out.bs.bx.s, HM10285.out.bs.bx.k⟩ (fun hHeld => ?_)
              clear hK K
              try simp only [Act.put, List.setIfInBounds_toArray, List.set_cons_zero, List.set_cons_succ, List.getElem_toArray, List.getElem_cons_zero, List.getElem_cons_succ]
              refine wpAnyH_take (i := 9) (v := ?_) rfl (by kernel_rfl) (by kernel_rfl) (by kernel_rfl) (fun _ _ _ h => h) (Or.inl ⟨by rfl, ?_⟩) (by assumption) ?_
              rotate_left
              · intro w hSw; go_split_ands; go_simp; try with_reducible rfl
              simp only [Act.put, List.setIfInBounds_toArray, List.set_cons_zero, List.set_cons_succ, List.getElem_toArray, List.getElem_cons_zero, List.getElem_cons_succ]
              obtain ⟨hQ, -, hQl⟩ := HM10285.out.hq rfl
              have y0 : v10285.cell? ⟨v.heap.size, 0, none⟩ = some (.int .i64 0) := by rw [cell_of_row _ _ _ _ _ _ hQ]; rfl
              have yf0 : v10285.frozen? ⟨v.heap.size, 0, none⟩ = false := frozen_of_row _ _ _ _ _ hQ
              have y1 : v10285.cell? ⟨v.heap.size, 1, none⟩ = some (.int .i64 0) := by rw [cell_of_row _ _ _ _ _ _ hQ]; rfl
              have yf1 : v10285.frozen? ⟨v.heap.size, 1, none⟩ = false := frozen_of_row _ _ _ _ _ hQ
              have y2 : v10285.cell? ⟨v.heap.size, 2, none⟩ = some (.int .i64 0) := by rw [cell_of_row _ _ _ _ _ _ hQ]; rfl
              have yf2 : v10285.frozen? ⟨v.heap.size, 2, none⟩ = false := frozen_of_row _ _ _ _ _ hQ
              have y3 : v10285.cell? ⟨v.heap.size, 3, none⟩ = some (.slice none 0 0) := by rw [cell_of_row _ _ _ _ _ _ hQ]; rfl
              have yf3 : v10285.frozen? ⟨v.heap.size, 3, none⟩ = false := frozen_of_row _ _ _ _ _ hQ
              have y4 : v10285.cell? ⟨v.heap.size, 4, none⟩ = some (.slice none 0 0) := by rw [cell_of_row _ _ _ _ _ _ hQ]; rfl
              have yf4 : v10285.frozen? ⟨v.heap.size, 4, none⟩ = false := frozen_of_row _ _ _ _ _ hQ
              have HN := Lib.hid HM10285.out.fin
              clear hQ
              refine wpAnyH_ready (rs := [11]) (by kernel_rfl) (by simp) ?_
              refine AllReadyH.cons rfl (fun K hK => ?_) AllReadyH.nil
              go_simp
              refine hK.out _ _ ⟨HN.out.bs.bx.t, HN.out.bs.bx.s, HN.out.bs.bx.k⟩ (fun hHeld => ?_)
              clear hK K
              try simp only [Act.put, List.setIfInBounds_toArray, List.set_cons_zero, List.set_cons_succ, List.getElem_toArray, List.getElem_cons_zero, List.getElem_cons_succ]
              refine wpAnyH_done (by kernel_rfl) ?_ _
              go_wp2_with fail
              go_meet
              exact ⟨_, _, _, rfl, HN.out⟩
          · go_simp
            have HM108 := Lib.hid HM10.out.addT
            refine hK.out _ _ ⟨HM108.out.bs.bx.t, HM108.out.bs.bx.s, HM108.out.bs.bx.k⟩ (fun hHeld => ?_)
            clear hK K
            try simp only [Act.put, List.setIfInBounds_toArray, List.set_cons_zero, List.set_cons_succ, List.getElem_toArray, List.getElem_cons_zero, List.getElem_cons_succ]
            generalize World.alloc v10 _ = v108 at HM108 hHeld ⊢
            refine wpAnyH_ready (rs := [2]) (by kernel_rfl) (by simp) ?_
            refine AllReadyH.cons rfl (fun K hK => ?_) AllReadyH.nil
            go_simp
            have HM1082 := Lib.hid HM108.out.addX
            refine hK.out _ _ ⟨HM1082.out.bs.bx.t, HM1082.out.bs.bx.s, HM1082.out.bs.bx.k⟩ (fun hHeld => ?_)
            clear hK K
            try simp only [Act.put, List.setIfInBounds_toArray, List.set_cons_zero, List.set_cons_succ, List.getElem_toArray, List.getElem_cons_zero, List.getElem_cons_succ]
            generalize World.alloc v108 _ = v1082 at HM1082 hHeld ⊢
            refine wpAnyH_ready (rs := [5]) (by kernel_rfl) (by simp) ?_
            refine AllReadyH.cons rfl (fun K hK => ?_) AllReadyH.nil
            go_simp
            refine (reps_at (v0 := 0) (v1 := 0) (v2 := 0) (v3 := 0) (v4 := -1) HFEW.out.1 ⟨(HM1082.out.hx rfl).1 0 _ rfl, (HM1082.out.hx rfl).1 1 _ rfl, (HM1082.out.hx rfl).1 2 _ rfl, (HM1082.out.hx rfl).1 3 _ rfl, (HM1082.out.hx rfl).1 4 _ rfl⟩ (HM1082.out.hx rfl).2).mono ?_
            rintro e v10825 ⟨G, rfl, hr, h1, h2, hb⟩
            have HM10825 := Lib.hid (HM1082.out.addG hb hr h1 h2)
            clear hr h1 h2 hb
            refine hK.out _ _ ⟨HM10825.out.bs.bx.t, HM10825.out.bs.bx.s, HM10825.out.bs.bx.k⟩ (fun hHeld => ?_)
            clear hK K
            try simp only [Act.put, List.setIfInBounds_toArray, List.set_cons_zero, List.set_cons_succ, List.getElem_toArray, List.getElem_cons_zero, List.getElem_cons_succ]
            refine wpAnyH_take (i := 9) (v := ?_) rfl (by kernel_rfl) (by kernel_rfl) (by kernel_rfl) (fun _ _ _ h => h) (Or.inl ⟨by rfl, ?_⟩) (by assumption) ?_
            rotate_left
            · intro w hSw; go_split_ands; go_simp; try with_reducible rfl
            simp only [Act.put, List.setIfInBounds_toArray, List.set_cons_zero, List.set_cons_succ, List.getElem_toArray, List.getElem_cons_zero, List.getElem_cons_succ]
            obtain ⟨hQ, -, hQl⟩ := HM10825.out.hq rfl
            have y0 : v10825.cell? ⟨v.heap.size, 0, none⟩ = some (.int .i64 0) := by rw [cell_of_row _ _ _ _ _ _ hQ]; rfl
            have yf0 : v10825.frozen? ⟨v.heap.size, 0, none⟩ = false := frozen_of_row _ _ _ _ _ hQ
            have y1 : v10825.cell? ⟨v.heap.size, 1, none⟩ = some (.int .i64 0) := by rw [cell_of_row _ _ _ _ _ _ hQ]; rfl
            have yf1 : v10825.frozen? ⟨v.heap.size, 1, none⟩ = false := frozen_of_row _ _ _ _ _ hQ
            have y2 : v10825.cell? ⟨v.heap.size, 2, none⟩ = some (.int .i64 0) := by rw [cell_of_row _ _ _ _ _ _ hQ]; rfl
            have yf2 : v10825.frozen? ⟨v.heap.size, 2, none⟩ = false := frozen_of_row _ _ _ _ _ hQ
            have y3 : v10825.cell? ⟨v.heap.size, 3, none⟩ = some (.slice none 0 0) := by rw [cell_of_row _ _ _ _ _ _ hQ]; rfl
            have yf3 : v10825.frozen? ⟨v.heap.size, 3, none⟩ = false := frozen_of_row _ _ _ _ _ hQ
            have y4 : v10825.cell? ⟨v.heap.size, 4, none⟩ = some (.slice none 0 0) := by rw [cell_of_row _ _ _ _ _ _ hQ]; rfl
            have yf4 : v10825.frozen? ⟨v.heap.size, 4, none⟩ = false := frozen_of_row _ _ _ _ _ hQ
            have HN := Lib.hid HM10825.out.fin
            clear hQ
            refine wpAnyH_ready (rs := [11]) (by kernel_rfl) (by simp) ?_
            refine AllReadyH.cons rfl (fun K hK => ?_) AllReadyH.nil
            go_simp
            refine hK.out _ _ ⟨HN.out.bs.bx.t, HN.out.bs.bx.s, HN.out.bs.bx.k⟩ (fun hHeld => ?_)
            clear hK K
            try simp only [Act.put, List.setIfInBounds_toArray, List.set_cons_zero, List.set_cons_succ, List.getElem_toArray, List.getElem_cons_zero, List.getElem_cons_succ]
            refine wpAnyH_done (by kernel_rfl) ?_ _
            go_wp2_with fail
            go_meet
            exact ⟨_, _, _, rfl, HN.out⟩
      obtain ⟨Q, G, T, rfl, hN⟩ := hcut
      have HN := Lib.hid hN
      clear hN HB3 HMK
      have HU1 := HOK.out
      have hm0 : (0 : Int) < (m : Int) := by omega
      have hm1 : (1 : Int) < (m : Int) := by omega
      have hn0 : (0 : Int) < (n : Int) := by omega
      have hn1 : (1 : Int) < (n : Int) := by omega
      have c4 : wc.cell? ⟨Q, 4, none⟩ = some (.slice (some ⟨T, 0, none⟩) m m) := HN.out.s 4 _ rfl
      have hQl := HN.out.lQ
      have HPR := Lib.hid HN.out.bs.pr
      have HI : Hid ((Tryz.prog.info? 67).map (·.size) = some (thist (roomT x)).length) := Lib.hid infoth
      have hN1 := HN.out.putT (i := 0) (v' := fun j => if j = 0 then roomT x else .zero) (by omega) (roomT x) fun j _ => rfl
      have hT0 := HN.out.thereT (i := 0) (by omega)
      rw [Nat.zero_mul] at hN1 hT0
      obtain ⟨w5, hst0, hN1⟩ : ∃ w5, (storeCells ⟨T, 0, none⟩ (thist (roomT x)) 0).run Tryz.prog wc = .ok () w5 ∧ Nw w w5 g q P (τ : Int) (n : Int) (m : Int) (roomT x) n m G T Q (fun _ => ⟨.none, -1⟩) (fun j => if j = 0 then roomT x else .zero) :=
        ⟨_, run_storeCells_cells (P := Tryz.prog) T 0 (thist (roomT x)) 0 wc (fun j hj => (hT0 j hj).1) (fun j hj => (hT0 j hj).2) (by intro u hu; simp [thist] at hu; rcases hu with rfl | rfl | rfl | rfl | rfl | rfl | rfl | rfl | rfl | rfl | rfl | rfl | rfl <;> rfl), by simpa using hN1⟩
      have HN1 := Lib.hid hN1
      clear hN1 hT0
      have hr1 := HN1.out.th 1 (by omega)
      rw [if_neg (by decide)] at hr1
      have t0 : w5.cell? ⟨T, 13, none⟩ = some (.int .i64 0) := hr1 0 _ rfl
      have tf0 : w5.frozen? ⟨T, 13, none⟩ = false := HN1.out.Tf 13
      have t1 : w5.cell? ⟨T, 14, none⟩ = some (.int .i64 0) := hr1 1 _ rfl
      have tf1 : w5.frozen? ⟨T, 14, none⟩ = false := HN1.out.Tf 14
      have t2 : w5.cell? ⟨T, 15, none⟩ = some (.int .i64 0) := hr1 2 _ rfl
      have tf2 : w5.frozen? ⟨T, 15, none⟩ = false := HN1.out.Tf 15
      have t3 : w5.cell? ⟨T, 16, none⟩ = some (.int .i64 0) := hr1 3 _ rfl
      have tf3 : w5.frozen? ⟨T, 16, none⟩ = false := HN1.out.Tf 16
      have t4 : w5.cell? ⟨T, 17, none⟩ = some (.int .i64 0) := hr1 4 _ rfl
      have tf4 : w5.frozen? ⟨T, 17, none⟩ = false := HN1.out.Tf 17
      have t5 : w5.cell? ⟨T, 18, none⟩ = some (.int .i64 0) := hr1 5 _ rfl
      have tf5 : w5.frozen? ⟨T, 18, none⟩ = false := HN1.out.Tf 18
      have t6 : w5.cell? ⟨T, 19, none⟩ = some (.int .i64 0) := hr1 6 _ rfl
      have tf6 : w5.frozen? ⟨T, 19, none⟩ = false := HN1.out.Tf 19
      have t7 : w5.cell? ⟨T, 20, none⟩ = some (.bool false) := hr1 7 _ rfl
      have tf7 : w5.frozen? ⟨T, 20, none⟩ = false := HN1.out.Tf 20
      have t8 : w5.cell? ⟨T, 21, none⟩ = some (.int .u64 0) := hr1 8 _ rfl
      have tf8 : w5.frozen? ⟨T, 21, none⟩ = false := HN1.out.Tf 21
      have t9 : w5.cell? ⟨T, 22, none⟩ = some (.int .u64 0) := hr1 9 _ rfl
      have tf9 : w5.frozen? ⟨T, 22, none⟩ = false := HN1.out.Tf 22
      have t10 : w5.cell? ⟨T, 23, none⟩ = some (.int .u64 0) := hr1 10 _ rfl
      have tf10 : w5.frozen? ⟨T, 23, none⟩ = false := HN1.out.Tf 23
      have t11 : w5.cell? ⟨T, 24, none⟩ = some (.int .u64 0) := hr1 11 _ rfl
      have tf11 : w5.frozen? ⟨T, 24, none⟩ = false := HN1.out.Tf 24
      have t12 : w5.cell? ⟨T, 25, none⟩ = some (.int .u64 0) := hr1 12 _ rfl
      have tf12 : w5.frozen? ⟨T, 25, none⟩ = false := HN1.out.Tf 25
      have c4b : w5.cell? ⟨Q, 4, none⟩ = some (.slice (some ⟨T, 0, none⟩) m m) := HN1.out.s 4 _ rfl
      have hN2 : Nw w (((((((((((((w5.setCell ⟨T, 13, none⟩ (.int .i64 3)).setCell ⟨T, 14, none⟩ (.int .i64 0)).setCell ⟨T, 15, none⟩ (.int .i64 0)).setCell ⟨T, 16, none⟩ (.int .i64 0)).setCell ⟨T, 17, none⟩ (.int .i64 0)).setCell ⟨T, 18, none⟩ (.int .i64 0)).setCell ⟨T, 19, none⟩ (.int .i64 0)).setCell ⟨T, 20, none⟩ (.bool false)).setCell ⟨T, 21, none⟩ (.int .u64 0)).setCell ⟨T, 22, none⟩ (.int .u64 0)).setCell ⟨T, 23, none⟩ (.int .u64 0)).setCell ⟨T, 24, none⟩ (.int .u64 0)).setCell ⟨T, 25, none⟩ (.int .u64 0)) g q P (τ : Int) (n : Int) (m : Int) (roomT x) n m G T Q (fun _ => ⟨.none, -1⟩) (fun j => if j = 1 then Tng.of 3 else if j = 0 then roomT x else .zero) := HN1.out.putT (i := 1) (by omega) (Tng.of 3) fun j _ => rfl
      have hTQ := HN1.out.TQ
      clear hr1
      go_wp2_with (refine wpList_load_mid rfl 67 (.tmp 6) rfl P 0 rfl (thist (roomT x)) _ HPR.out Tryz.underlying67 rfl HI.out ?_)
      clear t0 tf0 t1 tf1 t2 tf2 t3 tf3 t4 tf4 t5 tf5 t6 tf6 t7 tf7 t8 tf8 t9 tf9 t10 tf10 t11 tf11 t12 tf12 c4 c4b hst0 hQl hTQ
      generalize (World.setCell (World.setCell (World.setCell (World.setCell (World.setCell (World.setCell (World.setCell (World.setCell (World.setCell (World.setCell (World.setCell (World.setCell (World.setCell w5 _ _) _ _) _ _) _ _) _ _) _ _) _ _) _ _) _ _) _ _) _ _) _ _) _ _) = w6 at hN2 ⊢
      have HN2 := Lib.hid hN2
      clear hN2 HN1 HN HPR HI
      have HROOT0 : Hid (Gd.root ⟨(τ : Int), (n : Int), (m : Int)⟩ 0 = 0) := Lib.hid (by rw [Gd.root, if_pos (Gd.has_iff.2 ⟨HY.out, by omega, by simp only; omega⟩)]; rfl)
      have ew0 : IntKind.i64.wrap 0 = 0 := by decide +kernel
      have hnN : 0 < n := by omega
      have hmN : 0 < m := by omega
      have HM := Lib.hid (HN2.out.on (below_self w6).drew)
      refine wp_region_held_drew (S := (fun w' => w'.cell? ⟨g, 0, none⟩ = some (.int .i64 (τ : Int)) ∧ w'.cell? ⟨g, 1, none⟩ = some (.int .i64 (n : Int)) ∧ w'.cell? ⟨g, 2, none⟩ = some (.int .i64 (m : Int)) ∧ w'.cell? ⟨Q, 3, none⟩ = some (.slice (some ⟨G, 0, none⟩) n n) ∧ w'.cell? ⟨Q, 4, none⟩ = some (.slice (some ⟨T, 0, none⟩) m m))) (by kernel_rfl) ⟨HM.out.bs.bx.t, HM.out.bs.bx.s, HM.out.bs.bx.k, HM.out.s 3 _ rfl, HM.out.s 4 _ rfl⟩ (fun hHeld => ?_)
      generalize w6.drew = v at HM hHeld ⊢
      refine wpAnyH_take (i := 0) (v := ?_) rfl (by kernel_rfl) (by kernel_rfl) (by kernel_rfl) (fun _ _ _ h => h) (Or.inl ⟨by rfl, ?_⟩) (by assumption) ?_
      rotate_left
      · intro w hSw; go_split_ands; go_simp; try with_reducible rfl
      simp only [Act.put, List.setIfInBounds_toArray, List.set_cons_zero, List.set_cons_succ, List.getElem_toArray, List.getElem_cons_zero]
      refine wpAnyH_take (i := 1) (v := ?_) rfl (by kernel_rfl) (by kernel_rfl) (by kernel_rfl) (fun _ _ _ h => h) (Or.inl ⟨by rfl, ?_⟩) (by assumption) ?_
      rotate_left
      · intro w hSw; go_split_ands; go_simp; try with_reducible rfl
      simp only [Act.put, List.setIfInBounds_toArray, List.set_cons_zero, List.set_cons_succ, List.getElem_toArray, List.getElem_cons_zero, List.getElem_cons_succ]
      refine wpAnyH_take (i := 2) (v := ?_) rfl (by kernel_rfl) (by kernel_rfl) (by kernel_rfl) (fun _ _ _ h => h) (Or.inl ⟨by rfl, ?_⟩) (by assumption) ?_
      rotate_left
      · intro w hSw; go_split_ands; go_simp; try with_reducible rfl
      simp only [Act.put, List.setIfInBounds_toArray, List.set_cons_zero, List.set_cons_succ, List.getElem_toArray, List.getElem_cons_zero, List.getElem_cons_succ]
      refine wpAnyH_take (i := 5) (v := ?_) rfl (by kernel_rfl) (by kernel_rfl) (by kernel_rfl) (fun _ _ _ h => h) (Or.inl ⟨by rfl, ?_⟩) (by assumption) ?_
      rotate_left
      · intro w hSw; go_split_ands; go_simp; try with_reducible rfl
      simp only [Act.put, List.setIfInBounds_toArray, List.set_cons_zero, List.set_cons_succ, List.getElem_toArray, List.getElem_cons_zero, List.getElem_cons_succ]
      refine wpAnyH_ready (rs := [3]) (by kernel_rfl) (by simp) ?_
      refine AllReadyH.cons rfl (fun K hK => ?_) AllReadyH.nil
      go_simp
      refine (root_to HROOT0.out _).mono ?_
      rintro e v2 ⟨rfl, hb⟩
      have HM2 := Lib.hid (HM.out.on hb)
      clear hb
      refine hK.out _ _ ⟨HM2.out.bs.bx.t, HM2.out.bs.bx.s, HM2.out.bs.bx.k, HM2.out.s 3 _ rfl, HM2.out.s 4 _ rfl⟩ (fun hHeld => ?_)
      clear hK K
      try simp only [Act.put, List.setIfInBounds_toArray, List.set_cons_zero, List.set_cons_succ, List.getElem_toArray, List.getElem_cons_zero, List.getElem_cons_succ]
      refine wpAnyH_take (i := 4) (v := ?_) rfl (by kernel_rfl) (by kernel_rfl) (by kernel_rfl) (fun _ _ _ h => h) (Or.inl ⟨by rfl, ?_⟩) (by assumption) ?_
      rotate_left
      · intro w hSw; go_split_ands; go_simp; try with_reducible rfl
      simp only [Act.put, List.setIfInBounds_toArray, List.set_cons_zero, List.set_cons_succ, List.getElem_toArray, List.getElem_cons_zero, List.getElem_cons_succ]
      refine wpAnyH_take (i := 6) (v := ?_) rfl (by kernel_rfl) (by kernel_rfl) (by kernel_rfl) (fun _ _ _ h => h) (Or.inl ⟨by rfl, ?_⟩) (by assumption) ?_
      rotate_left
      · intro w hSw; go_split_ands; go_simp; try with_reducible rfl
      simp only [Act.put, List.setIfInBounds_toArray, List.set_cons_zero, List.set_cons_succ, List.getElem_toArray, List.getElem_cons_zero, List.getElem_cons_succ]
      refine wpAnyH_take (i := 7) (v := ?_) rfl (by kernel_rfl) (by kernel_rfl) (by kernel_rfl) (fun _ _ _ h => h) (Or.inl ⟨by rfl, ?_⟩) (by assumption) ?_
      rotate_left
      · intro w hSw; go_split_ands; go_simp; try with_reducible rfl
      simp only [Act.put, List.setIfInBounds_toArray, List.set_cons_zero, List.set_cons_succ, List.getElem_toArray, List.getElem_cons_zero, List.getElem_cons_succ]
      have hr := HM2.out.sl 0 (by omega)
      have y0 : v2.cell? ⟨G, 0, none⟩ = some (.int .i64 0) := hr 0 _ rfl
      have yf0 : v2.frozen? ⟨G, 0, none⟩ = false := HM2.out.Gf 0
      have y1 : v2.cell? ⟨G, 1, none⟩ = some (.int .i64 0) := hr 1 _ rfl
      have yf1 : v2.frozen? ⟨G, 1, none⟩ = false := HM2.out.Gf 1
      have y2 : v2.cell? ⟨G, 2, none⟩ = some (.int .i64 0) := hr 2 _ rfl
      have yf2 : v2.frozen? ⟨G, 2, none⟩ = false := HM2.out.Gf 2
      have y3 : v2.cell? ⟨G, 3, none⟩ = some (.int .i64 0) := hr 3 _ rfl
      have yf3 : v2.frozen? ⟨G, 3, none⟩ = false := HM2.out.Gf 3
      have HM3 : Hid (Nw w ((((v2.setCell ⟨G, 0, none⟩ (.int .i64 1)).setCell ⟨G, 1, none⟩ (.int .i64 0)).setCell ⟨G, 2, none⟩ (.int .i64 7)).setCell ⟨G, 3, none⟩ (.int .i64 0)) g q P (τ : Int) (n : Int) (m : Int) (roomT x) n m G T Q (uT 0) (fun j => if j = 1 then Tng.of 3 else if j = 0 then roomT x else .zero)) := Lib.hid (HM2.out.capG (i := 0) (u' := uT 0) (by omega) ⟨1, 0, 7, 0⟩ fun j _ => uT_zero j)
      clear hr
      refine wpAnyH_ready (rs := [8]) (by kernel_rfl) (by simp) ?_
      refine AllReadyH.cons rfl (fun K hK => ?_) AllReadyH.nil
      go_simp
      refine hK.out _ _ ⟨HM3.out.bs.bx.t, HM3.out.bs.bx.s, HM3.out.bs.bx.k, HM3.out.s 3 _ rfl, HM3.out.s 4 _ rfl⟩ (fun hHeld => ?_)
      clear hK K
      try simp only [Act.put, List.setIfInBounds_toArray, List.set_cons_zero, List.set_cons_succ, List.getElem_toArray, List.getElem_cons_zero, List.getElem_cons_succ]
      refine wpAnyH_done (by kernel_rfl) ?_ _
      clear y0 y1 y2 y3 yf0 yf1 yf2 yf3
      generalize World.setCell (World.setCell (World.setCell (World.setCell v2 _ _) _ _) _ _) _ _ = w8 at HM3 hHeld ⊢
      clear hHeld
      have HN3 := Lib.hid (HM3.out.same (v' := vT x 0) (fun _ => rfl) (vT_zero x))
      have g0 := HN3.out.bs.bx.t
      have g1 := HN3.out.bs.bx.s
      have g2 := HN3.out.bs.bx.k
      have glt := HN3.out.bs.bx.lt
      simp only at g0 g1 g2
      clear HM HM2 HM3 HN2
      go_wp2_with fail
      refine (root_to HROOT0.out _).mono ?_
      rintro e w9 ⟨rfl, hb⟩
      have HN4 := Lib.hid (HN3.out.on hb)
      clear hb g0 g1 g2 glt HN3
      have g0 := HN4.out.bs.bx.t
      have glt := HN4.out.bs.bx.lt
      simp only at g0
      go_wp2_with fail
      clear g0 glt
      go_loopg [55] τ (fun f p wr => NlRel w g q P τ n m x G T Q f p wr)
      case atStart => exact ⟨0, by omega, rfl, HN4.out⟩
      case round =>
        clear HN4
        obtain ⟨t, hk, rfl, hL⟩ := hrel
        have HI := Lib.hid hk
        have HL := Lib.hid hL
        clear hk hL
        by_cases hlt : t < τ
        · have HLT := Lib.hid hlt
          have hlt2 : (t : Int) < (τ : Int) := by omega
          obtain ⟨p2, hp2⟩ : ∃ p2, p2 = 2 + t := ⟨_, rfl⟩
          obtain ⟨p3, hp3⟩ : ∃ p3, p3 = t * 8 + 1 := ⟨_, rfl⟩
          have HP2 := Lib.hid hp2
          have HP3 := Lib.hid hp3
          have hp2m : p2 < m := by omega
          have hp2m2 : (p2 : Int) < (m : Int) := by omega
          have hp3n : p3 < n := by omega
          have hp3n2 : (p3 : Int) < (n : Int) := by omega
          have ew2 : IntKind.i64.wrap (2 + (t : Int)) = (p2 : Int) := by rw [wrap_in (by omega) (by omega)]; omega
          have ew3 : IntKind.i64.wrap ((t : Int) * 8 + 1) = (p3 : Int) := by rw [wrap_in (by omega) (by omega)]; omega
          have HROOT : Hid (Gd.root ⟨(τ : Int), (n : Int), (m : Int)⟩ t = (t : Int) * 8) := Lib.hid (by rw [Gd.root, if_pos (Gd.has_iff.2 ⟨HY.out, by omega, by simp only; omega⟩)])
          obtain ⟨L, hL⟩ : ∃ L, L = thist (rootT t) := ⟨_, rfl⟩
          have HLE := Lib.hid hL
          have HLL : Hid (L.toArray.size = 13) := Lib.hid (by rw [hL]; rfl)
          have HINF : Hid ((Tryz.prog.info? 67).map (·.size) = some L.toArray.size) := Lib.hid (by rw [HLL.out]; exact infoth)
          have HONE : Hid (L.toArray.all (·.oneCell') = true) := Lib.hid (by rw [hL]; exact th_one _)
          have HINS : Hid ((Tryz.prog.info? 64).map (·.size) = some 5) := Lib.hid (by kernel_rfl)
          have HRT : Hid (∀ w, Calls Tryz.prog 87 #[.agg #[.int .i64 (τ : Int), .int .i64 (n : Int), .int .i64 (m : Int)], .int .i64 (t : Int)] w fun e w' => e = .returned (.agg L.toArray) ∧ Below w.heap.size w w') := Lib.hid fun w => by rw [hL]; exact rootof_at HY.out hlt2 w
          clear hp2 hp3 hL
          go_wp2_with fail
          have HM := Lib.hid (HL.out.on (below_self wr).drew)
          refine wp_region_held_drew (S := (fun w' => w'.cell? ⟨g, 0, none⟩ = some (.int .i64 (τ : Int)) ∧ w'.cell? ⟨g, 1, none⟩ = some (.int .i64 (n : Int)) ∧ w'.cell? ⟨g, 2, none⟩ = some (.int .i64 (m : Int)) ∧ w'.cell? ⟨Q, 3, none⟩ = some (.slice (some ⟨G, 0, none⟩) n n) ∧ w'.cell? ⟨Q, 4, none⟩ = some (.slice (some ⟨T, 0, none⟩) m m))) (by kernel_rfl) ⟨HM.out.bs.bx.t, HM.out.bs.bx.s, HM.out.bs.bx.k, HM.out.s 3 _ rfl, HM.out.s 4 _ rfl⟩ (fun hHeld => ?_)
          generalize wr.drew = v at HM hHeld ⊢
          refine wpAnyH_take (i := 0) (v := ?_) rfl (by kernel_rfl) (by kernel_rfl) (by kernel_rfl) (fun _ _ _ h => h) (Or.inl ⟨by rfl, ?_⟩) (by assumption) ?_
          rotate_left
          · intro w hSw; go_split_ands; go_simp; try with_reducible rfl
          simp only [Act.put, List.setIfInBounds_toArray, List.set_cons_zero, List.set_cons_succ, List.getElem_toArray, List.getElem_cons_zero]
          refine wpAnyH_take (i := 1) (v := ?_) rfl (by kernel_rfl) (by kernel_rfl) (by kernel_rfl) (fun _ _ _ h => h) (Or.inl ⟨by rfl, ?_⟩) (by assumption) ?_
          rotate_left
          · intro w hSw; go_split_ands; go_simp; try with_reducible rfl
          simp only [Act.put, List.setIfInBounds_toArray, List.set_cons_zero, List.set_cons_succ, List.getElem_toArray, List.getElem_cons_zero, List.getElem_cons_succ]
          refine wpAnyH_take (i := 2) (v := ?_) rfl (by kernel_rfl) (by kernel_rfl) (by kernel_rfl) (fun _ _ _ h => h) (Or.inl ⟨by rfl, ?_⟩) (by assumption) ?_
          rotate_left
          · intro w hSw; go_split_ands; go_simp; try with_reducible rfl
          simp only [Act.put, List.setIfInBounds_toArray, List.set_cons_zero, List.set_cons_succ, List.getElem_toArray, List.getElem_cons_zero, List.getElem_cons_succ]
          refine wpAnyH_take (i := 3) (v := ?_) rfl (by kernel_rfl) (by kernel_rfl) (by kernel_rfl) (fun _ _ _ h => h) (Or.inl ⟨by rfl, ?_⟩) (by assumption) ?_
          rotate_left
          · intro w hSw; go_split_ands; go_simp; try with_reducible rfl
          simp only [Act.put, List.setIfInBounds_toArray, List.set_cons_zero, List.set_cons_succ, List.getElem_toArray, List.getElem_cons_zero, List.getElem_cons_succ]
          refine wpAnyH_take (i := 4) (v := ?_) rfl (by kernel_rfl) (by kernel_rfl) (by kernel_rfl) (fun _ _ _ h => h) (Or.inl ⟨by rfl, ?_⟩) (by assumption) ?_
          rotate_left
          · intro w hSw; go_split_ands; go_simp; try with_reducible rfl
          simp only [Act.put, List.setIfInBounds_toArray, List.set_cons_zero, List.set_cons_succ, List.getElem_toArray, List.getElem_cons_zero, List.getElem_cons_succ]
          refine wpAnyH_take (i := 5) (v := ?_) rfl (by kernel_rfl) (by kernel_rfl) (by kernel_rfl) (fun _ _ _ h => h) (Or.inl ⟨by rfl, ?_⟩) (by assumption) ?_
          rotate_left
          · intro w hSw; go_split_ands; go_simp; try with_reducible rfl
          simp only [Act.put, List.setIfInBounds_toArray, List.set_cons_zero, List.set_cons_succ, List.getElem_toArray, List.getElem_cons_zero, List.getElem_cons_succ]
          refine wpAnyH_ready (rs := [6]) (by kernel_rfl) (by simp) ?_
          refine AllReadyH.cons rfl (fun K hK => ?_) AllReadyH.nil
          go_simp
          refine (HRT.out _).mono ?_
          rintro e v2 ⟨rfl, hb⟩
          have HM2 := Lib.hid (HM.out.on hb)
          clear hb
          refine hK.out _ _ ⟨HM2.out.bs.bx.t, HM2.out.bs.bx.s, HM2.out.bs.bx.k, HM2.out.s 3 _ rfl, HM2.out.s 4 _ rfl⟩ (fun hHeld => ?_)
          clear hK K
          try simp only [Act.put, List.setIfInBounds_toArray, List.set_cons_zero, List.set_cons_succ, List.getElem_toArray, List.getElem_cons_zero, List.getElem_cons_succ]
          refine wpAnyH_take (i := 7) (v := ?_) rfl (by kernel_rfl) (by kernel_rfl) (by kernel_rfl) (fun _ _ _ h => h) (Or.inl ⟨by rfl, ?_⟩) (by assumption) ?_
          rotate_left
          · intro w hSw; go_split_ands; go_simp; try with_reducible rfl
          simp only [Act.put, List.setIfInBounds_toArray, List.set_cons_zero, List.set_cons_succ, List.getElem_toArray, List.getElem_cons_zero, List.getElem_cons_succ]
          have HTH : Hid (v2.there T (p2 * 13) L.toArray.size) := Lib.hid (by rw [HLL.out]; exact HM2.out.thereT (by omega))
          have HM3 := Lib.hid (HM2.out.putT (i := p2) (v' := vT x (t + 1)) (by omega) (rootT t) fun j _ => by rw [HP2.out]; exact vT_succ x t j)
          rw [← HLE.out] at HM3
          refine wpAnyH_ready (rs := [8]) (by kernel_rfl) (by simp) ?_
          refine AllReadyH.cons rfl (fun K hK => ?_) AllReadyH.nil
          refine step_store_mid rfl 67 _ _ rfl T (p2 * 13) L.toArray rfl rfl HTH.out HINF.out HONE.out ?_
          refine hK.out _ _ ⟨HM3.out.bs.bx.t, HM3.out.bs.bx.s, HM3.out.bs.bx.k, HM3.out.s 3 _ rfl, HM3.out.s 4 _ rfl⟩ (fun hHeld => ?_)
          clear hK K
          try simp only [Act.put, List.getElem_toArray, List.getElem_cons_zero, List.getElem_cons_succ]
          refine wpAnyH_done (by kernel_rfl) ?_ _
          clear hHeld HTH
          generalize v2.setCells T (p2 * 13) _ = w9 at HM3 ⊢
          go_wp2_with fail
          have HM4 := Lib.hid (HM3.out.on (below_self w9).drew)
          refine wp_region_held_drew (S := (fun w' => w'.cell? ⟨g, 0, none⟩ = some (.int .i64 (τ : Int)) ∧ w'.cell? ⟨g, 1, none⟩ = some (.int .i64 (n : Int)) ∧ w'.cell? ⟨g, 2, none⟩ = some (.int .i64 (m : Int)) ∧ w'.cell? ⟨Q, 3, none⟩ = some (.slice (some ⟨G, 0, none⟩) n n) ∧ w'.cell? ⟨Q, 4, none⟩ = some (.slice (some ⟨T, 0, none⟩) m m))) (by kernel_rfl) ⟨HM4.out.bs.bx.t, HM4.out.bs.bx.s, HM4.out.bs.bx.k, HM4.out.s 3 _ rfl, HM4.out.s 4 _ rfl⟩ (fun hHeld => ?_)
          generalize w9.drew = v4 at HM4 hHeld ⊢
          refine wpAnyH_take (i := 0) (v := ?_) rfl (by kernel_rfl) (by kernel_rfl) (by kernel_rfl) (fun _ _ _ h => h) (Or.inl ⟨by rfl, ?_⟩) (by assumption) ?_
          rotate_left
          · intro w hSw; go_split_ands; go_simp; try with_reducible rfl
          simp only [Act.put, List.setIfInBounds_toArray, List.set_cons_zero, List.set_cons_succ, List.getElem_toArray, List.getElem_cons_zero]
          refine wpAnyH_take (i := 1) (v := ?_) rfl (by kernel_rfl) (by kernel_rfl) (by kernel_rfl) (fun _ _ _ h => h) (Or.inl ⟨by rfl, ?_⟩) (by assumption) ?_
          rotate_left
          · intro w hSw; go_split_ands; go_simp; try with_reducible rfl
          simp only [Act.put, List.setIfInBounds_toArray, List.set_cons_zero, List.set_cons_succ, List.getElem_toArray, List.getElem_cons_zero, List.getElem_cons_succ]
          refine wpAnyH_take (i := 2) (v := ?_) rfl (by kernel_rfl) (by kernel_rfl) (by kernel_rfl) (fun _ _ _ h => h) (Or.inl ⟨by rfl, ?_⟩) (by assumption) ?_
          rotate_left
          · intro w hSw; go_split_ands; go_simp; try with_reducible rfl
          simp only [Act.put, List.setIfInBounds_toArray, List.set_cons_zero, List.set_cons_succ, List.getElem_toArray, List.getElem_cons_zero, List.getElem_cons_succ]
          refine wpAnyH_take (i := 3) (v := ?_) rfl (by kernel_rfl) (by kernel_rfl) (by kernel_rfl) (fun _ _ _ h => h) (Or.inl ⟨by rfl, ?_⟩) (by assumption) ?_
          rotate_left
          · intro w hSw; go_split_ands; go_simp; try with_reducible rfl
          simp only [Act.put, List.setIfInBounds_toArray, List.set_cons_zero, List.set_cons_succ, List.getElem_toArray, List.getElem_cons_zero, List.getElem_cons_succ]
          refine wpAnyH_take (i := 6) (v := ?_) rfl (by kernel_rfl) (by kernel_rfl) (by kernel_rfl) (fun _ _ _ h => h) (Or.inl ⟨by rfl, ?_⟩) (by assumption) ?_
          rotate_left
          · intro w hSw; go_split_ands; go_simp; try with_reducible rfl
          simp only [Act.put, List.setIfInBounds_toArray, List.set_cons_zero, List.set_cons_succ, List.getElem_toArray, List.getElem_cons_zero, List.getElem_cons_succ]
          refine wpAnyH_take (i := 7) (v := ?_) rfl (by kernel_rfl) (by kernel_rfl) (by kernel_rfl) (fun _ _ _ h => h) (Or.inl ⟨by rfl, ?_⟩) (by assumption) ?_
          rotate_left
          · intro w hSw; go_split_ands; go_simp; try with_reducible rfl
          simp only [Act.put, List.setIfInBounds_toArray, List.set_cons_zero, List.set_cons_succ, List.getElem_toArray, List.getElem_cons_zero, List.getElem_cons_succ]
          refine wpAnyH_take (i := 8) (v := ?_) rfl (by kernel_rfl) (by kernel_rfl) (by kernel_rfl) (fun _ _ _ h => h) (Or.inl ⟨by rfl, ?_⟩) (by assumption) ?_
          rotate_left
          · intro w hSw; go_split_ands; go_simp; try with_reducible rfl
          simp only [Act.put, List.setIfInBounds_toArray, List.set_cons_zero, List.set_cons_succ, List.getElem_toArray, List.getElem_cons_zero, List.getElem_cons_succ]
          refine wpAnyH_ready (rs := [4]) (by kernel_rfl) (by simp) ?_
          refine AllReadyH.cons rfl (fun K hK => ?_) AllReadyH.nil
          go_simp
          refine (root_to HROOT.out _).mono ?_
          rintro e v5 ⟨rfl, hb⟩
          have HM5 := Lib.hid (HM4.out.on hb)
          clear hb
          refine hK.out _ _ ⟨HM5.out.bs.bx.t, HM5.out.bs.bx.s, HM5.out.bs.bx.k, HM5.out.s 3 _ rfl, HM5.out.s 4 _ rfl⟩ (fun hHeld => ?_)
          clear hK K
          try simp only [Act.put, List.setIfInBounds_toArray, List.set_cons_zero, List.set_cons_succ, List.getElem_toArray, List.getElem_cons_zero, List.getElem_cons_succ]
          refine wpAnyH_take (i := 5) (v := ?_) rfl (by kernel_rfl) (by kernel_rfl) (by kernel_rfl) (fun _ _ _ h => h) (Or.inl ⟨by rfl, ?_⟩) (by assumption) ?_
          rotate_left
          · intro w hSw; go_split_ands; go_simp; try with_reducible rfl
          simp only [Act.put, List.setIfInBounds_toArray, List.set_cons_zero, List.set_cons_succ, List.getElem_toArray, List.getElem_cons_zero, List.getElem_cons_succ]
          refine wpAnyH_take (i := 9) (v := ?_) rfl (by kernel_rfl) (by kernel_rfl) (by kernel_rfl) (fun _ _ _ h => h) (Or.inl ⟨by rfl, ?_⟩) (by assumption) ?_
          rotate_left
          · intro w hSw; go_split_ands; go_simp; try with_reducible rfl
          simp only [Act.put, List.setIfInBounds_toArray, List.set_cons_zero, List.set_cons_succ, List.getElem_toArray, List.getElem_cons_zero, List.getElem_cons_succ]
          have HTH : Hid (v5.there G (p3 * 5) 5) := Lib.hid (HM5.out.thereG (by omega))
          have HM6 : Hid (Nw w (v5.setCells G (p3 * 5) [.int .i64 3, .int .i64 1, .int .i64 7, .int .i64 0, .int .i64 1]) g q P (τ : Int) (n : Int) (m : Int) (roomT x) n m G T Q (uT (t + 1)) (vT x (t + 1))) := Lib.hid (HM5.out.putG (i := p3) (u' := uT (t + 1)) (by omega) ⟨⟨3, 1, 7, 0⟩, 1⟩ fun j _ => by rw [HP3.out]; exact uT_succ t j)
          refine wpAnyH_ready (rs := [10]) (by kernel_rfl) (by simp) ?_
          refine AllReadyH.cons rfl (fun K hK => ?_) AllReadyH.nil
          refine step_store_mid rfl 64 _ _ rfl G (p3 * 5) #[.int .i64 3, .int .i64 1, .int .i64 7, .int .i64 0, .int .i64 1] rfl rfl HTH.out HINS.out (sl_one ⟨⟨3, 1, 7, 0⟩, 1⟩) ?_
          refine hK.out _ _ ⟨HM6.out.bs.bx.t, HM6.out.bs.bx.s, HM6.out.bs.bx.k, HM6.out.s 3 _ rfl, HM6.out.s 4 _ rfl⟩ (fun hHeld => ?_)
          clear hK K
          try simp only [Act.put, List.getElem_toArray, List.getElem_cons_zero, List.getElem_cons_succ]
          refine wpAnyH_done (by kernel_rfl) ?_ _
          clear HTH
          try dsimp only at hHeld ⊢
          clear hHeld
          generalize v5.setCells G (p3 * 5) _ = w10 at HM6 ⊢
          go_wp2
          go_roundg (τ - (t + 1))
          case measure => have := HI.out; have := HLT.out; omega
          case rel => exact ⟨t + 1, by have := HI.out; have := HLT.out; omega, by first | go_num | (refine congrArg (Value.int .i64) ?_; exact w64_in (z := (t : Int) + 1) (by omega) (by omega)) | (refine congrArg (Value.int .i64) ?_; exact wrap_in (z := (t : Int) + 1) (by omega) (by omega)), HM6.out⟩
        · have hlt2 : ¬ (t : Int) < (τ : Int) := by omega
          have htt : t = τ := by have := HI.out; omega
          subst htt
          have hs1 := HL.out.sl 1 (by omega)
          have hu1 : uT t 1 = ⟨⟨3, 1, 7, 0⟩, 1⟩ := by rw [uT, if_neg (by decide), if_pos ⟨by decide, by omega⟩]
          rw [hu1] at hs1
          have y4 : wr.cell? ⟨G, 9, none⟩ = some (.int .i64 1) := hs1 4 _ rfl
          have yf4 : wr.frozen? ⟨G, 9, none⟩ = false := HL.out.Gf 9
          have hGl := HL.out.lG
          have hQl := HL.out.lQ
          have hGQ := HL.out.GQ
          have c3 : wr.cell? ⟨Q, 3, none⟩ = some (.slice (some ⟨G, 0, none⟩) n n) := HL.out.s 3 _ rfl
          have hN9 : Nw w (wr.setCell ⟨G, 9, none⟩ (.int .i64 (-1))) g q P (t : Int) (n : Int) (m : Int) (roomT x) n m G T Q (newS t) (newT t x) := (HL.out.upG (i := 1) (u' := newS t) (by omega) (-1) fun j _ => uT_end t j (by omega)).same (fun _ => rfl) (vT_end x t)
          have HN9 := Lib.hid hN9
          clear hs1 hu1 hN9 hlt
          have hqG : q ≠ G := by have := HL.out.bs.qP; have := HL.out.PG; omega
          have hGq : G ≠ q := hqG.symm
          have hQG : Q ≠ G := HL.out.GQ.symm
          have s0 : wr.cell? ⟨Q, 0, none⟩ = some (.int .i64 (t : Int)) := HL.out.s 0 _ rfl
          have s1 : wr.cell? ⟨Q, 1, none⟩ = some (.int .i64 (n : Int)) := HL.out.s 1 _ rfl
          have s2 : wr.cell? ⟨Q, 2, none⟩ = some (.int .i64 (m : Int)) := HL.out.s 2 _ rfl
          have s4 : wr.cell? ⟨Q, 4, none⟩ = some (.slice (some ⟨T, 0, none⟩) m m) := HL.out.s 4 _ rfl
          have qr := HL.out.bs.qr
          have qf := HL.out.bs.qf
          have q0 : wr.cell? ⟨q, 0, none⟩ = some (.int .i64 0) := qr 0 _ rfl
          have q1 : wr.cell? ⟨q, 1, none⟩ = some (.int .i64 0) := qr 1 _ rfl
          have q2 : wr.cell? ⟨q, 2, none⟩ = some (.int .i64 0) := qr 2 _ rfl
          have q3 : wr.cell? ⟨q, 3, none⟩ = some (.slice none 0 0) := qr 3 _ rfl
          have q4 : wr.cell? ⟨q, 4, none⟩ = some (.slice none 0 0) := qr 4 _ rfl
          have f0 := qf 0
          have f1 := qf 1
          have f2 := qf 2
          have f3 := qf 3
          have f4 := qf 4
          clear qr qf
          have HE2 : Hid (((((((wr.setCell ⟨G, 9, none⟩ (.int .i64 (-1))).setCell ⟨q, 0, none⟩ (.int .i64 (t : Int))).setCell ⟨q, 1, none⟩ (.int .i64 (n : Int))).setCell ⟨q, 2, none⟩ (.int .i64 (m : Int))).setCell ⟨q, 3, none⟩ (.slice (some ⟨G, 0, none⟩) n n)).setCell ⟨q, 4, none⟩ (.slice (some ⟨T, 0, none⟩) m m)).rangeAt q 0 [.int .i64 (t : Int), .int .i64 (n : Int), .int .i64 (m : Int), .slice (some ⟨G, 0, none⟩) n n, .slice (some ⟨T, 0, none⟩) m m]) := Lib.hid (World.rangeAt_setCells_same (wr.setCell ⟨G, 9, none⟩ (.int .i64 (-1))) q 0 [.int .i64 (t : Int), .int .i64 (n : Int), .int .i64 (m : Int), .slice (some ⟨G, 0, none⟩) n n, .slice (some ⟨T, 0, none⟩) m m] fun j hj => ⟨HN9.out.bs.qr.isSome j hj, HN9.out.bs.qf _⟩)
          have HFS : Hid (Fsh w ((((((wr.setCell ⟨G, 9, none⟩ (.int .i64 (-1))).setCell ⟨q, 0, none⟩ (.int .i64 (t : Int))).setCell ⟨q, 1, none⟩ (.int .i64 (n : Int))).setCell ⟨q, 2, none⟩ (.int .i64 (m : Int))).setCell ⟨q, 3, none⟩ (.slice (some ⟨G, 0, none⟩) n n)).setCell ⟨q, 4, none⟩ (.slice (some ⟨T, 0, none⟩) m m)) (snewS ⟨(t : Int), (n : Int), (m : Int)⟩ x) (some ⟨G, 0, none⟩) (some ⟨T, 0, none⟩) ∧ Below w.heap.size w ((((((wr.setCell ⟨G, 9, none⟩ (.int .i64 (-1))).setCell ⟨q, 0, none⟩ (.int .i64 (t : Int))).setCell ⟨q, 1, none⟩ (.int .i64 (n : Int))).setCell ⟨q, 2, none⟩ (.int .i64 (m : Int))).setCell ⟨q, 3, none⟩ (.slice (some ⟨G, 0, none⟩) n n)).setCell ⟨q, 4, none⟩ (.slice (some ⟨T, 0, none⟩) m m))) := Lib.hid (by
            have hfs := HN9.out.fsh (s := snewS ⟨(t : Int), (n : Int), (m : Int)⟩ x) (by simp [snewS]) (by simp [snewS]) (fun i hi => (slAt_range _ (by simpa using hi)).symm) (fun i hi => (thAt_range _ (by simpa using hi)).symm)
            have f := Fnd.setCells q [.int .i64 (t : Int), .int .i64 (n : Int), .int .i64 (m : Int), .slice (some ⟨G, 0, none⟩) n n, .slice (some ⟨T, 0, none⟩) m m] 0 (wr.setCell ⟨G, 9, none⟩ (.int .i64 (-1)))
            have hqP := HN9.out.bs.qP
            have hPG := HN9.out.PG
            have hPT := HN9.out.PT
            refine ⟨⟨⟨hfs.lies.sl.fndq f fun b o e => ?_, hfs.lies.th.fndq f fun b o e => ?_⟩, fun h => ?_, fun h => ?_, hfs.ne⟩, below_setCells (b := q) (by have := HN9.out.bs.base; have := HN9.out.bs.gq; omega) [.int .i64 (t : Int), .int .i64 (n : Int), .int .i64 (m : Int), .slice (some ⟨G, 0, none⟩) n n, .slice (some ⟨T, 0, none⟩) m m] 0 HN9.out.bs.old⟩
            · injection e with e; injection e with e1 _; omega
            · injection e with e; injection e with e1 _; omega
            · obtain ⟨b, h1, h2, h3, h4⟩ := hfs.sl h
              exact ⟨b, h1, h2, Nat.lt_of_lt_of_le h3 f.size, fun k => (World.frozen?_setCells q [.int .i64 (t : Int), .int .i64 (n : Int), .int .i64 (m : Int), .slice (some ⟨G, 0, none⟩) n n, .slice (some ⟨T, 0, none⟩) m m] 0 (wr.setCell ⟨G, 9, none⟩ (.int .i64 (-1))) ⟨b, k, none⟩).trans (h4 k)⟩
            · obtain ⟨b, h1, h2, h3, h4⟩ := hfs.th h
              exact ⟨b, h1, h2, Nat.lt_of_lt_of_le h3 f.size, fun k => (World.frozen?_setCells q [.int .i64 (t : Int), .int .i64 (n : Int), .int .i64 (m : Int), .slice (some ⟨G, 0, none⟩) n n, .slice (some ⟨T, 0, none⟩) m m] 0 (wr.setCell ⟨G, 9, none⟩ (.int .i64 (-1))) ⟨b, k, none⟩).trans (h4 k)⟩)
          have HF : Hid (r = some (snewS ⟨(t : Int), (n : Int), (m : Int)⟩ x)) := Lib.hid (by rw [← HR.out, snew, if_pos ⟨HY.out, HZ.out⟩])
          clear HN9 HL
          go_wp2
          generalize (World.setCell (World.setCell (World.setCell (World.setCell (World.setCell (World.setCell wr _ _) _ _) _ _) _ _) _ _) _ _) = w12 at HE2 HFS ⊢
          have e0 : w12.cell? ⟨q, 0, none⟩ = some (.int .i64 (t : Int)) := HE2.out 0 _ rfl
          have e1 : w12.cell? ⟨q, 1, none⟩ = some (.int .i64 (n : Int)) := HE2.out 1 _ rfl
          have e2 : w12.cell? ⟨q, 2, none⟩ = some (.int .i64 (m : Int)) := HE2.out 2 _ rfl
          have e3 : w12.cell? ⟨q, 3, none⟩ = some (.slice (some ⟨G, 0, none⟩) n n) := HE2.out 3 _ rfl
          have e4 : w12.cell? ⟨q, 4, none⟩ = some (.slice (some ⟨T, 0, none⟩) m m) := HE2.out 4 _ rfl
          clear q0 q1 q2 q3 q4 f0 f1 f2 f3 f4 s0 s1 s2 s4 c3 y4 yf4
          refine bodyPost_ret (by simp [results, Tryz.results69, go_sem, e0, e1, e2, e3, e4]; rfl) rfl ?_
          rw [HF.out]
          refine ⟨some ⟨G, 0, none⟩, n, some ⟨T, 0, none⟩, m, ?_, ?_, ?_, HFS.out.1, HFS.out.2⟩
          · simp [snewS]
          · simp [snewS]
          · simp [snewS]
end Go.Proofs.YtkpbfbmkolgmgaaGreat
