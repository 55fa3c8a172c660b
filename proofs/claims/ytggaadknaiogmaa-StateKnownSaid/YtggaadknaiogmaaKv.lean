/-
  The law StateKnown's states as plain data: which of them may be, what is told of them. No condition.
  States of the call's own in a row of states: slots, things and fields stored into them. Condition: each state's lists are its own, not frozen, all different.
-/
import Derived.Test.YtggaadknaiogmaaJo
import Derived.Test.YtggaadknaiogmaaKo
namespace Go.Proofs.Ytggaadknaiogmaa
open Go.RowKit

def setS (s : St) (i : Nat) (x : Sl) : St := ⟨s.g, s.sl.set i x, s.th⟩
def setT (s : St) (i : Nat) (x : Tng) : St := ⟨s.g, s.sl, s.th.set i x⟩
def box7 : Cp := ⟨3, 1, 7, 0⟩
def kn0 : St := setS s64 9 ⟨⟨3, 1, 7, 0⟩, 9⟩
def kn1 : St := setS s64 9 ⟨⟨3, 1, 7, 0⟩, 3⟩
def kn2 : St := setS s64 3 ⟨.none, 0⟩
def kn3 : St := setS s64 20 ⟨box7, -1⟩
def kn4 : St := setT s64 5 (Tng.of 4)
def kn5 : St := setS s64 2 ⟨⟨4, 1, 0, 0⟩, -1⟩
def kn6 : St := setT s64 2 ⟨2, 2, 0, 0, 0, 0, 0, false, 0, 0, 0, 0, 0⟩
def kn7 : St := setS (setT s64 7 ⟨2, 1, 7, 0, 0, 0, 0, false, 0, 0, 0, 0, 0⟩) 2 ⟨⟨2, 7, 0, 0⟩, -1⟩
def kn8 : St := setT s64 1 ⟨3, 0, 0, 0, 0, 4, 0, true, 0, 0, 0, 0, 0⟩
def kn9 : St := setS (setS s64 9 ⟨⟨3, 1, 7, 0⟩, 1⟩) 1 ⟨⟨3, 1, 3, 0⟩, -1⟩
def kn10 : St := ⟨s64.g, s64.sl, s64.th.take 15⟩
def kn11 : St := setS s64 0 ⟨⟨1, 6, 7, 0⟩, -1⟩
def kn12 : St := setS (setT s64 7 ⟨2, 1, 16, 0, 0, 0, 0, false, 0, 0, 0, 0, 0⟩) 16 ⟨⟨2, 7, 0, 0⟩, -1⟩
def knM : St := setS (setT s64 7 ⟨2, 1, 16, 0, 0, 0, 0, false, 0, 0, 0, 0, 0⟩) 2 ⟨⟨2, 7, 1, 0⟩, 0⟩
theorem kn0_no : sgood kn0 = false := by decide +kernel
theorem kn1_no : sgood kn1 = false := by decide +kernel
theorem kn2_no : sgood kn2 = false := by decide +kernel
theorem kn3_no : sgood kn3 = false := by decide +kernel
theorem kn4_no : sgood kn4 = false := by decide +kernel
theorem kn5_no : sgood kn5 = false := by decide +kernel
theorem kn6_no : sgood kn6 = false := by decide +kernel
theorem kn7_no : sgood kn7 = false := by decide +kernel
theorem kn8_no : sgood kn8 = false := by decide +kernel
theorem kn9_no : sgood kn9 = false := by decide +kernel
theorem kn10_no : sgood kn10 = false := by decide +kernel
theorem kn11_no : sgood kn11 = false := by decide +kernel
theorem kn12_no : sgood kn12 = false := by decide +kernel
theorem knM_yes : sgood knM = true := by decide +kernel
theorem knM_17 : ownerN knM.th 17 = some 7 := by decide +kernel
theorem knM_18 : ownerN knM.th 18 = none := by decide +kernel
theorem kn_9 : ownerN s64.th 9 = some 3 := by decide +kernel
theorem knM_free : freeN knM.th = some 4 := by decide +kernel
theorem knM_gap2 : gapN knM 2 = some 18 := by decide +kernel
theorem knM_gap4 : gapN knM 4 = none := by decide +kernel
theorem kn_hold : holdN s64.sl 1 = [1, 9] := by decide +kernel
theorem knM_in1 : insideN knM 7 16 = true := by decide +kernel
theorem knM_in2 : insideN knM 7 3 = false := by decide +kernel
theorem knM_in3 : insideN knM 2 16 = true := by decide +kernel
theorem knM_in4 : insideN knM 0 16 = false := by decide +kernel
theorem knM_good : fgood (upsOf knM.sl) = true := by decide +kernel
theorem knM_same : s64.same knM = false := by decide +kernel
end Go.Proofs.Ytggaadknaiogmaa
namespace Go.Proofs.Ytggaadknaiogmaa
open Go.RowKit

/-- a state of the call's own at o of block L; its slots lie in P, its things in Q -/
structure Owz (w : World) (L o : Nat) (s : St) (P Q m ca cc : Nat) : Prop where
  row : w.rangeAt L o [.int .i64 2, .int .i64 32, .int .i64 16, .slice (some ⟨P, 0, none⟩) 32 ca, .slice (some ⟨Q, 0, none⟩) m cc]
  sl : ∀ j, j < 32 → w.rangeAt P (j * 5) (slist (slAt s.sl j))
  th : ∀ j, j < m → w.rangeAt Q (j * 13) (thist (thAt s.th j))
  Pf : ∀ j, w.frozen? ⟨P, j, none⟩ = false
  Qf : ∀ j, w.frozen? ⟨Q, j, none⟩ = false
  LP : L ≠ P
  LQ : L ≠ Q
  PQ : P ≠ Q
  lL : L < w.heap.size
  lP : P < w.heap.size
  lQ : Q < w.heap.size
  hg : s.g = ⟨2, 32, 16⟩
  hn : s.sl.length = 32
  hm : s.th.length = m
  hm16 : m ≤ 16
  hca : 32 ≤ ca
  hcc : m ≤ cc
theorem range_of_slC {w : World} {b o : Nat} {x : Sl} (h : SlC w b o x) : w.rangeAt b o (slist x) := fun j v hv => by
  have hj : j < 5 := (List.getElem?_eq_some_iff.1 hv).1
  rcases j with _ | _ | _ | _ | _ | j
  · cases hv; exact h.c0
  · cases hv; exact h.c1
  · cases hv; exact h.c2
  · cases hv; exact h.c3
  · cases hv; exact h.c4
  · omega
theorem range_of_thC {w : World} {b o : Nat} {x : Tng} (h : ThC w b o x) : w.rangeAt b o (thist x) := fun j v hv => by
  have hj : j < 13 := (List.getElem?_eq_some_iff.1 hv).1
  rcases j with _ | _ | _ | _ | _ | _ | _ | _ | _ | _ | _ | _ | _ | j
  · cases hv; exact h.c0
  · cases hv; exact h.c1
  · cases hv; exact h.c2
  · cases hv; exact h.c3
  · cases hv; exact h.c4
  · cases hv; exact h.c5
  · cases hv; exact h.c6
  · cases hv; exact h.c7
  · cases hv; exact h.c8
  · cases hv; exact h.c9
  · cases hv; exact h.c10
  · cases hv; exact h.c11
  · cases hv; exact h.c12
  · omega
section
variable {w w' : World} {L o : Nat} {s : St} {P Q m ca cc : Nat}
theorem Owz.step (h : Owz w L o s P Q m ca cc) {B : Nat} (f : Fnd w w' B) (h1 : L ≠ B) (h2 : P ≠ B) (h3 : Q ≠ B) : Owz w' L o s P Q m ca cc :=
  ⟨f.range h.lL h1 h.row, fun j hj => f.range h.lP h2 (h.sl j hj), fun j hj => f.range h.lQ h3 (h.th j hj), fun j => (f.frozen h.lP h2).trans (h.Pf j), fun j => (f.frozen h.lQ h3).trans (h.Qf j),
   h.LP, h.LQ, h.PQ, Nat.lt_of_lt_of_le h.lL f.size, Nat.lt_of_lt_of_le h.lP f.size, Nat.lt_of_lt_of_le h.lQ f.size, h.hg, h.hn, h.hm, h.hm16, h.hca, h.hcc⟩
theorem Owz.on (h : Owz w L o s P Q m ca cc) (hb : Below w.heap.size w w') : Owz w' L o s P Q m ca cc := h.step (.of hb (L + P + Q + 1)) (by omega) (by omega) (by omega)
/-- another place of the row is stored to -/
theorem Owz.stepRow (h : Owz w L o s P Q m ca cc) (f : Fnd w w' L) (hr : w'.rangeAt L o [.int .i64 2, .int .i64 32, .int .i64 16, .slice (some ⟨P, 0, none⟩) 32 ca, .slice (some ⟨Q, 0, none⟩) m cc]) : Owz w' L o s P Q m ca cc :=
  ⟨hr, fun j hj => f.range h.lP h.LP.symm (h.sl j hj), fun j hj => f.range h.lQ h.LQ.symm (h.th j hj), fun j => (f.frozen h.lP h.LP.symm).trans (h.Pf j), fun j => (f.frozen h.lQ h.LQ.symm).trans (h.Qf j),
   h.LP, h.LQ, h.PQ, Nat.lt_of_lt_of_le h.lL f.size, Nat.lt_of_lt_of_le h.lP f.size, Nat.lt_of_lt_of_le h.lQ f.size, h.hg, h.hn, h.hm, h.hm16, h.hca, h.hcc⟩
theorem Owz.newG (h : Owz w L o s P Q m ca cc) {l : List Sl} (f : Fnd w w' P) (hf : ∀ j, w'.frozen? ⟨P, j, none⟩ = w.frozen? ⟨P, j, none⟩) (hl : l.length = 32) (hr : ∀ j, j < 32 → w'.rangeAt P (j * 5) (slist (slAt l j))) : Owz w' L o ⟨s.g, l, s.th⟩ P Q m ca cc :=
  ⟨f.range h.lL h.LP h.row, hr, fun j hj => f.range h.lQ h.PQ.symm (h.th j hj), fun j => (hf j).trans (h.Pf j), fun j => (f.frozen h.lQ h.PQ.symm).trans (h.Qf j),
   h.LP, h.LQ, h.PQ, Nat.lt_of_lt_of_le h.lL f.size, Nat.lt_of_lt_of_le h.lP f.size, Nat.lt_of_lt_of_le h.lQ f.size, h.hg, hl, h.hm, h.hm16, h.hca, h.hcc⟩
theorem Owz.newT (h : Owz w L o s P Q m ca cc) {l : List Tng} (f : Fnd w w' Q) (hf : ∀ j, w'.frozen? ⟨Q, j, none⟩ = w.frozen? ⟨Q, j, none⟩) (hl : l.length = m) (hr : ∀ j, j < m → w'.rangeAt Q (j * 13) (thist (thAt l j))) : Owz w' L o ⟨s.g, s.sl, l⟩ P Q m ca cc :=
  ⟨f.range h.lL h.LQ h.row, fun j hj => f.range h.lP h.PQ (h.sl j hj), hr, fun j => (f.frozen h.lP h.PQ).trans (h.Pf j), fun j => (hf j).trans (h.Qf j),
   h.LP, h.LQ, h.PQ, Nat.lt_of_lt_of_le h.lL f.size, Nat.lt_of_lt_of_le h.lP f.size, Nat.lt_of_lt_of_le h.lQ f.size, h.hg, h.hn, hl, h.hm16, h.hca, h.hcc⟩
theorem there_of_range {w : World} {b o n : Nat} {cs : List Value} (h : w.rangeAt b o cs) (hn : cs.length = n) (hf : ∀ j, w.frozen? ⟨b, j, none⟩ = false) : w.there b o n := fun j hj =>
  ⟨by rw [h j _ (List.getElem?_eq_getElem (by omega))]; rfl, hf _⟩
theorem Owz.thereG (h : Owz w L o s P Q m ca cc) {i : Nat} (hi : i < 32) : w.there P (i * 5) 5 := there_of_range (h.sl i hi) rfl h.Pf
theorem Owz.thereT (h : Owz w L o s P Q m ca cc) {i : Nat} (hi : i < m) : w.there Q (i * 13) 13 := there_of_range (h.th i hi) rfl h.Qf
theorem Owz.putG (h : Owz w L o s P Q m ca cc) {i : Nat} (hi : i < 32) (y : Sl) : Owz (w.setCells P (i * 5) (slist y)) L o (setS s i y) P Q m ca cc := by
  refine h.newG (Fnd.setCells P _ _ _) (fun j => World.frozen?_setCells ..) (by rw [List.length_set, h.hn]) fun j hj => ?_
  by_cases e : j = i
  · subst e
    rw [slAt_at (List.getElem?_set_self (by rw [h.hn]; exact hi))]
    exact World.rangeAt_setCells_same _ _ _ _ (h.thereG hi)
  · rw [slAt_at (x := slAt s.sl j) (by rw [List.getElem?_set_ne (fun q => e q.symm)]; exact slAt_get (by rw [h.hn]; exact hj))]
    refine World.rangeAt_setCells_apart (h.sl j hj) _ _ _ (.inr ?_)
    show j * 5 + 5 ≤ i * 5 ∨ i * 5 + 5 ≤ j * 5
    omega
theorem Owz.putT (h : Owz w L o s P Q m ca cc) {i : Nat} (hi : i < m) (y : Tng) : Owz (w.setCells Q (i * 13) (thist y)) L o (setT s i y) P Q m ca cc := by
  refine h.newT (Fnd.setCells Q _ _ _) (fun j => World.frozen?_setCells ..) (by rw [List.length_set, h.hm]) fun j hj => ?_
  by_cases e : j = i
  · subst e
    rw [thAt_at (List.getElem?_set_self (by rw [h.hm]; exact hi))]
    exact World.rangeAt_setCells_same _ _ _ _ (h.thereT hi)
  · rw [thAt_at (x := thAt s.th j) (by rw [List.getElem?_set_ne (fun q => e q.symm)]; exact thAt_get (by rw [h.hm]; exact hj))]
    refine World.rangeAt_setCells_apart (h.th j hj) _ _ _ (.inr ?_)
    show j * 13 + 13 ≤ i * 13 ∨ i * 13 + 13 ≤ j * 13
    omega
theorem range_set {w : World} {b o : Nat} {cs : List Value} (h : w.rangeAt b o cs) (k : Nat) (hk : k < cs.length) (v : Value) : (w.setCell ⟨b, o + k, none⟩ v).rangeAt b o (cs.set k v) := fun j x hx => by
  by_cases e : j = k
  · subst e
    rw [List.getElem?_set_self hk] at hx
    injection hx with hx
    subst hx
    exact World.cell?_setCell_same _ _ _ (h j _ (List.getElem?_eq_getElem hk))
  · rw [List.getElem?_set_ne (fun q => e q.symm)] at hx
    exact (World.cell?_setCell_other _ _ _ _ (fun q => by injection q with _ q; omega)).trans (h j x hx)
/-- one cell of a slot is stored to -/
theorem Owz.putG1 (h : Owz w L o s P Q m ca cc) {i : Nat} (hi : i < 32) (k : Nat) (hk : k < 5) (v : Value) (y : Sl) (hy : slist y = (slist (slAt s.sl i)).set k v) : Owz (w.setCell ⟨P, i * 5 + k, none⟩ v) L o (setS s i y) P Q m ca cc := by
  refine h.newG (Fnd.mark _ _ _ _) (fun j => World.frozen?_setCell ..) (by rw [List.length_set, h.hn]) fun j hj => ?_
  by_cases e : j = i
  · subst e
    rw [slAt_at (List.getElem?_set_self (by rw [h.hn]; exact hi)), hy]
    exact range_set (h.sl j hj) k hk v
  · rw [slAt_at (x := slAt s.sl j) (by rw [List.getElem?_set_ne (fun q => e q.symm)]; exact slAt_get (by rw [h.hn]; exact hj))]
    refine World.rangeAt_setCells_apart (h.sl j hj) P (i * 5 + k) [v] (.inr ?_)
    show j * 5 + 5 ≤ i * 5 + k ∨ i * 5 + k + 1 ≤ j * 5
    omega
theorem Owz.cellG (h : Owz w L o s P Q m ca cc) {i : Nat} (hi : i < 32) (k : Nat) (hk : k < 5) : ∃ v, w.cell? ⟨P, i * 5 + k, none⟩ = some v := ⟨_, h.sl i hi k _ (List.getElem?_eq_getElem hk)⟩
theorem Owz.stH (h : Owz w L o s P Q m ca cc) : StH w s 2 32 16 (some ⟨P, 0, none⟩) 32 ca (some ⟨Q, 0, none⟩) m cc :=
  ⟨⟨fun _ => ⟨P, 0, rfl, h.lP, fun j hj => by
      have hr := h.sl j (by rw [h.hn] at hj; exact hj)
      rw [Nat.zero_add]
      exact ⟨hr 0 _ rfl, hr 1 _ rfl, hr 2 _ rfl, hr 3 _ rfl, hr 4 _ rfl⟩⟩,
    fun _ => ⟨Q, 0, rfl, h.lQ, fun j hj => by
      have hr := h.th j (by rw [h.hm] at hj; exact hj)
      rw [Nat.zero_add]
      exact ⟨hr 0 _ rfl, hr 1 _ rfl, hr 2 _ rfl, hr 3 _ rfl, hr 4 _ rfl, hr 5 _ rfl, hr 6 _ rfl, hr 7 _ rfl, hr 8 _ rfl, hr 9 _ rfl, hr 10 _ rfl, hr 11 _ rfl, hr 12 _ rfl⟩⟩⟩,
   h.hg, h.hn.symm, h.hm.symm, by omega, by have := h.hm16; omega, h.hca, h.hcc⟩
/-- the row's list of things is cut -/
theorem Owz.cut (h : Owz w L o s P Q m ca cc) {n : Nat} (hn : n ≤ m) : Owz (w.setCell ⟨L, o + 4, none⟩ (.slice (some ⟨Q, 0, none⟩) n cc)) L o ⟨s.g, s.sl, s.th.take n⟩ P Q n ca cc := by
  have f := Fnd.mark w L (o + 4) (.slice (some ⟨Q, 0, none⟩) n cc)
  refine ⟨range_set h.row 4 (Nat.lt_succ_self 4) _, fun j hj => f.range h.lP h.LP.symm (h.sl j hj), fun j hj => ?_, fun j => (f.frozen h.lP h.LP.symm).trans (h.Pf j), fun j => (f.frozen h.lQ h.LQ.symm).trans (h.Qf j),
   h.LP, h.LQ, h.PQ, Nat.lt_of_lt_of_le h.lL f.size, Nat.lt_of_lt_of_le h.lP f.size, Nat.lt_of_lt_of_le h.lQ f.size, h.hg, h.hn, by rw [List.length_take, h.hm]; omega, Nat.le_trans hn h.hm16, h.hca, Nat.le_trans hn h.hcc⟩
  rw [thAt_at (x := thAt s.th j) (by rw [List.getElem?_take_of_lt hj]; exact thAt_get (by rw [h.hm]; omega))]
  exact f.range h.lQ h.LQ.symm (h.th j (by omega))
end
/-- a row of thirteen states, the first N of them filled, each with lists of its own -/
structure Rwz (w : World) (L N : Nat) (F : Nat → St) (P Q M CA CC : Nat → Nat) : Prop where
  own : ∀ k, k < N → Owz w L (k * 5) (F k) (P k) (Q k) (M k) (CA k) (CC k)
  ap : ∀ j k, j < N → k < N → j ≠ k → P j ≠ P k ∧ P j ≠ Q k ∧ Q j ≠ P k ∧ Q j ≠ Q k
  all : w.there L 0 65
  lt : L < w.heap.size
section
variable {w w' : World} {L N : Nat} {F F' : Nat → St} {P Q M M' CA CC : Nat → Nat}
theorem Rwz.on (h : Rwz w L N F P Q M CA CC) (hb : Below w.heap.size w w') : Rwz w' L N F P Q M CA CC :=
  ⟨fun k hk => (h.own k hk).on hb, h.ap, fun j hj => by
    obtain ⟨h1, h2⟩ := h.all j hj
    exact ⟨by rw [hb.cell (p := ⟨L, _, none⟩) h.lt]; exact h1, by rw [World.frozen?_of_block (w := w) (a := ⟨L, _, none⟩) (hb.block L h.lt)]; exact h2⟩, Nat.lt_of_lt_of_le h.lt hb.size⟩
/-- state k's list in block B is stored to -/
theorem Rwz.chg (h : Rwz w L N F P Q M CA CC) {k B : Nat} (hk : k < N) (f : Fnd w w' B) (hB : B = P k ∨ B = Q k) {s : St} (ho : Owz w' L (k * 5) s (P k) (Q k) (M k) (CA k) (CC k)) (e : ∀ j, j < N → F' j = if j = k then s else F j) : Rwz w' L N F' P Q M CA CC := by
  have hL : L ≠ B := by
    rcases hB with rfl | rfl
    · exact (h.own k hk).LP
    · exact (h.own k hk).LQ
  refine ⟨fun j hj => ?_, h.ap, fun j hj => ?_, Nat.lt_of_lt_of_le h.lt f.size⟩
  · rw [e j hj]
    by_cases q : j = k
    · subst q; rw [if_pos rfl]; exact ho
    · rw [if_neg q]
      have a := h.ap j k hj hk q
      exact (h.own j hj).step f hL (hB.elim (fun q => q ▸ a.1) (fun q => q ▸ a.2.1)) (hB.elim (fun q => q ▸ a.2.2.1) (fun q => q ▸ a.2.2.2))
  · obtain ⟨h1, h2⟩ := h.all j hj
    exact ⟨by rw [f.cell h.lt hL]; exact h1, by rw [f.frozen h.lt hL]; exact h2⟩
theorem Rwz.putG (h : Rwz w L N F P Q M CA CC) {k i : Nat} (hk : k < N) (hi : i < 32) (y : Sl) (e : ∀ j, j < N → F' j = if j = k then setS (F k) i y else F j) : Rwz (w.setCells (P k) (i * 5) (slist y)) L N F' P Q M CA CC :=
  h.chg hk (Fnd.setCells _ _ _ _) (.inl rfl) ((h.own k hk).putG hi y) e
theorem Rwz.putT (h : Rwz w L N F P Q M CA CC) {k i : Nat} (hk : k < N) (hi : i < M k) (y : Tng) (e : ∀ j, j < N → F' j = if j = k then setT (F k) i y else F j) : Rwz (w.setCells (Q k) (i * 13) (thist y)) L N F' P Q M CA CC :=
  h.chg hk (Fnd.setCells _ _ _ _) (.inr rfl) ((h.own k hk).putT hi y) e
theorem Rwz.putG1 (h : Rwz w L N F P Q M CA CC) {k i : Nat} (hk : k < N) (hi : i < 32) (q : Nat) (hq : q < 5) (v : Value) (y : Sl) (hy : slist y = (slist (slAt (F k).sl i)).set q v) (e : ∀ j, j < N → F' j = if j = k then setS (F k) i y else F j) : Rwz (w.setCell ⟨P k, i * 5 + q, none⟩ v) L N F' P Q M CA CC :=
  h.chg hk (Fnd.mark _ _ _ _) (.inl rfl) ((h.own k hk).putG1 hi q hq v y hy) e
theorem Rwz.cut (h : Rwz w L N F P Q M CA CC) {k n : Nat} (hk : k < N) (hn : n ≤ M k) (e : ∀ j, j < N → F' j = if j = k then ⟨(F k).g, (F k).sl, (F k).th.take n⟩ else F j) (em : ∀ j, j < N → M' j = if j = k then n else M j) : Rwz (w.setCell ⟨L, k * 5 + 4, none⟩ (.slice (some ⟨Q k, 0, none⟩) n (CC k))) L N F' P Q M' CA CC := by
  have f := Fnd.mark w L (k * 5 + 4) (.slice (some ⟨Q k, 0, none⟩) n (CC k))
  refine ⟨fun j hj => ?_, h.ap, fun j hj => ?_, Nat.lt_of_lt_of_le h.lt f.size⟩
  · rw [e j hj, em j hj]
    by_cases q : j = k
    · subst q; rw [if_pos rfl, if_pos rfl]; exact (h.own j hj).cut hn
    · rw [if_neg q, if_neg q]
      refine (h.own j hj).stepRow f (World.rangeAt_setCells_apart (h.own j hj).row L (k * 5 + 4) [.slice (some ⟨Q k, 0, none⟩) n (CC k)] (.inr ?_))
      show j * 5 + 5 ≤ k * 5 + 4 ∨ k * 5 + 4 + 1 ≤ j * 5
      omega
  · obtain ⟨h1, h2⟩ := h.all j hj
    refine ⟨?_, by rw [World.frozen?_setCell]; exact h2⟩
    by_cases q : 0 + j = k * 5 + 4
    · rw [q] at h1 ⊢
      obtain ⟨x, hx⟩ := Option.isSome_iff_exists.1 h1
      rw [World.cell?_setCell_same _ _ _ hx]; rfl
    · rw [World.cell?_setCell_other _ _ _ _ (fun e => by injection e with _ e; exact q e.symm)]; exact h1
/-- one more state is stored into the row -/
theorem Rwz.more (h : Rwz w L N F P Q M CA CC) (hN : N < 13) {W : World} (hW : Rwz W L N F P Q M CA CC) {p q ca cc : Nat} (hs : StAt w s64 (some ⟨p, 0, none⟩) (some ⟨q, 0, none⟩)) (hp : W.heap.size ≤ p) (hp' : p < w.heap.size) (hq : W.heap.size ≤ q) (hq' : q < w.heap.size) (hpq : p ≠ q)
    (pf : ∀ j, w.frozen? ⟨p, j, none⟩ = false) (qf : ∀ j, w.frozen? ⟨q, j, none⟩ = false) (hca : 32 ≤ ca) (hcc : 16 ≤ cc) :
    Rwz (w.setCells L (N * 5) [.int .i64 2, .int .i64 32, .int .i64 16, .slice (some ⟨p, 0, none⟩) 32 ca, .slice (some ⟨q, 0, none⟩) 16 cc]) L (N + 1) (fun j => if j = N then s64 else F j) (fun j => if j = N then p else P j) (fun j => if j = N then q else Q j) (fun j => if j = N then 16 else M j) (fun j => if j = N then ca else CA j) (fun j => if j = N then cc else CC j) := by
  have f := Fnd.setCells L [.int .i64 2, .int .i64 32, .int .i64 16, .slice (some ⟨p, 0, none⟩) 32 ca, .slice (some ⟨q, 0, none⟩) 16 cc] (N * 5) w
  have hLp : L ≠ p := fun e => by have := hW.lt; omega
  have hLq : L ≠ q := fun e => by have := hW.lt; omega
  have ol : ∀ j, j < N → P j < W.heap.size ∧ Q j < W.heap.size := fun j hj => ⟨(hW.own j hj).lP, (hW.own j hj).lQ⟩
  refine ⟨fun j hj => ?_, fun j k hj hk hjk => ?_, fun j hj => ?_, Nat.lt_of_lt_of_le h.lt f.size⟩
  · by_cases e : j = N
    · subst e
      simp only [if_pos]
      refine ⟨World.rangeAt_setCells_same _ _ _ _ fun i hi => ?_, fun i hi => f.range hp' hLp.symm ?_, fun i hi => f.range hq' hLq.symm ?_, fun i => (f.frozen hp' hLp.symm).trans (pf i), fun i => (f.frozen hq' hLq.symm).trans (qf i),
        hLp, hLq, hpq, Nat.lt_of_lt_of_le h.lt f.size, Nat.lt_of_lt_of_le hp' f.size, Nat.lt_of_lt_of_le hq' f.size, s64_geo, s64_slots, s64_things, by omega, hca, hcc⟩
      · have := h.all (j * 5 + i) (by have : i < 5 := hi; omega)
        rw [Nat.zero_add] at this
        exact this
      · obtain ⟨b, o, e, _, hc⟩ := hs.sl (by rw [s64_slots]; decide)
        injection e with e
        injection e with e1 e2
        subst e1 e2
        have hx := hc i (by rw [s64_slots]; exact hi)
        rw [Nat.zero_add] at hx
        exact range_of_slC hx
      · obtain ⟨b, o, e, _, hc⟩ := hs.th (by rw [s64_things]; decide)
        injection e with e
        injection e with e1 e2
        subst e1 e2
        have hx := hc i (by rw [s64_things]; exact hi)
        rw [Nat.zero_add] at hx
        exact range_of_thC hx
    · simp only [if_neg e]
      refine (h.own j (by omega)).stepRow f (World.rangeAt_setCells_apart (h.own j (by omega)).row _ _ _ (.inr ?_))
      show j * 5 + 5 ≤ N * 5 ∨ N * 5 + 5 ≤ j * 5
      omega
  · by_cases e : j = N
    · subst e
      have := ol k (by omega)
      simp only [if_pos, if_neg (fun q => hjk q.symm : ¬ k = j)]
      refine ⟨?_, ?_, ?_, ?_⟩ <;> omega
    · by_cases e2 : k = N
      · subst e2
        have := ol j (by omega)
        simp only [if_pos, if_neg e]
        refine ⟨?_, ?_, ?_, ?_⟩ <;> omega
      · simp only [if_neg e, if_neg e2]
        exact h.ap j k (by omega) (by omega) hjk
  · obtain ⟨h1, h2⟩ := h.all j hj
    refine ⟨?_, by rw [World.frozen?_setCells]; exact h2⟩
    by_cases hq5 : N * 5 ≤ j ∧ j < N * 5 + 5
    · have ht : ∀ i, i < 5 → (w.cell? ⟨L, N * 5 + i, none⟩).isSome = true := fun i hi => by
        have := (h.all (N * 5 + i) (by omega)).1
        rw [Nat.zero_add] at this
        exact this
      have := World.cell?_setCells_in L [.int .i64 2, .int .i64 32, .int .i64 16, .slice (some ⟨p, 0, none⟩) 32 ca, .slice (some ⟨q, 0, none⟩) 16 cc] (N * 5) w ht (j - N * 5) (by show j - N * 5 < 5; omega)
      rw [show N * 5 + (j - N * 5) = 0 + j by omega] at this
      rw [this]; rfl
    · rw [World.cell?_setCells_out]
      · exact h1
      · intro _ _
        show 0 + j < N * 5 ∨ N * 5 + 5 ≤ 0 + j
        omega
end
end Go.Proofs.Ytggaadknaiogmaa
