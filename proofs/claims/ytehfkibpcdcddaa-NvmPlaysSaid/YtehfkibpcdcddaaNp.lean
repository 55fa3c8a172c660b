/-
  The reference's memory: how it lies; the walks of its NewMem, look, Crash, count. Condition: fewer counted than 2 to the 62.
-/
import Derived.Test.YtehfkibpcdcddaaNl
namespace Go.Proofs.Ytehfkibpcdcddaa
open Go.RowKit

/-- the reference's fuse: the number z, the list v -/
def Rfz (w : World) (F : Nat) (calls : Int) (kept : Nat → Bool) (z : Int) (v : Value) : Prop :=
  z ≤ 9223372036854775807 ∧ ((z ≤ 0 ∧ calls = 0) ∨ (0 < z ∧ z = calls ∧ ∃ l, Lies w F v .i64 l ∧ l.length ≤ 1000000 ∧ ∀ i : Nat, kept i = decide ((i : Int) ∈ l)))

/-- the reference's memory: its box b, its lines' block rb; lists lie from F on -/
structure RAt (w : World) (b rb F : Nat) (m : Mm) : Prop where
  rows : Rws w rb m.rows
  pos : 0 < m.rows.length
  few : m.rows.length ≤ 4096
  c0 : w.cell? ⟨b, 0, none⟩ = some (.slice (some ⟨rb, 0, none⟩) m.rows.length m.rows.length)
  c1 : w.cell? ⟨b, 1, none⟩ = some (.bool m.off)
  c2 : w.cell? ⟨b, 2, none⟩ = some (.int .i64 m.n)
  c34 : ∃ z v, w.cell? ⟨b, 3, none⟩ = some (.int .i64 z) ∧ w.cell? ⟨b, 4, none⟩ = some v ∧ Rfz w F m.calls m.kept z v
  free : ∀ j, j < 5 → w.frozen? ⟨b, j, none⟩ = false
  ne : b ≠ rb
  bF : b < F
  rF : rb < F
  sz : F ≤ w.heap.size

section
variable {w w' : World} {b rb F : Nat} {m : Mm}
theorem RAt.lt (h : RAt w b rb F m) : b < w.heap.size := Nat.lt_of_lt_of_le h.bF h.sz
theorem RAt.rlt (h : RAt w b rb F m) : rb < w.heap.size := Nat.lt_of_lt_of_le h.rF h.sz
theorem Lies.keep {B : Nat} {v : Value} {k : IntKind} {l : List Int} (h : Lies w B v k l) (hs : w.heap.size ≤ w'.heap.size) (hb : ∀ g, B ≤ g → g < w.heap.size → w'.heap[g]? = w.heap[g]?) : Lies w' B v k l := by
  obtain ⟨A, cap, e, hc⟩ := h
  refine ⟨A, cap, e, fun h0 => ?_⟩
  obtain ⟨g, o, e1, g1, g2, g3⟩ := hc h0
  exact ⟨g, o, e1, g1, by omega, fun j z hz => (World.cell?_of_block (w := w) (a := ⟨g, _, none⟩) (hb g g1 g2)).trans (g3 j z hz)⟩
theorem Rfz.keep {c : Int} {k : Nat → Bool} {z : Int} {v : Value} (h : Rfz w F c k z v) (hs : w.heap.size ≤ w'.heap.size) (hb : ∀ g, F ≤ g → g < w.heap.size → w'.heap[g]? = w.heap[g]?) : Rfz w' F c k z v := by
  refine ⟨h.1, ?_⟩
  rcases h.2 with h | ⟨h1, h2, l, h3, h4, h5⟩
  · exact .inl h
  · exact .inr ⟨h1, h2, l, h3.keep hs hb, h4, h5⟩
/-- nothing of it is touched -/
theorem RAt.keep (h : RAt w b rb F m) (hs : w.heap.size ≤ w'.heap.size) (hb : w'.heap[b]? = w.heap[b]?) (hr : w'.heap[rb]? = w.heap[rb]?) (hk : ∀ g, F ≤ g → g < w.heap.size → w'.heap[g]? = w.heap[g]?) : RAt w' b rb F m := by
  obtain ⟨z, v, h3, h4, hf⟩ := h.c34
  exact ⟨h.rows.keep hr, h.pos, h.few, (World.cell?_of_block (w := w) hb).trans h.c0, (World.cell?_of_block (w := w) hb).trans h.c1, (World.cell?_of_block (w := w) hb).trans h.c2,
    ⟨z, v, (World.cell?_of_block (w := w) hb).trans h3, (World.cell?_of_block (w := w) hb).trans h4, hf.keep hs hk⟩, fun j hj => (World.frozen?_of_block (w := w) (a := ⟨b, j, none⟩) hb).trans (h.free j hj), h.ne, h.bF, h.rF, Nat.le_trans h.sz hs⟩
theorem RAt.below (h : RAt w b rb F m) (hb : Below w.heap.size w w') : RAt w' b rb F m :=
  h.keep hb.size (hb.block b h.lt) (hb.block rb h.rlt) fun kb _ hk => hb.block kb hk
theorem RAt.drewN (h : RAt w b rb F m) (n : Nat) : RAt (w.drewN n) b rb F m := h.below ⟨rfl, rfl, rfl, Nat.le_refl _, fun _ _ => rfl⟩
/-- another memory's writes -/
theorem RAt.other {b' rb' : Nat} (h : RAt w b rb F m) (ho : Own b' rb' w w') (h1 : b' < F) (h2 : rb' < F) (n1 : b ≠ b') (n2 : b ≠ rb') (n3 : rb ≠ b') (n4 : rb ≠ rb') : RAt w' b rb F m :=
  h.keep ho.size (ho.block b h.lt n1 n2) (ho.block rb h.rlt n3 n4) fun kb hF hk => ho.block kb hk (by omega) (by omega)
/-- one line is written -/
theorem RAt.row (h : RAt w b rb F m) {i : Nat} {r' : Ln} (ht : Turn w w' rb (i * 18) r') : RAt w' b rb F { m with rows := m.rows.set i r' } := by
  have hb : w'.heap[b]? = w.heap[b]? := ht.fr.block b h.lt h.ne
  obtain ⟨z, v, h3, h4, hf⟩ := h.c34
  refine ⟨h.rows.turn ht, by simpa using h.pos, by simpa using h.few, ?_, (World.cell?_of_block (w := w) hb).trans h.c1, (World.cell?_of_block (w := w) hb).trans h.c2,
    ⟨z, v, (World.cell?_of_block (w := w) hb).trans h3, (World.cell?_of_block (w := w) hb).trans h4, ?_⟩, fun j hj => (World.frozen?_of_block (w := w) (a := ⟨b, j, none⟩) hb).trans (h.free j hj), h.ne, h.bF, h.rF, Nat.le_trans h.sz ht.fr.size⟩
  · rw [(World.cell?_of_block (w := w) hb).trans h.c0]; simp
  · exact hf.keep ht.fr.size fun kb hk hlt => ht.fr.block kb hlt (by have := h.rF; omega)
/-- cells of the box are written -/
theorem RAt.cells_ (h : RAt w b rb F m) {m' : Mm} {o n : Nat} (hf : Fr w w' b o n) (hr : m'.rows = m.rows) (h0 : 1 ≤ o)
    (c1 : w'.cell? ⟨b, 1, none⟩ = some (.bool m'.off)) (c2 : w'.cell? ⟨b, 2, none⟩ = some (.int .i64 m'.n)) (c34 : ∃ z v, w'.cell? ⟨b, 3, none⟩ = some (.int .i64 z) ∧ w'.cell? ⟨b, 4, none⟩ = some v ∧ Rfz w F m'.calls m'.kept z v) : RAt w' b rb F m' := by
  obtain ⟨z, v, h3, h4, hz⟩ := c34
  refine ⟨by rw [hr]; exact h.rows.keep (hf.block rb h.rlt (Ne.symm h.ne)), by rw [hr]; exact h.pos, by rw [hr]; exact h.few, ?_, c1, c2, ⟨z, v, h3, h4, ?_⟩, fun j hj => (hf.frozen j h.lt).trans (h.free j hj), h.ne, h.bF, h.rF, Nat.le_trans h.sz hf.size⟩
  · rw [hr, hf.cell 0 (by omega)]; exact h.c0
  · exact hz.keep hf.size fun kb hk hlt => hf.block kb hlt (by have := h.bF; omega)
/-- one cell of the box, not that of the lines, is written -/
theorem RAt.cell_ (h : RAt w b rb F m) (m' : Mm) (j : Nat) (x : Value) (hr : m'.rows = m.rows) (hj : 1 ≤ j) (h5 : j < 5)
    (c1 : m'.off = m.off ∨ (j = 1 ∧ x = .bool m'.off)) (hc1 : j = 1 → x = .bool m'.off) (c2 : j ≠ 2 → m'.n = m.n) (hc2 : j = 2 → x = .int .i64 m'.n)
    (c34 : ∀ z v, w.cell? ⟨b, 3, none⟩ = some (.int .i64 z) → w.cell? ⟨b, 4, none⟩ = some v → Rfz w F m.calls m.kept z v → ∃ z' v', (j = 3 → x = .int .i64 z') ∧ (j ≠ 3 → z' = z) ∧ (j = 4 → x = v') ∧ (j ≠ 4 → v' = v) ∧ Rfz w F m'.calls m'.kept z' v') :
    RAt (w.setCell ⟨b, j, none⟩ x) b rb F m' ∧ Own b rb w (w.setCell ⟨b, j, none⟩ x) := by
  have f1 : Fr w (w.setCell ⟨b, j, none⟩ x) b 1 4 := Fr.set_ w _ (by omega) (by omega)
  have o : ∀ i, i ≠ j → (w.setCell ⟨b, j, none⟩ x).cell? ⟨b, i, none⟩ = w.cell? ⟨b, i, none⟩ := fun i hi => World.cell?_setCell_other _ _ _ _ (fun e => by injection e with _ e; omega)
  obtain ⟨z, v, h3, h4, hz⟩ := h.c34
  obtain ⟨z', v', q1, q2, q3, q4, q5⟩ := c34 z v h3 h4 hz
  refine ⟨h.cells_ f1 hr (Nat.le_refl _) ?_ ?_ ⟨z', v', ?_, ?_, q5⟩, Own.fr f1⟩
  · by_cases e : j = 1
    · subst e; rw [World.cell?_setCell_same _ _ _ h.c1, hc1 rfl]
    · rw [o 1 (fun q => e q.symm)]
      rcases c1 with c1 | c1
      · rw [c1]; exact h.c1
      · exact absurd c1.1 e
  · by_cases e : j = 2
    · subst e; rw [World.cell?_setCell_same _ _ _ h.c2, hc2 rfl]
    · rw [o 2 (fun q => e q.symm), c2 e]; exact h.c2
  · by_cases e : j = 3
    · subst e; rw [World.cell?_setCell_same _ _ _ h3, q1 rfl]
    · rw [o 3 (fun q => e q.symm), q2 e]; exact h3
  · by_cases e : j = 4
    · subst e; rw [World.cell?_setCell_same _ _ _ h4, q3 rfl]
    · rw [o 4 (fun q => e q.symm), q4 e]; exact h4
theorem RAt.oks (h : RAt w b rb F m) : ∀ r ∈ m.rows, r.ok := fun r hr => by
  obtain ⟨i, hi, rfl⟩ := List.getElem_of_mem hr
  exact (h.rows.at_ hi).ok
end

theorem info76_all : (Try.prog.info? 76).map (fun i => (i.zero, i.size, i.bytes)) = some (some (.agg blank.cells.toArray), 18, 136) := by kernel_rfl
theorem info76_parts : ∃ i : TypeInfo, Try.prog.info? 76 = some i ∧ i.zero = some (.agg blank.cells.toArray) ∧ i.size = 18 ∧ i.bytes = 136 := by
  have h := info76_all
  cases hq : Try.prog.info? 76 with
  | none => simp [hq] at h
  | some i =>
    simp [hq] at h
    exact ⟨i, rfl, h.1, h.2.1, h.2.2⟩
theorem make_rrows (n : Nat) (hn : n ≤ 4096) (w : World) : (Instr.makeSlice 52 (.int .i64 (n : Int)) (.int .i64 (n : Int))).run Try.prog w = .ok (.slice (some ⟨w.heap.size, 0, none⟩) n n) (w.alloc (.cells (madeCells blank.cells.toArray (n * 18)) 76)) := by
  obtain ⟨i, h1, h2, h3, h4⟩ := info76_parts
  have := run_make w 52 76 i (.agg blank.cells.toArray) Try.underlying52 h1 h2 .i64 .i64 n n (by omega) (by omega) (by rw [h4]; omega) (by omega)
  rw [h3] at this
  simpa [Value.cells] using this
theorem rfresh_at (w : World) (n : Nat) (h1 : 1 ≤ n) (h2 : n ≤ 4096) (W : World)
    (hW : W = (w.alloc (.cells (madeCells blank.cells.toArray (n * 18)) 76)).alloc (.cells #[.slice (some ⟨w.heap.size, 0, none⟩) n n, .bool false, .int .i64 0, .int .i64 0, .slice none 0 0] 54)) :
    RAt W (w.heap.size + 1) w.heap.size (w.heap.size + 2) (fresh n) ∧ W.heap.size = w.heap.size + 2 ∧ Below w.heap.size w W := by
  have e := heap_alloc_new (w.alloc (.cells (madeCells blank.cells.toArray (n * 18)) 76)) (.cells #[.slice (some ⟨w.heap.size, 0, none⟩) n n, .bool false, .int .i64 0, .int .i64 0, .slice none 0 0] 54)
  rw [← hW, World.size_alloc] at e
  have hr : Rws W w.heap.size (List.replicate n blank) := (made_rows w n 76).keep (by rw [hW]; exact Below.heap_alloc _ _ _ (by simp))
  have hs : W.heap.size = w.heap.size + 2 := by rw [hW, World.size_alloc, World.size_alloc]
  refine ⟨⟨hr, by simp [fresh]; omega, by simpa [fresh] using h2, ?_, ?_, ?_, ⟨0, .slice none 0 0, ?_, ?_, by omega, .inl ⟨Int.le_refl _, rfl⟩⟩, fun j _ => frozen_of_row _ _ j _ _ e, by omega, by omega, by omega, by omega⟩, hs, ?_⟩
  · rw [cell_of_row _ _ 0 _ _ _ e]; simp [fresh]
  · rw [cell_of_row _ _ 1 _ _ _ e]; simp [fresh]
  · rw [cell_of_row _ _ 2 _ _ _ e]; simp [fresh]
  · rw [cell_of_row _ _ 3 _ _ _ e]; simp
  · rw [cell_of_row _ _ 4 _ _ _ e]; simp
  · rw [hW]; exact ((Below.refl _ _).alloc (Nat.le_refl _) _).alloc (by simp) _

theorem rnew_any (n : Nat) (h1 : 1 ≤ n) (h2 : n ≤ 4096) (w : World) :
    Calls Try.prog 25 #[.int .i64 n] w fun e w' => e = .returned (.pointer (some ⟨w.heap.size + 1, 0, none⟩)) ∧ RAt w' (w.heap.size + 1) w.heap.size (w.heap.size + 2) (fresh n) ∧ w'.heap.size = w.heap.size + 2 ∧ Below w.heap.size w w' := by
  have hmk := make_rrows n h2
  have HF := Lib.hid (rfresh_at w n h1 h2 _ rfl)
  have g1 : ¬ (n : Int) < 1 := by omega
  have g2 : ¬ (4096 : Int) < n := by omega
  clear h1 h2
  go_enter Try.func25, Try.ntmps25
  go_wp2
  go_ret
  exact ⟨by simp, HF.out⟩
theorem rnew_no (n : Int) (h : n < 1 ∨ 4096 < n) (w : World) :
    Calls Try.prog 25 #[.int .i64 n] w fun e w' => e = .returned (.pointer none) ∧ w = w' := by
  rcases h with h | h
  · go_enter Try.func25, Try.ntmps25
    go_wp2
    go_ret
    exact ⟨rfl, rfl⟩
  · have g : ¬ n < 1 := by omega
    go_enter Try.func25, Try.ntmps25
    go_wp2
    go_ret
    exact ⟨rfl, rfl⟩

theorem look_any (b rb F : Nat) (m : Mm) (i n : Int) (w : World) (h : RAt w b rb F m) :
    Calls Try.prog 48 #[.pointer (some ⟨b, 0, none⟩), .int .i64 i, .int .i64 n] w fun e w' => e = .returned (.int .i64 (m.may (inb n i))) ∧ w = w' := by
  have c1 := h.c1
  clear h
  obtain ⟨rows, off, nn, calls, kept⟩ := m
  cases off
  · rcases hb : inb n i with _ | _
    · rcases Int.lt_or_le i 0 with g | g
      · clear hb
        go_enter Try.func48, Try.ntmps48
        go_wp2
        go_ret
        exact ⟨rfl, rfl⟩
      · have g2 : n ≤ i := by rcases inb_no hb with h | h <;> omega
        have g3 : ¬ i < 0 := by omega
        clear hb
        go_enter Try.func48, Try.ntmps48
        go_wp2
        go_ret
        exact ⟨rfl, rfl⟩
    · obtain ⟨h1, h2⟩ := inb_yes hb
      have g3 : ¬ i < 0 := by omega
      have g4 : ¬ n ≤ i := by omega
      clear hb
      go_enter Try.func48, Try.ntmps48
      go_wp2
      go_ret
      exact ⟨rfl, rfl⟩
  · go_enter Try.func48, Try.ntmps48
    go_wp2
    go_ret
    exact ⟨rfl, rfl⟩
end Go.Proofs.Ytehfkibpcdcddaa
