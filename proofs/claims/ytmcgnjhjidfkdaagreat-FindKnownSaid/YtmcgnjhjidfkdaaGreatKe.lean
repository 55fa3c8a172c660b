/-
  slices.Equal and slices.Clone of slots and of things; the program's Same, Clone and Forest. Condition: the states lie in memory, at most a thousand slots and things.
  slices.Equal and slices.Clone of slots and of things; the program's Same, Clone and Forest. Condition: the states lie in memory, at most a thousand slots and things.
-/
import Derived.Test.YtmcgnjhjidfkdaaGreatKc
import Derived.Test.YtmcgnjhjidfkdaaGreatJm
import Derived.Test.YtmcgnjhjidfkdaaGreatJo
namespace Go.Proofs.YtmcgnjhjidfkdaaGreat
open Go.RowKit

theorem padd (b o j : Nat) : (⟨b, o, none⟩ : Addr).add j = ⟨b, o + j, none⟩ := by unfold Addr.add; split <;> simp_all
theorem peqgeo (a b : Gd) (w : World) : (Op.equalIn 10000 24 (.agg #[.int .i64 a.t, .int .i64 a.s, .int .i64 a.k]) (.agg #[.int .i64 b.t, .int .i64 b.s, .int .i64 b.k])).run Tryz.prog w = .ok (a.eq b) w := by
  obtain ⟨x, y, z⟩ := a
  obtain ⟨x', y', z'⟩ := b
  by_cases h1 : x = x' <;> by_cases h2 : y = y' <;> by_cases h3 : z = z'
  all_goals simp [go_sem, Gd.eq, h1, h2, h3]
theorem peqslot (x y : Sl) (w : World) : (Op.equalIn 10000 51 x.val y.val).run Tryz.prog w = .ok (x.eq y) w := by
  obtain ⟨⟨a, b, c, d⟩, u⟩ := x
  obtain ⟨⟨a', b', c', d'⟩, u'⟩ := y
  unfold Sl.val
  by_cases h1 : a = a' <;> by_cases h2 : b = b' <;> by_cases h3 : c = c' <;> by_cases h4 : d = d' <;> by_cases h5 : u = u'
  all_goals simp [go_sem, Sl.eq, Cp.eq, h1, h2, h3, h4, h5]
theorem alls_len {α : Type} {e : α → α → Bool} : ∀ {l m : List α}, l.length ≠ m.length → alls e l m = false
  | [], [], h => absurd rfl h
  | [], _ :: _, _ => rfl
  | _ :: _, [], _ => rfl
  | a :: l, b :: m, h => by rw [alls, alls_len (l := l) (m := m) (fun q => h (by simp [q])), Bool.and_false]
def EqRel {α : Type} (W : World) (N : Nat) (P Q : Nat → α) (f : Nat) (p : Value) (wr : World) : Prop :=
  ∃ i : Nat, f + i = N ∧ p = .int .i64 i ∧ (∀ j, j < i → P j = Q j) ∧ Below W.heap.size W wr

/-! ### slices.Clone -/
theorem of_sflat {w : World} {b o : Nat} {l : List Sl} (h : ∀ j, j < l.length → SlC w b (o + j * 5) (slAt l j)) {k : Nat} {u : Value} (hk : (sflat l)[k]? = some u) : w.cell? ⟨b, o + k, none⟩ = some u := by
  have hlt : k < l.length * 5 := by rw [← sflat_len]; exact (List.getElem?_eq_some_iff.1 hk).1
  have hj : k / 5 < l.length := by omega
  have hx := h (k / 5) hj
  have hf := flat_at slist_len l (k / 5) _ (slAt_get hj) (k % 5) (by omega)
  rw [show k / 5 * 5 + k % 5 = k by omega] at hf
  have hk2 : (slist (slAt l (k / 5)))[k % 5]? = some u := hf.symm.trans hk
  have e : o + k = o + k / 5 * 5 + k % 5 := by omega
  rw [e]
  have h5 : k % 5 = 0 ∨ k % 5 = 1 ∨ k % 5 = 2 ∨ k % 5 = 3 ∨ k % 5 = 4 := by omega
  rcases h5 with q | q | q | q | q <;> rw [q] at hk2 ⊢ <;> cases hk2
  · exact hx.c0
  · exact hx.c1
  · exact hx.c2
  · exact hx.c3
  · exact hx.c4
theorem of_tflat {w : World} {b o : Nat} {l : List Tng} (h : ∀ j, j < l.length → ThC w b (o + j * 13) (thAt l j)) {k : Nat} {u : Value} (hk : (tflat l)[k]? = some u) : w.cell? ⟨b, o + k, none⟩ = some u := by
  have hlt : k < l.length * 13 := by rw [← tflat_len]; exact (List.getElem?_eq_some_iff.1 hk).1
  have hj : k / 13 < l.length := by omega
  have hx := h (k / 13) hj
  have hf := flat_at thist_len l (k / 13) _ (thAt_get hj) (k % 13) (by omega)
  rw [show k / 13 * 13 + k % 13 = k by omega] at hf
  have hk2 : (thist (thAt l (k / 13)))[k % 13]? = some u := hf.symm.trans hk
  have e : o + k = o + k / 13 * 13 + k % 13 := by omega
  rw [e]
  have h13 : k % 13 = 0 ∨ k % 13 = 1 ∨ k % 13 = 2 ∨ k % 13 = 3 ∨ k % 13 = 4 ∨ k % 13 = 5 ∨ k % 13 = 6 ∨ k % 13 = 7 ∨ k % 13 = 8 ∨ k % 13 = 9 ∨ k % 13 = 10 ∨ k % 13 = 11 ∨ k % 13 = 12 := by omega
  rcases h13 with q | q | q | q | q | q | q | q | q | q | q | q | q <;> rw [q] at hk2 ⊢ <;> cases hk2
  · exact hx.c0
  · exact hx.c1
  · exact hx.c2
  · exact hx.c3
  · exact hx.c4
  · exact hx.c5
  · exact hx.c6
  · exact hx.c7
  · exact hx.c8
  · exact hx.c9
  · exact hx.c10
  · exact hx.c11
  · exact hx.c12
theorem infops_all : (Tryz.prog.info? 51).map (fun i => (i.zero, i.size, i.bytes)) = some (some Sl.zero.val, 5, 40) := by kernel_rfl
theorem infops_parts : ∃ i : TypeInfo, Tryz.prog.info? 51 = some i ∧ i.zero = some Sl.zero.val ∧ i.size = 5 ∧ i.bytes = 40 := by
  have h := infops_all
  cases hq : Tryz.prog.info? 51 with
  | none => simp [hq] at h
  | some i =>
    simp [hq] at h
    exact ⟨i, rfl, h.1, h.2.1, h.2.2⟩
theorem infopt_all : (Tryz.prog.info? 49).map (fun i => (i.zero, i.size, i.bytes)) = some (some Tng.zero.val, 13, 104) := by kernel_rfl
theorem infopt_parts : ∃ i : TypeInfo, Tryz.prog.info? 49 = some i ∧ i.zero = some Tng.zero.val ∧ i.size = 13 ∧ i.bytes = 104 := by
  have h := infopt_all
  cases hq : Tryz.prog.info? 49 with
  | none => simp [hq] at h
  | some i =>
    simp [hq] at h
    exact ⟨i, rfl, h.1, h.2.1, h.2.2⟩

/-! ### Same -/
end Go.Proofs.YtmcgnjhjidfkdaaGreat
namespace Go.Proofs.YtmcgnjhjidfkdaaGreat
open Go.RowKit

/-! ### Forest -/
/-- a state's box, a result's cell, whole numbers of the call's own -/
structure Fbx (W w : World) (g q : Nat) (a b c : Int) (A : Option Addr) (n ca : Nat) (C : Option Addr) (m cc : Nat) (G N : Nat) (u : Nat → Int) : Prop where
  box : Sbx W w g a b c A n ca C m cc
  q0 : w.cell? ⟨q, 0, none⟩ = some (.slice none 0 0)
  qf : w.frozen? ⟨q, 0, none⟩ = false
  cell : ∀ j, j < N → w.cell? ⟨G, j, none⟩ = some (.int .i64 (u j))
  free : ∀ j, w.frozen? ⟨G, j, none⟩ = false
  gq : g < q
  qG : q < G
  lt : G < w.heap.size
section
variable {W w w' : World} {g q : Nat} {a b c : Int} {A : Option Addr} {n ca : Nat} {C : Option Addr} {m cc G N : Nat} {u v : Nat → Int}
theorem Fbx.on (h : Fbx W w g q a b c A n ca C m cc G N u) (hb : Below w.heap.size w w') : Fbx W w' g q a b c A n ca C m cc G N u := by
  have hq : q < w.heap.size := Nat.lt_trans h.qG h.lt
  exact ⟨h.box.on hb, by rw [hb.cell (p := ⟨q, _, none⟩) hq]; exact h.q0, by rw [World.frozen?_of_block (w := w) (a := ⟨q, 0, none⟩) (hb.block q hq)]; exact h.qf, fun j hj => by rw [hb.cell (p := ⟨G, _, none⟩) h.lt]; exact h.cell j hj,
    fun j => by rw [World.frozen?_of_block (w := w) (a := ⟨G, j, none⟩) (hb.block G h.lt)]; exact h.free j, h.gq, h.qG, Nat.lt_of_lt_of_le h.lt hb.size⟩
theorem Fbx.set (h : Fbx W w g q a b c A n ca C m cc G N u) {i : Nat} (x : Int) (e : ∀ j, j < N → v j = if j = i then x else u j) : Fbx W (w.setCell ⟨G, i, none⟩ (.int .i64 x)) g q a b c A n ca C m cc G N v := by
  have hB : Below W.heap.size W (w.setCell ⟨G, i, none⟩ (.int .i64 x)) := h.box.old.setCell (p := ⟨G, i, none⟩) (by have := h.box.base; have := h.gq; have := h.qG; show W.heap.size ≤ G; omega) _
  have hn : ∀ j, (w.setCell ⟨G, i, none⟩ (.int .i64 x)).cell? ⟨g, j, none⟩ = w.cell? ⟨g, j, none⟩ := fun j => World.cell?_setCell_other _ _ _ _ (fun k => by injection k with k; have := h.gq; have := h.qG; omega)
  have hn2 : ∀ j, (w.setCell ⟨G, i, none⟩ (.int .i64 x)).cell? ⟨q, j, none⟩ = w.cell? ⟨q, j, none⟩ := fun j => World.cell?_setCell_other _ _ _ _ (fun k => by injection k with k; have := h.qG; omega)
  refine ⟨⟨(hn _).trans h.box.c0, (hn _).trans h.box.c1, (hn _).trans h.box.c2, (hn _).trans h.box.c3, (hn _).trans h.box.c4, hB, h.box.base, by simpa [World.setCell] using h.box.lt⟩, (hn2 _).trans h.q0, by rw [World.frozen?_setCell]; exact h.qf, fun j hj => ?_, fun j => by rw [World.frozen?_setCell]; exact h.free j, h.gq, h.qG, by simpa [World.setCell] using h.lt⟩
  rw [e j hj]
  by_cases e : j = i
  · subst e
    rw [World.cell?_setCell_same _ _ _ (h.cell j hj), if_pos rfl]
  · rw [World.cell?_setCell_other _ _ _ _ (fun q => e (by injection q with _ q; exact q.symm)), h.cell j hj, if_neg e]
end
def FoRel (W : World) (g q : Nat) (a b c : Int) (A : Option Addr) (n ca : Nat) (C : Option Addr) (m cc G : Nat) (l : List Sl) (f : Nat) (p : Value) (wr : World) : Prop :=
  ∃ i : Nat, f + i = n ∧ p = .int .i64 i ∧ Fbx W wr g q a b c A n ca C m cc G n (fun j => if j < i then upOf (slAt l j) else 0)
set_option maxRecDepth 100000 in
set_option maxHeartbeats 4000000 in
theorem pforest_is {s : St} {a b c : Int} {A C : Option Addr} {n ca m cc : Nat} {L : List Int} {w : World} (hS : StH w s a b c A n ca C m cc) (hr : upsOf s.sl = L) :
    Calls Tryz.prog 24 #[.agg #[.int .i64 a, .int .i64 b, .int .i64 c, .slice A n ca, .slice C m cc]] w fun e w' => ForestF w w' e L := by
  have HS := Lib.hid hS
  have few := hS.few
  have HR := Lib.hid hr
  have k1 := Sbx.new w a b c A n ca C m cc 28
  have k2 : Sbx w ((w.alloc (.cells #[.int .i64 a, .int .i64 b, .int .i64 c, .slice A n ca, .slice C m cc] 28)).alloc (.cells #[.slice none 0 0] 61)) w.heap.size a b c A n ca C m cc := k1.on (below_alloc _ _)
  have hq0 : ((w.alloc (.cells #[.int .i64 a, .int .i64 b, .int .i64 c, .slice A n ca, .slice C m cc] 28)).alloc (.cells #[.slice none 0 0] 61)).cell? ⟨w.heap.size + 1, 0, none⟩ = some (.slice none 0 0) := by
    rw [show w.heap.size + 1 = (w.alloc (.cells #[.int .i64 a, .int .i64 b, .int .i64 c, .slice A n ca, .slice C m cc] 28)).heap.size by simp, cell_of_row _ _ 0 _ _ _ (heap_alloc_new _ _)]; rfl
  have hqf : ((w.alloc (.cells #[.int .i64 a, .int .i64 b, .int .i64 c, .slice A n ca, .slice C m cc] 28)).alloc (.cells #[.slice none 0 0] 61)).frozen? ⟨w.heap.size + 1, 0, none⟩ = false := by
    rw [show w.heap.size + 1 = (w.alloc (.cells #[.int .i64 a, .int .i64 b, .int .i64 c, .slice A n ca, .slice C m cc] 28)).heap.size by simp]
    exact frozen_of_row _ _ 0 _ _ (heap_alloc_new _ _)
  have hsz : ((w.alloc (.cells #[.int .i64 a, .int .i64 b, .int .i64 c, .slice A n ca, .slice C m cc] 28)).alloc (.cells #[.slice none 0 0] 61)).heap.size = w.heap.size + 1 + 1 := by simp
  have hF : Fbx w (((w.alloc (.cells #[.int .i64 a, .int .i64 b, .int .i64 c, .slice A n ca, .slice C m cc] 28)).alloc (.cells #[.slice none 0 0] 61)).alloc (.cells (madeCells #[.int .i64 0] n) 3)) w.heap.size (w.heap.size + 1) a b c A n ca C m cc (w.heap.size + 1 + 1) n (fun _ => 0) := by
    generalize (w.alloc _).alloc _ = w1 at k2 hq0 hqf hsz
    refine ⟨k2.on (below_alloc _ _), ((below_alloc w1 _).cell (p := ⟨w.heap.size + 1, 0, none⟩) (by rw [hsz]; simp)).trans hq0, by rw [World.frozen?_of_block (w := w1) (a := ⟨w.heap.size + 1, 0, none⟩) ((below_alloc w1 _).block (w.heap.size + 1) (by rw [hsz]; omega))]; exact hqf, fun j hj => ?_, fun j => ?_, by omega, by omega, by simp [hsz]⟩
    · rw [← hsz]; exact made_cell _ _ _ _ _ hj
    · rw [← hsz]; exact frozen_of_row _ _ j _ _ (heap_alloc_new _ _)
  have hmk := make_ints .i64 n (by omega)
  clear k1 hS hr k2 hq0 hqf hsz
  go_enter Tryz.func24, Tryz.ntmps24
  go_wp2_with fail
  clear hmk
  obtain ⟨g, hg⟩ : ∃ g, g = w.heap.size := ⟨_, rfl⟩
  obtain ⟨G, hG⟩ : ∃ G, G = g + 1 + 1 := ⟨_, rfl⟩
  rw [← hg, ← hG] at hF
  rw [← hg]
  try rw [← hG]
  clear hg hG
  generalize ((w.alloc _).alloc _).alloc _ = w2 at hF ⊢
  have HF := Lib.hid hF
  clear hF
  go_loopg [13] n (fun f p wr => FoRel w g (g + 1) a b c A n ca C m cc G s.sl f p wr)
  case atStart => exact ⟨0, by omega, rfl, by have h := HF.out; simpa using h⟩
  case round =>
    obtain ⟨i, hk, rfl, hb⟩ := hrel
    have HI := Lib.hid hk
    have HB := Lib.hid hb
    obtain ⟨⟨-, -, -, c3, -, old, -, lt⟩, q0, qf, hcell, hfree, hgq, hqG, hGl⟩ := hb
    clear hk
    by_cases hlt : i < n
    · have HLT := Lib.hid hlt
      have hlt2 : (i : Int) < (n : Int) := by omega
      obtain ⟨sb, sp, rfl, hsb, hc⟩ := HS.out.lies.sl (by rw [← HS.out.hn]; omega)
      have hX : SlC wr sb (sp + i * 5) (slAt s.sl i) := (hc i (by rw [← HS.out.hn]; exact hlt)).same fun k => old.cell (p := ⟨sb, k, none⟩) hsb
      obtain ⟨y, hy⟩ : ∃ y, slAt s.sl i = y := ⟨_, rfl⟩
      have HY := Lib.hid hy
      rw [hy] at hX
      obtain ⟨⟨ty, th, ri, ba⟩, up⟩ := y
      obtain ⟨s0, s1, s2, s3, s4⟩ := hX
      simp only at s0 s1 s2 s3 s4
      have hg0 := hcell i hlt
      have hg1 := hfree i
      have HSX : Hid (∀ j, wr.cell? ⟨sb, j, none⟩ = w.cell? ⟨sb, j, none⟩) := Lib.hid fun j => old.cell (p := ⟨sb, j, none⟩) hsb
      obtain ⟨z, hz⟩ : ∃ z, Cp.non ⟨ty, th, ri, ba⟩ = z := ⟨_, rfl⟩
      have HZ := Lib.hid hz
      clear hc hy hz hsb q0 qf hcell hfree hgq hqG
      have hF3 : Fbx w (wr.setCell ⟨G, i, none⟩ (.int .i64 up)) g (g + 1) a b c (some ⟨sb, sp, none⟩) n ca C m cc G n (fun j => if j = i then up else if j < i then upOf (slAt s.sl j) else 0) := HB.out.set up fun j _ => rfl
      have hsz : (wr.setCell ⟨G, i, none⟩ (.int .i64 up)).heap.size = wr.heap.size := by simp [World.setCell]
      have hF4 : Fbx w ((wr.setCell ⟨G, i, none⟩ (.int .i64 up)).alloc (.cells #[.int .i64 ty, .int .i64 th, .int .i64 ri, .int .i64 ba, .int .i64 up] 51)) g (g + 1) a b c (some ⟨sb, sp, none⟩) n ca C m cc G n (fun j => if j = i then up else if j < i then upOf (slAt s.sl j) else 0) := hF3.on (below_alloc _ _)
      have hX4 := Slx.new (wr.setCell ⟨G, i, none⟩ (.int .i64 up)) ty th ri ba up 51
      rw [hsz] at hX4
      clear hF3 hsz
      go_wp2_with fail
      generalize (wr.setCell _ _).alloc _ = w4 at hF4 hX4 ⊢
      refine (non_at HZ.out w4).mono ?_
      rintro e w5 ⟨rfl, hb⟩
      have HF5 := Lib.hid (hF4.on hb)
      clear hb s0 s1 s2 s3 s4 hg0 hg1 c3 old lt hF4 hX4 hGl HSX
      rcases z with _ | _
      · have HF6 : Hid (Fbx w w5 g (g + 1) a b c (some ⟨sb, sp, none⟩) n ca C m cc G n (fun j => if j < i + 1 then upOf (slAt s.sl j) else 0)) := Lib.hid (by
          refine ⟨HF5.out.box, HF5.out.q0, HF5.out.qf, fun j hj => ?_, HF5.out.free, HF5.out.gq, HF5.out.qG, HF5.out.lt⟩
          rw [HF5.out.cell j hj]
          congr 2
          by_cases e : j = i
          · subst e
            rw [if_pos rfl, if_pos (by omega), HY.out, upOf, HZ.out]
            rfl
          · rw [if_neg e]
            by_cases e2 : j < i
            · rw [if_pos e2, if_pos (by omega)]
            · rw [if_neg e2, if_neg (by omega)])
        clear HF5
        go_wp2
        go_roundg (n - (i + 1))
        case measure => have := HI.out; have := HLT.out; omega
        case rel => exact ⟨i + 1, by have := HI.out; have := HLT.out; omega, by go_num, HF6.out⟩
      · have HF6 : Hid (Fbx w (w5.setCell ⟨G, i, none⟩ (.int .i64 (-2))) g (g + 1) a b c (some ⟨sb, sp, none⟩) n ca C m cc G n (fun j => if j < i + 1 then upOf (slAt s.sl j) else 0)) := Lib.hid (HF5.out.set (-2) fun j _ => by
          by_cases e : j = i
          · subst e
            rw [if_pos rfl, if_pos (by omega), HY.out, upOf, HZ.out]
            rfl
          · rw [if_neg e, if_neg e]
            by_cases e2 : j < i
            · rw [if_pos e2, if_pos (by omega)]
            · rw [if_neg e2, if_neg (by omega)])
        have hg0 := HF5.out.cell i HLT.out
        have hg1 := HF5.out.free i
        rw [if_pos rfl] at hg0
        have hGl := HF5.out.lt
        go_wp2
        go_roundg (n - (i + 1))
        case measure => have := HI.out; have := HLT.out; omega
        case rel => exact ⟨i + 1, by have := HI.out; have := HLT.out; omega, by go_num, HF6.out⟩
    · have hlt2 : ¬ (i : Int) < (n : Int) := by omega
      have hin : i = n := by have := HI.out; omega
      have HL : Hid (L.length = n) := Lib.hid (by rw [← HR.out, upsOf_length, HS.out.hn])
      clear hcell hfree
      go_wp2
      have e0 := World.cell?_setCell_same wr ⟨g + 1, 0, none⟩ (.slice (some ⟨G, 0, none⟩) n n) q0
      have hr : ∀ j, (wr.setCell ⟨g + 1, 0, none⟩ (.slice (some ⟨G, 0, none⟩) n n)).cell? ⟨G, j, none⟩ = wr.cell? ⟨G, j, none⟩ := fun j => World.cell?_setCell_other _ _ _ _ (fun k => by injection k with k; omega)
      have hB : Below w.heap.size w (wr.setCell ⟨g + 1, 0, none⟩ (.slice (some ⟨G, 0, none⟩) n n)) := old.setCell (p := ⟨g + 1, 0, none⟩) (by have := HB.out.box.base; show w.heap.size ≤ g + 1; omega) _
      have hl : G < (wr.setCell ⟨g + 1, 0, none⟩ (.slice (some ⟨G, 0, none⟩) n n)).heap.size := by simpa [World.setCell] using hGl
      have hI : IntsAt (wr.setCell ⟨g + 1, 0, none⟩ (.slice (some ⟨G, 0, none⟩) n n)) (wr.setCell ⟨g + 1, 0, none⟩ (.slice (some ⟨G, 0, none⟩) n n)).heap.size (some ⟨G, 0, none⟩) L := fun _ => ⟨G, 0, rfl, hl, fun j x hx => by
        have hj : j < n := by rw [← HL.out]; exact (List.getElem?_eq_some_iff.1 hx).1
        have hx2 : upOf (slAt s.sl j) = x := by rw [← fu_ups (by rw [← HS.out.hn]; exact hj), HR.out, fu_at hx]
        rw [Nat.zero_add, hr, HB.out.cell j hj, if_pos (by omega), hx2]⟩
      clear q0 qf c3 hr
      generalize wr.setCell _ _ = w9 at e0 hB hI ⊢
      refine bodyPost_ret (by simp [results, Tryz.results24, go_sem, e0]; rfl) rfl ?_
      exact ⟨some ⟨G, 0, none⟩, n, by rw [HL.out], by rw [HL.out]; exact Nat.le_refl _, hI, hB⟩

/-! ### Clone -/
end Go.Proofs.YtmcgnjhjidfkdaaGreat
