/-
  Words in memory; the walk of package super's Put. No condition.
-/
import Derived.Test.YteadkcekoccmdaaSa
namespace Go.Proofs.Yteadkcekoccmdaa
open Go.RowKit

/-- words lie in a block below B -/
def WordsAt (w : World) (B : Nat) (A : Option Addr) (l : List Int) : Prop :=
  0 < l.length → ∃ b o, A = some ⟨b, o, none⟩ ∧ b < B ∧ ∀ (j : Nat) (z : Int), l[j]? = some z → w.cell? ⟨b, o + j, none⟩ = some (.int .u64 z)
theorem WordsAt.below {w w' : World} {B : Nat} {A : Option Addr} {l : List Int} (h : WordsAt w B A l) (hb : Below B w w') : WordsAt w' B A l := fun h0 => by
  obtain ⟨b, o, e, hlt, hc⟩ := h h0
  exact ⟨b, o, e, hlt, fun j a ha => by rw [hb.cell (p := ⟨b, _, none⟩) hlt]; exact hc j a ha⟩
theorem WordsAt.mono {w : World} {B B' : Nat} {A : Option Addr} {l : List Int} (h : WordsAt w B A l) (hB : B ≤ B') : WordsAt w B' A l := fun h0 => by
  obtain ⟨b, o, e, hlt, hc⟩ := h h0
  exact ⟨b, o, e, by omega, hc⟩
theorem WordsAt.grow {w w' : World} {A : Option Addr} {l : List Int} (h : WordsAt w w.heap.size A l) (hb : Below w.heap.size w w') : WordsAt w' w'.heap.size A l := (h.below hb).mono hb.size
theorem WordsAt.lies {w : World} {B : Nat} {A : Option Addr} {l : List Int} (h : WordsAt w B A l) : Lies w B A l := fun h0 => by
  obtain ⟨b, o, e, hlt, hc⟩ := h h0
  refine ⟨⟨b, o, none⟩, e, hlt, fun j hj => ?_⟩
  rw [Addr.add_mid]
  exact hc j _ (by rw [List.getD, List.getElem?_eq_getElem hj]; rfl)
/-- a list of words -/
def Words (w : World) (v : Value) (l : List Int) : Prop := ∃ A cap, v = .slice A l.length cap ∧ l.length ≤ cap ∧ WordsAt w w.heap.size A l
theorem Words.below {w w' : World} {v : Value} {l : List Int} (h : Words w v l) (hb : Below w.heap.size w w') : Words w' v l := by
  obtain ⟨A, cap, e, hc, h⟩ := h
  exact ⟨A, cap, e, hc, h.grow hb⟩
theorem words_none (w : World) (cap : Nat) : Words w (.slice none 0 cap) [] := ⟨none, cap, rfl, Nat.zero_le _, fun h => absurd h (by simp)⟩

theorem made_cell (w : World) (z : Array Value) (n t k : Nat) (hk : k < n) : (w.alloc (.cells (madeCells z n) t)).cell? ⟨w.heap.size, k, none⟩ = some (z[k % z.size]!) := by
  have e := heap_alloc_new w (.cells (madeCells z n) t)
  rw [cell_of_row _ _ k _ _ _ e]
  unfold madeCells
  simp [hk]
theorem made_free (w : World) (z : Array Value) (n t k : Nat) : (w.alloc (.cells (madeCells z n) t)).frozen? ⟨w.heap.size, k, none⟩ = false :=
  frozen_of_row _ _ k _ _ (heap_alloc_new w (.cells (madeCells z n) t))
theorem info28_all : (Try.prog.info? 28).map (fun i => (i.zero, i.size, i.bytes)) = some (some (.int .u64 0), 1, 8) := by kernel_rfl
theorem info28_parts : ∃ i : TypeInfo, Try.prog.info? 28 = some i ∧ i.zero = some (.int .u64 0) ∧ i.size = 1 ∧ i.bytes = 8 := by
  have h := info28_all
  cases hq : Try.prog.info? 28 with
  | none => simp [hq] at h
  | some i =>
    simp [hq] at h
    exact ⟨i, rfl, h.1, h.2.1, h.2.2⟩
theorem make_words (n : Nat) (hn : n ≤ 1000000) (w : World) : (Instr.makeSlice 23 (.int .i64 (n : Int)) (.int .i64 (n : Int))).run Try.prog w = .ok (.slice (some ⟨w.heap.size, 0, none⟩) n n) (w.alloc (.cells (madeCells #[.int .u64 0] n) 28)) := by
  obtain ⟨i, h1, h2, h3, h4⟩ := info28_parts
  have := run_make w 23 28 i (.int .u64 0) Try.underlying23 h1 h2 .i64 .i64 n n (by omega) (by omega) (by rw [h4]; omega) (by omega)
  rw [h3] at this
  simpa [Value.cells] using this
theorem make_eight (w : World) : (Instr.makeSlice 23 (.int .i64 8) (.int .i64 8)).run Try.prog w = .ok (.slice (some ⟨w.heap.size, 0, none⟩) 8 8) (w.alloc (.cells #[.int .u64 0, .int .u64 0, .int .u64 0, .int .u64 0, .int .u64 0, .int .u64 0, .int .u64 0, .int .u64 0] 28)) :=
  (make_words 8 (by decide) w).trans (by
    have e : madeCells #[.int .u64 0] 8 = #[.int .u64 0, .int .u64 0, .int .u64 0, .int .u64 0, .int .u64 0, .int .u64 0, .int .u64 0, .int .u64 0] := by kernel_rfl
    rw [e])
theorem cell8 {w : World} {t : TypeId} {a0 a1 a2 a3 a4 a5 a6 a7 : Value} (k : Nat) (u : Value) (h : [a0, a1, a2, a3, a4, a5, a6, a7][k]? = some u) : (w.alloc (.cells #[a0, a1, a2, a3, a4, a5, a6, a7] t)).cell? ⟨w.heap.size, k, none⟩ = some u := by
  rw [cell_of_row _ _ k _ _ _ (heap_alloc_new w _)]
  simpa using h
theorem u64_in {z : Int} (h1 : 0 ≤ z) (h2 : z < 18446744073709551616) : IntKind.u64.wrap z = z := by
  unfold IntKind.wrap
  simp only [show IntKind.u64.signed = false from rfl, show IntKind.u64.bits = 64 from rfl, Bool.false_and, Bool.false_eq_true, if_false]
  omega
theorem front_words {s : Sp} (h : s.g.ok = true) (hb : 0 ≤ s.b ∧ s.b < 18446744073709551616) : Wds s.front := by
  obtain ⟨h1, h2, h3, h4, h5, h6, h7⟩ := Gd.ok_iff.1 h
  intro x hx
  unfold Sp.front at hx
  simp only [List.mem_cons, List.not_mem_nil, or_false] at hx
  unfold Wd
  rcases hx with rfl | rfl | rfl | rfl | rfl | rfl | rfl <;> omega

set_option maxHeartbeats 1000000 in
theorem put_any (s : Sp) (w : World) (hb : 0 ≤ s.b ∧ s.b < 18446744073709551616) : Calls Try.prog 8 #[.agg #[.int .i64 s.g.t, .int .i64 s.g.s, .int .i64 s.g.k, .int .u64 s.b]] w fun e w' => ∃ v, e = .returned v ∧ Words w' v s.put ∧ Below w.heap.size w w' := by
  obtain ⟨⟨t, s, k⟩, b⟩ := s
  have HB := Lib.hid (below_alloc w (.cells #[.int .i64 t, .int .i64 s, .int .i64 k, .int .u64 b] 30))
  have H0 := Lib.hid hb
  clear hb
  rcases hg : Gd.ok ⟨t, s, k⟩ with _ | _
  · have HG := Lib.hid hg
    clear hg
    go_enter Try.func8, Try.ntmps8
    go_wp2_with (go_at_call 18; (with_reducible refine (good_to HG.out _).mono ?_); rintro e w' ⟨rfl, hb⟩; replace HB := Lib.hid (below_on HB.out hb); clear hb)
    go_ret
    refine ⟨_, rfl, ?_, HB.out⟩
    rw [Sp.put_no HG.out]
    exact words_none _ _
  · have HG := Lib.hid hg
    clear hg
    go_enter Try.func8, Try.ntmps8
    go_wp2_with fail
    refine (good_to HG.out _).mono ?_
    rintro e w1 ⟨rfl, hb⟩
    have hmk := make_eight
    have HB1 := Lib.hid (below_on HB.out hb)
    have hlt : w.heap.size < w1.heap.size := by have := hb.size; simp at this; omega
    have c1 : w1.cell? ⟨w.heap.size, 0, none⟩ = some (.int .i64 t) := by rw [hb.cell (by simp)]; simp [World.cell?_alloc_new]
    have c2 : w1.cell? ⟨w.heap.size, 1, none⟩ = some (.int .i64 s) := by rw [hb.cell (by simp)]; simp [World.cell?_alloc_new]
    have c3 : w1.cell? ⟨w.heap.size, 2, none⟩ = some (.int .i64 k) := by rw [hb.cell (by simp)]; simp [World.cell?_alloc_new]
    have c4 : w1.cell? ⟨w.heap.size, 3, none⟩ = some (.int .u64 b) := by rw [hb.cell (by simp)]; simp [World.cell?_alloc_new]
    have hok := Gd.ok_iff.1 HG.out
    simp only at hok
    have ut : IntKind.u64.wrap t = t := u64_in (by omega) (by omega)
    have us : IntKind.u64.wrap s = s := u64_in (by omega) (by omega)
    have uk : IntKind.u64.wrap k = k := u64_in (by omega) (by omega)
    clear hok hb
    go_wp2_with fail
    clear hmk c1 c2 c3 c4
    obtain ⟨w2, hw2⟩ : ∃ w2, w2 = w1.alloc (.cells #[.int .u64 8243106252149764145, .int .u64 t, .int .u64 s, .int .u64 k, .int .u64 b, .int .u64 0, .int .u64 0, .int .u64 0] 28) := ⟨_, rfl⟩
    have hcell : ∀ (j : Nat) (u : Value), [Value.int .u64 8243106252149764145, .int .u64 t, .int .u64 s, .int .u64 k, .int .u64 b, .int .u64 0, .int .u64 0, .int .u64 0][j]? = some u → w2.cell? ⟨w1.heap.size, j, none⟩ = some u := fun j u h => by rw [hw2]; exact cell8 j u h
    have hsz : w2.heap.size = w1.heap.size + 1 := by rw [hw2]; simp
    have HB2 : Hid (Below w.heap.size w w2) := Lib.hid (by rw [hw2]; exact below_on HB1.out (below_alloc _ _))
    have hfz : w2.frozen? ⟨w1.heap.size, 7, none⟩ = false := by rw [hw2]; exact frozen_of_row _ _ 7 _ _ (heap_alloc_new w1 _)
    rw [← hw2]
    clear hw2 ut us uk HB1 HB
    have hL : Lies w2 w2.heap.size (some ⟨w1.heap.size, 0, none⟩) (Sp.front ⟨⟨t, s, k⟩, b⟩) := by
      refine WordsAt.lies (fun _ => ⟨w1.heap.size, 0, rfl, by omega, fun j z hz => ?_⟩)
      rw [Nat.zero_add]
      refine hcell j _ ?_
      unfold Sp.front at hz
      match j, hz with
      | 0, h | 1, h | 2, h | 3, h | 4, h | 5, h | 6, h => injection h with h; subst h; rfl
      | j + 7, h => simp at h
    refine (closing_any (some ⟨w1.heap.size, 0, none⟩) 8 (Sp.front ⟨⟨t, s, k⟩, b⟩) w2 (by show 7 ≤ maxLen; unfold maxLen; omega) hL (front_words HG.out H0.out)).mono ?_
    rintro e w3 ⟨rfl, hb⟩
    have HB3 := Lib.hid (below_on HB2.out hb)
    have hc3 : ∀ (j : Nat) (u : Value), [Value.int .u64 8243106252149764145, .int .u64 t, .int .u64 s, .int .u64 k, .int .u64 b, .int .u64 0, .int .u64 0, .int .u64 0][j]? = some u → w3.cell? ⟨w1.heap.size, j, none⟩ = some u := fun j u h => by
      rw [hb.cell (p := ⟨w1.heap.size, j, none⟩) (by show w1.heap.size < _; omega)]; exact hcell j u h
    have c7 := hc3 7 _ rfl
    have f7 : w3.frozen? ⟨w1.heap.size, 7, none⟩ = false := by rw [World.frozen?_of_block (w := w2) (a := ⟨w1.heap.size, 7, none⟩) (hb.block w1.heap.size (by omega))]; exact hfz
    have hs3 : w1.heap.size < w3.heap.size := by have := hb.size; omega
    have hsw : w.heap.size ≤ w1.heap.size := by omega
    have HC3 := Lib.hid hc3
    have HS3 := Lib.hid hs3
    have HSW := Lib.hid hsw
    clear hcell hL hfz hb HB2 hc3 hsz hs3 hsw hlt
    generalize hq : close (Sp.front ⟨⟨t, s, k⟩, b⟩) = q
    have HQ := Lib.hid hq
    clear hq
    go_wp2
    go_ret
    refine ⟨_, rfl, ?_, HB3.out.trans ⟨rfl, rfl, rfl, by simp [World.setCell], fun j hj => Below.heap_setCell _ _ _ _ (by have := HSW.out; show j ≠ w1.heap.size; omega)⟩⟩
    rw [Sp.put_yes HG.out]
    refine ⟨_, _, rfl, Nat.le_refl 8, fun _ => ⟨w1.heap.size, 0, rfl, by simpa [World.setCell] using HS3.out, fun j z hz => ?_⟩⟩
    rw [Nat.zero_add]
    unfold Sp.full at hz
    by_cases h7 : j = 7
    · subst h7
      rw [World.cell?_setCell_same _ _ _ (HC3.out 7 _ rfl)]
      injection hz with hz
      rw [← hz, ← HQ.out]
    · rw [World.cell?_setCell_other _ _ _ _ (fun q => h7 (by injection q with _ q; exact q.symm))]
      refine HC3.out j _ ?_
      match j, hz, h7 with
      | 0, h, _ | 1, h, _ | 2, h, _ | 3, h, _ | 4, h, _ | 5, h, _ | 6, h, _ => injection h with h; subst h; rfl
      | 7, _, h => exact absurd rfl h
      | j + 8, h, _ => simp at h
end Go.Proofs.Yteadkcekoccmdaa
