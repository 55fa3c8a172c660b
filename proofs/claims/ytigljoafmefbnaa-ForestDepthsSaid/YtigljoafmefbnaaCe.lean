/-
  The walks of slices.Clone, and of package forest's rehang, Add, Drop, Move and Prune. Condition: the places lie in memory, at most a million.
-/
import Derived.Test.YtigljoafmefbnaaCd
import Derived.Test.YtigljoafmefbnaaEh
import Derived.Lib.SliceRun
namespace Go.Proofs.Ytigljoafmefbnaa
open Go.RowKit

set_option maxHeartbeats 2000000 in
theorem clone_is {b o n cap : Nat} {l : List Int} {w : World} (hn : n = l.length) (hn6 : n ≤ 1000000) (hc : ∀ k, k < n → w.cell? ⟨b, o + k, none⟩ = some (.int .i64 (fu l k))) (hb : b < w.heap.size) :
    Calls Try.prog 31 #[.slice (some ⟨b, o, none⟩) n cap] w fun e w' => ∃ v, e = .returned v ∧ Bi w w' v l := by
  have HN := Lib.hid hn
  have HB0 : Hid (Bi w (w.alloc (.cells #[] 3)) (.slice (some ⟨w.heap.size, 0, none⟩) 0 0) []) :=
    Lib.hid ⟨World.ownsRow_lit w _ 0 (Nat.le_refl _) (Nat.zero_le _) rfl, below_alloc _ _⟩
  have HNEW : Hid (∀ j u, (icells l)[j]? = some u → (w.alloc (.cells #[] 3)).cell? ((⟨b, o, none⟩ : Addr).add j) = some u) := Lib.hid fun j u hu => by
    rw [icells, List.getElem?_map, Option.map_eq_some_iff] at hu
    obtain ⟨x, hx, rfl⟩ := hu
    rw [add_plain', HB0.out.old.cell (p := ⟨b, _, none⟩) hb, hc j (by rw [hn]; exact (List.getElem?_eq_some_iff.1 hx).1), fu_at hx]
  have HSZ : Hid (w.heap.size ≤ (w.alloc (.cells #[] 3)).heap.size) := Lib.hid HB0.out.old.size
  obtain ⟨i0, hii, hz0, hz1, hz2⟩ := info3_parts
  have HONE : Hid (∀ u ∈ icells l, u.oneCell' = true) := Lib.hid fun u hu => by
    obtain ⟨x, _, rfl⟩ := List.mem_map.1 hu
    rfl
  have HLEN : Hid ((icells l).length = n * 1) := Lib.hid (by rw [icells, List.length_map, HN.out, Nat.mul_one])
  have q23 : ∀ (w : World) (a : Option Addr) (n c : Nat), (binOp .eql 23 (.slice a n c) (.slice none 0 0)).run Try.prog w = .ok (.bool a.isNone) w := fun w a n c => Lib.run_eql_slice_nil w 23 3 a n c 0 0 Try.underlying23
  clear hn hc hb
  go_enter Try.func31, Try.ntmps31
  go_wp2_with (at_builtin; refine wpList_append_own _ rfl _ _ 23 rfl w.heap.size 3 i0 (.int .i64 0) 1 8 Try.underlying23 hii hz0 hz1 hz2 rfl (by decide) _ _ _ rfl HB0.out.own ⟨b, o, none⟩ n cap (icells l) rfl HLEN.out HNEW.out HONE.out ?c3 ?c4 HSZ.out ?_)
  case c3 => unfold maxLen; simp; omega
  case c4 => simp; omega
  intro v5 w5 hown hgrow _
  have hB : Bi w w5 v5 l := HB0.out.more (l' := l) hgrow (by
    rw [HN.out] at hown
    exact hown)
  have HB := Lib.hid hB
  clear hown hgrow HB0 HNEW HSZ HONE HLEN hB
  go_wp2
  go_ret
  exact ⟨_, rfl, HB.out⟩

set_option maxHeartbeats 2000000 in
theorem rehang_is {A : Option Addr} {n cap : Nat} {l : List Int} {i x : Int} {w : World} (h0 : 0 < n) (hn : n = l.length) (hn6 : n ≤ 1000000) (hL : IntsAt w w.heap.size A l) :
    Calls Try.prog 33 #[.agg #[.slice A n cap], .int .i64 i, .int .i64 x] w fun e w' => ∃ v, e = .returned v ∧ Bi w w' v (l.map fun y => if y = i then x else y) := by
  have HN := Lib.hid hn
  have HPOS := Lib.hid h0
  have H6 := Lib.hid hn6
  have hK := Pbx.new w (.slice A n cap) 25
  have c0 := hK.c
  obtain ⟨b, o, rfl, hblk, hc⟩ := at_open hL (by omega)
  have HC : Hid (b < w.heap.size ∧ ∀ k, k < n → w.cell? ⟨b, o + k, none⟩ = some (.int .i64 (fu l k))) := Lib.hid ⟨hblk, fun k hk => hc k (by rw [← HN.out]; exact hk)⟩
  clear hL hn hn6 hc hblk h0
  go_enter Try.func33, Try.ntmps33
  go_wp2_with fail
  generalize w.alloc (.cells #[.slice (some ⟨b, o, none⟩) n cap] 25) = w1 at hK c0 ⊢
  have K := Lib.hid hK
  clear hK
  go_wp2_with fail
  refine (clone_is (w := w1) HN.out H6.out (fun k hk => by rw [K.out.old.cell (p := ⟨b, _, none⟩) HC.out.1]; exact HC.out.2 k hk) (Nat.lt_of_lt_of_le HC.out.1 K.out.old.size)).mono ?_
  rintro e w2 ⟨v, rfl, hB⟩
  obtain ⟨g, cb, rfl, hg1, hg2, _, _⟩ := hB.block (fun e => by have := HPOS.out; have := HN.out; rw [e] at this; simp at this; omega)
  rw [← HN.out] at hB
  rw [← HN.out]
  have HB := Lib.hid hB
  have HG : Hid (w.heap.size ≤ g) := Lib.hid (by have := K.out.old.size; omega)
  clear hB c0 hg1 hg2
  go_wp2_with fail
  go_loopg [15] n (fun k p wr => RChgRel w1 n g cb l i x k p wr)
  case atStart => exact ⟨0, by omega, by rw [chg_zero]; exact HB.out, rfl⟩
  case round =>
    obtain ⟨j, hk, hb, rfl⟩ := hrel
    have HK := Lib.hid hk
    have HB2 := Lib.hid hb
    clear hk hb HB
    have hlen : n = (chg l i x j).length := by rw [chg_length]; exact HN.out
    obtain ⟨g', cb', e, _, _, hgc, hgf⟩ := HB2.out.block (fun e => by have := HPOS.out; rw [e, List.length_nil] at hlen; omega)
    rw [← hlen] at e
    injection e with e1 e2 e3
    injection e1 with e1
    injection e1 with e1
    subst e1
    subst e3
    clear e2
    by_cases hlt : j < n
    · have HLT := Lib.hid hlt
      have hlt2 : (j : Int) < (n : Int) := by omega
      have c1 := hgc j _ (chg_at i x (by rw [← HN.out]; exact hlt))
      have c2 := hgf j
      obtain ⟨y, hy⟩ : ∃ y, fu l j = y := ⟨_, rfl⟩
      rw [hy] at c1
      by_cases hym : y = i
      · have HS : Hid (chg l i x (j + 1) = (chg l i x j).set j x) := Lib.hid (by rw [chg_succ _ _ (by rw [← HN.out]; exact hlt), hy, if_pos hym])
        have HP := Lib.hid (HB2.out.put' hlen j x)
        subst hym
        clear hgc hgf hy hlen
        go_wp2
        go_roundg (n - (j + 1))
        case measure => have := HK.out; have := HLT.out; omega
        case rel => exact ⟨j + 1, by have := HLT.out; omega, by rw [HS.out]; exact HP.out, (by refine congrArg _ ?_; have := H6.out; have := HLT.out; first | rfl | (unfold wrap64; omega))⟩
      · have HS : Hid (chg l i x (j + 1) = chg l i x j) := Lib.hid (chg_same (by rw [← HN.out]; exact hlt) (by rw [hy]; exact hym))
        have h3 : (y == i) = false := by simp [hym]
        clear hgc hgf hy hlen
        go_wp2
        go_roundg (n - (j + 1))
        case measure => have := HK.out; have := HLT.out; omega
        case rel => exact ⟨j + 1, by have := HLT.out; omega, by rw [HS.out]; exact HB2.out, (by refine congrArg _ ?_; have := H6.out; have := HLT.out; first | rfl | (unfold wrap64; omega))⟩
    · have hin : j = n := by have := HK.out; omega
      have hal : chg l i x j = l.map fun y => if y = i then x else y := by rw [hin, HN.out, chg_all]
      have hlt2 : ¬ (j : Int) < (n : Int) := by omega
      have hP := HB2.out
      rw [hal] at hP
      have HP := Lib.hid hP
      clear hgc hgf hlen hlt hal hP HB2
      go_wp2
      go_ret
      exact ⟨_, rfl, ⟨HP.out.own.1, HP.out.own.2.imp id fun ⟨g, c, cur, e, h, r⟩ => ⟨g, c, cur, e, by have := K.out.old.size; omega, r⟩⟩, below_on K.out.old HP.out.old⟩

/-- a forest's box and a result's, the call's own; what was before stands -/
structure Pfr (W w : World) (v r : Value) : Prop where
  c : w.cell? ⟨W.heap.size, 0, none⟩ = some v
  d : w.cell? ⟨W.heap.size + 1, 0, none⟩ = some r
  df : w.frozen? ⟨W.heap.size + 1, 0, none⟩ = false
  old : Below W.heap.size W w
  lt : W.heap.size + 1 < w.heap.size
theorem Pfr.new (w : World) (v r : Value) (s t : TypeId) : Pfr w ((w.alloc (.cells #[v] s)).alloc (.cells #[r] t)) v r := by
  have b1 := below_alloc w (.cells #[v] s)
  have b2 := below_alloc (w.alloc (.cells #[v] s)) (.cells #[r] t)
  have s1 : (w.alloc (.cells #[v] s)).heap.size = w.heap.size + 1 := by simp
  have h1 := heap_alloc_new w (.cells #[v] s)
  have h2 := heap_alloc_new (w.alloc (.cells #[v] s)) (.cells #[r] t)
  have b3 := below_on b1 b2
  rw [s1] at h2 b2
  rw [← b2.block w.heap.size (by omega)] at h1
  refine ⟨?_, ?_, ?_, b3, ?_⟩
  · rw [cell_of_row _ _ 0 _ _ _ h1]; rfl
  · rw [cell_of_row _ _ 0 _ _ _ h2]; rfl
  · exact frozen_of_row _ _ 0 _ _ h2
  · simp
theorem Pfr.on {W w w' : World} {v r : Value} (h : Pfr W w v r) (hb : Below w.heap.size w w') : Pfr W w' v r := by
  have hlt := h.lt
  refine ⟨by rw [hb.cell (p := ⟨W.heap.size, 0, none⟩) (by show W.heap.size < _; omega)]; exact h.c, by rw [hb.cell (p := ⟨W.heap.size + 1, 0, none⟩) hlt]; exact h.d, ?_, below_on h.old hb, Nat.lt_of_lt_of_le hlt hb.size⟩
  rw [World.frozen?_of_block (hb.block _ hlt)]; exact h.df
theorem Pfr.no {W w : World} {v r : Value} (h : Pfr W w v r) : GivesF W (w.setCell ⟨W.heap.size + 1, 0, none⟩ (.slice none 0 0)) (.returned (.tuple #[.agg #[.slice none 0 0], .bool false])) none :=
  ⟨none, 0, rfl, Nat.le_refl _, none_at _, h.old.setCell (by show W.heap.size ≤ W.heap.size + 1; omega) _⟩
theorem Pfr.yes {W w w2 : World} {v r : Value} {B : Option Addr} {n cb : Nat} {l : List Int} (h : Pfr W w v r) (hB : Bi w2 w (.slice B n cb) l) (h2 : W.heap.size + 1 < w2.heap.size) :
    GivesF W (w.setCell ⟨W.heap.size + 1, 0, none⟩ (.slice B n cb)) (.returned (.tuple #[.agg #[.slice B n cb], .bool true])) (some l) := by
  obtain ⟨A, cap, e, hle, hi⟩ := hB.ints'
  injection e with e1 e2 e3
  subst e2
  refine ⟨B, cb, rfl, by rw [e3]; exact hle, fun h0 => ?_, h.old.setCell (by show W.heap.size ≤ W.heap.size + 1; omega) _⟩
  rw [Option.getD_some] at h0
  obtain ⟨g, cap', e, hb, hlt, hc, hf⟩ := hB.block (fun q => by rw [q] at h0; simp at h0)
  injection e with e4 e5 e6
  refine ⟨g, 0, e4, by simpa [World.setCell] using hlt, fun j y hy => ?_⟩
  rw [World.cell?_setCell_other _ _ _ _ (fun q => by injection q with q; omega), Nat.zero_add]
  exact hc j y hy
end Go.Proofs.Ytigljoafmefbnaa
