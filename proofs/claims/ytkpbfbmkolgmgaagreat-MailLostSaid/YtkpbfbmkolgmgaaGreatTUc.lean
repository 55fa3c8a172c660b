/-
  The walks of take's tellNoMore, isRoot, isHeld. Condition: the state lies in two blocks that may be stored into.
-/
import Derived.Test.YtkpbfbmkolgmgaaGreatTUa
namespace Go.Proofs.YtkpbfbmkolgmgaaGreat
open Go.RowKit
set_option linter.unusedSimpArgs false
set_option linter.unusedVariables false

/-- only two blocks have been stored into -/
structure Fn2 (w w' : World) (P Q : Nat) : Prop where
  os : w'.os = w.os
  tape : w'.tape = w.tape
  output : w'.output = w.output
  size : w.heap.size ≤ w'.heap.size
  block : ∀ k, k < w.heap.size → k ≠ P → k ≠ Q → w'.heap[k]? = w.heap[k]?
theorem Fn2.refl (w : World) (P Q : Nat) : Fn2 w w P Q := ⟨rfl, rfl, rfl, Nat.le_refl _, fun _ _ _ _ => rfl⟩
theorem Fn2.trans {w w1 w2 : World} {P Q : Nat} (h : Fn2 w w1 P Q) (k : Fn2 w1 w2 P Q) : Fn2 w w2 P Q :=
  ⟨k.os.trans h.os, k.tape.trans h.tape, k.output.trans h.output, Nat.le_trans h.size k.size, fun i hi h1 h2 => (k.block i (Nat.lt_of_lt_of_le hi h.size) h1 h2).trans (h.block i hi h1 h2)⟩
theorem Fn2.of {w w' : World} (h : Below w.heap.size w w') (P Q : Nat) : Fn2 w w' P Q := ⟨h.os, h.tape, h.output, h.size, fun k hk _ _ => h.block k hk⟩
theorem Fn2.fst {w w' : World} {P : Nat} (h : Fnd w w' P) (Q : Nat) : Fn2 w w' P Q := ⟨h.os, h.tape, h.output, h.size, fun k hk h1 _ => h.block k hk h1⟩
theorem Fn2.snd {w w' : World} {Q : Nat} (h : Fnd w w' Q) (P : Nat) : Fn2 w w' P Q := ⟨h.os, h.tape, h.output, h.size, fun k hk _ h2 => h.block k hk h2⟩
theorem Fn2.cell {w w' : World} {P Q k j : Nat} (h : Fn2 w w' P Q) (hk : k < w.heap.size) (h1 : k ≠ P) (h2 : k ≠ Q) : w'.cell? ⟨k, j, none⟩ = w.cell? ⟨k, j, none⟩ := World.cell?_of_block (w := w) (a := ⟨k, j, none⟩) (h.block k hk h1 h2)
theorem Fn2.frozen {w w' : World} {P Q k j : Nat} (h : Fn2 w w' P Q) (hk : k < w.heap.size) (h1 : k ≠ P) (h2 : k ≠ Q) : w'.frozen? ⟨k, j, none⟩ = w.frozen? ⟨k, j, none⟩ := World.frozen?_of_block (a := ⟨k, j, none⟩) (h.block k hk h1 h2)
/-- below both blocks all is as it was -/
theorem Fn2.below {w w' : World} {P Q B : Nat} (h : Fn2 w w' P Q) (hB : B ≤ w.heap.size) (hP : B ≤ P) (hQ : B ≤ Q) : Below B w w' := ⟨h.os, h.tape, h.output, h.size, fun k hk => h.block k (by omega) (by omega) (by omega)⟩
/-- a box beside the two -/
structure Bq (w : World) (g : Nat) (cs : List Value) : Prop where
  c : ∀ (k : Nat) (u : Value), cs[k]? = some u → w.cell? ⟨g, k, none⟩ = some u
  lt : g < w.heap.size
theorem Bq.new (w : World) (cs : List Value) (t : TypeId) : Bq (w.alloc (.cells cs.toArray t)) w.heap.size cs := ⟨(Bxs.new w cs t).c, (Bxs.new w cs t).lt⟩
theorem Bq.on {w w' : World} {g : Nat} {cs : List Value} (h : Bq w g cs) (hb : Below w.heap.size w w') : Bq w' g cs := ⟨fun k u hk => (hb.cell (p := ⟨g, k, none⟩) h.lt).trans (h.c k u hk), Nat.lt_of_lt_of_le h.lt hb.size⟩
theorem Bq.fn2 {w w' : World} {g P Q : Nat} {cs : List Value} (h : Bq w g cs) (f : Fn2 w w' P Q) (h1 : g ≠ P) (h2 : g ≠ Q) : Bq w' g cs := ⟨fun k u hk => (f.cell h.lt h1 h2).trans (h.c k u hk), Nat.lt_of_lt_of_le h.lt f.size⟩
theorem Bq.range {w : World} {g : Nat} {cs : List Value} (h : Bq w g cs) : w.rangeAt g 0 cs := fun k u hk => by rw [Nat.zero_add]; exact h.c k u hk
/-- a state of the caller's own, and how it is handed over -/
structure OwH (W w : World) (s : St) (a b c : Int) (P n ca Q m cc : Nat) : Prop where
  o : Ost W w s P Q
  hg : s.g = ⟨a, b, c⟩
  hn : n = s.sl.length
  hm : m = s.th.length
  few : n ≤ 96
  fewm : m ≤ 48
  hca : n ≤ ca
  hcc : m ≤ cc
theorem OwH.sth {W w : World} {s : St} {a b c : Int} {P n ca Q m cc : Nat} (h : OwH W w s a b c P n ca Q m cc) : StH w s a b c (some ⟨P, 0, none⟩) n ca (some ⟨Q, 0, none⟩) m cc :=
  ⟨h.o.lies, h.hg, h.hn, h.hm, by have := h.few; omega, by have := h.fewm; omega, h.hca, h.hcc⟩
theorem OwH.next {W w w' : World} {s s' : St} {a b c : Int} {P n ca Q m cc : Nat} (h : OwH W w s a b c P n ca Q m cc) (o : Ost W w' s' P Q) (e1 : s'.g = s.g) (e2 : s'.sl.length = s.sl.length) (e3 : s'.th.length = s.th.length) : OwH W w' s' a b c P n ca Q m cc :=
  ⟨o, e1.trans h.hg, h.hn.trans e2.symm, h.hm.trans e3.symm, h.few, h.fewm, h.hca, h.hcc⟩
theorem OwH.on {W w w' : World} {s : St} {a b c : Int} {P n ca Q m cc : Nat} (h : OwH W w s a b c P n ca Q m cc) (hb : Below w.heap.size w w') : OwH W w' s a b c P n ca Q m cc := h.next (h.o.on hb) rfl rfl rfl

/-! ### what told of a slot -/
def tellS (s : St) (k : Nat) (u : Int) : St := ⟨s.g, s.sl.map (ux k u), s.th.map (tx k)⟩
def uMid (l : List Sl) (k : Nat) (u : Int) (i : Nat) : List Sl := (List.range l.length).map fun j => if j < i then ux k u (slAt l j) else slAt l j
def tMid (l : List Tng) (k : Nat) (i : Nat) : List Tng := (List.range l.length).map fun j => if j < i then tx k (thAt l j) else thAt l j
theorem uMid_len (l : List Sl) (k : Nat) (u : Int) (i : Nat) : (uMid l k u i).length = l.length := by simp [uMid]
theorem tMid_len (l : List Tng) (k : Nat) (i : Nat) : (tMid l k i).length = l.length := by simp [tMid]
theorem uMid_at {l : List Sl} {k : Nat} {u : Int} {i j : Nat} (h : j < l.length) : slAt (uMid l k u i) j = if j < i then ux k u (slAt l j) else slAt l j := slAt_range _ h
theorem tMid_at {l : List Tng} {k i j : Nat} (h : j < l.length) : thAt (tMid l k i) j = if j < i then tx k (thAt l j) else thAt l j := thAt_range _ h
theorem uMid_zero (l : List Sl) (k : Nat) (u : Int) : uMid l k u 0 = l := sl_ext (uMid_len ..) fun j hj => by rw [uMid_len] at hj; rw [uMid_at hj, if_neg (by omega)]
theorem tMid_zero (l : List Tng) (k : Nat) : tMid l k 0 = l := th_ext (tMid_len ..) fun j hj => by rw [tMid_len] at hj; rw [tMid_at hj, if_neg (by omega)]
theorem uMid_all (l : List Sl) (k : Nat) (u : Int) : uMid l k u l.length = l.map (ux k u) := sl_ext (by rw [uMid_len, List.length_map]) fun j hj => by
  rw [uMid_len] at hj
  rw [uMid_at hj, if_pos hj]
  exact (slAt_at (by rw [List.getElem?_map, slAt_get hj]; rfl)).symm
theorem tMid_all (l : List Tng) (k : Nat) : tMid l k l.length = l.map (tx k) := th_ext (by rw [tMid_len, List.length_map]) fun j hj => by
  rw [tMid_len] at hj
  rw [tMid_at hj, if_pos hj]
  exact (thAt_at (by rw [List.getElem?_map, thAt_get hj]; rfl)).symm
theorem uMid_succ {l : List Sl} {k : Nat} {u : Int} {i : Nat} (hi : i < l.length) : (uMid l k u i).set i (ux k u (slAt l i)) = uMid l k u (i + 1) := sl_ext (by rw [List.length_set, uMid_len, uMid_len]) fun j hj => by
  rw [List.length_set, uMid_len] at hj
  rw [slAt_set (by rw [uMid_len]; exact hi), uMid_at hj, uMid_at hj]
  by_cases e : j = i
  · subst e
    rw [if_pos rfl, if_pos (by omega)]
  · rw [if_neg e]
    by_cases q : j < i
    · rw [if_pos q, if_pos (by omega)]
    · rw [if_neg q, if_neg (by omega)]
theorem tMid_succ {l : List Tng} {k i : Nat} (hi : i < l.length) : (tMid l k i).set i (tx k (thAt l i)) = tMid l k (i + 1) := th_ext (by rw [List.length_set, tMid_len, tMid_len]) fun j hj => by
  rw [List.length_set, tMid_len] at hj
  rw [thAt_set (by rw [tMid_len]; exact hi), tMid_at hj, tMid_at hj]
  by_cases e : j = i
  · subst e
    rw [if_pos rfl, if_pos (by omega)]
  · rw [if_neg e]
    by_cases q : j < i
    · rw [if_pos q, if_pos (by omega)]
    · rw [if_neg q, if_neg (by omega)]
theorem ux_same {k : Nat} {u : Int} {x : Sl} (h : x.up ≠ (k : Int)) : ux k u x = x := by rw [ux, if_neg h]
theorem tx_same {k : Nat} {t : Tng} (h : t.frm ≠ (k : Int) + 1) : tx k t = t := by rw [tx, if_neg h]
theorem uMid_same {l : List Sl} {k : Nat} {u : Int} {i : Nat} (hi : i < l.length) (h : (slAt l i).up ≠ (k : Int)) : uMid l k u i = uMid l k u (i + 1) := by
  rw [← uMid_succ hi, ux_same h]
  refine sl_ext (by rw [List.length_set]) fun j hj => ?_
  rw [slAt_set (by rw [uMid_len]; exact hi)]
  by_cases e : j = i
  · subst e
    rw [if_pos rfl, uMid_at hi, if_neg (by omega)]
  · rw [if_neg e]
theorem tMid_same {l : List Tng} {k i : Nat} (hi : i < l.length) (h : (thAt l i).frm ≠ (k : Int) + 1) : tMid l k i = tMid l k (i + 1) := by
  rw [← tMid_succ hi, tx_same h]
  refine th_ext (by rw [List.length_set]) fun j hj => ?_
  rw [thAt_set (by rw [tMid_len]; exact hi)]
  by_cases e : j = i
  · subst e
    rw [if_pos rfl, tMid_at hi, if_neg (by omega)]
  · rw [if_neg e]
set_option maxRecDepth 100000 in
set_option maxHeartbeats 4000000 in
theorem tkhands_is {k : Nat} (hk : k < 1000) (w : World) : Calls Tryz.prog 201 #[.int .i64 (k : Int)] w fun e w' => e = .returned (.int .i64 ((k : Int) + 1)) ∧ w' = w := by
  have hw : wrap64 ((k : Int) + 1) = (k : Int) + 1 := w64_in (by omega) (by omega)
  go_enter Tryz.func201, Tryz.ntmps201
  go_wp2
  go_ret
  exact ⟨by first | rfl | rw [hw], rfl⟩
def Tl1Rel (W w : World) (g : Nat) (BS : List Value) (s : St) (k : Nat) (u : Int) (P Q n : Nat) (d : Nat) (p : Value) (wr : World) : Prop :=
  ∃ i : Nat, d + i = n ∧ p = .int .i64 i ∧ Ost W wr ⟨s.g, uMid s.sl k u i, s.th⟩ P Q ∧ Bq wr g BS ∧ Fn2 w wr P Q
def Tl2Rel (W w : World) (g : Nat) (BS : List Value) (s : St) (k : Nat) (u : Int) (P Q m : Nat) (d : Nat) (p : Value) (wr : World) : Prop :=
  ∃ i : Nat, d + i = m ∧ p = .int .i64 i ∧ Ost W wr ⟨s.g, s.sl.map (ux k u), tMid s.th k i⟩ P Q ∧ Bq wr g BS ∧ Fn2 w wr P Q
set_option maxRecDepth 100000 in
set_option maxHeartbeats 4000000 in
theorem tell_is {W w : World} {s : St} {a b c : Int} {P n ca Q m cc k : Nat} {u : Int} (H : OwH W w s a b c P n ca Q m cc) (hk : k < 1000) : Calls Tryz.prog 178 #[.agg #[.int .i64 a, .int .i64 b, .int .i64 c, .slice (some ⟨P, 0, none⟩) n ca, .slice (some ⟨Q, 0, none⟩) m cc], .int .i64 (k : Int), .int .i64 u] w fun e w' => e = .returned (.tuple #[]) ∧ Ost W w' (tellS s k u) P Q ∧ Fn2 w w' P Q := by
  have k1 := Bq.new w [.int .i64 a, .int .i64 b, .int .i64 c, .slice (some ⟨P, 0, none⟩) n ca, .slice (some ⟨Q, 0, none⟩) m cc] 27
  have hal := below_alloc w (.cells #[.int .i64 a, .int .i64 b, .int .i64 c, .slice (some ⟨P, 0, none⟩) n ca, .slice (some ⟨Q, 0, none⟩) m cc] 27)
  have o1 := H.o.on hal
  have f1 := Fn2.of hal P Q
  have NE : Hid (w.heap.size ≠ P ∧ w.heap.size ≠ Q) := Lib.hid ⟨by have := H.o.lP; omega, by have := H.o.lQ; omega⟩
  have HN := Lib.hid H.hn
  have HM := Lib.hid H.hm
  have HFW : Hid (n ≤ 96 ∧ m ≤ 48) := Lib.hid ⟨H.few, H.fewm⟩
  have HKK := Lib.hid hk
  clear H hk hal
  go_enter Tryz.func178, Tryz.ntmps178
  go_upto_region 1 with fail
  obtain ⟨g, hg⟩ : ∃ g, g = w.heap.size := ⟨_, rfl⟩
  rw [← hg] at k1 NE ⊢
  clear hg
  generalize w.alloc _ = w1 at k1 o1 f1 ⊢
  have K := Lib.hid k1
  have O := Lib.hid o1
  have F := Lib.hid f1
  clear k1 o1 f1
  have n3 := K.out.c 3 _ rfl
  go_wp2_with fail
  clear n3
  go_loopg [11] n (fun d p wr => Tl1Rel W w g [.int .i64 a, .int .i64 b, .int .i64 c, .slice (some ⟨P, 0, none⟩) n ca, .slice (some ⟨Q, 0, none⟩) m cc] s k u P Q n d p wr)
  case atStart => exact ⟨0, by omega, rfl, by rw [uMid_zero]; exact O.out, K.out, F.out⟩
  case round =>
    clear O K F
    obtain ⟨i, hk, rfl, hO, hQ, hZ⟩ := hrel
    have HK := Lib.hid hk
    have HO := Lib.hid hO
    have HQ := Lib.hid hQ
    have HZ := Lib.hid hZ
    clear hk hO hQ hZ
    by_cases hlt : i < n
    case neg =>
      have hlt2 : ¬ (i : Int) < (n : Int) := by omega
      have hin : i = s.sl.length := by rw [← HN.out]; have := HK.out; omega
      have ho := HO.out
      rw [hin, uMid_all] at ho
      have O3 : Hid (Ost W wr ⟨s.g, s.sl.map (ux k u), tMid s.th k 0⟩ P Q) := Lib.hid (by rw [tMid_zero]; exact ho)
      have Q3 := Lib.hid HQ.out
      have F3 := Lib.hid HZ.out
      clear ho hin HO HQ HZ HK
      have n4 := Q3.out.c 4 _ rfl
      obtain ⟨wt, hwt⟩ : ∃ x, x = wr := ⟨_, rfl⟩
      rw [← hwt] at O3 Q3 F3 n4 ⊢
      clear hwt hlt
      go_wp2_with fail
      clear n4
      go_loopg [32] m (fun d p wr => Tl2Rel W w g [.int .i64 a, .int .i64 b, .int .i64 c, .slice (some ⟨P, 0, none⟩) n ca, .slice (some ⟨Q, 0, none⟩) m cc] s k u P Q m d p wr)
      case atStart => exact ⟨0, by omega, rfl, O3.out, Q3.out, F3.out⟩
      case round =>
        clear O3 Q3 F3
        obtain ⟨j, hk, rfl, hO, hQ, hZ⟩ := hrel
        have HK := Lib.hid hk
        have HO := Lib.hid hO
        have HQ := Lib.hid hQ
        have HZ := Lib.hid hZ
        clear hk hO hQ hZ
        by_cases hlt : j < m
        case neg =>
          have hlt2 : ¬ (j : Int) < (m : Int) := by omega
          have hjm : j = s.th.length := by rw [← HM.out]; have := HK.out; omega
          have ho := HO.out
          rw [hjm, tMid_all] at ho
          have HO2 := Lib.hid ho
          clear ho hjm HO
          go_wp2
          refine bodyPost_end (results_none rfl _ _ _) rfl ?_
          exact ⟨rfl, HO2.out, HZ.out⟩
        case pos =>
          have HLT := Lib.hid hlt
          have hlt2 : (j : Int) < (m : Int) := by omega
          have HLT2 := Lib.hid hlt2
          have HJL : Hid (j < s.th.length) := Lib.hid (by rw [← HM.out]; exact hlt)
          have HW : Hid (wrap64 ((j : Int) + 1) = ((j + 1 : Nat) : Int)) := Lib.hid (by rw [w64_in (by omega) (by have := HFW.out; omega)]; omega)
          obtain ⟨x, hx⟩ : ∃ x, (thAt s.th j).frm = x := ⟨_, rfl⟩
          have HXX := Lib.hid hx
          have O_d := Lib.hid (HO.out.on (below_self wr).drew)
          have Q_d := Lib.hid (HQ.out.on (below_self wr).drew)
          have F_d := Lib.hid (HZ.out.trans (Fn2.of (below_self wr).drew P Q))
          have c5 := O_d.out.th j (by rw [tMid_len]; exact HJL.out) 5 _ rfl
          rw [tMid_at HJL.out, if_neg (by omega), hx] at c5
          clear hx hlt HO HQ HZ
          go_wp2_with fail
          refine wp_region_held_drew (S := fun w' => Bq w' g [.int .i64 a, .int .i64 b, .int .i64 c, .slice (some ⟨P, 0, none⟩) n ca, .slice (some ⟨Q, 0, none⟩) m cc] ∧ w'.cell? ⟨Q, j * 13 + 5, none⟩ = some (.int .i64 x)) (by kernel_rfl) ⟨Q_d.out, c5⟩ (fun hHeld => ?_)
          clear c5 hlt2
          generalize wr.drew = v at O_d Q_d F_d hHeld ⊢
          refine wpAnyH_take (i := 0) (v := ?_) rfl (by kernel_rfl) (by kernel_rfl) (by kernel_rfl) (fun _ _ _ h => h) (Or.inl ⟨by rfl, ?_⟩) (by assumption) ?_
          rotate_left
          · intro w hSw; go_simp; try with_reducible rfl
          try simp only [Act.put, List.setIfInBounds_toArray, List.set_cons_zero, List.set_cons_succ, List.getElem_toArray, List.getElem_cons_zero, List.getElem_cons_succ]
          refine wpAnyH_take (i := 1) (v := ?_) rfl (by kernel_rfl) (by kernel_rfl) (by kernel_rfl) (fun _ _ _ h => h) (Or.inl ⟨by rfl, ?_⟩) (by assumption) ?_
          rotate_left
          · intro w hSw; have h4 := hSw.1.c 4 _ rfl; go_simp; try with_reducible rfl
          try simp only [Act.put, List.setIfInBounds_toArray, List.set_cons_zero, List.set_cons_succ, List.getElem_toArray, List.getElem_cons_zero, List.getElem_cons_succ]
          refine wpAnyH_take (i := 2) (v := ?_) rfl (by kernel_rfl) (by kernel_rfl) (by kernel_rfl) (fun _ _ _ h => h) (Or.inl ⟨by rfl, ?_⟩) (by assumption) ?_
          rotate_left
          · intro w hSw; go_simp; try with_reducible rfl
          try simp only [Act.put, List.setIfInBounds_toArray, List.set_cons_zero, List.set_cons_succ, List.getElem_toArray, List.getElem_cons_zero, List.getElem_cons_succ]
          refine wpAnyH_take (i := 3) (v := ?_) rfl (by kernel_rfl) (by kernel_rfl) (by kernel_rfl) (fun _ _ _ h => h) (Or.inl ⟨by rfl, ?_⟩) (by assumption) ?_
          rotate_left
          · intro w hSw; have hx := HLT2.out; go_simp; try with_reducible rfl
          try simp only [Act.put, List.setIfInBounds_toArray, List.set_cons_zero, List.set_cons_succ, List.getElem_toArray, List.getElem_cons_zero, List.getElem_cons_succ]
          refine wpAnyH_take (i := 4) (v := ?_) rfl (by kernel_rfl) (by kernel_rfl) (by kernel_rfl) (fun _ _ _ h => h) (Or.inl ⟨by rfl, ?_⟩) (by assumption) ?_
          rotate_left
          · intro w hSw; go_simp; try with_reducible rfl
          try simp only [Act.put, List.setIfInBounds_toArray, List.set_cons_zero, List.set_cons_succ, List.getElem_toArray, List.getElem_cons_zero, List.getElem_cons_succ]
          refine wpAnyH_take (i := 5) (v := ?_) rfl (by kernel_rfl) (by kernel_rfl) (by kernel_rfl) (fun _ _ _ h => h) (Or.inl ⟨by rfl, ?_⟩) (by assumption) ?_
          rotate_left
          · intro w hSw; have hx := hSw.2; go_simp; try with_reducible rfl
          try simp only [Act.put, List.setIfInBounds_toArray, List.set_cons_zero, List.set_cons_succ, List.getElem_toArray, List.getElem_cons_zero, List.getElem_cons_succ]
          refine wpAnyH_take (i := 6) (v := ?_) rfl (by kernel_rfl) (by kernel_rfl) (by kernel_rfl) (fun _ _ _ h => h) (Or.inl ⟨by rfl, ?_⟩) (by assumption) ?_
          rotate_left
          · intro w hSw; go_simp; try with_reducible rfl
          try simp only [Act.put, List.setIfInBounds_toArray, List.set_cons_zero, List.set_cons_succ, List.getElem_toArray, List.getElem_cons_zero, List.getElem_cons_succ]
          refine wpAnyH_ready (rs := [7]) (by kernel_rfl) (by simp) ?_
          refine AllReadyH.cons rfl (fun K hK => ?_) AllReadyH.nil
          go_simp
          refine (tkhands_is HKK.out v).mono ?_
          rintro e v1 ⟨rfl, rfl⟩
          refine hK.out _ _ hHeld (fun hHeld => ?_)
          clear hK K
          try simp only [Act.put, List.setIfInBounds_toArray, List.set_cons_zero, List.set_cons_succ, List.getElem_toArray, List.getElem_cons_zero, List.getElem_cons_succ]
          refine wpAnyH_take (i := 8) (v := ?_) rfl (by kernel_rfl) (by kernel_rfl) (by kernel_rfl) (fun _ _ _ h => h) (Or.inl ⟨by rfl, ?_⟩) (by assumption) ?_
          rotate_left
          · intro w hSw; go_simp; try with_reducible rfl
          try simp only [Act.put, List.setIfInBounds_toArray, List.set_cons_zero, List.set_cons_succ, List.getElem_toArray, List.getElem_cons_zero, List.getElem_cons_succ]
          refine wpAnyH_done (by kernel_rfl) ?_ _
          clear hHeld
          by_cases hx : x = (k : Int) + 1
          case neg =>
            have hx' : (x == (k : Int) + 1) = false := by rw [beq_eq_false_iff_ne]; exact hx
            have HNX := Lib.hid hx
            clear hx
            go_wp2
            go_roundg (m - (j + 1))
            case measure => have := HK.out; have := HLT.out; omega
            case rel => exact ⟨j + 1, by have := HLT.out; omega, by first | go_num | exact congrArg _ HW.out, by rw [← tMid_same HJL.out (by rw [HXX.out]; exact HNX.out)]; exact O_d.out, Q_d.out, F_d.out⟩
          case pos =>
            have hx' : (x == (k : Int) + 1) = true := by rw [beq_iff_eq]; exact hx
            have HPX := Lib.hid hx
            clear hx
            have hlt2 := HLT2.out
            have h4 := Q_d.out.c 4 _ rfl
            have f5 := O_d.out.Qf (j * 13 + 5)
            have c5 := O_d.out.th j (by rw [tMid_len]; exact HJL.out) 5 _ rfl
            have o6 := O_d.out.putT1 (by rw [tMid_len]; exact HJL.out) 5 (by decide) (.int .i64 0) (tx k (thAt s.th j)) (by rw [tMid_at HJL.out, if_neg (by omega), tx, if_pos (by rw [HXX.out]; exact HPX.out)]; rfl)
            simp only [tMid_succ HJL.out] at o6
            have fq := Fnd.mark v1 Q (j * 13 + 5) (.int .i64 0)
            have q6 := Q_d.out.fn2 (Fn2.snd fq P) NE.out.1 NE.out.2
            have f6 := F_d.out.trans (Fn2.snd fq P)
            have O6 := Lib.hid o6
            have Q6 := Lib.hid q6
            have F6 := Lib.hid f6
            clear fq o6 q6 f6 Q_d F_d O_d
            go_wp2
            go_roundg (m - (j + 1))
            case measure => have := HK.out; have := HLT.out; omega
            case rel => exact ⟨j + 1, by have := HLT.out; omega, by first | go_num | exact congrArg _ HW.out, O6.out, Q6.out, F6.out⟩
    case pos =>
      have HLT := Lib.hid hlt
      have hlt2 : (i : Int) < (n : Int) := by omega
      have HIL : Hid (i < s.sl.length) := Lib.hid (by rw [← HN.out]; exact hlt)
      have HW : Hid (wrap64 ((i : Int) + 1) = ((i + 1 : Nat) : Int)) := Lib.hid (by rw [w64_in (by omega) (by have := HFW.out; omega)]; omega)
      obtain ⟨x, hx⟩ : ∃ x, (slAt s.sl i).up = x := ⟨_, rfl⟩
      have HXX := Lib.hid hx
      have n3 := HQ.out.c 3 _ rfl
      have c4 := HO.out.sl i (by rw [uMid_len]; exact HIL.out) 4 _ rfl
      rw [uMid_at HIL.out, if_neg (by omega), hx] at c4
      have f4 := HO.out.Pf (i * 5 + 4)
      clear hx hlt
      by_cases hx : x = (k : Int)
      case neg =>
        have hx' : (x == (k : Int)) = false := by rw [beq_eq_false_iff_ne]; exact hx
        have HNX := Lib.hid hx
        clear hx
        go_wp2
        go_roundg (n - (i + 1))
        case measure => have := HK.out; have := HLT.out; omega
        case rel => exact ⟨i + 1, by have := HLT.out; omega, by first | go_num | exact congrArg _ HW.out, by rw [← uMid_same HIL.out (by rw [HXX.out]; exact HNX.out)]; exact HO.out, HQ.out, HZ.out⟩
      case pos =>
        have hx' : (x == (k : Int)) = true := by rw [beq_iff_eq]; exact hx
        have HPX := Lib.hid hx
        clear hx
        have o5 := HO.out.putS1 (by rw [uMid_len]; exact HIL.out) 4 (by decide) (.int .i64 u) (ux k u (slAt s.sl i)) (by rw [uMid_at HIL.out, if_neg (by omega), ux, if_pos (by rw [HXX.out]; exact HPX.out)]; rfl)
        simp only [uMid_succ HIL.out] at o5
        have fq := Fnd.mark wr P (i * 5 + 4) (.int .i64 u)
        have q5 := HQ.out.fn2 (Fn2.fst fq Q) NE.out.1 NE.out.2
        have f5 := HZ.out.trans (Fn2.fst fq Q)
        have O5 := Lib.hid o5
        have Q5 := Lib.hid q5
        have F5 := Lib.hid f5
        clear fq o5 q5 f5
        go_wp2
        go_roundg (n - (i + 1))
        case measure => have := HK.out; have := HLT.out; omega
        case rel => exact ⟨i + 1, by have := HLT.out; omega, by first | go_num | exact congrArg _ HW.out, O5.out, Q5.out, F5.out⟩

/-! ### roots, and what some slot has -/
set_option maxRecDepth 100000 in
set_option maxHeartbeats 4000000 in
theorem isroot_is {s : St} {a b c : Int} {A C : Option Addr} {n ca m cc : Nat} {t : Int} {r : Bool} {w : World} (hg : s.g = ⟨a, b, c⟩) (h0 : 0 ≤ a) (h4 : a ≤ 4) (hr : rootZ s t = r) : Calls Tryz.prog 179 #[.agg #[.int .i64 a, .int .i64 b, .int .i64 c, .slice A n ca, .slice C m cc], .int .i64 t] w fun e w' => e = .returned (.bool r) ∧ Below w.heap.size w w' := by
  have k1 := Sbx.new w a b c A n ca C m cc 27
  have hw : wrap64 (2 + a) = 2 + a := w64_in (by omega) (by omega)
  have hs : rootZ s t = (decide (2 ≤ t) && decide (t < 2 + a)) := by rw [rootZ, hg]
  rw [hs] at hr
  clear hs hg
  go_enter Tryz.func179, Tryz.ntmps179
  go_upto_region 1 with fail
  obtain ⟨g, hg⟩ : ∃ g, g = w.heap.size := ⟨_, rfl⟩
  rw [← hg] at k1 ⊢
  clear hg
  generalize w.alloc _ = w0 at k1 ⊢
  obtain ⟨b0, b1, b2, c3, c4, old, -, lt⟩ := k1
  by_cases h1 : 2 ≤ t
  · have h1' : decide (2 ≤ t) = true := decide_eq_true h1
    rw [h1', Bool.true_and] at hr
    have HR := Lib.hid hr
    clear hr
    go_wp2
    go_ret
    exact ⟨by rw [← HR.out]; first | rfl | simp, old⟩
  · have h1' : decide (2 ≤ t) = false := decide_eq_false h1
    rw [h1', Bool.false_and] at hr
    have HR := Lib.hid hr
    clear hr
    go_wp2
    go_ret
    exact ⟨by rw [← HR.out]; first | rfl | simp, old⟩
def holdsZ (t : Int) (x : Sl) : Bool := fullB x && decide (x.c.th = t)
def HeRel (W : World) (g : Nat) (a b c : Int) (A : Option Addr) (n ca : Nat) (C : Option Addr) (m cc : Nat) (l : List Sl) (t : Int) (f : Nat) (p : Value) (wr : World) : Prop :=
  ∃ i : Nat, f + i = n ∧ p = .int .i64 i ∧ (∀ j, j < i → holdsZ t (slAt l j) = false) ∧ Sbx W wr g a b c A n ca C m cc
theorem heldZ_yes {l : List Sl} {t : Int} {i : Nat} (hi : i < l.length) (h : holdsZ t (slAt l i) = true) : heldZ l t = true := List.any_eq_true.2 ⟨_, List.mem_of_getElem? (slAt_get hi), h⟩
theorem heldZ_no {l : List Sl} {t : Int} (h : ∀ j, j < l.length → holdsZ t (slAt l j) = false) : heldZ l t = false := by
  rw [heldZ, List.any_eq_false]
  intro x hx
  obtain ⟨j, hj, e⟩ := List.getElem_of_mem hx
  have ex : slAt l j = x := slAt_at (by rw [List.getElem?_eq_getElem hj, e])
  have := h j hj
  rw [ex] at this
  rw [Bool.not_eq_true]
  exact this
set_option maxRecDepth 100000 in
set_option maxHeartbeats 4000000 in
theorem isheld_is {s : St} {a b c : Int} {A C : Option Addr} {n ca m cc : Nat} {t : Int} {r : Bool} {w : World} (hS : StH w s a b c A n ca C m cc) (hr : heldZ s.sl t = r) : Calls Tryz.prog 180 #[.agg #[.int .i64 a, .int .i64 b, .int .i64 c, .slice A n ca, .slice C m cc], .int .i64 t] w fun e w' => e = .returned (.bool r) ∧ Below w.heap.size w w' := by
  have HR := Lib.hid hr
  have k1 := Sbx.new w a b c A n ca C m cc 27
  have HS := Lib.hid hS
  have few := hS.few
  clear hr hS
  go_enter Tryz.func180, Tryz.ntmps180
  go_upto_region 1 with fail
  obtain ⟨g, hg⟩ : ∃ g, g = w.heap.size := ⟨_, rfl⟩
  rw [← hg] at k1 ⊢
  clear hg
  generalize w.alloc _ = w0 at k1 ⊢
  have HK := Lib.hid k1
  clear k1
  obtain ⟨b0, b1, b2, c3, c4, -, -, lt⟩ := HK.out
  go_wp2_with fail
  clear b0 b1 b2 c3 c4 lt
  go_loopg [10] n (fun f p wr => HeRel w g a b c A n ca C m cc s.sl t f p wr)
  case atStart => exact ⟨0, by omega, rfl, fun j hj => absurd hj (by omega), HK.out⟩
  case round =>
    clear HK
    obtain ⟨i, hk, rfl, hall, hb⟩ := hrel
    have HI := Lib.hid hk
    have HB := Lib.hid hb
    have HALL := Lib.hid hall
    clear hk hb hall
    by_cases hlt : i < n
    · have HLT := Lib.hid hlt
      have HIL : Hid (i < s.sl.length) := Lib.hid (by rw [← HS.out.hn]; exact hlt)
      have hlt2 : (i : Int) < (n : Int) := by omega
      have HW : Hid (wrap64 ((i : Int) + 1) = ((i + 1 : Nat) : Int)) := Lib.hid (by rw [w64_in (by omega) (by omega)]; omega)
      obtain ⟨sb, sp, rfl, hsb, hc⟩ := HS.out.lies.sl (by rw [← HS.out.hn]; omega)
      have hX : SlC wr sb (sp + i * 5) (slAt s.sl i) := (hc i (by rw [← HS.out.hn]; exact hlt)).same fun j => HB.out.old.cell (p := ⟨sb, j, none⟩) hsb
      obtain ⟨pv, hpv⟩ : ∃ pv, holdsZ t (slAt s.sl i) = pv := ⟨_, rfl⟩
      have HPV := Lib.hid hpv
      rw [holdsZ, fullB] at hpv
      generalize slAt s.sl i = x at hX hpv
      obtain ⟨⟨ty, th, ri, ba⟩, up⟩ := x
      obtain ⟨s0, s1, s2, s3, s4⟩ := hX
      simp only at s0 s1 s2 s3 s4 hpv
      obtain ⟨y, hy⟩ : ∃ y, Cp.non ⟨ty, th, ri, ba⟩ = y := ⟨_, rfl⟩
      have HY := Lib.hid hy
      rw [hy] at hpv
      have hX2 := Slx.new wr ty th ri ba up 64
      have hal := below_alloc wr (.cells #[.int .i64 ty, .int .i64 th, .int .i64 ri, .int .i64 ba, .int .i64 up] 64)
      have HB2 := Lib.hid (HB.out.on hal)
      obtain ⟨b0, b1, b2, c3, c4, -, -, lt⟩ := HB.out
      clear hc hsb HB hy hal
      go_wp2_with fail
      obtain ⟨P, hPP⟩ : ∃ P, P = wr.heap.size := ⟨_, rfl⟩
      rw [← hPP] at hX2 ⊢
      clear hPP b0 b1 b2 c3 c4 lt s0 s1 s2 s3 s4
      generalize wr.alloc _ = w3 at hX2 HB2 ⊢
      refine (non_at HY.out w3).mono ?_
      rintro e w4 ⟨rfl, hb⟩
      have hX4 := hX2.on hb
      have HB4 := Lib.hid (HB2.out.on hb)
      clear hb hX2 HB2
      obtain ⟨x0, x1, x2, x3, x4, xlt⟩ := hX4
      simp only at x0 x1 x2 x3 x4
      rcases y with _ | _
      · rw [Bool.not_false, Bool.true_and] at hpv
        by_cases htk : th = t
        · rw [decide_eq_true htk] at hpv
          have htk2 : (th == t) = true := by rw [beq_iff_eq]; exact htk
          have HF : Hid (r = true) := Lib.hid (by rw [← HR.out]; exact heldZ_yes HIL.out (by rw [HPV.out, ← hpv]))
          clear hpv htk
          go_wp2
          go_ret
          exact ⟨by rw [HF.out] <;> rfl, HB4.out.old⟩
        · have htk2 : (th == t) = false := beq_eq_false_iff_ne.2 htk
          rw [decide_eq_false htk] at hpv
          have HNO := Lib.hid hpv
          clear hpv htk
          go_wp2
          go_roundg (n - (i + 1))
          case measure => have := HI.out; have := HLT.out; omega
          case rel => exact ⟨i + 1, by have := HI.out; have := HLT.out; omega, by first | go_num | exact congrArg _ HW.out, fun j hj => by
            by_cases e : j = i
            · rw [e, HPV.out, ← HNO.out]
            · exact HALL.out j (by omega), HB4.out⟩
      · have HNO := Lib.hid hpv
        clear hpv
        go_wp2
        go_roundg (n - (i + 1))
        case measure => have := HI.out; have := HLT.out; omega
        case rel => exact ⟨i + 1, by have := HI.out; have := HLT.out; omega, by first | go_num | exact congrArg _ HW.out, fun j hj => by
          by_cases e : j = i
          · rw [e, HPV.out, ← HNO.out]; rfl
          · exact HALL.out j (by omega), HB4.out⟩
    · have hin : i = s.sl.length := by rw [← HS.out.hn]; have := HI.out; omega
      have hlt2 : ¬ (i : Int) < (n : Int) := by omega
      have HF : Hid (r = false) := Lib.hid (by rw [← HR.out]; exact heldZ_no fun j hj => HALL.out j (by omega))
      clear hin hlt
      go_wp2
      go_ret
      exact ⟨by rw [HF.out] <;> rfl, HB.out.old⟩
end Go.Proofs.YtkpbfbmkolgmgaaGreat
