/-
  slices.Equal and slices.Clone of slots and of things; the program's Same, Clone and Forest. Condition: the states lie in memory, at most a thousand slots and things.
  slices.Equal and slices.Clone of slots and of things; the program's Same, Clone and Forest. Condition: the states lie in memory, at most a thousand slots and things.
-/
import Derived.Test.YtkpbfbmkolgmgaaGreatTKc
import Derived.Test.YtkpbfbmkolgmgaaGreatTA2
namespace Go.Proofs.YtkpbfbmkolgmgaaGreat
open Go.RowKit

theorem padd (b o j : Nat) : (⟨b, o, none⟩ : Addr).add j = ⟨b, o + j, none⟩ := by unfold Addr.add; split <;> simp_all
theorem peqgeo (a b : Gd) (w : World) : (Op.equalIn 10000 23 (.agg #[.int .i64 a.t, .int .i64 a.s, .int .i64 a.k]) (.agg #[.int .i64 b.t, .int .i64 b.s, .int .i64 b.k])).run Tryz.prog w = .ok (a.eq b) w := by
  obtain ⟨x, y, z⟩ := a
  obtain ⟨x', y', z'⟩ := b
  by_cases h1 : x = x' <;> by_cases h2 : y = y' <;> by_cases h3 : z = z'
  all_goals simp [go_sem, Gd.eq, h1, h2, h3]
theorem peqslot (x y : Sl) (w : World) : (Op.equalIn 10000 64 x.val y.val).run Tryz.prog w = .ok (x.eq y) w := by
  obtain ⟨⟨a, b, c, d⟩, u⟩ := x
  obtain ⟨⟨a', b', c', d'⟩, u'⟩ := y
  unfold Sl.val
  by_cases h1 : a = a' <;> by_cases h2 : b = b' <;> by_cases h3 : c = c' <;> by_cases h4 : d = d' <;> by_cases h5 : u = u'
  all_goals simp [go_sem, Sl.eq, Cp.eq, h1, h2, h3, h4, h5]
def EqRel {α : Type} (W : World) (N : Nat) (P Q : Nat → α) (f : Nat) (p : Value) (wr : World) : Prop :=
  ∃ i : Nat, f + i = N ∧ p = .int .i64 i ∧ (∀ j, j < i → P j = Q j) ∧ Below W.heap.size W wr

set_option maxHeartbeats 4000000 in
theorem eqsl_at {A A' : Option Addr} {n ca n' ca' : Nat} {l m : List Sl} {r : Bool} {w : World} (hS : SlotsAt w w.heap.size A l) (hT : SlotsAt w w.heap.size A' m) (hn : n = l.length) (hn' : n' = m.length) (few : n ≤ 1000) (hr : alls Sl.eq l m = r) :
    Calls Tryz.prog 63 #[.slice A n ca, .slice A' n' ca'] w fun e w' => e = .returned (.bool r) ∧ Below w.heap.size w w' := by
  have HR : Hid (l ≠ m → r = false) := Lib.hid fun h => by rw [← hr]; exact Bool.eq_false_iff.2 fun e => h ((alls_iff Sl.eq_iff).1 e)
  have HY : Hid (l = m → r = true) := Lib.hid fun h => by rw [← hr]; exact (alls_iff Sl.eq_iff).2 h
  have HS := Lib.hid hS
  have HT := Lib.hid hT
  have HN := Lib.hid hn
  have HN' := Lib.hid hn'
  by_cases h1 : n = n'
  rotate_left
  · have HF : Hid (r = false) := Lib.hid (HR.out fun e => h1 (by rw [hn, hn', e]))
    have h2 : (n != n') = true := by simpa using h1
    have h3 : ((n : Int) != (n' : Int)) = true := by simpa using (fun q : (n : Int) = (n' : Int) => h1 (by omega))
    clear h1 hn hn' hr hS hT
    go_enter Tryz.func63, Tryz.ntmps63
    go_wp2
    go_ret
    exact ⟨by rw [HF.out]; rfl, below_self _⟩
  subst h1
  clear hn hn' hr hS hT
  go_enter Tryz.func63, Tryz.ntmps63
  go_wp2_with fail
  go_loopg [13] n (fun f p wr => EqRel w n (slAt l) (slAt m) f p wr)
  case atStart => exact ⟨0, by omega, rfl, fun j h => by omega, below_self _⟩
  case round =>
    obtain ⟨i, hk, rfl, ha, hb⟩ := hrel
    have HI := Lib.hid hk
    have HA := Lib.hid ha
    have HB := Lib.hid hb
    clear hk ha
    by_cases hlt : i < n
    · have HLT := Lib.hid hlt
      have hlt2 : (i : Int) < (n : Int) := by omega
      obtain ⟨sb, sp, rfl, hsb, hc⟩ := HS.out (by rw [← HN.out]; omega)
      obtain ⟨sb', sp', rfl, hsb', hc'⟩ := HT.out (by rw [← HN'.out]; omega)
      have hX : SlC wr sb (sp + i * 5) (slAt l i) := (hc i (by rw [← HN.out]; exact hlt)).same fun k => hb.cell (p := ⟨sb, k, none⟩) hsb
      have hY : SlC wr sb' (sp' + i * 5) (slAt m i) := (hc' i (by rw [← HN'.out]; exact hlt)).same fun k => hb.cell (p := ⟨sb', k, none⟩) hsb'
      have hE : Sl.eq (slAt l i) (slAt m i) = true ↔ slAt l i = slAt m i := Sl.eq_iff
      have heq := fun w => peqslot (slAt l i) (slAt m i) w
      generalize Sl.eq (slAt l i) (slAt m i) = z at heq hE
      have HE1 : Hid (z = true → slAt l i = slAt m i) := Lib.hid hE.1
      have HE2 : Hid (z = false → r = false) := Lib.hid fun q => HR.out fun e => by rw [e] at hE; rw [hE.2 rfl] at q; cases q
      clear hE
      generalize slAt l i = x at hX heq
      generalize slAt m i = y at hY heq
      obtain ⟨x0, x1, x2, x3, x4⟩ := hX
      obtain ⟨y0, y1, y2, y3, y4⟩ := hY
      unfold Sl.val at heq
      clear hc hc' hsb hsb' hb
      rcases z with _ | _
      · have HF : Hid (r = false) := Lib.hid (HE2.out rfl)
        go_wp2_with fail
        go_quiet (fail)
        go_wp2
        go_ret
        exact ⟨by rw [HF.out]; rfl, below_draws HB.out _⟩
      · have HE3 := Lib.hid (HE1.out rfl)
        go_wp2_with fail
        go_quiet (fail)
        go_wp2
        go_roundg (n - (i + 1))
        case measure => have := HI.out; have := HLT.out; omega
        case rel =>
          refine ⟨i + 1, by have := HI.out; have := HLT.out; omega, by go_num, fun j hj => ?_, below_draws HB.out _⟩
          by_cases e : j = i
          · subst e; exact HE3.out
          · exact HA.out j (by omega)
    · have hlt2 : ¬ (i : Int) < (n : Int) := by omega
      have HF : Hid (r = true) := Lib.hid (HY.out (sl_ext (by rw [← HN.out, ← HN'.out]) fun j hj => HA.out j (by have := HI.out; have := HN.out; omega)))
      clear hb
      go_wp2
      go_ret
      exact ⟨by rw [HF.out]; rfl, HB.out⟩

set_option maxHeartbeats 4000000 in
theorem eqth_at {A A' : Option Addr} {n ca n' ca' : Nat} {l m : List Tng} {r : Bool} {w : World} (hS : ThingsAt w w.heap.size A l) (hT : ThingsAt w w.heap.size A' m) (hn : n = l.length) (hn' : n' = m.length) (few : n ≤ 1000) (hr : alls Tng.eq l m = r) :
    Calls Tryz.prog 64 #[.slice A n ca, .slice A' n' ca'] w fun e w' => e = .returned (.bool r) ∧ Below w.heap.size w w' := by
  have HR : Hid (l ≠ m → r = false) := Lib.hid fun h => by rw [← hr]; exact Bool.eq_false_iff.2 fun e => h ((alls_iff Tng.eq_iff).1 e)
  have HY : Hid (l = m → r = true) := Lib.hid fun h => by rw [← hr]; exact (alls_iff Tng.eq_iff).2 h
  have HS := Lib.hid hS
  have HT := Lib.hid hT
  have HN := Lib.hid hn
  have HN' := Lib.hid hn'
  by_cases h1 : n = n'
  rotate_left
  · have HF : Hid (r = false) := Lib.hid (HR.out fun e => h1 (by rw [hn, hn', e]))
    have h2 : (n != n') = true := by simpa using h1
    have h3 : ((n : Int) != (n' : Int)) = true := by simpa using (fun q : (n : Int) = (n' : Int) => h1 (by omega))
    clear h1 hn hn' hr hS hT
    go_enter Tryz.func64, Tryz.ntmps64
    go_wp2
    go_ret
    exact ⟨by rw [HF.out]; rfl, below_self _⟩
  subst h1
  clear hn hn' hr hS hT
  go_enter Tryz.func64, Tryz.ntmps64
  go_wp2_with fail
  go_loopg [13] n (fun f p wr => EqRel w n (thAt l) (thAt m) f p wr)
  case atStart => exact ⟨0, by omega, rfl, fun j h => by omega, below_self _⟩
  case round =>
    obtain ⟨i, hk, rfl, ha, hb⟩ := hrel
    have HI := Lib.hid hk
    have HA := Lib.hid ha
    have HB := Lib.hid hb
    clear hk ha
    by_cases hlt : i < n
    · have HLT := Lib.hid hlt
      have hlt2 : (i : Int) < (n : Int) := by omega
      obtain ⟨sb, sp, rfl, hsb, hc⟩ := HS.out (by rw [← HN.out]; omega)
      obtain ⟨sb', sp', rfl, hsb', hc'⟩ := HT.out (by rw [← HN'.out]; omega)
      have hX : ThC wr sb (sp + i * 13) (thAt l i) := (hc i (by rw [← HN.out]; exact hlt)).same fun k => hb.cell (p := ⟨sb, k, none⟩) hsb
      have hY : ThC wr sb' (sp' + i * 13) (thAt m i) := (hc' i (by rw [← HN'.out]; exact hlt)).same fun k => hb.cell (p := ⟨sb', k, none⟩) hsb'
      have hE : Tng.eq (thAt l i) (thAt m i) = true ↔ thAt l i = thAt m i := Tng.eq_iff
      have heq := fun w => teq26 (thAt l i) (thAt m i) w
      generalize Tng.eq (thAt l i) (thAt m i) = z at heq hE
      have HE1 : Hid (z = true → thAt l i = thAt m i) := Lib.hid hE.1
      have HE2 : Hid (z = false → r = false) := Lib.hid fun q => HR.out fun e => by rw [e] at hE; rw [hE.2 rfl] at q; cases q
      clear hE
      generalize thAt l i = x at hX heq
      generalize thAt m i = y at hY heq
      obtain ⟨x0, x1, x2, x3, x4, x5, x6, x7, x8, x9, x10, x11, x12⟩ := hX
      obtain ⟨y0, y1, y2, y3, y4, y5, y6, y7, y8, y9, y10, y11, y12⟩ := hY
      unfold Tng.val at heq
      clear hc hc' hsb hsb' hb
      rcases z with _ | _
      · have HF : Hid (r = false) := Lib.hid (HE2.out rfl)
        go_wp2_with fail
        go_quiet (fail)
        go_wp2
        go_ret
        exact ⟨by rw [HF.out]; rfl, below_draws HB.out _⟩
      · have HE3 := Lib.hid (HE1.out rfl)
        go_wp2_with fail
        go_quiet (fail)
        go_wp2
        go_roundg (n - (i + 1))
        case measure => have := HI.out; have := HLT.out; omega
        case rel =>
          refine ⟨i + 1, by have := HI.out; have := HLT.out; omega, by go_num, fun j hj => ?_, below_draws HB.out _⟩
          by_cases e : j = i
          · subst e; exact HE3.out
          · exact HA.out j (by omega)
    · have hlt2 : ¬ (i : Int) < (n : Int) := by omega
      have HF : Hid (r = true) := Lib.hid (HY.out (th_ext (by rw [← HN.out, ← HN'.out]) fun j hj => HA.out j (by have := HI.out; have := HN.out; omega)))
      clear hb
      go_wp2
      go_ret
      exact ⟨by rw [HF.out]; rfl, HB.out⟩

/-! ### slices.Clone -/
theorem of_sflat {w : World} {b o : Nat} {l : List Sl} (h : ∀ j, j < l.length → SlC w b (o + j * 5) (slAt l j)) {k : Nat} {u : Value} (hk : (sflat l)[k]? = some u) : w.cell? ⟨b, o + k, none⟩ = some u := by
  have hlt : k < l.length * 5 := by rw [← sflat_len]; exact (List.getElem?_eq_some_iff.1 hk).1
  have hj : k / 5 < l.length := by omega
  have hx := h (k / 5) hj
  have hf := flat_at slist_len l (k / 5) _ (slAt_get hj) (k % 5) (by omega)
  rw [show k / 5 * 5 + k % 5 = k by omega] at hf
  have hk2 : (slist (slAt l (k / 5)))[k % 5]? = some u := hf.symm.trans hk
  have e : o + k = o + k / 5 * 5 + k % 5 := by omega
  rw [e]
  have h5 : k % 5 = 0 ∨ k % 5 = 1 ∨ k % 5 = 2 ∨ k % 5 = 3 ∨ k % 5 = 4 := by omega
  rcases h5 with q | q | q | q | q <;> rw [q] at hk2 ⊢ <;> cases hk2
  · exact hx.c0
  · exact hx.c1
  · exact hx.c2
  · exact hx.c3
  · exact hx.c4
theorem of_tflat {w : World} {b o : Nat} {l : List Tng} (h : ∀ j, j < l.length → ThC w b (o + j * 13) (thAt l j)) {k : Nat} {u : Value} (hk : (tflat l)[k]? = some u) : w.cell? ⟨b, o + k, none⟩ = some u := by
  have hlt : k < l.length * 13 := by rw [← tflat_len]; exact (List.getElem?_eq_some_iff.1 hk).1
  have hj : k / 13 < l.length := by omega
  have hx := h (k / 13) hj
  have hf := flat_at thist_len l (k / 13) _ (thAt_get hj) (k % 13) (by omega)
  rw [show k / 13 * 13 + k % 13 = k by omega] at hf
  have hk2 : (thist (thAt l (k / 13)))[k % 13]? = some u := hf.symm.trans hk
  have e : o + k = o + k / 13 * 13 + k % 13 := by omega
  rw [e]
  have h13 : k % 13 = 0 ∨ k % 13 = 1 ∨ k % 13 = 2 ∨ k % 13 = 3 ∨ k % 13 = 4 ∨ k % 13 = 5 ∨ k % 13 = 6 ∨ k % 13 = 7 ∨ k % 13 = 8 ∨ k % 13 = 9 ∨ k % 13 = 10 ∨ k % 13 = 11 ∨ k % 13 = 12 := by omega
  rcases h13 with q | q | q | q | q | q | q | q | q | q | q | q | q <;> rw [q] at hk2 ⊢ <;> cases hk2
  · exact hx.c0
  · exact hx.c1
  · exact hx.c2
  · exact hx.c3
  · exact hx.c4
  · exact hx.c5
  · exact hx.c6
  · exact hx.c7
  · exact hx.c8
  · exact hx.c9
  · exact hx.c10
  · exact hx.c11
  · exact hx.c12
theorem infops_all : (Tryz.prog.info? 64).map (fun i => (i.zero, i.size, i.bytes)) = some (some Sl.zero.val, 5, 40) := by kernel_rfl
theorem infops_parts : ∃ i : TypeInfo, Tryz.prog.info? 64 = some i ∧ i.zero = some Sl.zero.val ∧ i.size = 5 ∧ i.bytes = 40 := by
  have h := infops_all
  cases hq : Tryz.prog.info? 64 with
  | none => simp [hq] at h
  | some i =>
    simp [hq] at h
    exact ⟨i, rfl, h.1, h.2.1, h.2.2⟩
theorem infopt_all : (Tryz.prog.info? 67).map (fun i => (i.zero, i.size, i.bytes)) = some (some Tng.zero.val, 13, 104) := by kernel_rfl
theorem infopt_parts : ∃ i : TypeInfo, Tryz.prog.info? 67 = some i ∧ i.zero = some Tng.zero.val ∧ i.size = 13 ∧ i.bytes = 104 := by
  have h := infopt_all
  cases hq : Tryz.prog.info? 67 with
  | none => simp [hq] at h
  | some i =>
    simp [hq] at h
    exact ⟨i, rfl, h.1, h.2.1, h.2.2⟩

set_option maxHeartbeats 2000000 in
theorem clsl_at {A : Option Addr} {n ca : Nat} {l : List Sl} {w : World} (hS : SlotsAt w w.heap.size A l) (hn : n = l.length) (few : n ≤ 1000) :
    Calls Tryz.prog 46 #[.slice A n ca] w fun e w' => ∃ A' ca', e = .returned (.slice A' n ca') ∧ n ≤ ca' ∧ SlotsAt w' w'.heap.size A' l ∧ (0 < l.length → ∃ b, A' = some ⟨b, 0, none⟩ ∧ w.heap.size ≤ b ∧ b < w'.heap.size ∧ ∀ k, w'.frozen? ⟨b, k, none⟩ = false) ∧ Below w.heap.size w w' := by
  have HS := Lib.hid hS
  have HN := Lib.hid hn
  have HF := Lib.hid few
  have q23 : ∀ (w : World) (a : Option Addr) (n c : Nat), (binOp .eql 24 (.slice a n c) (.slice none 0 0)).run Tryz.prog w = .ok (.bool a.isNone) w := fun w a n c => Lib.run_eql_slice_nil w 24 64 a n c 0 0 Tryz.underlying24
  rcases A with _ | ad
  · have h0 : l.length = 0 := by
      rcases Nat.eq_zero_or_pos l.length with h | h
      · exact h
      · obtain ⟨b, o, e, _⟩ := hS h; cases e
    have HZ : Hid (n = 0 ∧ l = []) := Lib.hid ⟨by rw [hn, h0], List.eq_nil_of_length_eq_zero h0⟩
    clear hS hn few h0
    go_enter Tryz.func46, Tryz.ntmps46
    go_wp2
    go_ret
    obtain ⟨rfl, rfl⟩ := HZ.out
    exact ⟨none, 0, rfl, Nat.le_refl _, fun h => absurd h (by simp), fun h => absurd h (by simp), below_self _⟩
  · have HO : Hid ((w.alloc (.cells #[] 64)).ownsRow w.heap.size 64 5 (.slice (some ⟨w.heap.size, 0, none⟩) 0 0) 0 []) := Lib.hid (World.ownsRow_lit w _ 0 (Nat.le_refl _) (Nat.zero_le _) rfl)
    have HB0 := Lib.hid (below_alloc w (.cells #[] 64))
    have HNEW : Hid (∀ j u, (sflat l)[j]? = some u → (w.alloc (.cells #[] 64)).cell? (ad.add j) = some u) := Lib.hid fun j u hu => by
      have hp : 0 < l.length := by
        rcases Nat.eq_zero_or_pos l.length with h | h
        · rw [List.eq_nil_of_length_eq_zero h] at hu; cases hu
        · exact h
      obtain ⟨b, o, e, hlt, hc⟩ := HS.out hp
      cases e
      rw [padd, HB0.out.cell (p := ⟨b, _, none⟩) hlt]
      exact of_sflat hc hu
    have HSZ : Hid (w.heap.size ≤ (w.alloc (.cells #[] 64)).heap.size) := Lib.hid HB0.out.size
    obtain ⟨i0, hii, hz0, hz1, hz2⟩ := infops_parts
    have HONE : Hid (∀ u ∈ sflat l, u.oneCell' = true) := Lib.hid fun u hu => by
      obtain ⟨x, _, hx⟩ := List.mem_flatMap.1 hu
      simp [slist] at hx
      rcases hx with rfl | rfl | rfl | rfl | rfl <;> rfl
    have HLEN : Hid ((sflat l).length = n * 5) := Lib.hid (by rw [sflat_len, HN.out])
    clear hS hn
    go_enter Tryz.func46, Tryz.ntmps46
    go_wp2_with (at_builtin; refine wpList_append_own _ rfl _ _ 24 rfl w.heap.size 64 i0 Sl.zero.val 5 40 Tryz.underlying24 hii hz0 hz1 hz2 rfl (by decide) _ _ _ rfl HO.out ad n ca (sflat l) rfl HLEN.out HNEW.out HONE.out ?c3 ?c4 HSZ.out ?_)
    case c3 => unfold maxLen; simp; omega
    case c4 => simp; omega
    intro v5 w5 hown hgrow _
    have HB5 : Hid (Below w.heap.size w w5) := Lib.hid (HB0.out.grown hgrow HB0.out.size fun k hk => by cases hk; exact Nat.le_refl _)
    have HO5 : Hid (w5.ownsRow w.heap.size 64 5 v5 n (sflat l)) := Lib.hid (by simpa using hown)
    clear hown hgrow HO HNEW HSZ HONE HLEN HB0 hii hz0 hz1 hz2
    go_wp2
    go_ret
    have ho := HO5.out
    rcases ho.2 with ⟨rfl, h0⟩ | ⟨g, cap, cur, rfl, hb, hg, h1, h2, h3, h4⟩
    · have hl0 : l.length = 0 := by rw [← HN.out]; exact h0
      exact ⟨none, 0, by rw [h0]; rfl, by omega, fun h => absurd h (by omega), fun h => absurd h (by omega), HB5.out⟩
    · have hlt := (Array.getElem?_eq_some_iff.1 hg).1
      have hcell : ∀ k u, (sflat l)[k]? = some u → w5.cell? ⟨g, k, none⟩ = some u := fun k u hk => by
        have hlk : k < n * 5 := by rw [← ho.1]; exact (List.getElem?_eq_some_iff.1 hk).1
        rw [cell_of_row _ _ _ _ _ _ hg, ← hk, ← h4, List.getElem?_take_of_lt hlk, Array.getElem?_toList]
      exact ⟨some ⟨g, 0, none⟩, cap, rfl, h1, fun _ => ⟨g, 0, rfl, hlt, fun j hj => SlC.of_flat hcell hj⟩, fun _ => ⟨g, rfl, hb, hlt, fun k => frozen_of_row _ _ k _ _ hg⟩, HB5.out⟩

set_option maxHeartbeats 2000000 in
theorem clth_at {A : Option Addr} {n ca : Nat} {l : List Tng} {w : World} (hS : ThingsAt w w.heap.size A l) (hn : n = l.length) (few : n ≤ 1000) :
    Calls Tryz.prog 47 #[.slice A n ca] w fun e w' => ∃ A' ca', e = .returned (.slice A' n ca') ∧ n ≤ ca' ∧ ThingsAt w' w'.heap.size A' l ∧ (0 < l.length → ∃ b, A' = some ⟨b, 0, none⟩ ∧ w.heap.size ≤ b ∧ b < w'.heap.size ∧ ∀ k, w'.frozen? ⟨b, k, none⟩ = false) ∧ Below w.heap.size w w' := by
  have HS := Lib.hid hS
  have HN := Lib.hid hn
  have HF := Lib.hid few
  have q23 : ∀ (w : World) (a : Option Addr) (n c : Nat), (binOp .eql 25 (.slice a n c) (.slice none 0 0)).run Tryz.prog w = .ok (.bool a.isNone) w := fun w a n c => Lib.run_eql_slice_nil w 25 67 a n c 0 0 Tryz.underlying25
  rcases A with _ | ad
  · have h0 : l.length = 0 := by
      rcases Nat.eq_zero_or_pos l.length with h | h
      · exact h
      · obtain ⟨b, o, e, _⟩ := hS h; cases e
    have HZ : Hid (n = 0 ∧ l = []) := Lib.hid ⟨by rw [hn, h0], List.eq_nil_of_length_eq_zero h0⟩
    clear hS hn few h0
    go_enter Tryz.func47, Tryz.ntmps47
    go_wp2
    go_ret
    obtain ⟨rfl, rfl⟩ := HZ.out
    exact ⟨none, 0, rfl, Nat.le_refl _, fun h => absurd h (by simp), fun h => absurd h (by simp), below_self _⟩
  · have HO : Hid ((w.alloc (.cells #[] 67)).ownsRow w.heap.size 67 13 (.slice (some ⟨w.heap.size, 0, none⟩) 0 0) 0 []) := Lib.hid (World.ownsRow_lit w _ 0 (Nat.le_refl _) (Nat.zero_le _) rfl)
    have HB0 := Lib.hid (below_alloc w (.cells #[] 67))
    have HNEW : Hid (∀ j u, (tflat l)[j]? = some u → (w.alloc (.cells #[] 67)).cell? (ad.add j) = some u) := Lib.hid fun j u hu => by
      have hp : 0 < l.length := by
        rcases Nat.eq_zero_or_pos l.length with h | h
        · rw [List.eq_nil_of_length_eq_zero h] at hu; cases hu
        · exact h
      obtain ⟨b, o, e, hlt, hc⟩ := HS.out hp
      cases e
      rw [padd, HB0.out.cell (p := ⟨b, _, none⟩) hlt]
      exact of_tflat hc hu
    have HSZ : Hid (w.heap.size ≤ (w.alloc (.cells #[] 67)).heap.size) := Lib.hid HB0.out.size
    obtain ⟨i0, hii, hz0, hz1, hz2⟩ := infopt_parts
    have HONE : Hid (∀ u ∈ tflat l, u.oneCell' = true) := Lib.hid fun u hu => by
      obtain ⟨x, _, hx⟩ := List.mem_flatMap.1 hu
      simp [thist] at hx
      rcases hx with rfl | rfl | rfl | rfl | rfl | rfl | rfl | rfl | rfl | rfl | rfl | rfl | rfl <;> rfl
    have HLEN : Hid ((tflat l).length = n * 13) := Lib.hid (by rw [tflat_len, HN.out])
    clear hS hn
    go_enter Tryz.func47, Tryz.ntmps47
    go_wp2_with (at_builtin; refine wpList_append_own _ rfl _ _ 25 rfl w.heap.size 67 i0 Tng.zero.val 13 104 Tryz.underlying25 hii hz0 hz1 hz2 rfl (by decide) _ _ _ rfl HO.out ad n ca (tflat l) rfl HLEN.out HNEW.out HONE.out ?c3 ?c4 HSZ.out ?_)
    case c3 => unfold maxLen; simp; omega
    case c4 => simp; omega
    intro v5 w5 hown hgrow _
    have HB5 : Hid (Below w.heap.size w w5) := Lib.hid (HB0.out.grown hgrow HB0.out.size fun k hk => by cases hk; exact Nat.le_refl _)
    have HO5 : Hid (w5.ownsRow w.heap.size 67 13 v5 n (tflat l)) := Lib.hid (by simpa using hown)
    clear hown hgrow HO HNEW HSZ HONE HLEN HB0 hii hz0 hz1 hz2
    go_wp2
    go_ret
    have ho := HO5.out
    rcases ho.2 with ⟨rfl, h0⟩ | ⟨g, cap, cur, rfl, hb, hg, h1, h2, h3, h4⟩
    · have hl0 : l.length = 0 := by rw [← HN.out]; exact h0
      exact ⟨none, 0, by rw [h0]; rfl, by omega, fun h => absurd h (by omega), fun h => absurd h (by omega), HB5.out⟩
    · have hlt := (Array.getElem?_eq_some_iff.1 hg).1
      have hcell : ∀ k u, (tflat l)[k]? = some u → w5.cell? ⟨g, k, none⟩ = some u := fun k u hk => by
        have hlk : k < n * 13 := by rw [← ho.1]; exact (List.getElem?_eq_some_iff.1 hk).1
        rw [cell_of_row _ _ _ _ _ _ hg, ← hk, ← h4, List.getElem?_take_of_lt hlk, Array.getElem?_toList]
      exact ⟨some ⟨g, 0, none⟩, cap, rfl, h1, fun _ => ⟨g, 0, rfl, hlt, fun j hj => ThC.of_flat hcell hj⟩, fun _ => ⟨g, rfl, hb, hlt, fun k => frozen_of_row _ _ k _ _ hg⟩, HB5.out⟩

/-! ### Same -/
set_option maxHeartbeats 4000000 in
theorem psame_is {s t : St} {a b c a' b' c' : Int} {A C A' C' : Option Addr} {n ca m cc n' ca' m' cc' : Nat} {r : Bool} {w : World} (hS : StH w s a b c A n ca C m cc) (hT : StH w t a' b' c' A' n' ca' C' m' cc') (hr : s.same t = r) :
    Calls Tryz.prog 18 #[.agg #[.int .i64 a, .int .i64 b, .int .i64 c, .slice A n ca, .slice C m cc], .agg #[.int .i64 a', .int .i64 b', .int .i64 c', .slice A' n' ca', .slice C' m' cc']] w fun e w' => e = .returned (.bool r) ∧ Below w.heap.size w w' := by
  have k1 := Sbx.new w a b c A n ca C m cc 27
  have k2 := Sbx.also k1.old a' b' c' A' n' ca' C' m' cc' 27
  have hK : Two w _ w.heap.size (w.heap.size + 1) a b c A n ca C m cc a' b' c' A' n' ca' C' m' cc' := ⟨k1.on (below_alloc _ _), by simpa using k2⟩
  have heq : ∀ w, (Op.equalIn 10000 23 (.agg #[.int .i64 a, .int .i64 b, .int .i64 c]) (.agg #[.int .i64 a', .int .i64 b', .int .i64 c'])).run Tryz.prog w = .ok (Gd.eq ⟨a, b, c⟩ ⟨a', b', c'⟩) w := fun w => peqgeo ⟨a, b, c⟩ ⟨a', b', c'⟩ w
  rw [St.same, hS.hg, hT.hg] at hr
  have HS := Lib.hid hS
  have HT := Lib.hid hT
  clear hS hT k1 k2
  generalize Gd.eq ⟨a, b, c⟩ ⟨a', b', c'⟩ = z at heq hr
  rcases z with _ | _
  · subst hr
    go_enter Tryz.func18, Tryz.ntmps18
    go_wp2
    go_ret
    exact ⟨rfl, hK.x.old⟩
  rw [Bool.true_and] at hr
  obtain ⟨y, hy⟩ : ∃ y, alls Sl.eq s.sl t.sl = y := ⟨_, rfl⟩
  rw [hy] at hr
  have HY := Lib.hid hy
  clear hy
  go_enter Tryz.func18, Tryz.ntmps18
  go_wp2_with fail
  obtain ⟨g, hg⟩ : ∃ g, g = w.heap.size := ⟨_, rfl⟩
  obtain ⟨h, hh⟩ : ∃ h, h = g + 1 := ⟨_, rfl⟩
  rw [← hg, ← hh] at hK
  rw [← hg]
  try rw [← hh]
  clear hg hh
  generalize (w.alloc _).alloc _ = w1 at hK ⊢
  have HK := Lib.hid hK
  clear hK heq
  refine (eqsl_at (HS.out.on HK.out.x.old).lies.sl (HT.out.on HK.out.x.old).lies.sl HS.out.hn HT.out.hn HS.out.few HY.out).mono ?_
  rintro e w2 ⟨rfl, hb⟩
  have HK2 := Lib.hid (HK.out.on hb)
  clear HK hb
  obtain ⟨⟨-, -, -, c3, c4, -, -, lt⟩, ⟨-, -, -, d3, d4, -, -, lt'⟩⟩ := HK2.out
  rcases y with _ | _
  · rw [Bool.false_and] at hr
    subst hr
    go_wp2
    go_ret
    exact ⟨rfl, HK2.out.x.old⟩
  · rw [Bool.true_and] at hr
    have HR := Lib.hid hr
    clear hr
    go_wp2_with fail
    refine (eqth_at (HS.out.on HK2.out.x.old).lies.th (HT.out.on HK2.out.x.old).lies.th HS.out.hm HT.out.hm HS.out.fewm HR.out).mono ?_
    rintro e w3 ⟨rfl, hb⟩
    have HK3 := Lib.hid (HK2.out.on hb)
    clear hb c3 c4 lt d3 d4 lt' HK2
    go_wp2
    go_ret
    exact ⟨rfl, HK3.out.x.old⟩

end Go.Proofs.YtkpbfbmkolgmgaaGreat
namespace Go.Proofs.YtkpbfbmkolgmgaaGreat
open Go.RowKit

/-! ### Forest -/
/-- a state's box, a result's cell, whole numbers of the call's own -/
structure Fbx (W w : World) (g q : Nat) (a b c : Int) (A : Option Addr) (n ca : Nat) (C : Option Addr) (m cc : Nat) (G N : Nat) (u : Nat → Int) : Prop where
  box : Sbx W w g a b c A n ca C m cc
  q0 : w.cell? ⟨q, 0, none⟩ = some (.slice none 0 0)
  qf : w.frozen? ⟨q, 0, none⟩ = false
  cell : ∀ j, j < N → w.cell? ⟨G, j, none⟩ = some (.int .i64 (u j))
  free : ∀ j, w.frozen? ⟨G, j, none⟩ = false
  gq : g < q
  qG : q < G
  lt : G < w.heap.size
section
variable {W w w' : World} {g q : Nat} {a b c : Int} {A : Option Addr} {n ca : Nat} {C : Option Addr} {m cc G N : Nat} {u v : Nat → Int}
theorem Fbx.on (h : Fbx W w g q a b c A n ca C m cc G N u) (hb : Below w.heap.size w w') : Fbx W w' g q a b c A n ca C m cc G N u := by
  have hq : q < w.heap.size := Nat.lt_trans h.qG h.lt
  exact ⟨h.box.on hb, by rw [hb.cell (p := ⟨q, _, none⟩) hq]; exact h.q0, by rw [World.frozen?_of_block (w := w) (a := ⟨q, 0, none⟩) (hb.block q hq)]; exact h.qf, fun j hj => by rw [hb.cell (p := ⟨G, _, none⟩) h.lt]; exact h.cell j hj,
    fun j => by rw [World.frozen?_of_block (w := w) (a := ⟨G, j, none⟩) (hb.block G h.lt)]; exact h.free j, h.gq, h.qG, Nat.lt_of_lt_of_le h.lt hb.size⟩
theorem Fbx.set (h : Fbx W w g q a b c A n ca C m cc G N u) {i : Nat} (x : Int) (e : ∀ j, j < N → v j = if j = i then x else u j) : Fbx W (w.setCell ⟨G, i, none⟩ (.int .i64 x)) g q a b c A n ca C m cc G N v := by
  have hB : Below W.heap.size W (w.setCell ⟨G, i, none⟩ (.int .i64 x)) := h.box.old.setCell (p := ⟨G, i, none⟩) (by have := h.box.base; have := h.gq; have := h.qG; show W.heap.size ≤ G; omega) _
  have hn : ∀ j, (w.setCell ⟨G, i, none⟩ (.int .i64 x)).cell? ⟨g, j, none⟩ = w.cell? ⟨g, j, none⟩ := fun j => World.cell?_setCell_other _ _ _ _ (fun k => by injection k with k; have := h.gq; have := h.qG; omega)
  have hn2 : ∀ j, (w.setCell ⟨G, i, none⟩ (.int .i64 x)).cell? ⟨q, j, none⟩ = w.cell? ⟨q, j, none⟩ := fun j => World.cell?_setCell_other _ _ _ _ (fun k => by injection k with k; have := h.qG; omega)
  refine ⟨⟨(hn _).trans h.box.c0, (hn _).trans h.box.c1, (hn _).trans h.box.c2, (hn _).trans h.box.c3, (hn _).trans h.box.c4, hB, h.box.base, by simpa [World.setCell] using h.box.lt⟩, (hn2 _).trans h.q0, by rw [World.frozen?_setCell]; exact h.qf, fun j hj => ?_, fun j => by rw [World.frozen?_setCell]; exact h.free j, h.gq, h.qG, by simpa [World.setCell] using h.lt⟩
  rw [e j hj]
  by_cases e : j = i
  · subst e
    rw [World.cell?_setCell_same _ _ _ (h.cell j hj), if_pos rfl]
  · rw [World.cell?_setCell_other _ _ _ _ (fun q => e (by injection q with _ q; exact q.symm)), h.cell j hj, if_neg e]
end
def FoRel (W : World) (g q : Nat) (a b c : Int) (A : Option Addr) (n ca : Nat) (C : Option Addr) (m cc G : Nat) (l : List Sl) (f : Nat) (p : Value) (wr : World) : Prop :=
  ∃ i : Nat, f + i = n ∧ p = .int .i64 i ∧ Fbx W wr g q a b c A n ca C m cc G n (fun j => if j < i then upOf (slAt l j) else 0)
set_option maxRecDepth 100000 in
set_option maxHeartbeats 4000000 in
theorem pforest_is {s : St} {a b c : Int} {A C : Option Addr} {n ca m cc : Nat} {L : List Int} {w : World} (hS : StH w s a b c A n ca C m cc) (hr : upsOf s.sl = L) :
    Calls Tryz.prog 39 #[.agg #[.int .i64 a, .int .i64 b, .int .i64 c, .slice A n ca, .slice C m cc]] w fun e w' => ForestF w w' e L := by
  have HS := Lib.hid hS
  have few := hS.few
  have HR := Lib.hid hr
  have k1 := Sbx.new w a b c A n ca C m cc 27
  have k2 : Sbx w ((w.alloc (.cells #[.int .i64 a, .int .i64 b, .int .i64 c, .slice A n ca, .slice C m cc] 27)).alloc (.cells #[.slice none 0 0] 71)) w.heap.size a b c A n ca C m cc := k1.on (below_alloc _ _)
  have hq0 : ((w.alloc (.cells #[.int .i64 a, .int .i64 b, .int .i64 c, .slice A n ca, .slice C m cc] 27)).alloc (.cells #[.slice none 0 0] 71)).cell? ⟨w.heap.size + 1, 0, none⟩ = some (.slice none 0 0) := by
    rw [show w.heap.size + 1 = (w.alloc (.cells #[.int .i64 a, .int .i64 b, .int .i64 c, .slice A n ca, .slice C m cc] 27)).heap.size by simp, cell_of_row _ _ 0 _ _ _ (heap_alloc_new _ _)]; rfl
  have hqf : ((w.alloc (.cells #[.int .i64 a, .int .i64 b, .int .i64 c, .slice A n ca, .slice C m cc] 27)).alloc (.cells #[.slice none 0 0] 71)).frozen? ⟨w.heap.size + 1, 0, none⟩ = false := by
    rw [show w.heap.size + 1 = (w.alloc (.cells #[.int .i64 a, .int .i64 b, .int .i64 c, .slice A n ca, .slice C m cc] 27)).heap.size by simp]
    exact frozen_of_row _ _ 0 _ _ (heap_alloc_new _ _)
  have hsz : ((w.alloc (.cells #[.int .i64 a, .int .i64 b, .int .i64 c, .slice A n ca, .slice C m cc] 27)).alloc (.cells #[.slice none 0 0] 71)).heap.size = w.heap.size + 1 + 1 := by simp
  have hF : Fbx w (((w.alloc (.cells #[.int .i64 a, .int .i64 b, .int .i64 c, .slice A n ca, .slice C m cc] 27)).alloc (.cells #[.slice none 0 0] 71)).alloc (.cells (madeCells #[.int .i64 0] n) 3)) w.heap.size (w.heap.size + 1) a b c A n ca C m cc (w.heap.size + 1 + 1) n (fun _ => 0) := by
    generalize (w.alloc _).alloc _ = w1 at k2 hq0 hqf hsz
    refine ⟨k2.on (below_alloc _ _), ((below_alloc w1 _).cell (p := ⟨w.heap.size + 1, 0, none⟩) (by rw [hsz]; simp)).trans hq0, by rw [World.frozen?_of_block (w := w1) (a := ⟨w.heap.size + 1, 0, none⟩) ((below_alloc w1 _).block (w.heap.size + 1) (by rw [hsz]; omega))]; exact hqf, fun j hj => ?_, fun j => ?_, by omega, by omega, by simp [hsz]⟩
    · rw [← hsz]; exact made_cell _ _ _ _ _ hj
    · rw [← hsz]; exact frozen_of_row _ _ j _ _ (heap_alloc_new _ _)
  have hmk := make_ints .i64 n (by omega)
  clear k1 hS hr k2 hq0 hqf hsz
  go_enter Tryz.func39, Tryz.ntmps39
  go_wp2_with fail
  clear hmk
  obtain ⟨g, hg⟩ : ∃ g, g = w.heap.size := ⟨_, rfl⟩
  obtain ⟨G, hG⟩ : ∃ G, G = g + 1 + 1 := ⟨_, rfl⟩
  rw [← hg, ← hG] at hF
  rw [← hg]
  try rw [← hG]
  clear hg hG
  generalize ((w.alloc _).alloc _).alloc _ = w2 at hF ⊢
  have HF := Lib.hid hF
  clear hF
  go_loopg [13] n (fun f p wr => FoRel w g (g + 1) a b c A n ca C m cc G s.sl f p wr)
  case atStart => exact ⟨0, by omega, rfl, by have h := HF.out; simpa using h⟩
  case round =>
    obtain ⟨i, hk, rfl, hb⟩ := hrel
    have HI := Lib.hid hk
    have HB := Lib.hid hb
    obtain ⟨⟨-, -, -, c3, -, old, -, lt⟩, q0, qf, hcell, hfree, hgq, hqG, hGl⟩ := hb
    clear hk
    by_cases hlt : i < n
    · have HLT := Lib.hid hlt
      have hlt2 : (i : Int) < (n : Int) := by omega
      obtain ⟨sb, sp, rfl, hsb, hc⟩ := HS.out.lies.sl (by rw [← HS.out.hn]; omega)
      have hX : SlC wr sb (sp + i * 5) (slAt s.sl i) := (hc i (by rw [← HS.out.hn]; exact hlt)).same fun k => old.cell (p := ⟨sb, k, none⟩) hsb
      obtain ⟨y, hy⟩ : ∃ y, slAt s.sl i = y := ⟨_, rfl⟩
      have HY := Lib.hid hy
      rw [hy] at hX
      obtain ⟨⟨ty, th, ri, ba⟩, up⟩ := y
      obtain ⟨s0, s1, s2, s3, s4⟩ := hX
      simp only at s0 s1 s2 s3 s4
      have hg0 := hcell i hlt
      have hg1 := hfree i
      have HSX : Hid (∀ j, wr.cell? ⟨sb, j, none⟩ = w.cell? ⟨sb, j, none⟩) := Lib.hid fun j => old.cell (p := ⟨sb, j, none⟩) hsb
      obtain ⟨z, hz⟩ : ∃ z, Cp.non ⟨ty, th, ri, ba⟩ = z := ⟨_, rfl⟩
      have HZ := Lib.hid hz
      clear hc hy hz hsb q0 qf hcell hfree hgq hqG
      have hF3 : Fbx w (wr.setCell ⟨G, i, none⟩ (.int .i64 up)) g (g + 1) a b c (some ⟨sb, sp, none⟩) n ca C m cc G n (fun j => if j = i then up else if j < i then upOf (slAt s.sl j) else 0) := HB.out.set up fun j _ => rfl
      have hsz : (wr.setCell ⟨G, i, none⟩ (.int .i64 up)).heap.size = wr.heap.size := by simp [World.setCell]
      have hF4 : Fbx w ((wr.setCell ⟨G, i, none⟩ (.int .i64 up)).alloc (.cells #[.int .i64 ty, .int .i64 th, .int .i64 ri, .int .i64 ba, .int .i64 up] 64)) g (g + 1) a b c (some ⟨sb, sp, none⟩) n ca C m cc G n (fun j => if j = i then up else if j < i then upOf (slAt s.sl j) else 0) := hF3.on (below_alloc _ _)
      have hX4 := Slx.new (wr.setCell ⟨G, i, none⟩ (.int .i64 up)) ty th ri ba up 64
      rw [hsz] at hX4
      clear hF3 hsz
      go_wp2_with fail
      generalize (wr.setCell _ _).alloc _ = w4 at hF4 hX4 ⊢
      refine (non_at HZ.out w4).mono ?_
      rintro e w5 ⟨rfl, hb⟩
      have HF5 := Lib.hid (hF4.on hb)
      clear hb s0 s1 s2 s3 s4 hg0 hg1 c3 old lt hF4 hX4 hGl HSX
      rcases z with _ | _
      · have HF6 : Hid (Fbx w w5 g (g + 1) a b c (some ⟨sb, sp, none⟩) n ca C m cc G n (fun j => if j < i + 1 then upOf (slAt s.sl j) else 0)) := Lib.hid (by
          refine ⟨HF5.out.box, HF5.out.q0, HF5.out.qf, fun j hj => ?_, HF5.out.free, HF5.out.gq, HF5.out.qG, HF5.out.lt⟩
          rw [HF5.out.cell j hj]
          congr 2
          by_cases e : j = i
          · subst e
            rw [if_pos rfl, if_pos (by omega), HY.out, upOf, HZ.out]
            rfl
          · rw [if_neg e]
            by_cases e2 : j < i
            · rw [if_pos e2, if_pos (by omega)]
            · rw [if_neg e2, if_neg (by omega)])
        clear HF5
        go_wp2
        go_roundg (n - (i + 1))
        case measure => have := HI.out; have := HLT.out; omega
        case rel => exact ⟨i + 1, by have := HI.out; have := HLT.out; omega, by go_num, HF6.out⟩
      · have HF6 : Hid (Fbx w (w5.setCell ⟨G, i, none⟩ (.int .i64 (-2))) g (g + 1) a b c (some ⟨sb, sp, none⟩) n ca C m cc G n (fun j => if j < i + 1 then upOf (slAt s.sl j) else 0)) := Lib.hid (HF5.out.set (-2) fun j _ => by
          by_cases e : j = i
          · subst e
            rw [if_pos rfl, if_pos (by omega), HY.out, upOf, HZ.out]
            rfl
          · rw [if_neg e, if_neg e]
            by_cases e2 : j < i
            · rw [if_pos e2, if_pos (by omega)]
            · rw [if_neg e2, if_neg (by omega)])
        have hg0 := HF5.out.cell i HLT.out
        have hg1 := HF5.out.free i
        rw [if_pos rfl] at hg0
        have hGl := HF5.out.lt
        go_wp2
        go_roundg (n - (i + 1))
        case measure => have := HI.out; have := HLT.out; omega
        case rel => exact ⟨i + 1, by have := HI.out; have := HLT.out; omega, by go_num, HF6.out⟩
    · have hlt2 : ¬ (i : Int) < (n : Int) := by omega
      have hin : i = n := by have := HI.out; omega
      have HL : Hid (L.length = n) := Lib.hid (by rw [← HR.out, upsOf_length, HS.out.hn])
      clear hcell hfree
      go_wp2
      have e0 := World.cell?_setCell_same wr ⟨g + 1, 0, none⟩ (.slice (some ⟨G, 0, none⟩) n n) q0
      have hr : ∀ j, (wr.setCell ⟨g + 1, 0, none⟩ (.slice (some ⟨G, 0, none⟩) n n)).cell? ⟨G, j, none⟩ = wr.cell? ⟨G, j, none⟩ := fun j => World.cell?_setCell_other _ _ _ _ (fun k => by injection k with k; omega)
      have hB : Below w.heap.size w (wr.setCell ⟨g + 1, 0, none⟩ (.slice (some ⟨G, 0, none⟩) n n)) := old.setCell (p := ⟨g + 1, 0, none⟩) (by have := HB.out.box.base; show w.heap.size ≤ g + 1; omega) _
      have hl : G < (wr.setCell ⟨g + 1, 0, none⟩ (.slice (some ⟨G, 0, none⟩) n n)).heap.size := by simpa [World.setCell] using hGl
      have hI : IntsAt (wr.setCell ⟨g + 1, 0, none⟩ (.slice (some ⟨G, 0, none⟩) n n)) (wr.setCell ⟨g + 1, 0, none⟩ (.slice (some ⟨G, 0, none⟩) n n)).heap.size (some ⟨G, 0, none⟩) L := fun _ => ⟨G, 0, rfl, hl, fun j x hx => by
        have hj : j < n := by rw [← HL.out]; exact (List.getElem?_eq_some_iff.1 hx).1
        have hx2 : upOf (slAt s.sl j) = x := by rw [← fu_ups (by rw [← HS.out.hn]; exact hj), HR.out, fu_at hx]
        rw [Nat.zero_add, hr, HB.out.cell j hj, if_pos (by omega), hx2]⟩
      clear q0 qf c3 hr
      generalize wr.setCell _ _ = w9 at e0 hB hI ⊢
      refine bodyPost_ret (by simp [results, Tryz.results39, go_sem, e0]; rfl) rfl ?_
      exact ⟨some ⟨G, 0, none⟩, n, by rw [HL.out], by rw [HL.out]; exact Nat.le_refl _, hI, hB⟩

/-! ### Clone -/
end Go.Proofs.YtkpbfbmkolgmgaaGreat
