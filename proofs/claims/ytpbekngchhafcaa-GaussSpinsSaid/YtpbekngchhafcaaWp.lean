/-
  The walk of the law GaussLong of reevelaw1. Condition: the lists lie in memory and have words in them.
-/
import Derived.Test.YtpbekngchhafcaaWo
import Derived.Laws.AppendOwnNone
namespace Go.Proofs.Ytpbekngchhafcaa
open Go.RowKit Flo

theorem rot_next (k a b : Int) : rotA ((k + 1) % 4) a b = -rotB (k % 4) a b ∧ rotB ((k + 1) % 4) a b = rotA (k % 4) a b := by
  have hk : k % 4 = 0 ∨ k % 4 = 1 ∨ k % 4 = 2 ∨ k % 4 = 3 := by omega
  have hs : (k + 1) % 4 = (k % 4 + 1) % 4 := by omega
  rw [hs]
  rcases hk with h | h | h | h <;> rw [h] <;> unfold rotA rotB <;> simp

theorem long_math (a b : Int) : ∀ (ys : List Int) (k u v s t : Int), u = res (rotA (k % 4) a b + s) → v = res (rotB (k % 4) a b + t) →
    (ys.foldl step (u, v)).1 = res (rotA ((k + ys.length) % 4) a b + (ys.foldl step (s, t)).1) ∧ (ys.foldl step (u, v)).2 = res (rotB ((k + ys.length) % 4) a b + (ys.foldl step (s, t)).2) := by
  intro ys
  induction ys with
  | nil => intro k u v s t hu hv; simp only [List.foldl_nil, List.length_nil]; rw [hu, hv]; simp
  | cons x r ih =>
    intro k u v s t hu hv
    have hr := rot_next k a b
    have h := ih (k + 1) (stepA u v x) (stepB u v x) (stepA s t x) (stepB s t x) (by
      rw [hr.1, hv]; unfold stepA res; generalize rotB (k % 4) a b = R; omega) (by
      rw [hr.2, hu]; unfold stepB res; generalize rotA (k % 4) a b = R; omega)
    have e : k + ((x :: r).length : Nat) = k + 1 + (r.length : Nat) := by simp; omega
    rw [e]
    exact h

theorem long_eq (zs ys : List Int) : res (rotA ((ys.length : Int) % 4) (spin zs).1 (spin zs).2 + (spin ys).1) = (spin (zs ++ ys)).1 ∧ res (rotB ((ys.length : Int) % 4) (spin zs).1 (spin zs).2 + (spin ys).2) = (spin (zs ++ ys)).2 := by
  have g := spin_range zs
  have h := long_math (spin zs).1 (spin zs).2 ys 0 (spin zs).1 (spin zs).2 0 0
    (by show _ = res ((spin zs).1 + 0); unfold res; omega) (by show _ = res ((spin zs).2 + 0); unfold res; omega)
  rw [Int.zero_add] at h
  have e : spin (zs ++ ys) = ys.foldl step (spin zs) := by unfold spin; rw [List.foldl_append]
  rw [e]
  exact ⟨h.1.symm, h.2.symm⟩

set_option maxHeartbeats 400000 in
theorem lrest_is (n : Int) (l : Hid (-8000000 ≤ n)) (u : Hid (n ≤ 8000000)) (w : World) :
    Calls Try.prog 29 #[.int .i64 n] w fun e w' => e = .returned (.int .i64 (res n)) ∧ w = w' := by
  have l := l.out
  have u := u.out
  obtain ⟨b1, b2, e1⟩ := tmod_facts n
  go_enter Try.func29, Try.ntmps29
  go_wp2
  go_ret
  exact ⟨rfl, rfl⟩

/-- words as cells -/
def wcells (zs : List Int) : List Value := zs.map (Value.int .u64)
theorem wcells_length (zs : List Int) : (wcells zs).length = zs.length := by unfold wcells; simp
theorem wcells_append (zs ys : List Int) : wcells (zs ++ ys) = wcells zs ++ wcells ys := by unfold wcells; simp
theorem wcells_get {zs : List Int} {j : Nat} {u : Value} (h : (wcells zs)[j]? = some u) : j < zs.length ∧ u = .int .u64 (zs.getD j 0) := by
  unfold wcells at h
  rw [List.getElem?_map] at h
  rcases Nat.lt_or_ge j zs.length with hj | hj
  · rw [List.getElem?_eq_getElem hj] at h
    refine ⟨hj, ?_⟩
    rw [List.getD, List.getElem?_eq_getElem hj]
    simpa using h.symm
  · rw [List.getElem?_eq_none hj] at h; cases h
theorem wcells_one {zs : List Int} : ∀ u ∈ wcells zs, u.oneCell' = true := by
  intro u hu
  unfold wcells at hu
  obtain ⟨x, _, rfl⟩ := List.mem_map.1 hu
  rfl

/-- a row of the call's own reads as a list of words -/
theorem owns_lies {w : World} {base n : Nat} {v : Value} {zs : List Int} (h : w.ownsRow base 30 1 v n (wcells zs)) : n = zs.length ∧ ∃ A cap, v = .slice A zs.length cap ∧ Lies w w.heap.size A zs := by
  obtain ⟨hlen, hv⟩ := h
  rw [wcells_length, Nat.mul_one] at hlen
  subst hlen
  refine ⟨rfl, ?_⟩
  rcases hv with ⟨rfl, h0⟩ | ⟨g, cap, cur, rfl, _, hg, _, _, hsz, hcur⟩
  · rw [h0]; exact ⟨none, 0, rfl, fun h => by omega⟩
  · refine ⟨_, cap, rfl, fun h0 => ⟨_, rfl, ?_, fun j hj => ?_⟩⟩
    · rcases Nat.lt_or_ge g w.heap.size with hlt | hge
      · exact hlt
      · rw [Array.getElem?_eq_none hge] at hg; cases hg
    · have ha : (⟨g, 0, none⟩ : Addr).add j = ⟨g, j, none⟩ := by unfold Addr.add; split <;> simp_all
      rw [ha]
      unfold World.cell?
      simp only [hg]
      have hz : cur.toList[j]? = some (.int .u64 (zs.getD j 0)) := by
        rw [Nat.mul_one] at hcur
        have hj' : (wcells zs)[j]? = some (.int .u64 (zs.getD j 0)) := by
          unfold wcells
          rw [List.getElem?_map, List.getD, List.getElem?_eq_getElem hj]; rfl
        rw [← hcur, List.getElem?_take_of_lt hj] at hj'
        exact hj'
      simpa using hz

theorem lies_cells {w : World} {B : Nat} {ad : Addr} {zs : List Int} (h : Lies w B (some ad) zs) : ∀ j u, (wcells zs)[j]? = some u → w.cell? (ad.add j) = some u := by
  intro j u hu
  obtain ⟨hj, rfl⟩ := wcells_get hu
  obtain ⟨ad', e, _, hc⟩ := h (by omega)
  cases e
  exact hc j hj

theorem info30 : (Try.prog.info? 30).map (fun i => (i.zero, i.size, i.bytes)) = some (some (.int .u64 0), 1, 8) := by kernel_rfl

theorem owns_new (w : World) {base : Nat} (h : base ≤ w.heap.size) : (w.alloc (.cells #[] 30)).ownsRow base 30 1 (.slice (some ⟨w.heap.size, 0, none⟩) 0 0) 0 [] :=
  ⟨rfl, .inr ⟨w.heap.size, 0, #[], rfl, h, heap_alloc_new w _, Nat.le_refl _, Nat.zero_le _, rfl, rfl⟩⟩

set_option maxRecDepth 100000 in
set_option maxHeartbeats 1000000 in
theorem long_ss (w : World) (ad : Addr) (cap : Nat) (zs : List Int) (hl : zs.length ≤ 60) (hL : Lies w w.heap.size (some ad) zs) (hW : Wds zs) (bd : Addr) (cap' : Nat) (ys : List Int) (hl' : ys.length ≤ 60) (hL' : Lies w w.heap.size (some bd) ys) (hW' : Wds ys) :
    Calls Try.prog 9 #[.slice (some ad) zs.length cap, .slice (some bd) ys.length cap'] w fun e w' => e = .returned (.bool true) ∧ Below w.heap.size w w' := by
  have HB := Lib.hid (Below.refl w.heap.size w)
  have hs : ∀ w', Below w.heap.size w w' → Calls Try.prog 18 #[.slice (some ad) zs.length cap] w' fun e w'' => e = .returned (.complex .f64 (F (spin zs).1) (F (spin zs).2)) ∧ Below w'.heap.size w' w'' :=
    fun w' hb => spin_any (some ad) cap zs w' (by unfold maxLen; omega) ((hL.below hb).more hb.size) hW
  have hs' : ∀ w', Below w.heap.size w w' → Calls Try.prog 18 #[.slice (some bd) ys.length cap'] w' fun e w'' => e = .returned (.complex .f64 (F (spin ys).1) (F (spin ys).2)) ∧ Below w'.heap.size w' w'' :=
    fun w' hb => spin_any (some bd) cap' ys w' (by unfold maxLen; omega) ((hL'.below hb).more hb.size) hW'
  have hleq := long_eq zs ys
  have r1 := spin_range zs
  have r2 := spin_range ys
  have r3 := spin_range (zs ++ ys)
  have HS := Lib.hid hs
  have HS' := Lib.hid hs'
  have LZ := Lib.hid hL
  have WZ := Lib.hid hW
  obtain ⟨m, hm⟩ : ∃ m, m = zs.length := ⟨_, rfl⟩
  rw [← hm] at hl ⊢
  simp only [← hm] at HS
  have HM := Lib.hid hm
  have LY := Lib.hid hL'
  have WY := Lib.hid hW'
  obtain ⟨n, hn⟩ : ∃ m, m = ys.length := ⟨_, rfl⟩
  rw [← hn] at hl' ⊢ hleq
  simp only [← hn] at HS'
  have HN := Lib.hid hn
  clear hs hs' hL hW hm hL' hW' hn
  obtain ⟨s1, hs1⟩ : ∃ s, (spin (zs ++ ys)).1 = s := ⟨_, rfl⟩
  obtain ⟨s2, hs2⟩ : ∃ s, (spin (zs ++ ys)).2 = s := ⟨_, rfl⟩
  rw [hs1, hs2] at hleq r3
  have S1 := Lib.hid hs1
  have S2 := Lib.hid hs2
  clear hs1 hs2
  generalize (spin zs).1 = p1 at HS hleq r1
  generalize (spin zs).2 = p2 at HS hleq r1
  generalize (spin ys).1 = q1 at HS' hleq r2
  generalize (spin ys).2 = q2 at HS' hleq r2
  obtain ⟨⟨a0, a1⟩, b0, b1⟩ := r1
  obtain ⟨⟨c0, c1⟩, d0, d1⟩ := r2
  obtain ⟨⟨e0, e1⟩, f0, f1⟩ := r3
  have TP1 := Lib.hid (small_T (n := p1) (by omega) (by omega))
  have TP2 := Lib.hid (small_T (n := p2) (by omega) (by omega))
  have TQ1 := Lib.hid (small_T (n := q1) (by omega) (by omega))
  have TQ2 := Lib.hid (small_T (n := q2) (by omega) (by omega))
  have TS1 := Lib.hid (small_T (n := s1) (by omega) (by omega))
  have TS2 := Lib.hid (small_T (n := s2) (by omega) (by omega))
  obtain ⟨u1, hu1⟩ : ∃ u, rotA ((n : Int) % 4) p1 p2 = u := ⟨_, rfl⟩
  obtain ⟨u2, hu2⟩ : ∃ u, rotB ((n : Int) % 4) p1 p2 = u := ⟨_, rfl⟩
  rw [hu1, hu2] at hleq
  have ru1 : -1000002 ≤ u1 ∧ u1 ≤ 1000002 := by rw [← hu1]; unfold rotA; (repeat' split) <;> omega
  have ru2 : -1000002 ≤ u2 ∧ u2 ≤ 1000002 := by rw [← hu2]; unfold rotB; (repeat' split) <;> omega
  have HU1 := Lib.hid hu1
  have HU2 := Lib.hid hu2
  clear hu1 hu2
  obtain ⟨u10, u11⟩ := ru1
  obtain ⟨u20, u21⟩ := ru2
  have TU1 := Lib.hid (small_T (n := u1) (by omega) (by omega))
  have TU2 := Lib.hid (small_T (n := u2) (by omega) (by omega))
  have X1 : Hid (-8000000 ≤ u1 + q1) := Lib.hid (by omega)
  have X2 : Hid (u1 + q1 ≤ 8000000) := Lib.hid (by omega)
  have X3 : Hid (-8000000 ≤ u2 + q2) := Lib.hid (by omega)
  have X4 : Hid (u2 + q2 ≤ 8000000) := Lib.hid (by omega)
  obtain ⟨l1, l2⟩ := hleq
  have hl : ¬ 60 < m := by omega
  have hl' : ¬ 60 < n := by omega
  obtain ⟨i0, hi, hz0, hz1, hz2⟩ := info_parts info30
  go_enter Try.func9, Try.ntmps9
  go_wp2_with (first
    | (go_at_call 10; refine (awake_any _).mono ?_; rintro e w' ⟨rfl, hb⟩; replace HB := Lib.hid (HB.out.trans (hb.mono HB.out.size)); clear hb)
    | (go_at_call 18; first
      | ((with_reducible refine (HS.out _ HB.out).mono ?_); rintro e w' ⟨rfl, hb⟩; replace HB := Lib.hid (HB.out.trans (hb.mono HB.out.size)); clear hb)
      | ((with_reducible refine (HS'.out _ HB.out).mono ?_); rintro e w' ⟨rfl, hb⟩; replace HB := Lib.hid (HB.out.trans (hb.mono HB.out.size)); clear hb))
    | (go_at_call 17; ((with_reducible refine (turn_is p1 p2 n u1 u2 TP1 TP2 HU1 HU2 _).mono ?_); rintro e w' ⟨rfl, hb⟩; replace HB := Lib.hid (HB.out.trans (hb.mono HB.out.size)); clear hb))
    | (go_at_call 14; first
      | ((with_reducible refine (parts_yes u1 u2 TU1 TU2 _).mono ?_); rintro e w' ⟨rfl, rfl⟩)
      | ((with_reducible refine (parts_yes q1 q2 TQ1 TQ2 _).mono ?_); rintro e w' ⟨rfl, rfl⟩))
    | (at_builtin; refine wpList_append_own _ rfl _ _ 36 rfl w.heap.size 30 i0 (.int .u64 0) 1 8 Try.underlying36 hi hz0 hz1 hz2 rfl (by decide) _ 0 [] rfl (owns_new _ HB.out.size) ad m cap (wcells zs) rfl ?c0 ?c1 ?c2 ?c3 ?c4 ?c5 ?_))
  case c0 => rw [wcells_length, HM.out, Nat.mul_one]
  case c1 => exact lies_cells (LZ.out.below (HB.out.alloc HB.out.size _))
  case c2 => exact wcells_one
  case c3 => unfold maxLen; omega
  case c4 => omega
  case c5 => have := HB.out.size; simp; omega
  intro v' w1 hown hgrow _
  have HB2 := Lib.hid ((HB.out.alloc HB.out.size _).grown hgrow (by have := HB.out.size; simp; omega) (fun k hk => by simp [Value.ownBlock] at hk; have := HB.out.size; omega))
  have HO := Lib.hid hown
  clear hown hgrow
  go_wp2_with (at_builtin; refine wpList_append_own _ rfl _ _ 36 rfl w.heap.size 30 i0 (.int .u64 0) 1 8 Try.underlying36 hi hz0 hz1 hz2 rfl (by decide) v' m (wcells zs) rfl HO.out bd n cap' (wcells ys) rfl ?d0 ?d1 ?d2 ?d3 ?d4 ?d5 ?_)
  case d0 => rw [wcells_length, HN.out, Nat.mul_one]
  case d1 => exact lies_cells (LY.out.below HB2.out)
  case d2 => exact wcells_one
  case d3 => unfold maxLen; omega
  case d4 => omega
  case d5 => exact HB2.out.size
  intro v2 w2 hown hgrow _
  have HB3 := Lib.hid (HB2.out.grown hgrow HB2.out.size (fun k hk => by
    rcases HO.out.2 with ⟨h1, _⟩ | ⟨g, _, _, h1, hg, _⟩
    · rw [h1] at hk; simp [Value.ownBlock] at hk
    · rw [h1] at hk; simp [Value.ownBlock] at hk; omega))
  rw [← wcells_append] at hown
  obtain ⟨_, A2, cap2, rfl, hL2⟩ := owns_lies hown
  have W2 : Wds (zs ++ ys) := fun x hx => (List.mem_append.1 hx).elim (WZ.out x) (WY.out x)
  have HC := Lib.hid (spin_any A2 cap2 (zs ++ ys) w2 (by rw [List.length_append, ← HM.out, ← HN.out]; unfold maxLen; omega) hL2 W2)
  rw [S1.out, S2.out] at HC
  clear hown hgrow hL2 W2
  generalize (zs ++ ys).length = len at *
  go_wp2_with (first
    | (go_at_call 18; ((refine HC.out.mono ?_); rintro e w' ⟨rfl, hb⟩; have HB4 := Lib.hid (HB3.out.trans (hb.mono HB3.out.size)); clear hb))
    | (go_at_call 14; ((with_reducible refine (parts_yes s1 s2 TS1 TS2 _).mono ?_); rintro e w' ⟨rfl, rfl⟩))
    | (go_at_call 29; first
      | ((with_reducible refine (lrest_is (u1 + q1) X1 X2 _).mono ?_); rintro e w' ⟨rfl, rfl⟩)
      | ((with_reducible refine (lrest_is (u2 + q2) X3 X4 _).mono ?_); rintro e w' ⟨rfl, rfl⟩)))
  go_ret
  exact ⟨rfl, HB4.out⟩

set_option maxRecDepth 100000 in
set_option maxHeartbeats 1000000 in
theorem long_sn (w : World) (ad : Addr) (cap : Nat) (zs : List Int) (hl : zs.length ≤ 60) (hL : Lies w w.heap.size (some ad) zs) (hW : Wds zs) :
    Calls Try.prog 9 #[.slice (some ad) zs.length cap, .slice none 0 0] w fun e w' => e = .returned (.bool true) ∧ Below w.heap.size w w' := by
  have HB := Lib.hid (Below.refl w.heap.size w)
  have hs : ∀ w', Below w.heap.size w w' → Calls Try.prog 18 #[.slice (some ad) zs.length cap] w' fun e w'' => e = .returned (.complex .f64 (F (spin zs).1) (F (spin zs).2)) ∧ Below w'.heap.size w' w'' :=
    fun w' hb => spin_any (some ad) cap zs w' (by unfold maxLen; omega) ((hL.below hb).more hb.size) hW
  have hs' : ∀ w', Below w.heap.size w w' → Calls Try.prog 18 #[.slice none 0 0] w' fun e w'' => e = .returned (.complex .f64 (F (spin []).1) (F (spin []).2)) ∧ Below w'.heap.size w' w'' :=
    fun w' _ => spin_any none 0 [] w' (Nat.zero_le _) (fun h => absurd h (by simp)) (fun x hx => by cases hx)
  have hleq : res (rotA ((0 : Int) % 4) (spin zs).1 (spin zs).2 + (spin []).1) = (spin (zs ++ [])).1 ∧ res (rotB ((0 : Int) % 4) (spin zs).1 (spin zs).2 + (spin []).2) = (spin (zs ++ [])).2 := long_eq zs []
  have r1 := spin_range zs
  have r2 := spin_range []
  have r3 := spin_range (zs ++ [])
  have HS := Lib.hid hs
  have HS' := Lib.hid hs'
  have LZ := Lib.hid hL
  have WZ := Lib.hid hW
  obtain ⟨m, hm⟩ : ∃ m, m = zs.length := ⟨_, rfl⟩
  rw [← hm] at hl ⊢
  simp only [← hm] at HS
  have HM := Lib.hid hm
  clear hs hs' hL hW hm
  obtain ⟨s1, hs1⟩ : ∃ s, (spin (zs ++ [])).1 = s := ⟨_, rfl⟩
  obtain ⟨s2, hs2⟩ : ∃ s, (spin (zs ++ [])).2 = s := ⟨_, rfl⟩
  rw [hs1, hs2] at hleq r3
  have S1 := Lib.hid hs1
  have S2 := Lib.hid hs2
  clear hs1 hs2
  generalize (spin zs).1 = p1 at HS hleq r1
  generalize (spin zs).2 = p2 at HS hleq r1
  generalize (spin []).1 = q1 at HS' hleq r2
  generalize (spin []).2 = q2 at HS' hleq r2
  obtain ⟨⟨a0, a1⟩, b0, b1⟩ := r1
  obtain ⟨⟨c0, c1⟩, d0, d1⟩ := r2
  obtain ⟨⟨e0, e1⟩, f0, f1⟩ := r3
  have TP1 := Lib.hid (small_T (n := p1) (by omega) (by omega))
  have TP2 := Lib.hid (small_T (n := p2) (by omega) (by omega))
  have TQ1 := Lib.hid (small_T (n := q1) (by omega) (by omega))
  have TQ2 := Lib.hid (small_T (n := q2) (by omega) (by omega))
  have TS1 := Lib.hid (small_T (n := s1) (by omega) (by omega))
  have TS2 := Lib.hid (small_T (n := s2) (by omega) (by omega))
  obtain ⟨u1, hu1⟩ : ∃ u, rotA ((0 : Int) % 4) p1 p2 = u := ⟨_, rfl⟩
  obtain ⟨u2, hu2⟩ : ∃ u, rotB ((0 : Int) % 4) p1 p2 = u := ⟨_, rfl⟩
  rw [hu1, hu2] at hleq
  have ru1 : -1000002 ≤ u1 ∧ u1 ≤ 1000002 := by rw [← hu1]; unfold rotA; (repeat' split) <;> omega
  have ru2 : -1000002 ≤ u2 ∧ u2 ≤ 1000002 := by rw [← hu2]; unfold rotB; (repeat' split) <;> omega
  have HU1 := Lib.hid hu1
  have HU2 := Lib.hid hu2
  clear hu1 hu2
  obtain ⟨u10, u11⟩ := ru1
  obtain ⟨u20, u21⟩ := ru2
  have TU1 := Lib.hid (small_T (n := u1) (by omega) (by omega))
  have TU2 := Lib.hid (small_T (n := u2) (by omega) (by omega))
  have X1 : Hid (-8000000 ≤ u1 + q1) := Lib.hid (by omega)
  have X2 : Hid (u1 + q1 ≤ 8000000) := Lib.hid (by omega)
  have X3 : Hid (-8000000 ≤ u2 + q2) := Lib.hid (by omega)
  have X4 : Hid (u2 + q2 ≤ 8000000) := Lib.hid (by omega)
  obtain ⟨l1, l2⟩ := hleq
  have hl : ¬ 60 < m := by omega
  obtain ⟨i0, hi, hz0, hz1, hz2⟩ := info_parts info30
  go_enter Try.func9, Try.ntmps9
  go_wp2_with (first
    | (go_at_call 10; refine (awake_any _).mono ?_; rintro e w' ⟨rfl, hb⟩; replace HB := Lib.hid (HB.out.trans (hb.mono HB.out.size)); clear hb)
    | (go_at_call 18; first
      | ((with_reducible refine (HS.out _ HB.out).mono ?_); rintro e w' ⟨rfl, hb⟩; replace HB := Lib.hid (HB.out.trans (hb.mono HB.out.size)); clear hb)
      | ((with_reducible refine (HS'.out _ HB.out).mono ?_); rintro e w' ⟨rfl, hb⟩; replace HB := Lib.hid (HB.out.trans (hb.mono HB.out.size)); clear hb))
    | (go_at_call 17; ((with_reducible refine (turn_is p1 p2 0 u1 u2 TP1 TP2 HU1 HU2 _).mono ?_); rintro e w' ⟨rfl, hb⟩; replace HB := Lib.hid (HB.out.trans (hb.mono HB.out.size)); clear hb))
    | (go_at_call 14; first
      | ((with_reducible refine (parts_yes u1 u2 TU1 TU2 _).mono ?_); rintro e w' ⟨rfl, rfl⟩)
      | ((with_reducible refine (parts_yes q1 q2 TQ1 TQ2 _).mono ?_); rintro e w' ⟨rfl, rfl⟩))
    | (at_builtin; refine wpList_append_own _ rfl _ _ 36 rfl w.heap.size 30 i0 (.int .u64 0) 1 8 Try.underlying36 hi hz0 hz1 hz2 rfl (by decide) _ 0 [] rfl (owns_new _ HB.out.size) ad m cap (wcells zs) rfl ?c0 ?c1 ?c2 ?c3 ?c4 ?c5 ?_))
  case c0 => rw [wcells_length, HM.out, Nat.mul_one]
  case c1 => exact lies_cells (LZ.out.below (HB.out.alloc HB.out.size _))
  case c2 => exact wcells_one
  case c3 => unfold maxLen; omega
  case c4 => omega
  case c5 => have := HB.out.size; simp; omega
  intro v' w1 hown hgrow _
  have HB2 := Lib.hid ((HB.out.alloc HB.out.size _).grown hgrow (by have := HB.out.size; simp; omega) (fun k hk => by simp [Value.ownBlock] at hk; have := HB.out.size; omega))
  have HO := Lib.hid hown
  clear hown hgrow
  have HB3 := HB2
  have hown : w1.ownsRow w.heap.size 30 1 v' m (wcells (zs ++ [])) := by rw [List.append_nil]; exact HO.out
  have HN : Hid (0 = ([] : List Int).length) := Lib.hid rfl
  have WY : Hid (Wds []) := Lib.hid (fun x hx => by cases hx)
  obtain ⟨_, A2, cap2, hv2, hL2⟩ := owns_lies hown
  have HV := Lib.hid hv2
  clear hv2
  have W2 : Wds (zs ++ []) := fun x hx => (List.mem_append.1 hx).elim (WZ.out x) (WY.out x)
  have HC := Lib.hid (spin_any A2 cap2 (zs ++ []) w1 (by rw [List.length_append, ← HM.out, ← HN.out]; unfold maxLen; omega) hL2 W2)
  rw [S1.out, S2.out] at HC
  clear hown hL2 W2 HB2 HN WY
  generalize (zs ++ []).length = len at *
  go_wp2_with (first
    | (at_builtin; ((refine wpList_append_own_none rfl _ _ 36 rfl w.heap.size 30 i0 1 Try.underlying36 hi v' m (wcells zs) rfl HO.out rfl ?_); (first | (have hv3 := HV.out; subst hv3) | skip)))
    | (go_at_call 18; ((refine HC.out.mono ?_); rintro e w' ⟨rfl, hb⟩; have HB4 := Lib.hid (HB3.out.trans (hb.mono HB3.out.size)); clear hb))
    | (go_at_call 14; ((with_reducible refine (parts_yes s1 s2 TS1 TS2 _).mono ?_); rintro e w' ⟨rfl, rfl⟩))
    | (go_at_call 29; first
      | ((with_reducible refine (lrest_is (u1 + q1) X1 X2 _).mono ?_); rintro e w' ⟨rfl, rfl⟩)
      | ((with_reducible refine (lrest_is (u2 + q2) X3 X4 _).mono ?_); rintro e w' ⟨rfl, rfl⟩)))
  go_ret
  exact ⟨rfl, HB4.out⟩

set_option maxRecDepth 100000 in
set_option maxHeartbeats 1000000 in
theorem long_ns (w : World) (bd : Addr) (cap' : Nat) (ys : List Int) (hl' : ys.length ≤ 60) (hL' : Lies w w.heap.size (some bd) ys) (hW' : Wds ys) :
    Calls Try.prog 9 #[.slice none 0 0, .slice (some bd) ys.length cap'] w fun e w' => e = .returned (.bool true) ∧ Below w.heap.size w w' := by
  have HB := Lib.hid (Below.refl w.heap.size w)
  have hs' : ∀ w', Below w.heap.size w w' → Calls Try.prog 18 #[.slice (some bd) ys.length cap'] w' fun e w'' => e = .returned (.complex .f64 (F (spin ys).1) (F (spin ys).2)) ∧ Below w'.heap.size w' w'' :=
    fun w' hb => spin_any (some bd) cap' ys w' (by unfold maxLen; omega) ((hL'.below hb).more hb.size) hW'
  have hs : ∀ w', Below w.heap.size w w' → Calls Try.prog 18 #[.slice none 0 0] w' fun e w'' => e = .returned (.complex .f64 (F (spin []).1) (F (spin []).2)) ∧ Below w'.heap.size w' w'' :=
    fun w' _ => spin_any none 0 [] w' (Nat.zero_le _) (fun h => absurd h (by simp)) (fun x hx => by cases hx)
  have hleq := long_eq [] ys
  have r1 := spin_range []
  have r2 := spin_range ys
  have r3 := spin_range ([] ++ ys)
  have HS := Lib.hid hs
  have HS' := Lib.hid hs'
  have LY := Lib.hid hL'
  have WY := Lib.hid hW'
  obtain ⟨n, hn⟩ : ∃ m, m = ys.length := ⟨_, rfl⟩
  rw [← hn] at hl' ⊢ hleq
  simp only [← hn] at HS'
  have HN := Lib.hid hn
  clear hs hs' hL' hW' hn
  obtain ⟨s1, hs1⟩ : ∃ s, (spin ([] ++ ys)).1 = s := ⟨_, rfl⟩
  obtain ⟨s2, hs2⟩ : ∃ s, (spin ([] ++ ys)).2 = s := ⟨_, rfl⟩
  rw [hs1, hs2] at hleq r3
  have S1 := Lib.hid hs1
  have S2 := Lib.hid hs2
  clear hs1 hs2
  generalize (spin []).1 = p1 at HS hleq r1
  generalize (spin []).2 = p2 at HS hleq r1
  generalize (spin ys).1 = q1 at HS' hleq r2
  generalize (spin ys).2 = q2 at HS' hleq r2
  obtain ⟨⟨a0, a1⟩, b0, b1⟩ := r1
  obtain ⟨⟨c0, c1⟩, d0, d1⟩ := r2
  obtain ⟨⟨e0, e1⟩, f0, f1⟩ := r3
  have TP1 := Lib.hid (small_T (n := p1) (by omega) (by omega))
  have TP2 := Lib.hid (small_T (n := p2) (by omega) (by omega))
  have TQ1 := Lib.hid (small_T (n := q1) (by omega) (by omega))
  have TQ2 := Lib.hid (small_T (n := q2) (by omega) (by omega))
  have TS1 := Lib.hid (small_T (n := s1) (by omega) (by omega))
  have TS2 := Lib.hid (small_T (n := s2) (by omega) (by omega))
  obtain ⟨u1, hu1⟩ : ∃ u, rotA ((n : Int) % 4) p1 p2 = u := ⟨_, rfl⟩
  obtain ⟨u2, hu2⟩ : ∃ u, rotB ((n : Int) % 4) p1 p2 = u := ⟨_, rfl⟩
  rw [hu1, hu2] at hleq
  have ru1 : -1000002 ≤ u1 ∧ u1 ≤ 1000002 := by rw [← hu1]; unfold rotA; (repeat' split) <;> omega
  have ru2 : -1000002 ≤ u2 ∧ u2 ≤ 1000002 := by rw [← hu2]; unfold rotB; (repeat' split) <;> omega
  have HU1 := Lib.hid hu1
  have HU2 := Lib.hid hu2
  clear hu1 hu2
  obtain ⟨u10, u11⟩ := ru1
  obtain ⟨u20, u21⟩ := ru2
  have TU1 := Lib.hid (small_T (n := u1) (by omega) (by omega))
  have TU2 := Lib.hid (small_T (n := u2) (by omega) (by omega))
  have X1 : Hid (-8000000 ≤ u1 + q1) := Lib.hid (by omega)
  have X2 : Hid (u1 + q1 ≤ 8000000) := Lib.hid (by omega)
  have X3 : Hid (-8000000 ≤ u2 + q2) := Lib.hid (by omega)
  have X4 : Hid (u2 + q2 ≤ 8000000) := Lib.hid (by omega)
  obtain ⟨l1, l2⟩ := hleq
  have hl' : ¬ 60 < n := by omega
  obtain ⟨i0, hi, hz0, hz1, hz2⟩ := info_parts info30
  go_enter Try.func9, Try.ntmps9
  go_wp2_with (first
    | (go_at_call 10; refine (awake_any _).mono ?_; rintro e w' ⟨rfl, hb⟩; replace HB := Lib.hid (HB.out.trans (hb.mono HB.out.size)); clear hb)
    | (go_at_call 18; first
      | ((with_reducible refine (HS.out _ HB.out).mono ?_); rintro e w' ⟨rfl, hb⟩; replace HB := Lib.hid (HB.out.trans (hb.mono HB.out.size)); clear hb)
      | ((with_reducible refine (HS'.out _ HB.out).mono ?_); rintro e w' ⟨rfl, hb⟩; replace HB := Lib.hid (HB.out.trans (hb.mono HB.out.size)); clear hb))
    | (go_at_call 17; ((with_reducible refine (turn_is p1 p2 n u1 u2 TP1 TP2 HU1 HU2 _).mono ?_); rintro e w' ⟨rfl, hb⟩; replace HB := Lib.hid (HB.out.trans (hb.mono HB.out.size)); clear hb))
    | (go_at_call 14; first
      | ((with_reducible refine (parts_yes u1 u2 TU1 TU2 _).mono ?_); rintro e w' ⟨rfl, rfl⟩)
      | ((with_reducible refine (parts_yes q1 q2 TQ1 TQ2 _).mono ?_); rintro e w' ⟨rfl, rfl⟩))
    | (at_builtin; refine wpList_append_own_none rfl _ _ 36 rfl w.heap.size 30 i0 1 Try.underlying36 hi _ 0 (wcells []) rfl (owns_new _ HB.out.size) rfl ?_)
    | (at_builtin; refine wpList_append_own _ rfl _ _ 36 rfl w.heap.size 30 i0 (.int .u64 0) 1 8 Try.underlying36 hi hz0 hz1 hz2 rfl (by decide) _ 0 (wcells []) rfl (owns_new _ HB.out.size) bd n cap' (wcells ys) rfl ?d0 ?d1 ?d2 ?d3 ?d4 ?d5 ?_))
  case d0 => rw [wcells_length, HN.out, Nat.mul_one]
  case d1 => exact lies_cells (LY.out.below (HB.out.alloc HB.out.size _))
  case d2 => exact wcells_one
  case d3 => unfold maxLen; omega
  case d4 => omega
  case d5 => have := HB.out.size; simp; omega
  intro v2 w2 hown hgrow _
  have HB3 := Lib.hid ((HB.out.alloc HB.out.size _).grown hgrow (by have := HB.out.size; simp; omega) (fun k hk => by simp [Value.ownBlock] at hk; have := HB.out.size; omega))
  have hown : w2.ownsRow w.heap.size 30 1 v2 (0 + n) (wcells ([] ++ ys)) := by simpa [wcells] using hown
  have HM : Hid (0 = ([] : List Int).length) := Lib.hid rfl
  have WZ : Hid (Wds []) := Lib.hid (fun x hx => by cases hx)
  obtain ⟨_, A2, cap2, rfl, hL2⟩ := owns_lies hown
  have W2 : Wds ([] ++ ys) := fun x hx => (List.mem_append.1 hx).elim (WZ.out x) (WY.out x)
  have HC := Lib.hid (spin_any A2 cap2 ([] ++ ys) w2 (by rw [List.length_append, ← HM.out, ← HN.out]; unfold maxLen; omega) hL2 W2)
  rw [S1.out, S2.out] at HC
  clear hown hgrow hL2 W2 HM WZ
  generalize ([] ++ ys).length = len at *
  go_wp2_with (first
    | (go_at_call 18; ((refine HC.out.mono ?_); rintro e w' ⟨rfl, hb⟩; have HB4 := Lib.hid (HB3.out.trans (hb.mono HB3.out.size)); clear hb))
    | (go_at_call 14; ((with_reducible refine (parts_yes s1 s2 TS1 TS2 _).mono ?_); rintro e w' ⟨rfl, rfl⟩))
    | (go_at_call 29; first
      | ((with_reducible refine (lrest_is (u1 + q1) X1 X2 _).mono ?_); rintro e w' ⟨rfl, rfl⟩)
      | ((with_reducible refine (lrest_is (u2 + q2) X3 X4 _).mono ?_); rintro e w' ⟨rfl, rfl⟩)))
  go_ret
  exact ⟨rfl, HB4.out⟩

theorem z_turn (w : World) : Calls Try.prog 17 #[.complex .f64 0 0, .int .i64 0] w fun e w' => e = .returned (.complex .f64 0 0) ∧ Below w.heap.size w w' := by
  have h := turn_is 0 0 0 0 0 (Lib.hid (by decide)) (Lib.hid (by decide)) (Lib.hid (by decide)) (Lib.hid (by decide)) w
  rw [c_zero] at h; exact h
theorem z_parts (w : World) : Calls Try.prog 14 #[.complex .f64 0 0] w fun e w' => e = .returned (.tuple #[.int .i64 0, .int .i64 0, .bool true]) ∧ w = w' := by
  have h := parts_yes 0 0 (Lib.hid (by decide)) (Lib.hid (by decide)) w
  rw [c_zero] at h; exact h
theorem z_spin (A : Option Addr) (w : World) : Calls Try.prog 18 #[.slice A 0 0] w fun e w' => e = .returned (.complex .f64 0 0) ∧ Below w.heap.size w w' := by
  have h := spin_any A 0 [] w (Nat.zero_le _) (fun h => absurd h (by simp)) (fun x hx => by cases hx)
  have e : spin [] = (0, 0) := rfl
  rw [e] at h
  simp only [c_zero] at h
  exact h
theorem z_rest (w : World) : Calls Try.prog 29 #[.int .i64 0] w fun e w' => e = .returned (.int .i64 0) ∧ w = w' := lrest_is 0 (Lib.hid (by decide)) (Lib.hid (by decide)) w

set_option maxRecDepth 100000 in
set_option maxHeartbeats 1000000 in
theorem long_nn (w : World) :
    Calls Try.prog 9 #[.slice none 0 0, .slice none 0 0] w fun e w' => e = .returned (.bool true) ∧ Below w.heap.size w w' := by
  have HB := Lib.hid (Below.refl w.heap.size w)
  obtain ⟨i0, hi, hz0, hz1, hz2⟩ := info_parts info30
  go_enter Try.func9, Try.ntmps9
  go_wp2_with (first
    | (go_at_call 10; refine (awake_any _).mono ?_; rintro e w' ⟨rfl, hb⟩; replace HB := Lib.hid (HB.out.trans (hb.mono HB.out.size)); clear hb)
    | (go_at_call 18; first
      | ((with_reducible refine (spin_nil _).mono ?_); rintro e w' ⟨rfl, hb⟩; replace HB := Lib.hid (HB.out.trans (hb.mono HB.out.size)); clear hb)
      | (refine (z_spin _ _).mono ?_; rintro e w' ⟨rfl, hb⟩; first | replace HB := Lib.hid (HB.out.trans (hb.mono HB.out.size)) | replace HB := Lib.hid ((HB.out.alloc HB.out.size (.cells #[] 30)).trans (hb.mono ((HB.out.alloc HB.out.size (.cells #[] 30)).size))); clear hb))
    | (go_at_call 17; ((with_reducible refine (z_turn _).mono ?_); rintro e w' ⟨rfl, hb⟩; replace HB := Lib.hid (HB.out.trans (hb.mono HB.out.size)); clear hb))
    | (go_at_call 14; ((with_reducible refine (z_parts _).mono ?_); rintro e w' ⟨rfl, rfl⟩))
    | (go_at_call 29; ((with_reducible refine (z_rest _).mono ?_); rintro e w' ⟨rfl, rfl⟩))
    | (at_builtin; refine wpList_append_own_none rfl _ _ 36 rfl w.heap.size 30 i0 1 Try.underlying36 hi _ 0 (wcells []) rfl (owns_new _ HB.out.size) rfl ?_))
  go_ret
  exact ⟨rfl, HB.out⟩

set_option maxHeartbeats 1000000 in
theorem long_far (A B : Option Addr) (m n cap cap' : Nat) (hm : m ≤ 9223372036854775807) (hn : n ≤ 9223372036854775807) (h : 60 < m ∨ ¬ 60 < m ∧ 60 < n) (w : World) :
    Calls Try.prog 9 #[.slice A m cap, .slice B n cap'] w fun e w' => e = .returned (.bool true) ∧ Below w.heap.size w w' := by
  have HB := Lib.hid (Below.refl w.heap.size w)
  rcases h with h | ⟨h, h2⟩
  all_goals
    go_enter Try.func9, Try.ntmps9
    go_wp2_with (go_at_call 10; refine (awake_any _).mono ?_; rintro e w' ⟨rfl, hb⟩; replace HB := Lib.hid (HB.out.trans (hb.mono HB.out.size)); clear hb)
    go_ret
    exact ⟨rfl, HB.out⟩
end Go.Proofs.Ytpbekngchhafcaa
