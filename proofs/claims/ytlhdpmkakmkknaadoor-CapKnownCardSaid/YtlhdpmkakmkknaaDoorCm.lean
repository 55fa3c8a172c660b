/-
  The walk of the law CapKnown: it answers true. No condition.
-/
import Derived.Test.YtlhdpmkakmkknaaDoorCh
namespace Go.Proofs.YtlhdpmkakmkknaaDoor
open Go.RowKit

/-- nine that may not be -/
def bad : List Cp := [⟨6, 0, 0, 0⟩, ⟨-1, 0, 0, 0⟩, ⟨0, 1, 0, 0⟩, ⟨1, 48, 0, 0⟩, ⟨1, -1, 0, 0⟩, ⟨2, 0, 8, 0⟩, ⟨3, 0, 0, 65536⟩, ⟨5, 0, 0, 1⟩, ⟨0, 0, 1, 0⟩]
theorem bad_all : ∀ c ∈ bad, c.good = false := by decide
def ccells (l : List Cp) : List Value := l.flatMap fun c => [.int .i64 c.ty, .int .i64 c.th, .int .i64 c.ri, .int .i64 c.ba]
theorem ccells_get {l : List Cp} {j : Nat} {c : Cp} (h : l[j]? = some c) : (ccells l)[j * 4]? = some (.int .i64 c.ty) ∧ (ccells l)[j * 4 + 1]? = some (.int .i64 c.th) ∧ (ccells l)[j * 4 + 2]? = some (.int .i64 c.ri) ∧ (ccells l)[j * 4 + 3]? = some (.int .i64 c.ba) := by
  induction l generalizing j with
  | nil => simp at h
  | cons y l ih =>
    unfold ccells at ih ⊢
    cases j with
    | zero => simp at h; subst h; simp
    | succ j =>
      obtain ⟨h0, h1, h2, h3⟩ := ih (by simpa using h)
      rw [List.flatMap_cons]
      refine ⟨?_, ?_, ?_, ?_⟩
      · rw [List.getElem?_append_right (by simp; omega), show (j + 1) * 4 - [Value.int .i64 y.ty, .int .i64 y.th, .int .i64 y.ri, .int .i64 y.ba].length = j * 4 by simp; omega]; exact h0
      · rw [List.getElem?_append_right (by simp; omega), show (j + 1) * 4 + 1 - [Value.int .i64 y.ty, .int .i64 y.th, .int .i64 y.ri, .int .i64 y.ba].length = j * 4 + 1 by simp; omega]; exact h1
      · rw [List.getElem?_append_right (by simp; omega), show (j + 1) * 4 + 2 - [Value.int .i64 y.ty, .int .i64 y.th, .int .i64 y.ri, .int .i64 y.ba].length = j * 4 + 2 by simp; omega]; exact h2
      · rw [List.getElem?_append_right (by simp; omega), show (j + 1) * 4 + 3 - [Value.int .i64 y.ty, .int .i64 y.th, .int .i64 y.ri, .int .i64 y.ba].length = j * 4 + 3 by simp; omega]; exact h3

/-- they lie in a block -/
structure Bad (W w : World) (B : Nat) : Prop where
  cells : ∀ (j : Nat) (c : Cp), bad[j]? = some c → w.cell? ⟨B, j * 4, none⟩ = some (.int .i64 c.ty) ∧ w.cell? ⟨B, j * 4 + 1, none⟩ = some (.int .i64 c.th) ∧ w.cell? ⟨B, j * 4 + 2, none⟩ = some (.int .i64 c.ri) ∧ w.cell? ⟨B, j * 4 + 3, none⟩ = some (.int .i64 c.ba)
  lt : B < w.heap.size
  old : Below W.heap.size W w
theorem Bad.on {W w w' : World} {B : Nat} (h : Bad W w B) (hb : Below w.heap.size w w') : Bad W w' B := by
  refine ⟨fun j c hc => ?_, Nat.lt_of_lt_of_le h.lt hb.size, below_on h.old hb⟩
  obtain ⟨h0, h1, h2, h3⟩ := h.cells j c hc
  exact ⟨by rw [hb.cell (p := ⟨B, _, none⟩) h.lt]; exact h0, by rw [hb.cell (p := ⟨B, _, none⟩) h.lt]; exact h1, by rw [hb.cell (p := ⟨B, _, none⟩) h.lt]; exact h2, by rw [hb.cell (p := ⟨B, _, none⟩) h.lt]; exact h3⟩
theorem Bad.new {W w : World} (h : Below W.heap.size W w) (t : TypeId) : Bad W (w.alloc (.cells #[.int .i64 6, .int .i64 0, .int .i64 0, .int .i64 0, .int .i64 (-1), .int .i64 0, .int .i64 0, .int .i64 0, .int .i64 0, .int .i64 1, .int .i64 0, .int .i64 0, .int .i64 1, .int .i64 48, .int .i64 0, .int .i64 0, .int .i64 1, .int .i64 (-1), .int .i64 0, .int .i64 0, .int .i64 2, .int .i64 0, .int .i64 8, .int .i64 0, .int .i64 3, .int .i64 0, .int .i64 0, .int .i64 65536, .int .i64 5, .int .i64 0, .int .i64 0, .int .i64 1, .int .i64 0, .int .i64 0, .int .i64 1, .int .i64 0] t)) w.heap.size := by
  refine ⟨fun j c hc => ?_, by simp, below_on h (below_alloc _ _)⟩
  have hg := heap_alloc_new w (.cells (ccells bad).toArray t)
  obtain ⟨h0, h1, h2, h3⟩ := ccells_get hc
  show (w.alloc (.cells (ccells bad).toArray t)).cell? _ = _ ∧ (w.alloc (.cells (ccells bad).toArray t)).cell? _ = _ ∧ (w.alloc (.cells (ccells bad).toArray t)).cell? _ = _ ∧ (w.alloc (.cells (ccells bad).toArray t)).cell? _ = _
  refine ⟨?_, ?_, ?_, ?_⟩
  · rw [cell_of_row _ _ _ _ _ _ hg]; simpa using h0
  · rw [cell_of_row _ _ _ _ _ _ hg]; simpa using h1
  · rw [cell_of_row _ _ _ _ _ _ hg]; simpa using h2
  · rw [cell_of_row _ _ _ _ _ _ hg]; simpa using h3

theorem stamp_to {a0 a1 a2 a3 n s0 s1 s2 s3 e : Int} (h : Cp.stamp ⟨a0, a1, a2, a3⟩ n = (⟨s0, s1, s2, s3⟩, e)) (w : World) :
    Calls Tryd.prog 10 #[.agg #[.int .i64 a0, .int .i64 a1, .int .i64 a2, .int .i64 a3], .int .i64 n] w fun v w' => v = .returned (.tuple #[.agg #[.int .i64 s0, .int .i64 s1, .int .i64 s2, .int .i64 s3], .int .i64 e]) ∧ Below w.heap.size w w' := by
  have := stamp_any ⟨a0, a1, a2, a3⟩ n w
  rw [h] at this
  exact this
theorem stamp_bad {a b d f : Int} (h : Cp.good ⟨a, b, d, f⟩ = false) (w : World) :
    Calls Tryd.prog 10 #[.agg #[.int .i64 a, .int .i64 b, .int .i64 d, .int .i64 f], .int .i64 1] w fun v w' => v = .returned (.tuple #[.agg #[.int .i64 0, .int .i64 0, .int .i64 0, .int .i64 0], .int .i64 1]) ∧ Below w.heap.size w w' :=
  stamp_to (by rw [Cp.stamp, if_neg (fun q => by rw [h] at q; cases q.1)]; rfl) w
theorem cut_bad {a b d f : Int} (h : Cp.good ⟨a, b, d, f⟩ = false) (r : Int) (w : World) :
    Calls Tryd.prog 13 #[.agg #[.int .i64 a, .int .i64 b, .int .i64 d, .int .i64 f], .int .i64 r] w fun e w' => e = .returned (.agg #[.int .i64 0, .int .i64 0, .int .i64 0, .int .i64 0]) ∧ Below w.heap.size w w' := cut_no h r w
theorem less_to {a0 a1 a2 a3 b0 b1 b2 b3 : Int} {z : Bool} (h : Cp.less ⟨a0, a1, a2, a3⟩ ⟨b0, b1, b2, b3⟩ = z) (w : World) :
    Calls Tryd.prog 16 #[.agg #[.int .i64 a0, .int .i64 a1, .int .i64 a2, .int .i64 a3], .agg #[.int .i64 b0, .int .i64 b1, .int .i64 b2, .int .i64 b3]] w fun e w' => e = .returned (.bool z) ∧ Below w.heap.size w w' := h ▸ cless_any ⟨a0, a1, a2, a3⟩ ⟨b0, b1, b2, b3⟩ w
theorem k_st1 : Cp.stamp ⟨3, 5, 6, 0⟩ 9 = (⟨3, 5, 6, 9⟩, 0) := by kernel_rfl
theorem k_st2 : Cp.stamp ⟨3, 5, 6, 0⟩ 0 = (⟨0, 0, 0, 0⟩, 1) := by kernel_rfl
theorem k_st3 : Cp.stamp ⟨5, 0, 0, 0⟩ 9 = (⟨0, 0, 0, 0⟩, 7) := by kernel_rfl
theorem k_st4 : Cp.stamp ⟨3, 5, 2, 9⟩ 9 = (⟨0, 0, 0, 0⟩, 5) := by kernel_rfl
theorem k_st5 : Cp.stamp ⟨0, 0, 0, 0⟩ 9 = (⟨0, 0, 0, 0⟩, 7) := by kernel_rfl
theorem k_l1 : Cp.less ⟨3, 5, 2, 9⟩ ⟨3, 5, 6, 0⟩ = true := by kernel_rfl
theorem k_l2 : Cp.less ⟨3, 5, 6, 0⟩ ⟨3, 5, 2, 9⟩ = false := by kernel_rfl
theorem k_l3 : Cp.less ⟨0, 0, 0, 0⟩ ⟨3, 5, 2, 9⟩ = true := by kernel_rfl
theorem k_l4 : Cp.less ⟨3, 5, 2, 9⟩ ⟨0, 0, 0, 0⟩ = false := by kernel_rfl
theorem k_l5 : Cp.less ⟨3, 5, 0, 8⟩ ⟨3, 5, 2, 9⟩ = false := by kernel_rfl
theorem k_word (w : World) : Calls Tryd.prog 9 #[.agg #[.int .i64 3, .int .i64 5, .int .i64 2, .int .i64 9]] w fun e w' => e = .returned (.tuple #[.int .u64 21475426819, .bool true]) ∧ Below w.heap.size w w' := word_to (m := 21475426819) (by kernel_rfl) w
theorem k_get1 (w : World) : Calls Tryd.prog 14 #[.int .u64 281496452137475] w fun e w' => e = .returned (.tuple #[.agg #[.int .i64 0, .int .i64 0, .int .i64 0, .int .i64 0], .bool false]) ∧ Below w.heap.size w w' := get_no (z := 281496452137475) (by decide) (by kernel_rfl) w
theorem k_get2 (w : World) : Calls Tryd.prog 14 #[.int .u64 6] w fun e w' => e = .returned (.tuple #[.agg #[.int .i64 0, .int .i64 0, .int .i64 0, .int .i64 0], .bool false]) ∧ Below w.heap.size w w' := get_no (z := 6) (by decide) (by kernel_rfl) w
theorem k_cut (w : World) : Calls Tryd.prog 13 #[.agg #[.int .i64 3, .int .i64 5, .int .i64 6, .int .i64 0], .int .i64 3] w fun e w' => e = .returned (.agg #[.int .i64 3, .int .i64 5, .int .i64 2, .int .i64 0]) ∧ Below w.heap.size w w' := cut_yes (m := 2) (by kernel_rfl) (by kernel_rfl) w
def KnownRel (W : World) (B : Nat) (k : Nat) (q : Value) (wr : World) : Prop := ∃ i : Nat, k + i = 9 ∧ q = .int .i64 i ∧ Bad W wr B

set_option maxRecDepth 100000 in
set_option maxHeartbeats 16000000 in
theorem known_walk (w : World) : Calls Tryd.prog 3 #[] w fun e w' => e = .returned (.bool true) ∧ Below w.heap.size w w' := by
  have HE : Hid (∀ w, (Op.equalIn 10000 24 (.agg #[.int .i64 0, .int .i64 0, .int .i64 0, .int .i64 0]) (.agg #[.int .i64 0, .int .i64 0, .int .i64 0, .int .i64 0])).run Tryd.prog w = .ok true w) := Lib.hid fun w => eq24 .none .none w
  go_enter Tryd.func3, Tryd.ntmps3
  go_wp2_with fail
  refine (awake_any w).mono ?_
  rintro e w1 ⟨rfl, hb⟩
  have hB := Bad.new hb 24
  clear hb
  go_wp2_with fail
  obtain ⟨B, hBB⟩ : ∃ B, w1.heap.size = B := ⟨_, rfl⟩
  rw [hBB] at hB ⊢
  clear hBB
  generalize w1.alloc (.cells #[.int .i64 6, .int .i64 0, .int .i64 0, .int .i64 0, .int .i64 (-1), .int .i64 0, .int .i64 0, .int .i64 0, .int .i64 0, .int .i64 1, .int .i64 0, .int .i64 0, .int .i64 1, .int .i64 48, .int .i64 0, .int .i64 0, .int .i64 1, .int .i64 (-1), .int .i64 0, .int .i64 0, .int .i64 2, .int .i64 0, .int .i64 8, .int .i64 0, .int .i64 3, .int .i64 0, .int .i64 0, .int .i64 65536, .int .i64 5, .int .i64 0, .int .i64 0, .int .i64 1, .int .i64 0, .int .i64 0, .int .i64 1, .int .i64 0] 24) = w2 at hB ⊢
  have HB := Lib.hid hB
  clear hB
  go_loopg [2] 9 (fun k q wr => KnownRel w B k q wr)
  case atStart => exact ⟨0, by omega, rfl, HB.out⟩
  case round =>
    obtain ⟨i, hk, rfl, hB⟩ := hrel
    have HK := Lib.hid hk
    clear HB hk
    by_cases hlt : i < 9
    · obtain ⟨⟨a, b, d, f⟩, hc⟩ : ∃ c, bad[i]? = some c := ⟨bad[i]'hlt, List.getElem?_eq_getElem _⟩
      have hg : Cp.good ⟨a, b, d, f⟩ = false := bad_all _ (List.mem_of_getElem? hc)
      have HG := Lib.hid hg
      have HC := Lib.hid hc
      obtain ⟨k0, k1, k2, k3⟩ := hB.cells i _ hc
      have HB := Lib.hid hB
      have hi : (i : Int) < 9 := by omega
      clear hg hc hB
      go_wp2_with fail
      refine (word_no HG.out wr).mono ?_
      rintro e v1 ⟨rfl, hb⟩
      replace HB := Lib.hid (HB.out.on hb)
      clear hb k0 k1 k2 k3
      obtain ⟨k0, k1, k2, k3⟩ := HB.out.cells i _ HC.out
      go_wp2_with fail
      refine (stamp_bad HG.out v1).mono ?_
      rintro e v2 ⟨rfl, hb⟩
      replace HB := Lib.hid (HB.out.on hb)
      clear hb k0 k1 k2 k3
      replace HB := Lib.hid (HB.out.on (below_alloc v2 (.cells #[.int .i64 0, .int .i64 0, .int .i64 0, .int .i64 0] 24)))
      obtain ⟨k0, k1, k2, k3⟩ := HB.out.cells i _ HC.out
      go_wp2_with fail
      generalize v2.alloc (.cells #[.int .i64 0, .int .i64 0, .int .i64 0, .int .i64 0] 24) = v3 at *
      refine (cgood_at HG.out v3).mono ?_
      rintro e v4 ⟨rfl, hb⟩
      replace HB := Lib.hid (HB.out.on hb)
      clear hb k0 k1 k2 k3
      obtain ⟨k0, k1, k2, k3⟩ := HB.out.cells i _ HC.out
      go_wp2_with fail
      refine (text_bad HG.out v4).mono ?_
      rintro e v5 ⟨rfl, hb⟩
      replace HB := Lib.hid (HB.out.on hb)
      clear hb k0 k1 k2 k3
      obtain ⟨k0, k1, k2, k3⟩ := HB.out.cells i _ HC.out
      go_wp2_with fail
      refine (cut_bad HG.out 7 v5).mono ?_
      rintro e v6 ⟨rfl, hb⟩
      replace HB := Lib.hid (HB.out.on hb)
      clear hb k0 k1 k2 k3
      have heq := HE.out
      go_wp2
      go_roundg (9 - (i + 1))
      case measure => have := HK.out; omega
      case rel => exact ⟨i + 1, by omega, rfl, HB.out⟩
    · have hi : ¬ (i : Int) < 9 := by omega
      have hM := (Fr.also (W := w) hB.old 3 5 6 0 24).alloc (.cells #[.int .i64 3, .int .i64 5, .int .i64 2, .int .i64 9] 24)
      have hN := Fr.also (W := w) (w := wr.alloc (.cells #[.int .i64 3, .int .i64 5, .int .i64 6, .int .i64 0] 24)) (below_on hB.old (below_alloc _ _)) 3 5 2 9 24
      rw [show (wr.alloc (.cells #[.int .i64 3, .int .i64 5, .int .i64 6, .int .i64 0] 24)).heap.size = wr.heap.size + 1 by simp] at hN
      have FM := Lib.hid hM
      have FN := Lib.hid hN
      clear hM hN hB HK hlt
      have hor : bits .or .u64 21475426819 281474976710656 = 281496452137475 := by decide +kernel
      have eqA : ∀ w, (Op.equalIn 10000 24 (.agg #[.int .i64 3, .int .i64 5, .int .i64 6, .int .i64 9]) (.agg #[.int .i64 3, .int .i64 5, .int .i64 6, .int .i64 9])).run Tryd.prog w = .ok true w := fun w => eq24 ⟨3, 5, 6, 9⟩ ⟨3, 5, 6, 9⟩ w
      have eqC : ∀ w, (Op.equalIn 10000 24 (.agg #[.int .i64 3, .int .i64 5, .int .i64 2, .int .i64 0]) (.agg #[.int .i64 3, .int .i64 5, .int .i64 2, .int .i64 0])).run Tryd.prog w = .ok true w := fun w => eq24 ⟨3, 5, 2, 0⟩ ⟨3, 5, 2, 0⟩ w
      have HA := Lib.hid eqA
      have HC := Lib.hid eqC
      have HO := Lib.hid hor
      clear eqA eqC hor
      have m0 := FM.out.c0
      have m1 := FM.out.c1
      have m2 := FM.out.c2
      have m3 := FM.out.c3
      go_wp2_with fail
      clear m0 m1 m2 m3
      obtain ⟨P, hP⟩ : ∃ P, wr.heap.size = P := ⟨_, rfl⟩
      rw [hP] at FM FN ⊢
      clear hP
      generalize (wr.alloc (.cells #[.int .i64 3, .int .i64 5, .int .i64 6, .int .i64 0] 24)).alloc (.cells #[.int .i64 3, .int .i64 5, .int .i64 2, .int .i64 9] 24) = x0 at *
      refine (stamp_to k_st1 x0).mono ?_
      rintro e y0 ⟨rfl, hb⟩
      replace FM := Lib.hid (FM.out.on hb)
      replace FN := Lib.hid (FN.out.on hb)
      clear hb
      have hA := Fr.also (W := w) FM.out.old 3 5 6 9 24
      replace FM := Lib.hid (FM.out.alloc (.cells #[.int .i64 3, .int .i64 5, .int .i64 6, .int .i64 9] 24))
      replace FN := Lib.hid (FN.out.alloc (.cells #[.int .i64 3, .int .i64 5, .int .i64 6, .int .i64 9] 24))
      have FA := Lib.hid hA
      clear hA
      have m0 := FM.out.c0
      have m1 := FM.out.c1
      have m2 := FM.out.c2
      have m3 := FM.out.c3
      go_wp2_with fail
      clear m0 m1 m2 m3
      obtain ⟨pA, hp⟩ : ∃ p, y0.heap.size = p := ⟨_, rfl⟩
      rw [hp] at FA ⊢
      clear hp
      generalize y0.alloc (.cells #[.int .i64 3, .int .i64 5, .int .i64 6, .int .i64 9] 24) = x1 at *
      refine (stamp_to k_st2 x1).mono ?_
      rintro e y1 ⟨rfl, hb⟩
      replace FM := Lib.hid (FM.out.on hb)
      replace FN := Lib.hid (FN.out.on hb)
      replace FA := Lib.hid (FA.out.on hb)
      clear hb
      replace FM := Lib.hid (FM.out.alloc (.cells #[.int .i64 0, .int .i64 0, .int .i64 0, .int .i64 0] 24))
      replace FN := Lib.hid (FN.out.alloc (.cells #[.int .i64 0, .int .i64 0, .int .i64 0, .int .i64 0] 24))
      replace FA := Lib.hid (FA.out.alloc (.cells #[.int .i64 0, .int .i64 0, .int .i64 0, .int .i64 0] 24))
      go_wp2_with fail
      generalize y1.alloc (.cells #[.int .i64 0, .int .i64 0, .int .i64 0, .int .i64 0] 24) = x2 at *
      refine (stamp_to k_st3 x2).mono ?_
      rintro e y2 ⟨rfl, hb⟩
      replace FM := Lib.hid (FM.out.on hb)
      replace FN := Lib.hid (FN.out.on hb)
      replace FA := Lib.hid (FA.out.on hb)
      clear hb
      replace FM := Lib.hid (FM.out.alloc (.cells #[.int .i64 0, .int .i64 0, .int .i64 0, .int .i64 0] 24))
      replace FN := Lib.hid (FN.out.alloc (.cells #[.int .i64 0, .int .i64 0, .int .i64 0, .int .i64 0] 24))
      replace FA := Lib.hid (FA.out.alloc (.cells #[.int .i64 0, .int .i64 0, .int .i64 0, .int .i64 0] 24))
      have n0 := FN.out.c0
      have n1 := FN.out.c1
      have n2 := FN.out.c2
      have n3 := FN.out.c3
      go_wp2_with fail
      clear n0 n1 n2 n3
      generalize y2.alloc (.cells #[.int .i64 0, .int .i64 0, .int .i64 0, .int .i64 0] 24) = x3 at *
      refine (stamp_to k_st4 x3).mono ?_
      rintro e y3 ⟨rfl, hb⟩
      replace FM := Lib.hid (FM.out.on hb)
      replace FN := Lib.hid (FN.out.on hb)
      replace FA := Lib.hid (FA.out.on hb)
      clear hb
      replace FM := Lib.hid (FM.out.alloc (.cells #[.int .i64 0, .int .i64 0, .int .i64 0, .int .i64 0] 24))
      replace FN := Lib.hid (FN.out.alloc (.cells #[.int .i64 0, .int .i64 0, .int .i64 0, .int .i64 0] 24))
      replace FA := Lib.hid (FA.out.alloc (.cells #[.int .i64 0, .int .i64 0, .int .i64 0, .int .i64 0] 24))
      go_wp2_with fail
      generalize y3.alloc (.cells #[.int .i64 0, .int .i64 0, .int .i64 0, .int .i64 0] 24) = x4 at *
      refine (stamp_to k_st5 x4).mono ?_
      rintro e y4 ⟨rfl, hb⟩
      replace FM := Lib.hid (FM.out.on hb)
      replace FN := Lib.hid (FN.out.on hb)
      replace FA := Lib.hid (FA.out.on hb)
      clear hb
      replace FM := Lib.hid (FM.out.alloc (.cells #[.int .i64 0, .int .i64 0, .int .i64 0, .int .i64 0] 24))
      replace FN := Lib.hid (FN.out.alloc (.cells #[.int .i64 0, .int .i64 0, .int .i64 0, .int .i64 0] 24))
      replace FA := Lib.hid (FA.out.alloc (.cells #[.int .i64 0, .int .i64 0, .int .i64 0, .int .i64 0] 24))
      have n0 := FN.out.c0
      have n1 := FN.out.c1
      have n2 := FN.out.c2
      have n3 := FN.out.c3
      go_wp2_with fail
      clear n0 n1 n2 n3
      generalize y4.alloc (.cells #[.int .i64 0, .int .i64 0, .int .i64 0, .int .i64 0] 24) = x5 at *
      refine (k_word x5).mono ?_
      rintro e y5 ⟨rfl, hb⟩
      replace FM := Lib.hid (FM.out.on hb)
      replace FN := Lib.hid (FN.out.on hb)
      replace FA := Lib.hid (FA.out.on hb)
      clear hb
      have hor := HO.out
      go_wp2_with fail
      clear hor
      generalize y5 = x6 at *
      refine (k_get1 x6).mono ?_
      rintro e y6 ⟨rfl, hb⟩
      replace FM := Lib.hid (FM.out.on hb)
      replace FN := Lib.hid (FN.out.on hb)
      replace FA := Lib.hid (FA.out.on hb)
      clear hb
      replace FM := Lib.hid (FM.out.alloc (.cells #[.int .i64 0, .int .i64 0, .int .i64 0, .int .i64 0] 24))
      replace FN := Lib.hid (FN.out.alloc (.cells #[.int .i64 0, .int .i64 0, .int .i64 0, .int .i64 0] 24))
      replace FA := Lib.hid (FA.out.alloc (.cells #[.int .i64 0, .int .i64 0, .int .i64 0, .int .i64 0] 24))
      go_wp2_with fail
      generalize y6.alloc (.cells #[.int .i64 0, .int .i64 0, .int .i64 0, .int .i64 0] 24) = x7 at *
      refine (k_get2 x7).mono ?_
      rintro e y7 ⟨rfl, hb⟩
      replace FM := Lib.hid (FM.out.on hb)
      replace FN := Lib.hid (FN.out.on hb)
      replace FA := Lib.hid (FA.out.on hb)
      clear hb
      replace FM := Lib.hid (FM.out.alloc (.cells #[.int .i64 0, .int .i64 0, .int .i64 0, .int .i64 0] 24))
      replace FN := Lib.hid (FN.out.alloc (.cells #[.int .i64 0, .int .i64 0, .int .i64 0, .int .i64 0] 24))
      replace FA := Lib.hid (FA.out.alloc (.cells #[.int .i64 0, .int .i64 0, .int .i64 0, .int .i64 0] 24))
      go_wp2_with fail
      generalize y7.alloc (.cells #[.int .i64 0, .int .i64 0, .int .i64 0, .int .i64 0] 24) = x8 at *
      refine (get_zero x8).mono ?_
      rintro e y8 ⟨rfl, hb⟩
      replace FM := Lib.hid (FM.out.on hb)
      replace FN := Lib.hid (FN.out.on hb)
      replace FA := Lib.hid (FA.out.on hb)
      clear hb
      have hZ := Fr.also (W := w) FM.out.old 0 0 0 0 24
      replace FM := Lib.hid (FM.out.alloc (.cells #[.int .i64 0, .int .i64 0, .int .i64 0, .int .i64 0] 24))
      replace FN := Lib.hid (FN.out.alloc (.cells #[.int .i64 0, .int .i64 0, .int .i64 0, .int .i64 0] 24))
      replace FA := Lib.hid (FA.out.alloc (.cells #[.int .i64 0, .int .i64 0, .int .i64 0, .int .i64 0] 24))
      have FZ := Lib.hid hZ
      clear hZ
      have a0 := FA.out.c0
      have a1 := FA.out.c1
      have a2 := FA.out.c2
      have a3 := FA.out.c3
      have z0 := FZ.out.c0
      have z1 := FZ.out.c1
      have z2 := FZ.out.c2
      have z3 := FZ.out.c3
      have eqA := HA.out
      go_wp2_with fail
      clear eqA
      clear a0 a1 a2 a3 z0 z1 z2 z3
      obtain ⟨pZ, hp⟩ : ∃ p, y8.heap.size = p := ⟨_, rfl⟩
      rw [hp] at FZ ⊢
      clear hp
      generalize y8.alloc (.cells #[.int .i64 0, .int .i64 0, .int .i64 0, .int .i64 0] 24) = x9 at *
      refine (non_at none_non x9).mono ?_
      rintro e y9 ⟨rfl, hb⟩
      replace FM := Lib.hid (FM.out.on hb)
      replace FN := Lib.hid (FN.out.on hb)
      replace FA := Lib.hid (FA.out.on hb)
      replace FZ := Lib.hid (FZ.out.on hb)
      clear hb
      have z0 := FZ.out.c0
      have z1 := FZ.out.c1
      have z2 := FZ.out.c2
      have z3 := FZ.out.c3
      go_wp2_with fail
      clear z0 z1 z2 z3
      generalize y9 = x10 at *
      refine (ctext_none x10).mono ?_
      rintro e y10 ⟨rfl, hb⟩
      replace FM := Lib.hid (FM.out.on hb)
      replace FN := Lib.hid (FN.out.on hb)
      replace FA := Lib.hid (FA.out.on hb)
      replace FZ := Lib.hid (FZ.out.on hb)
      clear hb
      have n0 := FN.out.c0
      have n1 := FN.out.c1
      have n2 := FN.out.c2
      have n3 := FN.out.c3
      have m0 := FM.out.c0
      have m1 := FM.out.c1
      have m2 := FM.out.c2
      have m3 := FM.out.c3
      have hd : ((⟨#[45]⟩ : ByteArray).toList == (⟨#[45]⟩ : ByteArray).toList) = true := by decide +kernel
      go_wp2_with fail
      clear hd
      clear n0 n1 n2 n3 m0 m1 m2 m3
      generalize y10 = x11 at *
      refine (less_to k_l1 x11).mono ?_
      rintro e y11 ⟨rfl, hb⟩
      replace FM := Lib.hid (FM.out.on hb)
      replace FN := Lib.hid (FN.out.on hb)
      replace FA := Lib.hid (FA.out.on hb)
      replace FZ := Lib.hid (FZ.out.on hb)
      clear hb
      have m0 := FM.out.c0
      have m1 := FM.out.c1
      have m2 := FM.out.c2
      have m3 := FM.out.c3
      have n0 := FN.out.c0
      have n1 := FN.out.c1
      have n2 := FN.out.c2
      have n3 := FN.out.c3
      go_wp2_with fail
      clear m0 m1 m2 m3 n0 n1 n2 n3
      generalize y11 = x12 at *
      refine (less_to k_l2 x12).mono ?_
      rintro e y12 ⟨rfl, hb⟩
      replace FM := Lib.hid (FM.out.on hb)
      replace FN := Lib.hid (FN.out.on hb)
      replace FA := Lib.hid (FA.out.on hb)
      replace FZ := Lib.hid (FZ.out.on hb)
      clear hb
      have z0 := FZ.out.c0
      have z1 := FZ.out.c1
      have z2 := FZ.out.c2
      have z3 := FZ.out.c3
      have n0 := FN.out.c0
      have n1 := FN.out.c1
      have n2 := FN.out.c2
      have n3 := FN.out.c3
      go_wp2_with fail
      clear z0 z1 z2 z3 n0 n1 n2 n3
      generalize y12 = x13 at *
      refine (less_to k_l3 x13).mono ?_
      rintro e y13 ⟨rfl, hb⟩
      replace FM := Lib.hid (FM.out.on hb)
      replace FN := Lib.hid (FN.out.on hb)
      replace FA := Lib.hid (FA.out.on hb)
      replace FZ := Lib.hid (FZ.out.on hb)
      clear hb
      have n0 := FN.out.c0
      have n1 := FN.out.c1
      have n2 := FN.out.c2
      have n3 := FN.out.c3
      have z0 := FZ.out.c0
      have z1 := FZ.out.c1
      have z2 := FZ.out.c2
      have z3 := FZ.out.c3
      go_wp2_with fail
      clear n0 n1 n2 n3 z0 z1 z2 z3
      generalize y13 = x14 at *
      refine (less_to k_l4 x14).mono ?_
      rintro e y14 ⟨rfl, hb⟩
      replace FM := Lib.hid (FM.out.on hb)
      replace FN := Lib.hid (FN.out.on hb)
      replace FA := Lib.hid (FA.out.on hb)
      replace FZ := Lib.hid (FZ.out.on hb)
      clear hb
      have n0 := FN.out.c0
      have n1 := FN.out.c1
      have n2 := FN.out.c2
      have n3 := FN.out.c3
      go_wp2_with fail
      clear n0 n1 n2 n3
      generalize y14 = x15 at *
      refine (less_to k_l5 x15).mono ?_
      rintro e y15 ⟨rfl, hb⟩
      replace FM := Lib.hid (FM.out.on hb)
      replace FN := Lib.hid (FN.out.on hb)
      replace FA := Lib.hid (FA.out.on hb)
      replace FZ := Lib.hid (FZ.out.on hb)
      clear hb
      have m0 := FM.out.c0
      have m1 := FM.out.c1
      have m2 := FM.out.c2
      have m3 := FM.out.c3
      go_wp2_with fail
      clear m0 m1 m2 m3
      generalize y15 = x16 at *
      refine (k_cut x16).mono ?_
      rintro e y16 ⟨rfl, hb⟩
      replace FM := Lib.hid (FM.out.on hb)
      replace FN := Lib.hid (FN.out.on hb)
      replace FA := Lib.hid (FA.out.on hb)
      replace FZ := Lib.hid (FZ.out.on hb)
      clear hb
      have eqC := HC.out
      go_wp2
      go_ret
      exact ⟨rfl, FM.out.old⟩
end Go.Proofs.YtlhdpmkakmkknaaDoor
