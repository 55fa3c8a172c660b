/-
  Two lists of words compared: the walks of slices.Equal and of the law's words. Condition: the lists lie in memory, at most a million.
-/
import Derived.Test.YtfcifheejjppfaaDoorSb
namespace Go.Proofs.YtfcifheejjppfaaDoor
open Go.RowKit

def EqRel (W : World) (l m : List Int) (n : Nat) (k : Nat) (p : Value) (wr : World) : Prop := ∃ i : Nat, k + i = n ∧ p = .int .i64 i ∧ Below W.heap.size W wr ∧ l.take i = m.take i

theorem bne_cells (x y : Int) : (x != y) = !decide (x = y) := by by_cases h : x = y <;> simp [h]
theorem below_drawz {B n : Nat} {w w' : World} (h : Below B w w') : Below B w (w'.drewN n) := ⟨h.1, h.2, h.3, h.4, h.5⟩

set_option maxHeartbeats 1000000 in
theorem equal_any (v1 v2 : Value) (l m : List Int) (w : World) (h1 : Words w v1 l) (h2 : Words w v2 m) (hl : l.length ≤ 1000000) :
    Calls Tryd.prog 31 #[v1, v2] w fun e w' => e = .returned (.bool (decide (l = m))) ∧ Below w.heap.size w w' := by
  obtain ⟨A1, p1, rfl, -, h1⟩ := h1
  obtain ⟨A2, p2, rfl, -, h2⟩ := h2
  by_cases hs : l.length = m.length
  · rw [← hs]
    obtain ⟨n, hn⟩ : ∃ n, n = l.length := ⟨_, rfl⟩
    rw [← hn] at hl ⊢
    have HN := Lib.hid hn
    have HM : Hid (n = m.length) := Lib.hid (by omega)
    have H1 := Lib.hid h1
    have H2 := Lib.hid h2
    clear hn h1 h2 hs
    go_enter Tryd.func31, Tryd.ntmps31
    go_wp2_with fail
    go_loopg [13] n (fun k p wr => EqRel w l m n k p wr)
    case atStart => exact ⟨0, by omega, rfl, Below.refl _ _, rfl⟩
    case round =>
      obtain ⟨i, hk, rfl, hb, he⟩ := hrel
      have HK := Lib.hid hk
      have HB := Lib.hid hb
      have HE := Lib.hid he
      clear hk hb he
      by_cases hlt : i < n
      · have HLT := Lib.hid hlt
        have hlt2 : (i : Int) < (n : Int) := by omega
        obtain ⟨g1, o1, rfl, x1, y1⟩ := H1.out (by rw [← HN.out]; omega)
        obtain ⟨g2, o2, rfl, x2, y2⟩ := H2.out (by rw [← HM.out]; omega)
        obtain ⟨x, hx⟩ : ∃ x, l[i]? = some x := ⟨l[i]'(by rw [← HN.out]; exact hlt), List.getElem?_eq_getElem _⟩
        obtain ⟨y, hy⟩ : ∃ y, m[i]? = some y := ⟨m[i]'(by rw [← HM.out]; exact hlt), List.getElem?_eq_getElem _⟩
        have c1 : wr.cell? ⟨g1, o1 + i, none⟩ = some (.int .u64 x) := by rw [HB.out.cell (p := ⟨g1, _, none⟩) x1]; exact y1 i x hx
        have c2 : wr.cell? ⟨g2, o2 + i, none⟩ = some (.int .u64 y) := by rw [HB.out.cell (p := ⟨g2, _, none⟩) x2]; exact y2 i y hy
        have HX := Lib.hid hx
        have HY := Lib.hid hy
        clear x1 x2 y1 y2 hx hy H1 H2
        by_cases hxy : x = y
        · subst hxy
          go_wp2_with fail
          go_quiet (fail)
          go_wp2
          go_roundg (n - (i + 1))
          case measure => have := HK.out; have := HLT.out; omega
          case rel => exact ⟨i + 1, by have := HLT.out; omega, by go_num, below_drawz HB.out, by rw [List.take_add_one, List.take_add_one, HE.out, HX.out, HY.out]⟩
        · have hne : (x != y) = true := by simpa using hxy
          have HNE := Lib.hid hxy
          clear hxy
          go_wp2_with fail
          go_quiet (fail)
          go_wp2
          go_ret
          refine ⟨?_, below_drawz HB.out⟩
          have : ¬ l = m := fun e => by
            have h1 := HX.out
            rw [e, HY.out] at h1
            injection h1 with h1
            exact HNE.out h1.symm
          rw [decide_eq_false this]
          rfl
      · go_wp2
        go_ret
        refine ⟨?_, HB.out⟩
        have hi : i = n := by have := HK.out; omega
        have := HE.out
        rw [hi, List.take_of_length_le (by rw [← HN.out]; omega), List.take_of_length_le (by rw [← HM.out]; omega)] at this
        rw [decide_eq_true this]
        rfl
  · have hd : ¬ l = m := fun e => hs (by rw [e])
    have hne : ((l.length : Int) == (m.length : Int)) = false := by simp; omega
    have HD := Lib.hid hd
    clear hd hs h1 h2
    generalize l.length = a at *
    generalize m.length = b at *
    go_enter Tryd.func31, Tryd.ntmps31
    go_wp2
    go_ret
    exact ⟨by rw [decide_eq_false HD.out]; rfl, Below.refl _ _⟩
theorem equal_at {v1 v2 : Value} {l m : List Int} {w : World} {r : Bool} (h1 : Words w v1 l) (h2 : Words w v2 m) (hl : l.length ≤ 1000000) (hr : decide (l = m) = r) :
    Calls Tryd.prog 31 #[v1, v2] w fun e w' => e = .returned (.bool r) ∧ Below w.heap.size w w' := by
  subst hr
  exact equal_any v1 v2 l m w h1 h2 hl
set_option maxHeartbeats 1000000 in
theorem words_any (v1 v2 : Value) (l m : List Int) (w : World) (h1 : Words w v1 l) (h2 : Words w v2 m) (hl : l.length ≤ 1000000) :
    Calls Tryd.prog 13 #[v1, v2] w fun e w' => e = .returned (.bool (decide (l = m))) ∧ Below w.heap.size w w' := by
  obtain ⟨A1, p1, rfl, -, h1⟩ := h1
  obtain ⟨A2, p2, rfl, -, h2⟩ := h2
  by_cases hs : l.length = m.length
  · rw [← hs]
    obtain ⟨n, hn⟩ : ∃ n, n = l.length := ⟨_, rfl⟩
    rw [← hn] at hl ⊢
    have HN := Lib.hid hn
    have HM : Hid (n = m.length) := Lib.hid (by omega)
    have H1 := Lib.hid h1
    have H2 := Lib.hid h2
    clear hn h1 h2 hs
    go_enter Tryd.func13, Tryd.ntmps13
    go_wp2_with fail
    go_loopg [5] n (fun k p wr => EqRel w l m n k p wr)
    case atStart => exact ⟨0, by omega, rfl, Below.refl _ _, rfl⟩
    case round =>
      obtain ⟨i, hk, rfl, hb, he⟩ := hrel
      have HK := Lib.hid hk
      have HB := Lib.hid hb
      have HE := Lib.hid he
      clear hk hb he
      by_cases hlt : i < n
      · have HLT := Lib.hid hlt
        have hlt2 : (i : Int) < (n : Int) := by omega
        obtain ⟨g1, o1, rfl, x1, y1⟩ := H1.out (by rw [← HN.out]; omega)
        obtain ⟨g2, o2, rfl, x2, y2⟩ := H2.out (by rw [← HM.out]; omega)
        obtain ⟨x, hx⟩ : ∃ x, l[i]? = some x := ⟨l[i]'(by rw [← HN.out]; exact hlt), List.getElem?_eq_getElem _⟩
        obtain ⟨y, hy⟩ : ∃ y, m[i]? = some y := ⟨m[i]'(by rw [← HM.out]; exact hlt), List.getElem?_eq_getElem _⟩
        have c1 : wr.cell? ⟨g1, o1 + i, none⟩ = some (.int .u64 x) := by rw [HB.out.cell (p := ⟨g1, _, none⟩) x1]; exact y1 i x hx
        have c2 : wr.cell? ⟨g2, o2 + i, none⟩ = some (.int .u64 y) := by rw [HB.out.cell (p := ⟨g2, _, none⟩) x2]; exact y2 i y hy
        have HX := Lib.hid hx
        have HY := Lib.hid hy
        clear x1 x2 y1 y2 hx hy H1 H2
        by_cases hxy : x = y
        · subst hxy
          go_wp2_with fail
          go_quiet (fail)
          go_wp2
          go_roundg (n - (i + 1))
          case measure => have := HK.out; have := HLT.out; omega
          case rel => exact ⟨i + 1, by have := HLT.out; omega, by go_num, below_drawz HB.out, by rw [List.take_add_one, List.take_add_one, HE.out, HX.out, HY.out]⟩
        · have hne : (x != y) = true := by simpa using hxy
          have HNE := Lib.hid hxy
          clear hxy
          go_wp2_with fail
          go_quiet (fail)
          go_wp2
          go_ret
          refine ⟨?_, below_drawz HB.out⟩
          have : ¬ l = m := fun e => by
            have h1 := HX.out
            rw [e, HY.out] at h1
            injection h1 with h1
            exact HNE.out h1.symm
          rw [decide_eq_false this]
          rfl
      · go_wp2
        go_ret
        refine ⟨?_, HB.out⟩
        have hi : i = n := by have := HK.out; omega
        have := HE.out
        rw [hi, List.take_of_length_le (by rw [← HN.out]; omega), List.take_of_length_le (by rw [← HM.out]; omega)] at this
        rw [decide_eq_true this]
        rfl
  · have hd : ¬ l = m := fun e => hs (by rw [e])
    have hne : ((l.length : Int) == (m.length : Int)) = false := by simp; omega
    have HD := Lib.hid hd
    clear hd hs h1 h2
    generalize l.length = a at *
    generalize m.length = b at *
    go_enter Tryd.func13, Tryd.ntmps13
    go_wp2
    go_ret
    exact ⟨by rw [decide_eq_false HD.out]; rfl, Below.refl _ _⟩
theorem words_at {v1 v2 : Value} {l m : List Int} {w : World} {r : Bool} (h1 : Words w v1 l) (h2 : Words w v2 m) (hl : l.length ≤ 1000000) (hr : decide (l = m) = r) :
    Calls Tryd.prog 13 #[v1, v2] w fun e w' => e = .returned (.bool r) ∧ Below w.heap.size w w' := by
  subst hr
  exact words_any v1 v2 l m w h1 h2 hl
end Go.Proofs.YtfcifheejjppfaaDoor
