/-
  The walk of the reference's Fields. Condition: the pairs lie in memory, at most a million.
-/
import Derived.Test.YtjmenekhdkpaaaaTm
namespace Go.Proofs.Ytjmenekhdkpaaaa
open Go.RowKit

/-- the bits that are used -/
structure Us (W : World) (U : Nat) (t : Nat → Bool) (w : World) : Prop where
  cell : ∀ j, j < 64 → w.cell? ⟨U, j, none⟩ = some (.bool (t j))
  free : ∀ j, w.frozen? ⟨U, j, none⟩ = false
  old : Below W.heap.size W w
  base : W.heap.size ≤ U
  lt : U < w.heap.size
theorem Us.set_ {W w : World} {U : Nat} {t : Nat → Bool} (h : Us W U t w) {k : Nat} (hk : k < 64) : Us W U (fun j => t j || decide (j = k)) (w.setCell ⟨U, k, none⟩ (.bool true)) := by
  refine ⟨fun j hj => ?_, fun j => by rw [World.frozen?_setCell]; exact h.free j, h.old.trans ⟨rfl, rfl, rfl, by simp [World.setCell], fun i hi => Below.heap_setCell _ _ _ _ (by have := h.base; show i ≠ U; omega)⟩, h.base, by simpa [World.setCell] using h.lt⟩
  by_cases e : k = j
  · subst e
    rw [World.cell?_setCell_same _ _ _ (h.cell k hk)]
    simp
  · rw [World.cell?_setCell_other _ _ _ _ (fun q => e (by injection q)), h.cell j hj]
    simp [Ne.symm e]
theorem Us.same {W w : World} {U : Nat} {t t' : Nat → Bool} (h : Us W U t w) (ht : ∀ j, j < 64 → t' j = t j) : Us W U t' w :=
  ⟨fun j hj => by rw [h.cell j hj, ht j hj], h.free, h.old, h.base, h.lt⟩
theorem Us.drewN {W w : World} {U : Nat} {t : Nat → Bool} (h : Us W U t w) (k : Nat) : Us W U t (w.drewN k) := ⟨h.cell, h.free, below_draws h.old k, h.base, h.lt⟩

def FieldsRel (W : World) (U n : Nat) (l : List Fd) (k : Nat) (q : Value) (wr : World) : Prop :=
  ∃ i t : Nat, k + i = n ∧ q = .int .i64 i ∧ goodFrom t (l.drop i) = good l ∧ Us W U (fun j => t.testBit j) wr
def FieldRel (W : World) (U f n t : Nat) (k : Nat) (q : Value) (wr : World) : Prop :=
  ∃ i : Nat, k + i = n ∧ q = .int .i64 i ∧ (∀ j, f ≤ j → j < f + i → t.testBit j = false) ∧ Us W U (fun j => t.testBit j || decide (f ≤ j ∧ j < f + i)) wr

set_option maxHeartbeats 2000000 in
theorem fields_any (A : Option Addr) (cap : Nat) (l : List Fd) (w : World) (hl : l.length ≤ 1000000) (hL : FdsAt w w.heap.size A l) :
    Calls Try.prog 20 #[.slice A l.length cap] w fun e w' => e = .returned (.bool (good l)) ∧ Below w.heap.size w w' := by
  have LL := Lib.hid hL
  obtain ⟨n, hn⟩ : ∃ n, n = l.length := ⟨_, rfl⟩
  rw [← hn] at hl ⊢
  have HN := Lib.hid hn
  clear hn hL
  have H0 : Hid (Us w w.heap.size (fun j => (0 : Nat).testBit j) (w.alloc (.cells (Array.replicate 64 (.bool false)) 55))) := Lib.hid (by
    have hg := heap_alloc_new w (.cells (Array.replicate 64 (.bool false)) 55)
    refine ⟨fun j hj => ?_, fun j => frozen_of_row _ _ j _ _ hg, (Below.refl _ _).alloc (Nat.le_refl _) _, Nat.le_refl _, by simp⟩
    rw [cell_of_row _ _ j _ _ _ hg]
    simp [hj])
  obtain ⟨U, hU⟩ : ∃ U, w.heap.size = U := ⟨_, rfl⟩
  go_enter Try.func20, Try.ntmps20
  go_wp2_with fail
  go_loopg [4] n (fun k q wr => FieldsRel w w.heap.size n l k q wr)
  case atStart => exact ⟨0, 0, by omega, rfl, rfl, H0.out⟩
  case round =>
    obtain ⟨i, t, hk, rfl, hg, hu⟩ := hrel
    have HK := Lib.hid hk
    have HG := Lib.hid hg
    have HU := Lib.hid hu
    clear hk hg hu H0
    rw [hU] at HU
    have HUE := Lib.hid hU
    clear hU
    by_cases hlt : i < n
    · have HLT := Lib.hid hlt
      have hlt2 : (i : Int) < (n : Int) := by omega
      obtain ⟨b, o, rfl, hblk, hc⟩ := LL.out (by rw [← HN.out]; omega)
      obtain ⟨x, hx⟩ : ∃ x, l[i]? = some x := ⟨l[i]'(by rw [← HN.out]; exact hlt), List.getElem?_eq_getElem _⟩
      have HC := Lib.hid (hc i x hx)
      have HBL := Lib.hid hblk
      obtain ⟨c1, c2⟩ := hc i x hx
      rw [← HU.out.old.cell (p := ⟨b, _, none⟩) hblk] at c1 c2
      rw [drop_one hx] at HG
      clear hc hblk hx
      obtain ⟨f, m⟩ := x
      cases hi : (⟨f, m⟩ : Fd).inw
      · have HI := Lib.hid hi
        have hgl : good l = false := by
          have := HG.out
          unfold goodFrom at this
          rw [HI.out, Bool.false_and] at this
          exact this.symm
        have HGL := Lib.hid hgl
        have hd : decide (f < 0) = true ∨ (decide (f < 0) = false ∧ (decide ((63 : Int) < f) = true ∨ (decide ((63 : Int) < f) = false ∧ (decide (m < 1) = true ∨ (decide (m < 1) = false ∧ decide (64 - f < m) = true))))) := by
          have hn : ¬ (0 ≤ f ∧ f < 64 ∧ 1 ≤ m ∧ m ≤ 64 - f) := fun h => by
            have : (⟨f, m⟩ : Fd).inw = true := inw_iff.2 h
            rw [hi] at this; cases this
          simp only [decide_eq_true_eq, decide_eq_false_iff_not]
          omega
        clear hi hgl
        rcases hd with d1 | ⟨d1, d2 | ⟨d2, d3 | ⟨d3, d4⟩⟩⟩
        · go_wp2_with fail
          go_quiet (fail)
          go_wp2
          go_ret
          rw [HGL.out]
          exact ⟨rfl, below_draws HU.out.old _⟩
        · go_wp2_with fail
          go_quiet (fail)
          go_wp2
          go_ret
          rw [HGL.out]
          exact ⟨rfl, below_draws HU.out.old _⟩
        · go_wp2_with fail
          go_quiet (fail)
          go_wp2
          go_ret
          rw [HGL.out]
          exact ⟨rfl, below_draws HU.out.old _⟩
        · have b1 : 0 ≤ f := by simpa using d1
          have b2 : f ≤ 63 := by simpa using d2
          go_wp2_with fail
          go_quiet (fail)
          go_wp2
          go_ret
          rw [HGL.out]
          exact ⟨rfl, below_draws HU.out.old _⟩
      · have HI := Lib.hid hi
        obtain ⟨f', m', hx, h1, h2⟩ := inw_nat hi
        injection hx with hx1 hx2
        subst hx1 hx2
        have d1 : decide ((f' : Int) < 0) = false := by simp
        have d2 : decide ((63 : Int) < (f' : Int)) = false := by simp; omega
        have d3 : decide ((m' : Int) < 1) = false := by simp; omega
        have d4 : decide (64 - (f' : Int) < (m' : Int)) = false := by simp; omega
        have b2 : (f' : Int) ≤ 63 := by omega
        clear hi
        go_wp2_with fail
        go_quiet (fail)
        go_wp2_with fail
        have HU0 : Hid (Us w U (fun j => t.testBit j) (wr.drewN nq)) := Lib.hid (HU.out.drewN nq)
        go_loopg [5] m' (fun k q wr => FieldRel w U f' m' t k q wr)
        case atStart =>
          refine ⟨0, by omega, rfl, fun j h1 h2 => absurd h1 (by omega), HU0.out.same fun j _ => ?_⟩
          have : decide (f' ≤ j ∧ j < f' + 0) = false := decide_eq_false (by omega)
          show (t.testBit j || decide (f' ≤ j ∧ j < f' + 0)) = t.testBit j
          rw [this, Bool.or_false]
        case round =>
          obtain ⟨j, hk2, rfl, hno, hu2⟩ := hrel
          have HK2 := Lib.hid hk2
          have HNO := Lib.hid hno
          have HU2 := Lib.hid hu2
          obtain ⟨c1, c2⟩ := HC.out
          rw [← hu2.old.cell (p := ⟨b, _, none⟩) HBL.out] at c1 c2
          clear hk2 hno hu2 HU0
          by_cases hj : j < m'
          · have HJ := Lib.hid hj
            have hj2 : (j : Int) < (m' : Int) := by omega
            have hj3 : f' + j < 64 := by omega
            have hj4 : (f' : Int) + (j : Int) < 64 := by omega
            have c3 := HU2.out.cell (f' + j) hj3
            have c4 := HU2.out.free (f' + j)
            have hdd : decide (f' ≤ f' + j ∧ f' + j < f' + j) = false := by simp
            simp only [hdd, Bool.or_false] at c3
            cases htb : t.testBit (f' + j)
            · rw [htb] at c3
              have HTB := Lib.hid htb
              clear htb
              go_wp2_with fail
              go_roundg (m' - (j + 1))
              case measure => have := HK2.out; have := HJ.out; omega
              case rel =>
                refine ⟨j + 1, by have := HJ.out; omega, by go_num, fun q q1 q2 => ?_, (HU2.out.set_ (k := f' + j) hj3).same fun q _ => ?_⟩
                · by_cases e : q = f' + j
                  · rw [e]; exact HTB.out
                  · exact HNO.out q q1 (by omega)
                · by_cases e : q = f' + j
                  · subst e; simp
                  · have e1 : (f' ≤ q ∧ q < f' + (j + 1)) ↔ (f' ≤ q ∧ q < f' + j) := by omega
                    simp [e, e1]
            · rw [htb] at c3
              have HTB := Lib.hid htb
              clear htb
              go_wp2_with fail
              go_ret
              refine ⟨?_, HU2.out.old⟩
              have := HG.out
              unfold goodFrom at this
              rw [decide_eq_false (fun h => by
                rw [disj_iff] at h
                have h2 := h (f' + j) HTB.out
                rw [Fd.bits_test] at h2
                simp at h2
                have := HJ.out
                omega), Bool.false_and, Bool.and_false] at this
              rw [← this]
              rfl
          · go_wp2_with fail
            go_roundg (n - (i + 1))
            case measure => have := HK.out; have := HN.out; have := HLT.out; omega
            case rel =>
              have hj2 : j = m' := by have := HK2.out; omega
              refine ⟨i + 1, t ||| (⟨f', m'⟩ : Fd).bits, by have := HN.out; have := HLT.out; omega, by go_num, ?_, ?_⟩
              · have := HG.out
                unfold goodFrom at this
                have hz : t &&& (⟨(f' : Int), (m' : Int)⟩ : Fd).bits = 0 := by
                  rw [Nat.and_comm, disj_iff]
                  intro q hq
                  rw [Fd.bits_test] at hq
                  simp at hq
                  exact HNO.out q hq.1 (by omega)
                rw [HI.out, decide_eq_true hz, Bool.true_and, Bool.true_and] at this
                exact this
              · rw [HUE.out]
                refine HU2.out.same fun q _ => ?_
                show (t ||| _).testBit q = _
                rw [Nat.testBit_or, Fd.bits_test, hj2]
                rfl
    · go_wp2
      go_ret
      refine ⟨?_, HU.out.old⟩
      have hi : i = l.length := by have := HK.out; have := HN.out; omega
      have := HG.out
      rw [hi, List.drop_length] at this
      rw [← this]; rfl
end Go.Proofs.Ytjmenekhdkpaaaa
