/-
  The walks of the law's ints and awake. Condition: the lists lie in memory.
-/
import Derived.Test.YtfcifheejjppfaaDoorSc
namespace Go.Proofs.YtfcifheejjppfaaDoor
open Go.RowKit

def SameRel (W : World) (n : Nat) (l m : List Int) (k : Nat) (p : Value) (wr : World) : Prop :=
  ∃ i : Nat, k + i = n ∧ p = .int .i64 i ∧ l.take i = m.take i ∧ Below W.heap.size W wr

theorem ints_any {A B : Option Addr} {c d : Nat} {l m : List Int} {w : World} (hl : l.length ≤ 1000000) (hL : IntsAt w w.heap.size A l) (hM : IntsAt w w.heap.size B m) :
    Calls Tryd.prog 40 #[.slice A l.length c, .slice B m.length d] w fun e w' => e = .returned (.bool (l == m)) ∧ Below w.heap.size w w' := by
  have HL := Lib.hid hL
  have HM := Lib.hid hM
  obtain ⟨n, hn⟩ : ∃ n, n = l.length := ⟨_, rfl⟩
  obtain ⟨k, hk⟩ : ∃ k, k = m.length := ⟨_, rfl⟩
  obtain ⟨x, hx⟩ : ∃ x, x = (l == m) := ⟨_, rfl⟩
  rw [← hn, ← hk, ← hx]
  rw [← hn] at hl
  have HN := Lib.hid hn
  have HK := Lib.hid hk
  have HX := Lib.hid hx
  clear hn hk hx hL hM
  by_cases hnk : n = k
  · subst hnk
    go_enter Tryd.func40, Tryd.ntmps40
    go_wp2_with fail
    go_loopg [5] n (fun k p wr => SameRel w n l m k p wr)
    case atStart => exact ⟨0, by omega, rfl, rfl, Below.refl _ _⟩
    case round =>
      obtain ⟨i, hk, rfl, ht, hb⟩ := hrel
      have HI := Lib.hid hk
      have HB := Lib.hid hb
      have HT := Lib.hid ht
      clear hk hb ht
      by_cases hlt : i < n
      · have HLT := Lib.hid hlt
        have hlt2 : (i : Int) < (n : Int) := by omega
        obtain ⟨g1, o1, rfl, x1, y1⟩ := HL.out (by rw [← HN.out]; omega)
        obtain ⟨g2, o2, rfl, x2, y2⟩ := HM.out (by rw [← HK.out]; omega)
        obtain ⟨z, hz⟩ : ∃ z, l[i]? = some z := ⟨l[i]'(by rw [← HN.out]; exact hlt), List.getElem?_eq_getElem _⟩
        obtain ⟨y, hy⟩ : ∃ y, m[i]? = some y := ⟨m[i]'(by rw [← HK.out]; exact hlt), List.getElem?_eq_getElem _⟩
        have c1 : wr.cell? ⟨g1, o1 + i, none⟩ = some (.int .i64 z) := by rw [HB.out.cell (p := ⟨g1, _, none⟩) x1]; exact y1 i z hz
        have c2 : wr.cell? ⟨g2, o2 + i, none⟩ = some (.int .i64 y) := by rw [HB.out.cell (p := ⟨g2, _, none⟩) x2]; exact y2 i y hy
        have HZ := Lib.hid hz
        have HY := Lib.hid hy
        clear x1 x2 y1 y2 hz hy
        by_cases hzy : z = y
        · subst hzy
          go_wp2_with fail
          go_quiet (fail)
          go_wp2
          go_roundg (n - (i + 1))
          case measure => have := HI.out; have := HLT.out; omega
          case rel => exact ⟨i + 1, by have := HLT.out; omega, by go_num, by rw [List.take_add_one, List.take_add_one, HT.out, HZ.out, HY.out], below_draws HB.out _⟩
        · have HF : Hid (x = false) := Lib.hid (by
            rw [HX.out, beq_eq_false_iff_ne]
            intro e
            subst e
            exact hzy (Option.some.inj (HZ.out.symm.trans HY.out)))
          go_wp2_with fail
          go_quiet (fail)
          go_wp2
          go_ret
          exact ⟨by rw [HF.out]; rfl, below_draws HB.out _⟩
      · have HT2 : Hid (x = true) := Lib.hid (by
          have hi : i = n := by have := HI.out; omega
          have := HT.out
          rw [hi] at this
          conv at this => lhs; rw [HN.out, List.take_length]
          conv at this => rhs; rw [HK.out, List.take_length]
          rw [HX.out, this]
          simp)
        go_wp2
        go_ret
        exact ⟨by rw [HT2.out]; rfl, HB.out⟩
  · have HF : Hid (x = false) := Lib.hid (by
      rw [HX.out, beq_eq_false_iff_ne]
      intro e
      subst e
      exact hnk (HN.out.trans HK.out.symm))
    have h1 : ¬ (n : Int) = (k : Int) := by omega
    go_enter Tryd.func40, Tryd.ntmps40
    go_wp2
    go_ret
    exact ⟨by rw [HF.out]; rfl, below_self _⟩

/-- whole numbers written out -/
def icells (l : List Int) : List Value := l.map (.int .i64)
theorem lit_ints (w : World) (l : List Int) (t : TypeId) (cs : Array Value) (hcs : cs = (icells l).toArray) : IntsAt (w.alloc (.cells cs t)) (w.alloc (.cells cs t)).heap.size (some ⟨w.heap.size, 0, none⟩) l := fun _ => by
  refine ⟨w.heap.size, 0, rfl, by simp, fun j z hz => ?_⟩
  rw [cell_of_row _ _ _ _ _ _ (heap_alloc_new w _), hcs, List.getElem?_toArray, icells, List.getElem?_map, Nat.zero_add, hz]
  rfl
theorem word_is {A : Option Addr} {n cap p : Nat} {l : List Int} {w : World} (hn : n = l.length) (hL : IntsAt w w.heap.size A l) (hg : pgood l = true) (hp : pword l = p) :
    Calls Tryd.prog 23 #[.agg #[.slice A n cap]] w fun e w' => e = .returned (.tuple #[.int .u64 (p : Int), .bool true]) ∧ Below w.heap.size w w' := hp ▸ pword_yes hn hL hg
end Go.Proofs.YtfcifheejjppfaaDoor
