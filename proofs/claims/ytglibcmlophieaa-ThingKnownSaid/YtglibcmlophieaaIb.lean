/-
  Words in memory; the law's words; a box of a thing. Condition: the words lie in memory.
-/
import Derived.Test.YtglibcmlophieaaTg
import Derived.Test.YtglibcmlophieaaIa
import Derived.WalkKit
import Derived.WalkSpells
import Derived.WalkLawsBesides
import Derived.Lib.Hide
import Derived.Deep.CutBlock
import Derived.Deep.LoopGhost
import Derived.Deep.RegionHeld3
import Derived.Deep.DeepCutAuto
import Derived.Deep.CutRange
import Derived.Deep.QuietTactic
import Derived.BigQuiet
import Derived.StillTailTactics
import Derived.Handy
import Derived.Below
namespace Go.Proofs.Ytglibcmlophieaa
open Go.RowKit

theorem no_words (w : World) : WordsAt w w.heap.size none [] := fun h => absurd h (by simp)

/-! ### the law's words -/
def TwRel (W : World) (n : Nat) (l m : List Nat) (k : Nat) (p : Value) (wr : World) : Prop :=
  ∃ i : Nat, k + i = n ∧ p = .int .i64 i ∧ l.take i = m.take i ∧ Below W.heap.size W wr
theorem twords_any {A B : Option Addr} {c d : Nat} {l m : List Nat} {w : World} (hl : l.length ≤ 1000000) (hL : WordsAt w w.heap.size A l) (hM : WordsAt w w.heap.size B m) :
    Calls Try.prog 19 #[.slice A l.length c, .slice B m.length d] w fun e w' => e = .returned (.bool (l == m)) ∧ Below w.heap.size w w' := by
  have HL := Lib.hid hL
  have HM := Lib.hid hM
  obtain ⟨n, hn⟩ : ∃ n, n = l.length := ⟨_, rfl⟩
  obtain ⟨k, hk⟩ : ∃ k, k = m.length := ⟨_, rfl⟩
  obtain ⟨x, hx⟩ : ∃ x, x = (l == m) := ⟨_, rfl⟩
  rw [← hn, ← hk, ← hx]
  rw [← hn] at hl
  have HN := Lib.hid hn
  have HK := Lib.hid hk
  have HX := Lib.hid hx
  clear hn hk hx hL hM
  by_cases hnk : n = k
  · subst hnk
    go_enter Try.func19, Try.ntmps19
    go_wp2_with fail
    go_loopg [5] n (fun k p wr => TwRel w n l m k p wr)
    case atStart => exact ⟨0, by omega, rfl, rfl, Below.refl _ _⟩
    case round =>
      obtain ⟨i, hk, rfl, ht, hb⟩ := hrel
      have HI := Lib.hid hk
      have HB := Lib.hid hb
      have HT := Lib.hid ht
      clear hk hb ht
      by_cases hlt : i < n
      · have HLT := Lib.hid hlt
        have hlt2 : (i : Int) < (n : Int) := by omega
        obtain ⟨g1, o1, rfl, x1, y1⟩ := HL.out (by rw [← HN.out]; omega)
        obtain ⟨g2, o2, rfl, x2, y2⟩ := HM.out (by rw [← HK.out]; omega)
        obtain ⟨z, hz⟩ : ∃ z, l[i]? = some z := ⟨l[i]'(by rw [← HN.out]; exact hlt), List.getElem?_eq_getElem _⟩
        obtain ⟨y, hy⟩ : ∃ y, m[i]? = some y := ⟨m[i]'(by rw [← HK.out]; exact hlt), List.getElem?_eq_getElem _⟩
        have c1 : wr.cell? ⟨g1, o1 + i, none⟩ = some (.int .u64 (z : Int)) := by rw [HB.out.cell (p := ⟨g1, _, none⟩) x1]; exact y1 i z hz
        have c2 : wr.cell? ⟨g2, o2 + i, none⟩ = some (.int .u64 (y : Int)) := by rw [HB.out.cell (p := ⟨g2, _, none⟩) x2]; exact y2 i y hy
        have HZ := Lib.hid hz
        have HY := Lib.hid hy
        clear x1 x2 y1 y2 hz hy
        by_cases hzy : z = y
        · subst hzy
          go_wp2_with fail
          go_quiet (fail)
          go_wp2
          go_roundg (n - (i + 1))
          case measure => have := HI.out; have := HLT.out; omega
          case rel => exact ⟨i + 1, by have := HLT.out; omega, by go_num, by rw [List.take_add_one, List.take_add_one, HT.out, HZ.out, HY.out], below_draws HB.out _⟩
        · have HF : Hid (x = false) := Lib.hid (by
            rw [HX.out, beq_eq_false_iff_ne]
            intro e
            subst e
            exact hzy (Option.some.inj (HZ.out.symm.trans HY.out)))
          go_wp2_with fail
          go_quiet (fail)
          go_wp2
          go_ret
          exact ⟨by rw [HF.out]; rfl, below_draws HB.out _⟩
      · have HT2 : Hid (x = true) := Lib.hid (by
          have hi : i = n := by have := HI.out; omega
          have := HT.out
          rw [hi] at this
          conv at this => lhs; rw [HN.out, List.take_length]
          conv at this => rhs; rw [HK.out, List.take_length]
          rw [HX.out, this]
          simp)
        go_wp2
        go_ret
        exact ⟨by rw [HT2.out]; rfl, HB.out⟩
  · have HF : Hid (x = false) := Lib.hid (by
      rw [HX.out, beq_eq_false_iff_ne]
      intro e
      subst e
      exact hnk (HN.out.trans HK.out.symm))
    have h1 : ¬ (n : Int) = (k : Int) := by omega
    go_enter Try.func19, Try.ntmps19
    go_wp2
    go_ret
    exact ⟨by rw [HF.out]; rfl, below_self _⟩
theorem twords_is {A B : Option Addr} {a b c d : Nat} {l m : List Nat} {x : Bool} {w : World} (ha : a = l.length) (hb : b = m.length) (hl : a ≤ 1000000) (hL : WordsAt w w.heap.size A l) (hM : WordsAt w w.heap.size B m) (hx : (l == m) = x) :
    Calls Try.prog 19 #[.slice A a c, .slice B b d] w fun e w' => e = .returned (.bool x) ∧ Below w.heap.size w w' := by
  subst ha
  subst hb
  exact hx ▸ twords_any hl hL hM

/-! ### a thing in a box -/
def tcells (t : Tng) : Array Value := #[.int .i64 t.ty, .int .i64 t.bits, .int .i64 t.base, .int .i64 t.size, .int .i64 t.used, .int .i64 t.frm, .int .i64 t.badge, .bool t.full, .int .u64 (t.word : Int), .int .u64 (t.d0 : Int), .int .u64 (t.d1 : Int), .int .u64 (t.d2 : Int), .int .u64 (t.d3 : Int)]
structure Tbx (W w : World) (g : Nat) (t : Tng) : Prop where
  c0 : w.cell? ⟨g, 0, none⟩ = some (.int .i64 t.ty)
  c1 : w.cell? ⟨g, 1, none⟩ = some (.int .i64 t.bits)
  c2 : w.cell? ⟨g, 2, none⟩ = some (.int .i64 t.base)
  c3 : w.cell? ⟨g, 3, none⟩ = some (.int .i64 t.size)
  c4 : w.cell? ⟨g, 4, none⟩ = some (.int .i64 t.used)
  c5 : w.cell? ⟨g, 5, none⟩ = some (.int .i64 t.frm)
  c6 : w.cell? ⟨g, 6, none⟩ = some (.int .i64 t.badge)
  c7 : w.cell? ⟨g, 7, none⟩ = some (.bool t.full)
  c8 : w.cell? ⟨g, 8, none⟩ = some (.int .u64 (t.word : Int))
  c9 : w.cell? ⟨g, 9, none⟩ = some (.int .u64 (t.d0 : Int))
  c10 : w.cell? ⟨g, 10, none⟩ = some (.int .u64 (t.d1 : Int))
  c11 : w.cell? ⟨g, 11, none⟩ = some (.int .u64 (t.d2 : Int))
  c12 : w.cell? ⟨g, 12, none⟩ = some (.int .u64 (t.d3 : Int))
  free : ∀ k, w.frozen? ⟨g, k, none⟩ = false
  old : Below W.heap.size W w
  base : W.heap.size ≤ g
  lt : g < w.heap.size
theorem Tbx.new (w : World) (t : Tng) (ty : TypeId) : Tbx w (w.alloc (.cells (tcells t) ty)) w.heap.size t := by
  have hg := heap_alloc_new w (.cells (tcells t) ty)
  constructor
  case old => exact below_alloc _ _
  case base => exact Nat.le_refl _
  case lt => simp
  case free => exact fun k => frozen_of_row _ _ k _ _ hg
  all_goals (rw [cell_of_row _ _ _ _ _ _ hg]; rfl)
theorem Tbx.on {W w w' : World} {g : Nat} {t : Tng} (h : Tbx W w g t) (hb : Below w.heap.size w w') : Tbx W w' g t := by
  have e : ∀ k, w'.cell? ⟨g, k, none⟩ = w.cell? ⟨g, k, none⟩ := fun k => hb.cell (p := ⟨g, k, none⟩) h.lt
  refine ⟨?_, ?_, ?_, ?_, ?_, ?_, ?_, ?_, ?_, ?_, ?_, ?_, ?_, fun k => ?_, below_on h.old hb, h.base, Nat.lt_of_lt_of_le h.lt hb.size⟩
  all_goals first | rw [e] | skip
  · exact h.c0
  · exact h.c1
  · exact h.c2
  · exact h.c3
  · exact h.c4
  · exact h.c5
  · exact h.c6
  · exact h.c7
  · exact h.c8
  · exact h.c9
  · exact h.c10
  · exact h.c11
  · exact h.c12
  · rw [World.frozen?_of_block (hb.block _ h.lt)]; exact h.free k
end Go.Proofs.Ytglibcmlophieaa
