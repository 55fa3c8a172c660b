/-
  Words in memory; the walk of package super's Put. No condition.
-/
import Derived.Test.YtfcifheejjppfaaDoorHe
namespace Go.Proofs.YtfcifheejjppfaaDoor
open Go.RowKit

/-- words lie in a block below B -/
def WordsAt (w : World) (B : Nat) (A : Option Addr) (l : List Int) : Prop :=
  0 < l.length → ∃ b o, A = some ⟨b, o, none⟩ ∧ b < B ∧ ∀ (j : Nat) (z : Int), l[j]? = some z → w.cell? ⟨b, o + j, none⟩ = some (.int .u64 z)
theorem WordsAt.below {w w' : World} {B : Nat} {A : Option Addr} {l : List Int} (h : WordsAt w B A l) (hb : Below B w w') : WordsAt w' B A l := fun h0 => by
  obtain ⟨b, o, e, hlt, hc⟩ := h h0
  exact ⟨b, o, e, hlt, fun j a ha => by rw [hb.cell (p := ⟨b, _, none⟩) hlt]; exact hc j a ha⟩
theorem WordsAt.mono {w : World} {B B' : Nat} {A : Option Addr} {l : List Int} (h : WordsAt w B A l) (hB : B ≤ B') : WordsAt w B' A l := fun h0 => by
  obtain ⟨b, o, e, hlt, hc⟩ := h h0
  exact ⟨b, o, e, by omega, hc⟩
theorem WordsAt.grow {w w' : World} {A : Option Addr} {l : List Int} (h : WordsAt w w.heap.size A l) (hb : Below w.heap.size w w') : WordsAt w' w'.heap.size A l := (h.below hb).mono hb.size
/-- a list of words -/
def Words (w : World) (v : Value) (l : List Int) : Prop := ∃ A cap, v = .slice A l.length cap ∧ l.length ≤ cap ∧ WordsAt w w.heap.size A l
theorem Words.below {w w' : World} {v : Value} {l : List Int} (h : Words w v l) (hb : Below w.heap.size w w') : Words w' v l := by
  obtain ⟨A, cap, e, hc, h⟩ := h
  exact ⟨A, cap, e, hc, h.grow hb⟩
theorem words_none (w : World) (cap : Nat) : Words w (.slice none 0 cap) [] := ⟨none, cap, rfl, Nat.zero_le _, fun h => absurd h (by simp)⟩

theorem made_free (w : World) (z : Array Value) (n t k : Nat) : (w.alloc (.cells (madeCells z n) t)).frozen? ⟨w.heap.size, k, none⟩ = false :=
  frozen_of_row _ _ k _ _ (heap_alloc_new w (.cells (madeCells z n) t))
theorem info28_all : (Tryd.prog.info? 27).map (fun i => (i.zero, i.size, i.bytes)) = some (some (.int .u64 0), 1, 8) := by kernel_rfl
theorem info28_parts : ∃ i : TypeInfo, Tryd.prog.info? 27 = some i ∧ i.zero = some (.int .u64 0) ∧ i.size = 1 ∧ i.bytes = 8 := by
  have h := info28_all
  cases hq : Tryd.prog.info? 27 with
  | none => simp [hq] at h
  | some i =>
    simp [hq] at h
    exact ⟨i, rfl, h.1, h.2.1, h.2.2⟩
theorem make_words (n : Nat) (hn : n ≤ 1000000) (w : World) : (Instr.makeSlice 32 (.int .i64 (n : Int)) (.int .i64 (n : Int))).run Tryd.prog w = .ok (.slice (some ⟨w.heap.size, 0, none⟩) n n) (w.alloc (.cells (madeCells #[.int .u64 0] n) 27)) := by
  obtain ⟨i, h1, h2, h3, h4⟩ := info28_parts
  have := run_make w 32 27 i (.int .u64 0) Tryd.underlying32 h1 h2 .i64 .i64 n n (by omega) (by omega) (by rw [h4]; omega) (by omega)
  rw [h3] at this
  simpa [Value.cells] using this
end Go.Proofs.YtfcifheejjppfaaDoor
