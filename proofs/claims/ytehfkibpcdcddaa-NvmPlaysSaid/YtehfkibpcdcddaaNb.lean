/-
  The walks of package nvm's hasWord, hasRow, may: what each answers.
-/
import Derived.Test.YtehfkibpcdcddaaNa
namespace Go.Proofs.Ytehfkibpcdcddaa
open Go.RowKit

/-- from 0 on, below n? -/
def inb (n i : Int) : Bool := decide (0 ≤ i) && decide (i < n)
theorem inb_yes {n i : Int} (h : inb n i = true) : 0 ≤ i ∧ i < n := by
  unfold inb at h; simpa using h
theorem inb_no {n i : Int} (h : inb n i = false) : i < 0 ∨ n ≤ i := by
  unfold inb at h
  rcases Int.lt_or_le i 0 with g | g
  · exact .inl g
  · simp [g] at h; exact .inr (by omega)

/-- has it this word, this line? -/
def Mm.word (m : Mm) (i : Int) : Bool := inb (m.rows.length * 8) i
def Mm.line (m : Mm) (i : Int) : Bool := inb m.rows.length i

theorem word_any (b rb F : Nat) (m : Mm) (i : Int) (w : World) (h : MAt w b rb F m) :
    Calls Try.prog 41 #[.pointer (some ⟨b, 0, none⟩), .int .i64 i] w fun e w' => e = .returned (.bool (m.word i)) ∧ w = w' := by
  have c0 := h.c0
  have hf := h.few
  clear h
  unfold Mm.word
  obtain ⟨n, hn⟩ : ∃ n, n = m.rows.length := ⟨_, rfl⟩
  rw [← hn] at c0 hf ⊢
  clear hn
  rcases hb : inb (n * 8) i with _ | _
  · rcases Int.lt_or_le i 0 with g | g
    · clear hb
      have g2 : ¬ 0 ≤ i := by omega
      go_enter Try.func41, Try.ntmps41
      go_wp2
      go_ret
      exact ⟨rfl, rfl⟩
    · have g2 : ¬ i < (n : Int) * 8 := by rcases inb_no hb with h | h <;> omega
      clear hb
      go_enter Try.func41, Try.ntmps41
      go_wp2
      go_ret
      exact ⟨rfl, rfl⟩
  · obtain ⟨h1, h2⟩ := inb_yes hb
    clear hb
    go_enter Try.func41, Try.ntmps41
    go_wp2
    go_ret
    exact ⟨rfl, rfl⟩

theorem line_any (b rb F : Nat) (m : Mm) (i : Int) (w : World) (h : MAt w b rb F m) :
    Calls Try.prog 42 #[.pointer (some ⟨b, 0, none⟩), .int .i64 i] w fun e w' => e = .returned (.bool (m.line i)) ∧ w = w' := by
  have c0 := h.c0
  have hf := h.few
  clear h
  unfold Mm.line
  obtain ⟨n, hn⟩ : ∃ n, n = m.rows.length := ⟨_, rfl⟩
  rw [← hn] at c0 hf ⊢
  clear hn
  rcases hb : inb n i with _ | _
  · rcases Int.lt_or_le i 0 with g | g
    · clear hb
      have g2 : ¬ 0 ≤ i := by omega
      go_enter Try.func42, Try.ntmps42
      go_wp2
      go_ret
      exact ⟨rfl, rfl⟩
    · have g2 : ¬ i < (n : Int) := by rcases inb_no hb with h | h <;> omega
      clear hb
      go_enter Try.func42, Try.ntmps42
      go_wp2
      go_ret
      exact ⟨rfl, rfl⟩
  · obtain ⟨h1, h2⟩ := inb_yes hb
    clear hb
    go_enter Try.func42, Try.ntmps42
    go_wp2
    go_ret
    exact ⟨rfl, rfl⟩

/-- what stands against a call -/
def Mm.may (m : Mm) (t : Bool) : Int := if m.off = true then 12 else if t = true then 0 else 1

theorem may_any (b rb F : Nat) (m : Mm) (t : Bool) (w : World) (h : MAt w b rb F m) :
    Calls Try.prog 46 #[.pointer (some ⟨b, 0, none⟩), .bool t] w fun e w' => e = .returned (.int .i64 (m.may t)) ∧ w = w' := by
  have c1 := h.c1
  clear h
  obtain ⟨rows, off, n, calls, kept⟩ := m
  cases off <;> cases t
  all_goals
    go_enter Try.func46, Try.ntmps46
    go_wp2
    go_ret
    exact ⟨rfl, rfl⟩
end Go.Proofs.Ytehfkibpcdcddaa
