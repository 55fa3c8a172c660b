/-
  The walks of package row's has, Flush, Store, Load: what each answers, what becomes of the line.
-/
import Derived.Test.YtehfkibpcdcddaaRa
namespace Go.Proofs.Ytehfkibpcdcddaa
open Go.RowKit

/-- a place in a line? -/
def inl (i : Int) : Bool := decide (0 ≤ i) && decide (i < 8)
theorem inl_yes {i : Int} (h : inl i = true) : 0 ≤ i ∧ i < 8 := by
  unfold inl at h; simpa using h
theorem inl_no {i : Int} (h : inl i = false) : i < 0 ∨ 7 < i := by
  unfold inl at h
  rcases Int.lt_or_le i 0 with g | g
  · exact .inl g
  · simp [g] at h; exact .inr (by omega)

theorem has_any (p : Value) (i : Int) (w : World) :
    Calls Try.prog 56 #[p, .int .i64 i] w fun e w' => e = .returned (.bool (inl i)) ∧ w = w' := by
  rcases hb : inl i with _ | _
  · rcases inl_no hb with h | h
    · clear hb
      go_enter Try.func56, Try.ntmps56
      go_wp2
      go_ret
      exact ⟨rfl, rfl⟩
    · clear hb
      have h2 : ¬ i < 8 := by omega
      have h3 : 0 ≤ i := by omega
      go_enter Try.func56, Try.ntmps56
      go_wp2
      go_ret
      exact ⟨rfl, rfl⟩
  · obtain ⟨h1, h2⟩ := inl_yes hb
    clear hb
    go_enter Try.func56, Try.ntmps56
    go_wp2
    go_ret
    exact ⟨rfl, rfl⟩

def Ln.flush (r : Ln) : Ln := { r with sent := r.out || r.sent }

theorem flush_any (b o : Nat) (r : Ln) (w : World) (h : At w b o r) :
    Calls Try.prog 43 #[.pointer (some ⟨b, o, none⟩)] w fun e w' => e = .returned (.tuple #[]) ∧ Turn w w' b o r.flush := by
  have h1 := h.out
  have h2 := h.sent
  have h3 := (h.free 17 (by omega)).2
  have ht := h.setSent true
  obtain ⟨L, N, ou, se⟩ := r
  cases ou
  · have H := Lib.hid h
    clear ht h
    go_enter Try.func43, Try.ntmps43
    go_wp2
    go_end0
    exact ⟨rfl, Turn.refl H.out⟩
  · have H := Lib.hid ht
    clear ht h
    go_enter Try.func43, Try.ntmps43
    go_wp2
    go_end0
    exact ⟨rfl, H.out⟩

/-- behind a store -/
def Ln.store (r : Ln) (i : Int) (v : Int) : Ln := if inl i = true then { r with N := r.N.set i.toNat v, out := true, sent := false } else r
theorem Ln.store_ok {r : Ln} (h : r.ok) (i v : Int) : (r.store i v).ok := by
  unfold Ln.store; split
  · exact ⟨h.1, by simp only [List.length_set]; exact h.2⟩
  · exact h

theorem store_no (b o : Nat) (i v : Int) (w : World) (hi : Hid (inl i = false)) :
    Calls Try.prog 38 #[.pointer (some ⟨b, o, none⟩), .int .i64 i, .int .u64 v] w fun e w' => e = .returned (.bool false) ∧ w = w' := by
  go_enter Try.func38, Try.ntmps38
  go_wp2_with (go_at_call 56; refine (has_any _ i _).mono ?_; rw [hi.out]; rintro e w' ⟨rfl, rfl⟩)
  go_ret
  exact ⟨rfl, rfl⟩

theorem store_yes (b o i : Nat) (v : Int) (r : Ln) (w : World) (h : At w b o r) (hi : i < 8) :
    Calls Try.prog 38 #[.pointer (some ⟨b, o, none⟩), .int .i64 i, .int .u64 v] w fun e w' => e = .returned (.bool true) ∧ Turn w w' b o { r with N := r.N.set i v, out := true, sent := false } := by
  have hin : Hid (inl i = true) := by unfold Hid inl; simp; omega
  have h1 := h.N hi
  have h2 := h.freeN hi
  have h3 := h.out
  have h4 := (h.free 16 (by omega)).2
  have h5 := h.sent
  have h6 := (h.free 17 (by omega)).2
  have t1 := h.setN i v hi
  have t2 := t1.trans (t1.here.setOut true)
  have t3 := t2.trans (t2.here.setSent false)
  have HT := Lib.hid t3
  clear t1 t2 t3 h
  go_enter Try.func38, Try.ntmps38
  go_wp2_with (go_at_call 56; refine (has_any _ _ _).mono ?_; rw [hin.out]; rintro e w' ⟨rfl, rfl⟩)
  go_ret
  exact ⟨rfl, HT.out⟩

theorem store_any (b o : Nat) (i v : Int) (r : Ln) (w : World) (h : At w b o r) :
    Calls Try.prog 38 #[.pointer (some ⟨b, o, none⟩), .int .i64 i, .int .u64 v] w fun e w' => e = .returned (.bool (inl i)) ∧ Turn w w' b o (r.store i v) := by
  unfold Ln.store
  rcases hb : inl i with _ | _
  · exact (store_no b o i v w hb).mono fun e w' ⟨h1, h2⟩ => ⟨h1, by subst h2; exact Turn.refl h⟩
  · obtain ⟨h1, h2⟩ := inl_yes hb
    obtain ⟨n, rfl⟩ := Int.eq_ofNat_of_zero_le h1
    exact store_yes b o n v r w h (by omega)

/-- what is newest at a place -/
def Ln.load (r : Ln) (i : Int) : Int := if inl i = true then r.N.getD i.toNat 0 else 0

theorem load_no (b o : Nat) (i : Int) (w : World) (hi : Hid (inl i = false)) :
    Calls Try.prog 47 #[.pointer (some ⟨b, o, none⟩), .int .i64 i] w fun e w' => e = .returned (.int .u64 0) ∧ w = w' := by
  go_enter Try.func47, Try.ntmps47
  go_wp2_with (go_at_call 56; refine (has_any _ i _).mono ?_; rw [hi.out]; rintro e w' ⟨rfl, rfl⟩)
  go_ret
  exact ⟨rfl, rfl⟩

theorem load_yes (b o i : Nat) (r : Ln) (w : World) (h : At w b o r) (hi : i < 8) :
    Calls Try.prog 47 #[.pointer (some ⟨b, o, none⟩), .int .i64 i] w fun e w' => e = .returned (.int .u64 (r.N.getD i 0)) ∧ w = w' := by
  have hin : Hid (inl i = true) := by unfold Hid inl; simp; omega
  have h1 := h.N hi
  go_enter Try.func47, Try.ntmps47
  go_wp2_with (go_at_call 56; refine (has_any _ _ _).mono ?_; rw [hin.out]; rintro e w' ⟨rfl, rfl⟩)
  go_ret
  exact ⟨rfl, rfl⟩

theorem load_any (b o : Nat) (i : Int) (r : Ln) (w : World) (h : At w b o r) :
    Calls Try.prog 47 #[.pointer (some ⟨b, o, none⟩), .int .i64 i] w fun e w' => e = .returned (.int .u64 (r.load i)) ∧ w = w' := by
  unfold Ln.load
  rcases hb : inl i with _ | _
  · exact load_no b o i w hb
  · obtain ⟨h1, h2⟩ := inl_yes hb
    obtain ⟨n, rfl⟩ := Int.eq_ofNat_of_zero_le h1
    exact load_yes b o n r w h (by omega)
end Go.Proofs.Ytehfkibpcdcddaa
