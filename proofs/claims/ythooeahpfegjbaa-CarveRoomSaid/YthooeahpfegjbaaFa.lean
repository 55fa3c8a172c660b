/-
  The walks of package forest's isPlace, filled, vacant and mayBear. Condition: the places lie in memory.
-/
import Derived.Test.YthooeahpfegjbaaEe
namespace Go.Proofs.Ythooeahpfegjbaa
open Go.RowKit

/-- a box of the call's own, of one cell; what was before stands -/
structure Pbx (W w : World) (g : Nat) (v : Value) : Prop where
  c : w.cell? ⟨g, 0, none⟩ = some v
  old : Below W.heap.size W w
  base : W.heap.size ≤ g
  lt : g < w.heap.size
theorem Pbx.new (w : World) (v : Value) (t : TypeId) : Pbx w (w.alloc (.cells #[v] t)) w.heap.size v := by
  have hg := heap_alloc_new w (.cells #[v] t)
  exact ⟨by rw [cell_of_row _ _ 0 _ _ _ hg]; rfl, below_alloc _ _, Nat.le_refl _, by simp⟩
theorem Pbx.on {W w w' : World} {g : Nat} {v : Value} (h : Pbx W w g v) (hb : Below w.heap.size w w') : Pbx W w' g v :=
  ⟨by rw [hb.cell (p := ⟨g, 0, none⟩) h.lt]; exact h.c, below_on h.old hb, h.base, Nat.lt_of_lt_of_le h.lt hb.size⟩

/-! ### what the small calls answer -/
def placeB (n : Nat) (i : Int) : Bool := decide (0 ≤ i) && decide (i < n)
def filledB (l : List Int) (i : Int) : Bool := placeB l.length i && !decide (fu l i.toNat = -2)
def vacantB (l : List Int) (i : Int) : Bool := placeB l.length i && decide (fu l i.toNat = -2)
def bearB (l : List Int) (i : Int) : Bool := decide (i = -1) || filledB l i
theorem placeB_iff {n : Nat} {i : Int} : placeB n i = true ↔ ∃ k : Nat, i = k ∧ k < n := by
  rw [placeB, Bool.and_eq_true, decide_eq_true_eq, decide_eq_true_eq]
  exact ⟨fun h => ⟨i.toNat, by omega, by omega⟩, fun ⟨k, h1, h2⟩ => by omega⟩
theorem filledB_iff {l : List Int} {i : Int} : filledB l i = true ↔ ∃ k : Nat, i = k ∧ k < l.length ∧ fu l k ≠ -2 := by
  rw [filledB, Bool.and_eq_true, placeB_iff, Bool.not_eq_true', decide_eq_false_iff_not]
  constructor
  · rintro ⟨⟨k, rfl, h⟩, h2⟩
    exact ⟨k, rfl, h, by simpa using h2⟩
  · rintro ⟨k, rfl, h, h2⟩
    exact ⟨⟨k, rfl, h⟩, by simpa using h2⟩
theorem vacantB_iff {l : List Int} {i : Int} : vacantB l i = true ↔ ∃ k : Nat, i = k ∧ k < l.length ∧ fu l k = -2 := by
  rw [vacantB, Bool.and_eq_true, placeB_iff, decide_eq_true_eq]
  constructor
  · rintro ⟨⟨k, rfl, h⟩, h2⟩
    exact ⟨k, rfl, h, by simpa using h2⟩
  · rintro ⟨k, rfl, h, h2⟩
    exact ⟨⟨k, rfl, h⟩, by simpa using h2⟩
theorem there_eq (l : List Int) (i : Int) : there l i = (filledB l i && fgood l) := by
  rw [there, filledB, placeB, Bool.and_comm, Bool.and_assoc (decide (0 ≤ i))]; try simp only [Bool.and_assoc]
theorem okAt_eq (l : List Int) (k : Nat) : okAt l k = (decide (fu l k = -2) || bearB l (fu l k)) := by
  rw [Bool.eq_iff_iff, okAt_iff, Bool.or_eq_true, decide_eq_true_eq, bearB, Bool.or_eq_true, decide_eq_true_eq, filledB_iff]
  constructor
  · rintro ⟨h1, h2, h3⟩
    rcases neg_or (fu l k) with h0 | h0
    · omega
    · exact .inr (.inr ⟨(fu l k).toNat, by omega, by omega, h3 h0⟩)
  · rintro (h | h | ⟨j, h, h1, h2⟩)
    · exact ⟨by omega, by omega, fun q => by omega⟩
    · exact ⟨by omega, by omega, fun q => by omega⟩
    · exact ⟨by omega, by omega, fun _ => by rw [h, Int.toNat_natCast]; exact h2⟩
theorem fadd_eq (l : List Int) (i k : Int) : fadd l i k = if (fgood l && (vacantB l i && bearB l k)) = true then some (l.set i.toNat k) else none := by
  rw [fadd]
  refine ite_congr (propext ?_) (fun _ => rfl) (fun _ => rfl)
  rw [Bool.and_eq_true, Bool.and_eq_true, bearB, Bool.or_eq_true, decide_eq_true_eq, there_eq, Bool.and_eq_true, vacantB_iff]
  constructor
  · rintro ⟨h, h0, h1, h2, h3⟩
    exact ⟨h, ⟨i.toNat, by omega, by omega, h2⟩, h3.imp id fun q => q.1⟩
  · rintro ⟨h, ⟨m, rfl, h1, h2⟩, h3⟩
    exact ⟨h, by omega, by omega, by simpa using h2, h3.imp id fun q => ⟨q, h⟩⟩
theorem fmove_eq (l : List Int) (i k : Int) : fmove l i k = if (there l i && vacantB l k) = true then some (moveL l i.toNat k.toNat) else none := by
  rw [fmove]
  refine ite_congr (propext ?_) (fun _ => rfl) (fun _ => rfl)
  rw [Bool.and_eq_true, vacantB_iff]
  constructor
  · rintro ⟨h, h0, h1, h2⟩
    exact ⟨h, k.toNat, by omega, by omega, h2⟩
  · rintro ⟨h, m, rfl, h1, h2⟩
    exact ⟨h, by omega, by omega, by simpa using h2⟩

/-! ### the small calls -/
theorem isplace_is {A : Option Addr} {n cap : Nat} {i : Int} {t : Bool} {w : World} (ht : placeB n i = t) :
    Calls Try.prog 81 #[.agg #[.slice A n cap], .int .i64 i] w fun e w' => e = .returned (.bool t) ∧ Below w.heap.size w w' := by
  have hK := Pbx.new w (.slice A n cap) 60
  have c0 := hK.c
  have HO := Lib.hid hK.old
  rw [placeB] at ht
  clear hK
  by_cases h0 : 0 ≤ i
  · rw [decide_eq_true h0, Bool.true_and] at ht
    by_cases h1 : i < n
    · have HF : Hid (t = true) := Lib.hid (by rw [← ht, decide_eq_true h1])
      clear ht
      go_enter Try.func81, Try.ntmps81
      go_wp2
      go_ret
      exact ⟨by rw [HF.out]; rfl, HO.out⟩
    · have HF : Hid (t = false) := Lib.hid (by rw [← ht, decide_eq_false h1])
      clear ht
      go_enter Try.func81, Try.ntmps81
      go_wp2
      go_ret
      exact ⟨by rw [HF.out]; rfl, HO.out⟩
  · have HF : Hid (t = false) := Lib.hid (by rw [← ht, decide_eq_false h0, Bool.false_and])
    clear ht
    go_enter Try.func81, Try.ntmps81
    go_wp2
    go_ret
    exact ⟨by rw [HF.out]; rfl, HO.out⟩
theorem filled_is {A : Option Addr} {n cap : Nat} {l : List Int} {i : Int} {t : Bool} {w : World} (hn : n = l.length) (hL : IntsAt w w.heap.size A l) (ht : filledB l i = t) :
    Calls Try.prog 62 #[.agg #[.slice A n cap], .int .i64 i] w fun e w' => e = .returned (.bool t) ∧ Below w.heap.size w w' := by
  have HN := Lib.hid hn
  have HL := Lib.hid hL
  have HT := Lib.hid ht
  have hK := Pbx.new w (.slice A n cap) 60
  have c0 := hK.c
  clear hn hL ht
  rcases hp : placeB n i with _ | _
  · have HF : Hid (t = false) := Lib.hid (by rw [← HT.out, filledB, ← HN.out, hp]; rfl)
    have HP := Lib.hid hp
    clear hp
    go_enter Try.func62, Try.ntmps62
    go_wp2_with fail
    generalize w.alloc (.cells #[.slice A n cap] 60) = w1 at hK c0 ⊢
    refine (isplace_is (w := w1) HP.out).mono ?_
    rintro e w2 ⟨rfl, hb⟩
    have HO := Lib.hid (hK.on hb).old
    clear hb hK c0
    go_wp2
    go_ret
    exact ⟨by rw [HF.out]; rfl, HO.out⟩
  · obtain ⟨k, rfl, hk⟩ := placeB_iff.1 hp
    have HP := Lib.hid hp
    have HF : Hid (t = !decide (fu l k = -2)) := Lib.hid (by rw [← HT.out, filledB, ← HN.out, hp]; rfl)
    have HK := Lib.hid hk
    clear hp hk
    go_enter Try.func62, Try.ntmps62
    go_wp2_with fail
    generalize w.alloc (.cells #[.slice A n cap] 60) = w1 at hK c0 ⊢
    refine (isplace_is (w := w1) HP.out).mono ?_
    rintro e w2 ⟨rfl, hb⟩
    have K2 := Lib.hid (hK.on hb)
    clear hb hK c0
    have c0 := K2.out.c
    obtain ⟨b, o, rfl, hblk, hc⟩ := at_open HL.out (by rw [← HN.out]; have := HK.out; omega)
    have c1 : w2.cell? ⟨b, o + k, none⟩ = some (.int .i64 (fu l k)) := by
      rw [K2.out.old.cell (p := ⟨b, _, none⟩) hblk]
      exact hc k (by rw [← HN.out]; exact HK.out)
    have hkn : (k : Int) < (n : Int) := by have := HK.out; omega
    obtain ⟨y, hy⟩ : ∃ y, fu l k = y := ⟨_, rfl⟩
    rw [hy] at c1 HF
    clear hc hblk hy
    by_cases h2 : y = -2
    · subst h2
      go_wp2
      go_ret
      exact ⟨by rw [HF.out]; rfl, K2.out.old⟩
    · have h3 : (y != -2) = true := by simp [h2]
      have HF2 : Hid (t = true) := Lib.hid (by rw [HF.out, decide_eq_false h2]; rfl)
      go_wp2
      go_ret
      exact ⟨by rw [HF2.out]; rfl, K2.out.old⟩
theorem maybear_is {A : Option Addr} {n cap : Nat} {l : List Int} {i : Int} {t : Bool} {w : World} (hn : n = l.length) (hL : IntsAt w w.heap.size A l) (ht : bearB l i = t) :
    Calls Try.prog 41 #[.agg #[.slice A n cap], .int .i64 i] w fun e w' => e = .returned (.bool t) ∧ Below w.heap.size w w' := by
  have HN := Lib.hid hn
  have HL := Lib.hid hL
  have hK := Pbx.new w (.slice A n cap) 60
  have c0 := hK.c
  rw [bearB] at ht
  clear hn hL
  by_cases h1 : i = -1
  · have HF : Hid (t = true) := Lib.hid (by rw [← ht, decide_eq_true h1, Bool.true_or])
    have HO := Lib.hid hK.old
    subst h1
    clear ht hK
    go_enter Try.func41, Try.ntmps41
    go_wp2
    go_ret
    exact ⟨by rw [HF.out]; rfl, HO.out⟩
  · rw [decide_eq_false h1, Bool.false_or] at ht
    have HT := Lib.hid ht
    have h2 : (i == -1) = false := by simp [h1]
    clear ht
    go_enter Try.func41, Try.ntmps41
    go_wp2_with fail
    generalize w.alloc (.cells #[.slice A n cap] 60) = w1 at hK c0 ⊢
    refine (filled_is (w := w1) HN.out (HL.out.on hK.old) HT.out).mono ?_
    rintro e w2 ⟨rfl, hb⟩
    have HO := Lib.hid (hK.on hb).old
    clear hb hK c0
    go_wp2
    go_ret
    exact ⟨rfl, HO.out⟩
end Go.Proofs.Ythooeahpfegjbaa
