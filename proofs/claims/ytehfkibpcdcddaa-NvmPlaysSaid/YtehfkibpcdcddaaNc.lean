/-
  The walk of package nvm's marks: what the list of marks says. Condition: the list lies in memory, shorter than a million.
-/
import Derived.Test.YtehfkibpcdcddaaNb
namespace Go.Proofs.Ytehfkibpcdcddaa
open Go.RowKit

/-- whole numbers lie in a block below B -/
def IntsAt (w : World) (B : Nat) (A : Option Addr) (l : List Int) : Prop :=
  0 < l.length → ∃ b o, A = some ⟨b, o, none⟩ ∧ b < B ∧ ∀ (j : Nat) (z : Int), l[j]? = some z → w.cell? ⟨b, o + j, none⟩ = some (.int .i64 z)
theorem IntsAt.below {w w' : World} {B : Nat} {A : Option Addr} {l : List Int} (h : IntsAt w B A l) (hb : Below B w w') : IntsAt w' B A l := fun h0 => by
  obtain ⟨b, o, e, hlt, hc⟩ := h h0
  exact ⟨b, o, e, hlt, fun j a ha => by rw [hb.cell (p := ⟨b, _, none⟩) hlt]; exact hc j a ha⟩
theorem IntsAt.mono {w : World} {B B' : Nat} {A : Option Addr} {l : List Int} (h : IntsAt w B A l) (hB : B ≤ B') : IntsAt w B' A l := fun h0 => by
  obtain ⟨b, o, e, hlt, hc⟩ := h h0
  exact ⟨b, o, e, by omega, hc⟩

theorem made_cell (w : World) (z : Array Value) (n t k : Nat) (hk : k < n) : (w.alloc (.cells (madeCells z n) t)).cell? ⟨w.heap.size, k, none⟩ = some (z[k % z.size]!) := by
  have e := heap_alloc_new w (.cells (madeCells z n) t)
  rw [cell_of_row _ _ k _ _ _ e]
  unfold madeCells
  simp [hk]
theorem made_free (w : World) (z : Array Value) (n t k : Nat) : (w.alloc (.cells (madeCells z n) t)).frozen? ⟨w.heap.size, k, none⟩ = false :=
  frozen_of_row _ _ k _ _ (heap_alloc_new w (.cells (madeCells z n) t))

theorem info4_all : (Try.prog.info? 4).map (fun i => (i.zero, i.size, i.bytes)) = some (some (.bool false), 1, 1) := by kernel_rfl
theorem info4_parts : ∃ i : TypeInfo, Try.prog.info? 4 = some i ∧ i.zero = some (.bool false) ∧ i.size = 1 ∧ i.bytes = 1 := by
  have h := info4_all
  cases hq : Try.prog.info? 4 with
  | none => simp [hq] at h
  | some i =>
    simp [hq] at h
    exact ⟨i, rfl, h.1, h.2.1, h.2.2⟩

theorem make_marks (n : Nat) (hn : n ≤ 4096) (w : World) : (Instr.makeSlice 62 (.int .i64 (n : Int)) (.int .i64 (n : Int))).run Try.prog w = .ok (.slice (some ⟨w.heap.size, 0, none⟩) n n) (w.alloc (.cells (madeCells #[.bool false] n) 4)) := by
  obtain ⟨i, h1, h2, h3, h4⟩ := info4_parts
  have := run_make w 62 4 i (.bool false) Try.underlying62 h1 h2 .i64 .i64 n n (by omega) (by omega) (by rw [h4]; omega) (by omega)
  rw [h3] at this
  simpa [Value.cells] using this

/-- marks of the first numbers of a list -/
structure Mk (W : World) (G n : Nat) (l : List Int) (i : Nat) (w : World) : Prop where
  marks : Marks w G n fun k => decide ((k : Int) ∈ l.take i)
  free : ∀ k, w.frozen? ⟨G, k, none⟩ = false
  old : Below W.heap.size W w
  base : W.heap.size ≤ G
  lt : G < w.heap.size
theorem Mk.skip {W : World} {G n : Nat} {l : List Int} {i : Nat} {w : World} (h : Mk W G n l i w) {z : Int} (hz : l[i]? = some z) (hn : inb n z = false) : Mk W G n l (i + 1) w := by
  refine ⟨fun k hk => ?_, h.free, h.old, h.base, h.lt⟩
  rw [h.marks k hk, List.take_add_one, hz]
  have : (k : Int) ≠ z := by
    intro e; subst e
    rcases inb_no hn with g | g <;> omega
  simp [this]
theorem Mk.mark {W : World} {G n : Nat} {l : List Int} {i k : Nat} {w : World} (h : Mk W G n l i w) (hz : l[i]? = some (k : Int)) (hn : k < n) : Mk W G n l (i + 1) (w.setCell ⟨G, k, none⟩ (.bool true)) := by
  refine ⟨fun j hj => ?_, fun j => ?_, h.old.trans ((Fr.set_ (b := G) (o := k) (n := 1) w (.bool true) (Nat.le_refl _) (by omega)).below h.base h.old.size), h.base, by simpa [World.setCell] using h.lt⟩
  · rw [List.take_add_one, hz]
    by_cases e : k = j
    · subst e
      rw [World.cell?_setCell_same _ _ _ (h.marks k hn)]
      simp
    · rw [World.cell?_setCell_other _ _ _ _ (fun q => e (by injection q)), h.marks j hj]
      have : (j : Int) ≠ (k : Int) := by omega
      simp [this]
  · rw [World.frozen?_setCell]; exact h.free j

def MarkRel (W : World) (G n : Nat) (l : List Int) (k : Nat) (p : Value) (wr : World) : Prop :=
  ∃ i : Nat, k + i = l.length ∧ p = .int .i64 i ∧ Mk W G n l i wr

set_option maxHeartbeats 1000000 in
theorem marks_any (b rb F : Nat) (m : Mm) (A : Option Addr) (cap : Nat) (l : List Int) (w : World) (h : MAt w b rb F m) (hl : l.length ≤ 1000000) (hL : IntsAt w w.heap.size A l) :
    Calls Try.prog 44 #[.pointer (some ⟨b, 0, none⟩), .slice A l.length cap] w fun e w' => e = .returned (.slice (some ⟨w.heap.size, 0, none⟩) m.rows.length m.rows.length) ∧ w.heap.size < w'.heap.size ∧ Marks w' w.heap.size m.rows.length (fun k => decide ((k : Int) ∈ l)) ∧ Below w.heap.size w w' := by
  have c0 := h.c0
  have HM := Lib.hid h
  have hf := h.few
  clear h
  have LL := Lib.hid hL
  obtain ⟨n, hn⟩ : ∃ n, n = m.rows.length := ⟨_, rfl⟩
  rw [← hn] at c0 hf ⊢
  have HN := Lib.hid hn
  clear hn hL
  obtain ⟨q, hq⟩ : ∃ q, q = l.length := ⟨_, rfl⟩
  rw [← hq] at hl ⊢
  have HQ := Lib.hid hq
  clear hq
  have hmk := make_marks n hf
  have h0 : Mk w w.heap.size n l 0 (w.alloc (.cells (madeCells #[.bool false] n) 4)) :=
    ⟨fun k hk => by rw [made_cell _ _ _ _ _ hk]; simp [Nat.mod_one], fun k => made_free _ _ _ _ _, (Below.refl _ _).alloc (Nat.le_refl _) _, Nat.le_refl _, by simp⟩
  have H0 := Lib.hid h0
  clear h0
  go_enter Try.func44, Try.ntmps44
  go_wp2_with fail
  go_loopg [16] q (fun k p wr => MarkRel w w.heap.size n l k p wr)
  case atStart => exact ⟨0, HQ.out, rfl, H0.out⟩
  case round =>
    obtain ⟨i, hk, rfl, hm⟩ := hrel
    have HK := Lib.hid hk
    have HMK := Lib.hid hm
    clear hk hm H0 c0
    by_cases hlt : i < q
    · have HLT := Lib.hid hlt
      obtain ⟨bb, o, rfl, hblk, hcs⟩ := LL.out (by rw [← HQ.out]; omega)
      obtain ⟨z, hz⟩ : ∃ z, l[i]? = some z := ⟨l[i]'(by rw [← HQ.out]; exact hlt), List.getElem?_eq_getElem _⟩
      have c1 : wr.cell? ⟨bb, o + i, none⟩ = some (.int .i64 z) := by rw [← hcs i z hz]; exact HMK.out.old.cell hblk
      have HZ := Lib.hid hz
      have HMW := Lib.hid (HM.out.below HMK.out.old)
      clear hcs hblk hz
      have hlt2 : (i : Int) < (q : Int) := by omega
      rcases hb : inb n z with _ | _
      · have HI := Lib.hid hb
        clear hb
        go_wp2_with (go_at_call 42; refine (line_any b rb F m z _ HMW.out).mono ?_; unfold Mm.line; rw [← HN.out, HI.out]; rintro e w' ⟨rfl, rfl⟩)
        go_roundg (q - (i + 1))
        case measure => have := HK.out; have := HLT.out; have := HQ.out; omega
        case rel => exact ⟨i + 1, by have := HQ.out; have := HLT.out; omega, by go_num, HMK.out.skip HZ.out HI.out⟩
      · obtain ⟨z0, z1⟩ := inb_yes hb
        obtain ⟨k, rfl⟩ := Int.eq_ofNat_of_zero_le z0
        have HI := Lib.hid hb
        have hk : k < n := by omega
        have c2 := HMK.out.marks k hk
        have c3 := HMK.out.free k
        clear hb
        go_wp2_with (go_at_call 42; refine (line_any b rb F m k _ HMW.out).mono ?_; unfold Mm.line; rw [← HN.out, HI.out]; rintro e w' ⟨rfl, rfl⟩)
        go_roundg (q - (i + 1))
        case measure => have := HK.out; have := HLT.out; have := HQ.out; omega
        case rel => exact ⟨i + 1, by have := HQ.out; have := HLT.out; omega, by go_num, HMK.out.mark HZ.out hk⟩
    · go_wp2
      go_ret
      refine ⟨rfl, HMK.out.lt, ?_, HMK.out.old⟩
      have := HMK.out.marks
      rw [List.take_of_length_le (by have := HQ.out; omega)] at this
      exact this
end Go.Proofs.Ytehfkibpcdcddaa
