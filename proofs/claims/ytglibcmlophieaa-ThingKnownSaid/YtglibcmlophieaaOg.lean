/-
  The walk of Put. No condition.
-/
import Derived.Test.YtglibcmlophieaaOf
import Derived.Test.YtglibcmlophieaaIe
namespace Go.Proofs.Ytglibcmlophieaa
open Go.RowKit

theorem make_eight (w : World) : (Instr.makeSlice 29 (.int .i64 8) (.int .i64 8)).run Try.prog w = .ok (.slice (some ⟨w.heap.size, 0, none⟩) 8 8) (w.alloc (.cells #[.int .u64 0, .int .u64 0, .int .u64 0, .int .u64 0, .int .u64 0, .int .u64 0, .int .u64 0, .int .u64 0] 23)) :=
  (make_words 8 (by decide) w).trans (by
    have e : madeCells #[.int .u64 0] 8 = #[.int .u64 0, .int .u64 0, .int .u64 0, .int .u64 0, .int .u64 0, .int .u64 0, .int .u64 0, .int .u64 0] := by kernel_rfl
    rw [e])
def zero8 : List Nat := [0, 0, 0, 0, 0, 0, 0, 0]
theorem Pl.start {W w : World} {g : Nat} {t : Tng} (h : Tbx W w g t) (k : Nat) : Pl W (w.alloc (.cells #[.int .u64 0, .int .u64 0, .int .u64 0, .int .u64 0, .int .u64 0, .int .u64 0, .int .u64 0, .int .u64 0] 23)) g w.heap.size t zero8 k := by
  have hg := heap_alloc_new w (.cells #[.int .u64 0, .int .u64 0, .int .u64 0, .int .u64 0, .int .u64 0, .int .u64 0, .int .u64 0, .int .u64 0] 23)
  have hc : ∀ j, j < 8 → (w.alloc (.cells #[.int .u64 0, .int .u64 0, .int .u64 0, .int .u64 0, .int .u64 0, .int .u64 0, .int .u64 0, .int .u64 0] 23)).cell? ⟨w.heap.size, j, none⟩ = some (.int .u64 0) := fun j hj => by
    rw [cell_of_row _ _ j _ _ _ hg]
    rcases (by omega : j = 0 ∨ j = 1 ∨ j = 2 ∨ j = 3 ∨ j = 4 ∨ j = 5 ∨ j = 6 ∨ j = 7) with rfl | rfl | rfl | rfl | rfl | rfl | rfl | rfl <;> rfl
  refine ⟨h.on (below_alloc _ _), fun j z _ hz => ?_, fun j hj => ⟨_, hc j hj⟩, fun j => frozen_of_row _ _ j _ _ hg, h.lt, by simp⟩
  have hj : j < 8 := (List.getElem?_eq_some_iff.1 hz).1
  rw [hc j hj]
  rcases (by omega : j = 0 ∨ j = 1 ∨ j = 2 ∨ j = 3 ∨ j = 4 ∨ j = 5 ∨ j = 6 ∨ j = 7) with rfl | rfl | rfl | rfl | rfl | rfl | rfl | rfl <;> (injection hz with hz; rw [← hz]; rfl)
/-- cell by cell -/
theorem Pl.cells {W w : World} {x m k : Nat} {a b c s u f g : Nat} {full : Bool} {word d0 d1 d2 d3 : Nat} {l : List Nat} (h : Pl W w x m (Tng.mk a b c s u f g full word d0 d1 d2 d3) l k) : w.cell? ⟨x, 0, none⟩ = some (.int .i64 (a : Int)) ∧ w.cell? ⟨x, 1, none⟩ = some (.int .i64 (b : Int)) ∧ w.cell? ⟨x, 2, none⟩ = some (.int .i64 (c : Int)) ∧ w.cell? ⟨x, 3, none⟩ = some (.int .i64 (s : Int)) ∧ w.cell? ⟨x, 4, none⟩ = some (.int .i64 (u : Int)) ∧ w.cell? ⟨x, 5, none⟩ = some (.int .i64 (f : Int)) ∧ w.cell? ⟨x, 6, none⟩ = some (.int .i64 (g : Int)) ∧ w.cell? ⟨x, 7, none⟩ = some (.bool full) ∧ w.cell? ⟨x, 8, none⟩ = some (.int .u64 (word : Int)) ∧ w.cell? ⟨x, 9, none⟩ = some (.int .u64 (d0 : Int)) ∧ w.cell? ⟨x, 10, none⟩ = some (.int .u64 (d1 : Int)) ∧ w.cell? ⟨x, 11, none⟩ = some (.int .u64 (d2 : Int)) ∧ w.cell? ⟨x, 12, none⟩ = some (.int .u64 (d3 : Int)) ∧ Pl W w x m (Tng.mk a b c s u f g full word d0 d1 d2 d3) l k :=
  ⟨h.tb.c0, h.tb.c1, h.tb.c2, h.tb.c3, h.tb.c4, h.tb.c5, h.tb.c6, h.tb.c7, h.tb.c8, h.tb.c9, h.tb.c10, h.tb.c11, h.tb.c12, h⟩
theorem small_pl {W v : World} {x m k : Nat} {a b c s u f g : Nat} {full : Bool} {word d0 d1 d2 d3 : Nat} {l : List Nat} (h : Pl W v x m (Tng.mk a b c s u f g full word d0 d1 d2 d3) l k) : Calls Try.prog 24 #[] v fun e w' => ∃ A cap, e = .returned (.slice A 5 cap) ∧ (w'.cell? ⟨x, 0, none⟩ = some (.int .i64 (a : Int)) ∧ w'.cell? ⟨x, 1, none⟩ = some (.int .i64 (b : Int)) ∧ w'.cell? ⟨x, 2, none⟩ = some (.int .i64 (c : Int)) ∧ w'.cell? ⟨x, 3, none⟩ = some (.int .i64 (s : Int)) ∧ w'.cell? ⟨x, 4, none⟩ = some (.int .i64 (u : Int)) ∧ w'.cell? ⟨x, 5, none⟩ = some (.int .i64 (f : Int)) ∧ w'.cell? ⟨x, 6, none⟩ = some (.int .i64 (g : Int)) ∧ w'.cell? ⟨x, 7, none⟩ = some (.bool full) ∧ w'.cell? ⟨x, 8, none⟩ = some (.int .u64 (word : Int)) ∧ w'.cell? ⟨x, 9, none⟩ = some (.int .u64 (d0 : Int)) ∧ w'.cell? ⟨x, 10, none⟩ = some (.int .u64 (d1 : Int)) ∧ w'.cell? ⟨x, 11, none⟩ = some (.int .u64 (d2 : Int)) ∧ w'.cell? ⟨x, 12, none⟩ = some (.int .u64 (d3 : Int)) ∧ Pl W w' x m (Tng.mk a b c s u f g full word d0 d1 d2 d3) l k) ∧ FdsAt w' w'.heap.size A smallf ∧ Below v.heap.size v w' := by
  refine (small_any v).mono ?_
  rintro e w' ⟨A, cap, rfl, hf, hb⟩
  exact ⟨A, cap, rfl, (h.on hb).cells, hf, hb⟩
theorem large_pl {W v : World} {x m k : Nat} {a b c s u f g : Nat} {full : Bool} {word d0 d1 d2 d3 : Nat} {l : List Nat} (h : Pl W v x m (Tng.mk a b c s u f g full word d0 d1 d2 d3) l k) : Calls Try.prog 26 #[] v fun e w' => ∃ A cap, e = .returned (.slice A 3 cap) ∧ (w'.cell? ⟨x, 0, none⟩ = some (.int .i64 (a : Int)) ∧ w'.cell? ⟨x, 1, none⟩ = some (.int .i64 (b : Int)) ∧ w'.cell? ⟨x, 2, none⟩ = some (.int .i64 (c : Int)) ∧ w'.cell? ⟨x, 3, none⟩ = some (.int .i64 (s : Int)) ∧ w'.cell? ⟨x, 4, none⟩ = some (.int .i64 (u : Int)) ∧ w'.cell? ⟨x, 5, none⟩ = some (.int .i64 (f : Int)) ∧ w'.cell? ⟨x, 6, none⟩ = some (.int .i64 (g : Int)) ∧ w'.cell? ⟨x, 7, none⟩ = some (.bool full) ∧ w'.cell? ⟨x, 8, none⟩ = some (.int .u64 (word : Int)) ∧ w'.cell? ⟨x, 9, none⟩ = some (.int .u64 (d0 : Int)) ∧ w'.cell? ⟨x, 10, none⟩ = some (.int .u64 (d1 : Int)) ∧ w'.cell? ⟨x, 11, none⟩ = some (.int .u64 (d2 : Int)) ∧ w'.cell? ⟨x, 12, none⟩ = some (.int .u64 (d3 : Int)) ∧ Pl W w' x m (Tng.mk a b c s u f g full word d0 d1 d2 d3) l k) ∧ FdsAt w' w'.heap.size A largef ∧ Below v.heap.size v w' := by
  refine (large_any v).mono ?_
  rintro e w' ⟨A, cap, rfl, hf, hb⟩
  exact ⟨A, cap, rfl, (h.on hb).cells, hf, hb⟩
theorem full_pl {W v : World} {x m k q : Nat} {a b c s u f g : Nat} {full : Bool} {word d0 d1 d2 d3 : Nat} {l : List Nat} (h : Pl W v x m (Tng.mk a b c s u f g full word d0 d1 d2 d3) l k) (hq : Hid (fulln (Tng.mk a b c s u f g full word d0 d1 d2 d3) = q)) : Calls Try.prog 25 #[.agg #[.int .i64 (a : Int), .int .i64 (b : Int), .int .i64 (c : Int), .int .i64 (s : Int), .int .i64 (u : Int), .int .i64 (f : Int), .int .i64 (g : Int), .bool full, .int .u64 (word : Int), .int .u64 (d0 : Int), .int .u64 (d1 : Int), .int .u64 (d2 : Int), .int .u64 (d3 : Int)]] v fun e w' => e = .returned (.int .u64 (q : Int)) ∧ (w'.cell? ⟨x, 0, none⟩ = some (.int .i64 (a : Int)) ∧ w'.cell? ⟨x, 1, none⟩ = some (.int .i64 (b : Int)) ∧ w'.cell? ⟨x, 2, none⟩ = some (.int .i64 (c : Int)) ∧ w'.cell? ⟨x, 3, none⟩ = some (.int .i64 (s : Int)) ∧ w'.cell? ⟨x, 4, none⟩ = some (.int .i64 (u : Int)) ∧ w'.cell? ⟨x, 5, none⟩ = some (.int .i64 (f : Int)) ∧ w'.cell? ⟨x, 6, none⟩ = some (.int .i64 (g : Int)) ∧ w'.cell? ⟨x, 7, none⟩ = some (.bool full) ∧ w'.cell? ⟨x, 8, none⟩ = some (.int .u64 (word : Int)) ∧ w'.cell? ⟨x, 9, none⟩ = some (.int .u64 (d0 : Int)) ∧ w'.cell? ⟨x, 10, none⟩ = some (.int .u64 (d1 : Int)) ∧ w'.cell? ⟨x, 11, none⟩ = some (.int .u64 (d2 : Int)) ∧ w'.cell? ⟨x, 12, none⟩ = some (.int .u64 (d3 : Int)) ∧ Pl W w' x m (Tng.mk a b c s u f g full word d0 d1 d2 d3) l k) ∧ Below v.heap.size v w' := by
  refine (full_is (Tng.mk a b c s u f g full word d0 d1 d2 d3) v).mono ?_
  rintro e w' ⟨rfl, hb⟩
  rw [hq.out]
  exact ⟨rfl, (h.on hb).cells, hb⟩
theorem put_pl {W v : World} {x m k n n' cap cap' r : Nat} {A A' : Option Addr} {fs : List Fd} {vs : List Nat} {a b c s u f g : Nat} {full : Bool} {word d0 d1 d2 d3 : Nat} {l : List Nat} (h : Pl W v x m (Tng.mk a b c s u f g full word d0 d1 d2 d3) l k) (hk : k < 8) (hn : n = fs.length) (hm : n' = vs.length) (hl : n ≤ 1000000) (hv : n' ≤ 1000000)
    (hL : FdsAt v v.heap.size A fs) (hV : WordsAt v v.heap.size A' vs) (hw : ∀ z ∈ vs, z ≤ top) (hr : put fs vs = some r) :
    Calls Try.prog 23 #[.slice A n cap, .slice A' n' cap'] v fun e w' => e = .returned (.tuple #[.int .u64 (r : Int), .bool true]) ∧ (w'.cell? ⟨x, 0, none⟩ = some (.int .i64 (a : Int)) ∧ w'.cell? ⟨x, 1, none⟩ = some (.int .i64 (b : Int)) ∧ w'.cell? ⟨x, 2, none⟩ = some (.int .i64 (c : Int)) ∧ w'.cell? ⟨x, 3, none⟩ = some (.int .i64 (s : Int)) ∧ w'.cell? ⟨x, 4, none⟩ = some (.int .i64 (u : Int)) ∧ w'.cell? ⟨x, 5, none⟩ = some (.int .i64 (f : Int)) ∧ w'.cell? ⟨x, 6, none⟩ = some (.int .i64 (g : Int)) ∧ w'.cell? ⟨x, 7, none⟩ = some (.bool full) ∧ w'.cell? ⟨x, 8, none⟩ = some (.int .u64 (word : Int)) ∧ w'.cell? ⟨x, 9, none⟩ = some (.int .u64 (d0 : Int)) ∧ w'.cell? ⟨x, 10, none⟩ = some (.int .u64 (d1 : Int)) ∧ w'.cell? ⟨x, 11, none⟩ = some (.int .u64 (d2 : Int)) ∧ w'.cell? ⟨x, 12, none⟩ = some (.int .u64 (d3 : Int)) ∧ Pl W w' x m (Tng.mk a b c s u f g full word d0 d1 d2 d3) l k) ∧ (∃ y, w'.cell? ⟨m, k, none⟩ = some y) ∧ w'.frozen? ⟨m, k, none⟩ = false := by
  refine (put_at hn hm hl hv hL hV hw hr).mono ?_
  rintro e w' ⟨rfl, hb⟩
  have h2 := h.on hb
  exact ⟨rfl, h2.cells, h2.is k hk, h2.free k⟩
theorem words5 (w : World) (a b c d e : Nat) : WordsAt (w.alloc (.cells #[.int .u64 (a : Int), .int .u64 (b : Int), .int .u64 (c : Int), .int .u64 (d : Int), .int .u64 (e : Int)] 23)) (w.alloc (.cells #[.int .u64 (a : Int), .int .u64 (b : Int), .int .u64 (c : Int), .int .u64 (d : Int), .int .u64 (e : Int)] 23)).heap.size (some ⟨w.heap.size, 0, none⟩) [a, b, c, d, e] := lit_words' w [a, b, c, d, e] 23 _ rfl
theorem words3 (w : World) (a b c : Nat) : WordsAt (w.alloc (.cells #[.int .u64 (a : Int), .int .u64 (b : Int), .int .u64 (c : Int)] 23)) (w.alloc (.cells #[.int .u64 (a : Int), .int .u64 (b : Int), .int .u64 (c : Int)] 23)).heap.size (some ⟨w.heap.size, 0, none⟩) [a, b, c] := lit_words' w [a, b, c] 23 _ rfl
theorem words3d (w : World) (a b c : Nat) : WordsAt (w.alloc (.cells #[.int .u64 (a : Int), .int .u64 (b : Int), .int .u64 (c : Int)] 23)).drew (w.alloc (.cells #[.int .u64 (a : Int), .int .u64 (b : Int), .int .u64 (c : Int)] 23)).drew.heap.size (some ⟨w.heap.size, 0, none⟩) [a, b, c] := words3 w a b c
theorem lt28 : 2 < 8 := by decide
/-- the four words of a leaf -/
def d4 (a b c d : Nat) : List Value := [.int .u64 (a : Int), .int .u64 (b : Int), .int .u64 (c : Int), .int .u64 (d : Int)]
theorem d4_one (a b c d : Nat) : ∀ v ∈ d4 a b c d, v.oneCell' = true := by
  intro v hv
  unfold d4 at hv
  simp only [List.mem_cons, List.not_mem_nil, or_false] at hv
  rcases hv with rfl | rfl | rfl | rfl <;> rfl
theorem src4 {W w : World} {x : Nat} {a b c s u f g : Nat} {full : Bool} {word d0 d1 d2 d3 : Nat} (h : Tbx W w x (Tng.mk a b c s u f g full word d0 d1 d2 d3)) : ∀ j v, (d4 d0 d1 d2 d3)[j]? = some v → w.cell? ((⟨x, 9, none⟩ : Addr).add j) = some v := by
  intro j v hv
  have hj : j < 4 := (List.getElem?_eq_some_iff.1 hv).1
  rcases (by omega : j = 0 ∨ j = 1 ∨ j = 2 ∨ j = 3) with rfl | rfl | rfl | rfl <;> injection hv with hv <;> subst hv
  · exact h.c9
  · exact h.c10
  · exact h.c11
  · exact h.c12
theorem Pl.isq {W w : World} {x m k : Nat} {t : Tng} {l : List Nat} {a b c d : Nat} (h : Pl W w x m t l k) (j : Nat) (hj : j < (d4 a b c d).length) : (w.cell? ⟨m, 3 + j, none⟩).isSome = true := by
  obtain ⟨v, hv⟩ := h.is (3 + j) (by have : j < 4 := hj; omega)
  rw [hv]
  rfl
theorem Pl.copied {W w : World} {x m : Nat} {t : Tng} {l : List Nat} {a b c d : Nat} (h : Pl W w x m t l 3) : Pl W (w.setCells m 3 (d4 a b c d)) x m t ((((l.set 3 a).set 4 b).set 5 c).set 6 d) 9 :=
  (((h.put (by decide) a 4).put (by decide) b 5).put (by decide) c 6).put (by decide) d 9
theorem Pl.told {W w : World} {x m : Nat} {t : Tng} {l L : List Nat} (h : Pl W w x m t l 9) (hl : l = L) (h8 : L.length = 8 := by rfl) : WListF W w (.returned (.slice (some ⟨m, 0, none⟩) 8 8)) L := by
  subst hl
  refine ⟨some ⟨m, 0, none⟩, 8, by rw [h8], by rw [h8]; exact Nat.le_refl _, fun _ => ⟨m, 0, rfl, h.lt, fun j z hz => ?_⟩, h.tb.old⟩
  rw [Nat.zero_add]
  have := (List.getElem?_eq_some_iff.1 hz).1
  exact h.cs j z (by omega) hz
theorem small_len : 5 = smallf.length := rfl
theorem large_len : 3 = largef.length := rfl
theorem len5 (a b c d e : Nat) : 5 = [a, b, c, d, e].length := rfl
theorem len3 (a b c : Nat) : 3 = [a, b, c].length := rfl
theorem le5 : 5 ≤ 1000000 := by decide
theorem le3 : 3 ≤ 1000000 := by decide
theorem lt08 : 0 < 8 := by decide
theorem lt18 : 1 < 8 := by decide
set_option maxHeartbeats 4000000 in
theorem put_yes (a b c s u f g : Nat) (full : Bool) (word d0 d1 d2 d3 : Nat) (hg : (Tng.mk a b c s u f g full word d0 d1 d2 d3).good = true) (w : World) :
    Calls Try.prog 10 #[.agg #[.int .i64 (a : Int), .int .i64 (b : Int), .int .i64 (c : Int), .int .i64 (s : Int), .int .i64 (u : Int), .int .i64 (f : Int), .int .i64 (g : Int), .bool full, .int .u64 (word : Int), .int .u64 (d0 : Int), .int .u64 (d1 : Int), .int .u64 (d2 : Int), .int .u64 (d3 : Int)]] w fun e w' => WListF w w' e (Tng.mk a b c s u f g full word d0 d1 d2 d3).words := by
  have hK := Tbx.new w (Tng.mk a b c s u f g full word d0 d1 d2 d3) 26
  have hr : ∀ w, Calls Try.prog 9 #[.agg #[.int .i64 (a : Int), .int .i64 (b : Int), .int .i64 (c : Int), .int .i64 (s : Int), .int .i64 (u : Int), .int .i64 (f : Int), .int .i64 (g : Int), .bool full, .int .u64 (word : Int), .int .u64 (d0 : Int), .int .u64 (d1 : Int), .int .u64 (d2 : Int), .int .u64 (d3 : Int)]] w fun e w' => e = .returned (.bool true) ∧ Below w.heap.size w w' := fun w => by
    have := goodt_any (Tng.mk a b c s u f g full word d0 d1 d2 d3) w
    rw [hg] at this
    exact this
  have HR := Lib.hid hr
  have hS := (tng_good.1 hg).small
  obtain ⟨q, hq⟩ : ∃ q, fulln (Tng.mk a b c s u f g full word d0 d1 d2 d3) = q := ⟨_, rfl⟩
  obtain ⟨p0, hp0⟩ : ∃ p0, (Tng.mk a b c s u f g full word d0 d1 d2 d3).w0 = p0 := ⟨_, rfl⟩
  obtain ⟨p1, hp1⟩ : ∃ p1, (Tng.mk a b c s u f g full word d0 d1 d2 d3).w1 = p1 := ⟨_, rfl⟩
  have HP0 : Hid (put smallf [a, b, c, q, f] = some p0) := Lib.hid (by rw [← hq, ← hp0]; exact pput_w0 hS)
  have HP1 : Hid (put largef [s, u, g] = some p1) := Lib.hid (by rw [← hp1]; exact pput_w1 hS)
  have HW : Hid ((Tng.mk a b c s u f g full word d0 d1 d2 d3).words = [p0, p1, word, d0, d1, d2, d3, 0]) := Lib.hid (by rw [Tng.words, hp0, hp1])
  have HQ := Lib.hid hq
  have hq1 : q ≤ 1 := by rw [← hq]; unfold fulln; split <;> omega
  obtain ⟨⟨a1, a2⟩, ⟨b1, b2⟩, ⟨c1, c2⟩, ⟨s1, s2⟩, ⟨u1, u2⟩, ⟨f1, f2⟩, ⟨g1, g2⟩⟩ := hS
  simp only at a1 a2 b1 b2 c1 c2 s1 s2 u1 u2 f1 f2 g1 g2
  have ua : IntKind.u64.wrap (a : Int) = a := tu64 (by omega) (by omega)
  have ub : IntKind.u64.wrap (b : Int) = b := tu64 (by omega) (by omega)
  have uc : IntKind.u64.wrap (c : Int) = c := tu64 (by omega) (by omega)
  have us : IntKind.u64.wrap (s : Int) = s := tu64 (by omega) (by omega)
  have uu : IntKind.u64.wrap (u : Int) = u := tu64 (by omega) (by omega)
  have uf : IntKind.u64.wrap (f : Int) = f := tu64 (by omega) (by omega)
  have ug : IntKind.u64.wrap (g : Int) = g := tu64 (by omega) (by omega)
  have HT5 : Hid (∀ z ∈ [a, b, c, q, f], z ≤ top) := Lib.hid fun z hz => by
    simp only [List.mem_cons, List.not_mem_nil, or_false] at hz
    unfold top
    omega
  have HT3 : Hid (∀ z ∈ [s, u, g], z ≤ top) := Lib.hid fun z hz => by
    simp only [List.mem_cons, List.not_mem_nil, or_false] at hz
    unfold top
    omega
  clear hr hg hq hp0 hp1 hq1 a1 a2 b1 b2 c1 c2 s1 s2 u1 u2 f1 f2 g1 g2
  generalize (Tng.mk a b c s u f g full word d0 d1 d2 d3).words = L at HW ⊢
  unfold tcells at hK
  have hmk := make_eight
  go_enter Try.func10, Try.ntmps10
  go_wp2_with fail
  generalize w.alloc _ = w1 at hK ⊢
  refine (HR.out w1).mono ?_
  rintro e w2 ⟨rfl, hb⟩
  have hP := Pl.start (hK.on hb) 0
  clear hK hb HR
  go_wp2_with fail
  generalize w2.alloc _ = w3 at hP ⊢
  obtain ⟨m, hm⟩ : ∃ m, m = w2.heap.size := ⟨_, rfl⟩
  rw [← hm] at hP ⊢
  clear hm hmk
  obtain ⟨c0, c1, c2, c3, c4, c5, c6, c7, c8, c9, c10, c11, c12, hPd⟩ := hP.drew.cells
  clear hP
  go_wp2_with fail
  go_region_held3 (fun w' => w'.cell? ⟨w.heap.size, 0, none⟩ = some (.int .i64 (a : Int)) ∧ w'.cell? ⟨w.heap.size, 1, none⟩ = some (.int .i64 (b : Int)) ∧ w'.cell? ⟨w.heap.size, 2, none⟩ = some (.int .i64 (c : Int)) ∧ w'.cell? ⟨w.heap.size, 3, none⟩ = some (.int .i64 (s : Int)) ∧ w'.cell? ⟨w.heap.size, 4, none⟩ = some (.int .i64 (u : Int)) ∧ w'.cell? ⟨w.heap.size, 5, none⟩ = some (.int .i64 (f : Int)) ∧ w'.cell? ⟨w.heap.size, 6, none⟩ = some (.int .i64 (g : Int)) ∧ w'.cell? ⟨w.heap.size, 7, none⟩ = some (.bool full) ∧ w'.cell? ⟨w.heap.size, 8, none⟩ = some (.int .u64 (word : Int)) ∧ w'.cell? ⟨w.heap.size, 9, none⟩ = some (.int .u64 (d0 : Int)) ∧ w'.cell? ⟨w.heap.size, 10, none⟩ = some (.int .u64 (d1 : Int)) ∧ w'.cell? ⟨w.heap.size, 11, none⟩ = some (.int .u64 (d2 : Int)) ∧ w'.cell? ⟨w.heap.size, 12, none⟩ = some (.int .u64 (d3 : Int)) ∧ Pl w w' w.heap.size m (Tng.mk a b c s u f g full word d0 d1 d2 d3) zero8 0)
    (first | exact ⟨by with_reducible assumption, by with_reducible assumption, by with_reducible assumption, by with_reducible assumption, by with_reducible assumption, by with_reducible assumption, by with_reducible assumption, by with_reducible assumption, by with_reducible assumption, by with_reducible assumption, by with_reducible assumption, by with_reducible assumption, by with_reducible assumption, by with_reducible assumption⟩ | exact (Pl.alloc (by with_reducible assumption) _).cells | exact (Pl.allocd (by with_reducible assumption) _).cells | exact (Pl.set (by with_reducible assumption) _).cells | fail)
    (first
      | (go_at_call 24; ((with_reducible refine (small_pl (by first | with_reducible assumption | exact Pl.alloc (by with_reducible assumption) _ | exact Pl.allocd (by with_reducible assumption) _ | fail)).mono ?_); rintro e w' ⟨A, cap, rfl, ⟨y0, y1, y2, y3, y4, y5, y6, y7, y8, y9, y10, y11, y12, y13⟩, hF, hbl⟩))
      | (go_at_call 25; ((with_reducible refine (full_pl (by first | with_reducible assumption | exact Pl.alloc (by with_reducible assumption) _ | exact Pl.allocd (by with_reducible assumption) _ | fail) HQ).mono ?_); rintro e w' ⟨rfl, ⟨x0, x1, x2, x3, x4, x5, x6, x7, x8, x9, x10, x11, x12, x13⟩, hb⟩; first | (have hF2 := FdsAt.grow (by with_reducible assumption) hb) | skip))
      | (go_at_call 23; ((with_reducible refine (put_pl (fs := smallf) (vs := [a, b, c, q, f]) (by first | with_reducible assumption | exact Pl.alloc (by with_reducible assumption) _ | exact Pl.allocd (by with_reducible assumption) _ | fail) lt08 small_len (len5 a b c q f) le5 le5 (by first | with_reducible assumption | exact FdsAt.grow (by with_reducible assumption) (below_alloc _ _) | fail) (words5 _ a b c q f) HT5.out HP0.out).mono ?_); rintro e w' ⟨rfl, ⟨z0, z1, z2, z3, z4, z5, z6, z7, z8, z9, z10, z11, z12, z13⟩, ⟨yv, hyv⟩, hfz⟩)))
  have hP1 := z13.put lt08 p0 1
  generalize w'.setCell _ _ = w4 at hP1 ⊢
  have HP := Lib.hid hP1
  clear hP1 hyv hfz hF hF2 hb hbl hPd HQ HP0 HT5 ua ub uc uf z0 z1 z2 z3 z4 z5 z6 z7 z8 z9 z10 z11 z12 z13 x0 x1 x2 x3 x4 x5 x6 x7 x8 x9 x10 x11 x12 x13 y0 y1 y2 y3 y4 y5 y6 y7 y8 y9 y10 y11 y12 y13 c0 c1 c2 c3 c4 c5 c6 c7 c8 c9 c10 c11 c12
  obtain ⟨c0, c1, c2, c3, c4, c5, c6, c7, c8, c9, c10, c11, c12, hPd⟩ := HP.out.drew.cells
  clear HP
  go_wp2_with fail
  go_region_held3 (fun w' => w'.cell? ⟨w.heap.size, 0, none⟩ = some (.int .i64 (a : Int)) ∧ w'.cell? ⟨w.heap.size, 1, none⟩ = some (.int .i64 (b : Int)) ∧ w'.cell? ⟨w.heap.size, 2, none⟩ = some (.int .i64 (c : Int)) ∧ w'.cell? ⟨w.heap.size, 3, none⟩ = some (.int .i64 (s : Int)) ∧ w'.cell? ⟨w.heap.size, 4, none⟩ = some (.int .i64 (u : Int)) ∧ w'.cell? ⟨w.heap.size, 5, none⟩ = some (.int .i64 (f : Int)) ∧ w'.cell? ⟨w.heap.size, 6, none⟩ = some (.int .i64 (g : Int)) ∧ w'.cell? ⟨w.heap.size, 7, none⟩ = some (.bool full) ∧ w'.cell? ⟨w.heap.size, 8, none⟩ = some (.int .u64 (word : Int)) ∧ w'.cell? ⟨w.heap.size, 9, none⟩ = some (.int .u64 (d0 : Int)) ∧ w'.cell? ⟨w.heap.size, 10, none⟩ = some (.int .u64 (d1 : Int)) ∧ w'.cell? ⟨w.heap.size, 11, none⟩ = some (.int .u64 (d2 : Int)) ∧ w'.cell? ⟨w.heap.size, 12, none⟩ = some (.int .u64 (d3 : Int)) ∧ Pl w w' w.heap.size m (Tng.mk a b c s u f g full word d0 d1 d2 d3) (zero8.set 0 p0) 1)
    (first | exact ⟨by with_reducible assumption, by with_reducible assumption, by with_reducible assumption, by with_reducible assumption, by with_reducible assumption, by with_reducible assumption, by with_reducible assumption, by with_reducible assumption, by with_reducible assumption, by with_reducible assumption, by with_reducible assumption, by with_reducible assumption, by with_reducible assumption, by with_reducible assumption⟩ | exact (Pl.alloc (by with_reducible assumption) _).cells | exact (Pl.allocd (by with_reducible assumption) _).cells | exact (Pl.set (by with_reducible assumption) _).cells | fail)
    (first
      | (go_at_call 26; ((with_reducible refine (large_pl (by first | with_reducible assumption | exact Pl.alloc (by with_reducible assumption) _ | exact Pl.allocd (by with_reducible assumption) _ | fail)).mono ?_); rintro e w' ⟨A, cap, rfl, ⟨y0, y1, y2, y3, y4, y5, y6, y7, y8, y9, y10, y11, y12, y13⟩, hF, hbl⟩))
      | (go_at_call 23; ((with_reducible refine (put_pl (fs := largef) (vs := [s, u, g]) (by first | with_reducible assumption | exact Pl.alloc (by with_reducible assumption) _ | exact Pl.allocd (by with_reducible assumption) _ | fail) lt18 large_len (len3 s u g) le3 le3 (by first | with_reducible assumption | exact FdsAt.grow (by with_reducible assumption) (below_alloc _ _) | fail) (by first | exact words3 _ s u g | exact (words3 _ s u g).grow (by with_reducible assumption) | exact (words3d _ s u g).grow (by with_reducible assumption) | fail) HT3.out HP1.out).mono ?_); rintro e w' ⟨rfl, ⟨z0, z1, z2, z3, z4, z5, z6, z7, z8, z9, z10, z11, z12, z13⟩, ⟨yv, hyv⟩, hfz⟩)))
  all_goals have hP2 := z13.put lt18 p1 2
  all_goals generalize w'.setCell _ _ = w5 at hP2 ⊢
  all_goals obtain ⟨yv2, hyv2⟩ := hP2.is 2 (by decide)
  all_goals have hfz2 := hP2.free 2
  all_goals have e8 := hP2.tb.c8
  all_goals simp only at e8
  all_goals have HP2 := Lib.hid hP2
  all_goals clear hyv hfz hF hbl hPd hP2 HP1 HT3 z0 z1 z2 z3 z4 z5 z6 z7 z8 z9 z10 z11 z12 z13 y0 y1 y2 y3 y4 y5 y6 y7 y8 y9 y10 y11 y12 y13 c0 c1 c2 c3 c4 c5 c6 c7 c8 c9 c10 c11 c12
  all_goals go_wp2_with fail
  all_goals have hP3 := (HP2.out.put lt28 word 3).drew
  all_goals clear HP2 hyv2 hfz2 e8
  all_goals generalize w5.setCell _ _ = w6 at hP3 ⊢
  all_goals have HP3 := Lib.hid hP3
  all_goals clear hP3
  all_goals go_region_law (refine step_copy_cells rfl (.tmp 52) (.tmp 54) 29 29 rfl 23 Try.underlying29 tsize23 m 3 5 5 ⟨w.heap.size, 9, none⟩ 4 4 (by rfl) (by rfl) (d4 d0 d1 d2 d3) (by rfl) (src4 HP3.out.tb) (fun j hj => HP3.out.isq j hj) (fun j _ => HP3.out.free _) (d4_one d0 d1 d2 d3) ?_)
  all_goals have hP4 := HP3.out.copied (a := d0) (b := d1) (c := d2) (d := d3)
  all_goals generalize w6.drew.setCells _ _ _ = w7 at hP4 ⊢
  all_goals have HP4 := Lib.hid hP4
  all_goals clear HP3 hP4
  all_goals go_wp2
  all_goals go_ret
  all_goals rw [HW.out]
  all_goals exact HP4.out.told rfl
theorem put_no (t : Tng) (hg : t.good = false) (w : World) : Calls Try.prog 10 #[t.val] w fun e w' => WListF w w' e [] := by
  have hK := Tbx.new w t 26
  have hr := fun w => hg ▸ goodt_any t w
  have HR := Lib.hid hr
  clear hg hr
  unfold Tng.val at *
  unfold tcells at *
  go_enter Try.func10, Try.ntmps10
  go_wp2_with fail
  generalize w.alloc _ = w1 at hK ⊢
  refine (HR.out w1).mono ?_
  rintro e w2 ⟨rfl, hb⟩
  have HO := Lib.hid (hK.on hb).old
  clear hK hb HR
  go_wp2
  go_ret
  exact ⟨none, 0, rfl, Nat.le_refl _, no_words _, HO.out⟩
theorem putt_any (t : Tng) (w : World) : Calls Try.prog 10 #[t.val] w fun e w' => WListF w w' e (tput t) := by
  rcases hg : t.good with _ | _
  · rw [tput, if_neg (by rw [hg]; decide)]
    exact put_no t hg w
  · rw [tput, if_pos hg]
    obtain ⟨ty, bits, base, size, used, frm, badge, full, word, d0, d1, d2, d3⟩ := t
    have hS := (tng_good.1 hg).small
    obtain ⟨⟨a1, _⟩, ⟨b1, _⟩, ⟨c1, _⟩, ⟨s1, _⟩, ⟨u1, _⟩, ⟨f1, _⟩, ⟨g1, _⟩⟩ := hS
    obtain ⟨a, rfl⟩ := Int.eq_ofNat_of_zero_le a1
    obtain ⟨b, rfl⟩ := Int.eq_ofNat_of_zero_le b1
    obtain ⟨c, rfl⟩ := Int.eq_ofNat_of_zero_le c1
    obtain ⟨s, rfl⟩ := Int.eq_ofNat_of_zero_le s1
    obtain ⟨u, rfl⟩ := Int.eq_ofNat_of_zero_le u1
    obtain ⟨f, rfl⟩ := Int.eq_ofNat_of_zero_le f1
    obtain ⟨g, rfl⟩ := Int.eq_ofNat_of_zero_le g1
    exact put_yes a b c s u f g full word d0 d1 d2 d3 hg w
end Go.Proofs.Ytglibcmlophieaa
