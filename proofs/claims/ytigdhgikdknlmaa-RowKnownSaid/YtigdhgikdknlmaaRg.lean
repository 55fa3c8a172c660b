/-
  The walk of the law RowKnown of reevelaw2: it answers true. No condition.
-/
import Derived.Test.YtigdhgikdknlmaaRf
import Derived.Deep.QuietTactic
import Derived.BigQuiet
namespace Go.Proofs.Ytigdhgikdknlmaa
open Go.RowKit

theorem At.cell0 {w : World} {b : Nat} {r : Ln} (h : At w b 0 r) (j : Nat) {v : Value} (hv : r.cells[j]? = some v) : w.cell? ⟨b, j, none⟩ = some v := by
  have := h.range j v hv
  rwa [Nat.zero_add] at this

theorem At.drewN {w : World} {b o : Nat} {r : Ln} (h : At w b o r) (n : Nat) : At (w.drewN n) b o r := ⟨h.ok, h.range, h.free⟩
theorem below_draws {B : Nat} {a w : World} (h : Below B a w) (n : Nat) : Below B a (w.drewN n) := h.trans ⟨rfl, rfl, rfl, Nat.le_refl _, fun _ _ => rfl⟩
theorem load_final (b : Nat) (i : Int) (r : Ln) (w : World) (h : At w b 0 r) (hi : r.load i = 0) :
    Calls Try.prog 13 #[.pointer (some ⟨b, 0, none⟩), .int .i64 i] w fun e w' => e = .returned (.int .u64 0) ∧ w = w' := by
  have := load_any b 0 i r w h
  rwa [hi] at this

set_option maxRecDepth 100000 in
set_option maxHeartbeats 4000000 in
theorem known_walk (w : World) :
    Calls Try.prog 3 #[] w fun e w' => e = .returned (.bool true) ∧ Below w.heap.size w w' := by
  have e1 := eql25 [5, 6, 1, 0, 0, 0, 0, 0] [5, 6, 1, 0, 0, 0, 0, 0] rfl rfl
  simp only [beq_self_eq_true, wcells, List.map_cons, List.map_nil] at e1
  have E1 := Lib.hid e1
  clear e1
  go_enter Try.func3, Try.ntmps3
  go_wp2_with fail
  refine (awake_any _).mono ?_
  rintro e w0 ⟨rfl, hb⟩
  have HR : Hid (w.heap.size ≤ w0.heap.size) := Lib.hid hb.size
  have B0 := Lib.hid (hb.alloc hb.size (.cells blank.cells.toArray 27))
  have A0 := Lib.hid (At.new w0 27 blank blank_ok)
  clear hb
  simp only [blank, Ln.cells, wcells, zeros, List.map_cons, List.map_nil, List.cons_append, List.nil_append] at A0 B0
  obtain ⟨R, hR⟩ : ∃ R, R = w0.heap.size := ⟨_, rfl⟩
  rw [← hR] at A0 HR
  have HRR := Lib.hid hR
  clear hR
  go_wp2_with fail
  rw [← HRR.out]
  refine (store_any R 0 (8) 1 ⟨[0, 0, 0, 0, 0, 0, 0, 0], [0, 0, 0, 0, 0, 0, 0, 0], false, false⟩ _ A0.out).mono ?_
  rintro e w' ⟨rfl, ht⟩
  have B1 := Lib.hid (B0.out.trans (ht.fr.below HR.out B0.out.size))
  have A1 : Hid (At w' R 0 ⟨[0, 0, 0, 0, 0, 0, 0, 0], [0, 0, 0, 0, 0, 0, 0, 0], false, false⟩) := ht.here
  clear ht A0 B0
  rw [show inl (8) = false from rfl]
  go_wp2_with fail
  refine (store_any R 0 (-1) 1 ⟨[0, 0, 0, 0, 0, 0, 0, 0], [0, 0, 0, 0, 0, 0, 0, 0], false, false⟩ _ A1.out).mono ?_
  rintro e w' ⟨rfl, ht⟩
  have B2 := Lib.hid (B1.out.trans (ht.fr.below HR.out B1.out.size))
  have A2 : Hid (At w' R 0 ⟨[0, 0, 0, 0, 0, 0, 0, 0], [0, 0, 0, 0, 0, 0, 0, 0], false, false⟩) := ht.here
  clear ht A1 B1
  rw [show inl (-1) = false from rfl]
  go_wp2_with fail
  refine (fence_any R 0 ⟨[0, 0, 0, 0, 0, 0, 0, 0], [0, 0, 0, 0, 0, 0, 0, 0], false, false⟩ _ A2.out).mono ?_
  rintro e w' ⟨rfl, ht⟩
  have B3 := Lib.hid (B2.out.trans (ht.fr.below HR.out B2.out.size))
  have A3 : Hid (At w' R 0 ⟨[0, 0, 0, 0, 0, 0, 0, 0], [0, 0, 0, 0, 0, 0, 0, 0], false, false⟩) := ht.here
  clear ht A2 B2
  simp only [Bool.and_false]
  go_wp2_with fail
  refine (flush_any R 0 ⟨[0, 0, 0, 0, 0, 0, 0, 0], [0, 0, 0, 0, 0, 0, 0, 0], false, false⟩ _ A3.out).mono ?_
  rintro e w' ⟨rfl, ht⟩
  have B4 := Lib.hid (B3.out.trans (ht.fr.below HR.out B3.out.size))
  have A4 : Hid (At w' R 0 ⟨[0, 0, 0, 0, 0, 0, 0, 0], [0, 0, 0, 0, 0, 0, 0, 0], false, false⟩) := ht.here
  clear ht A3 B3
  have cs := A4.out.sent
  have cs : w'.cell? ⟨R, 17, none⟩ = some (.bool false) := by simpa using cs
  go_wp2_with fail
  clear cs
  refine (store_any R 0 (0) 5 ⟨[0, 0, 0, 0, 0, 0, 0, 0], [0, 0, 0, 0, 0, 0, 0, 0], false, false⟩ _ A4.out).mono ?_
  rintro e w' ⟨rfl, ht⟩
  have B5 := Lib.hid (B4.out.trans (ht.fr.below HR.out B4.out.size))
  have A5 : Hid (At w' R 0 ⟨[0, 0, 0, 0, 0, 0, 0, 0], [5, 0, 0, 0, 0, 0, 0, 0], true, false⟩) := ht.here
  clear ht A4 B4
  rw [show inl (0) = true from rfl]
  go_wp2_with fail
  refine (fence_any R 0 ⟨[0, 0, 0, 0, 0, 0, 0, 0], [5, 0, 0, 0, 0, 0, 0, 0], true, false⟩ _ A5.out).mono ?_
  rintro e w' ⟨rfl, ht⟩
  have B6 := Lib.hid (B5.out.trans (ht.fr.below HR.out B5.out.size))
  have A6 : Hid (At w' R 0 ⟨[0, 0, 0, 0, 0, 0, 0, 0], [5, 0, 0, 0, 0, 0, 0, 0], true, false⟩) := ht.here
  clear ht A5 B5
  simp only [Bool.and_true]
  go_wp2_with fail
  refine (flush_any R 0 ⟨[0, 0, 0, 0, 0, 0, 0, 0], [5, 0, 0, 0, 0, 0, 0, 0], true, false⟩ _ A6.out).mono ?_
  rintro e w' ⟨rfl, ht⟩
  have B7 := Lib.hid (B6.out.trans (ht.fr.below HR.out B6.out.size))
  have A7 : Hid (At w' R 0 ⟨[0, 0, 0, 0, 0, 0, 0, 0], [5, 0, 0, 0, 0, 0, 0, 0], true, true⟩) := ht.here
  clear ht A6 B6
  go_wp2_with fail
  refine (store_any R 0 (1) 6 ⟨[0, 0, 0, 0, 0, 0, 0, 0], [5, 0, 0, 0, 0, 0, 0, 0], true, true⟩ _ A7.out).mono ?_
  rintro e w' ⟨rfl, ht⟩
  have B8 := Lib.hid (B7.out.trans (ht.fr.below HR.out B7.out.size))
  have A8 : Hid (At w' R 0 ⟨[0, 0, 0, 0, 0, 0, 0, 0], [5, 6, 0, 0, 0, 0, 0, 0], true, false⟩) := ht.here
  clear ht A7 B7
  rw [show inl (1) = true from rfl]
  go_wp2_with fail
  refine (fence_any R 0 ⟨[0, 0, 0, 0, 0, 0, 0, 0], [5, 6, 0, 0, 0, 0, 0, 0], true, false⟩ _ A8.out).mono ?_
  rintro e w' ⟨rfl, ht⟩
  have B9 := Lib.hid (B8.out.trans (ht.fr.below HR.out B8.out.size))
  have A9 : Hid (At w' R 0 ⟨[0, 0, 0, 0, 0, 0, 0, 0], [5, 6, 0, 0, 0, 0, 0, 0], true, false⟩) := ht.here
  clear ht A8 B8
  simp only [Bool.and_true]
  go_wp2_with fail
  refine (flush_any R 0 ⟨[0, 0, 0, 0, 0, 0, 0, 0], [5, 6, 0, 0, 0, 0, 0, 0], true, false⟩ _ A9.out).mono ?_
  rintro e w' ⟨rfl, ht⟩
  have B10 := Lib.hid (B9.out.trans (ht.fr.below HR.out B9.out.size))
  have A10 : Hid (At w' R 0 ⟨[0, 0, 0, 0, 0, 0, 0, 0], [5, 6, 0, 0, 0, 0, 0, 0], true, true⟩) := ht.here
  clear ht A9 B9
  go_wp2_with fail
  refine (fence_any R 0 ⟨[0, 0, 0, 0, 0, 0, 0, 0], [5, 6, 0, 0, 0, 0, 0, 0], true, true⟩ _ A10.out).mono ?_
  rintro e w' ⟨rfl, ht⟩
  have B11 := Lib.hid (B10.out.trans (ht.fr.below HR.out B10.out.size))
  have A11 : Hid (At w' R 0 ⟨[5, 6, 0, 0, 0, 0, 0, 0], [5, 6, 0, 0, 0, 0, 0, 0], false, false⟩) := ht.here
  clear ht A10 B10
  simp only [Bool.and_true]
  go_wp2_with fail
  refine (fall_any R 0 true ⟨[5, 6, 0, 0, 0, 0, 0, 0], [5, 6, 0, 0, 0, 0, 0, 0], false, false⟩ _ A11.out).mono ?_
  rintro e w' ⟨rfl, ht⟩
  have B12 := Lib.hid (B11.out.trans (ht.fr.below HR.out B11.out.size))
  have A12 : Hid (At w' R 0 ⟨[5, 6, 0, 0, 0, 0, 0, 0], [5, 6, 0, 0, 0, 0, 0, 0], false, false⟩) := ht.here
  clear ht A11 B11
  go_wp2_with fail
  refine (store_any R 0 (2) 9 ⟨[5, 6, 0, 0, 0, 0, 0, 0], [5, 6, 0, 0, 0, 0, 0, 0], false, false⟩ _ A12.out).mono ?_
  rintro e w' ⟨rfl, ht⟩
  have B13 := Lib.hid (B12.out.trans (ht.fr.below HR.out B12.out.size))
  have A13 : Hid (At w' R 0 ⟨[5, 6, 0, 0, 0, 0, 0, 0], [5, 6, 9, 0, 0, 0, 0, 0], true, false⟩) := ht.here
  clear ht A12 B12
  rw [show inl (2) = true from rfl]
  go_wp2_with fail
  refine (evict_any R 0 ⟨[5, 6, 0, 0, 0, 0, 0, 0], [5, 6, 9, 0, 0, 0, 0, 0], true, false⟩ _ A13.out).mono ?_
  rintro e w' ⟨rfl, ht⟩
  have B14 := Lib.hid (B13.out.trans (ht.fr.below HR.out B13.out.size))
  have A14 : Hid (At w' R 0 ⟨[5, 6, 9, 0, 0, 0, 0, 0], [5, 6, 9, 0, 0, 0, 0, 0], false, false⟩) := ht.here
  clear ht A13 B13
  go_wp2_with fail
  refine (store_any R 0 (2) 1 ⟨[5, 6, 9, 0, 0, 0, 0, 0], [5, 6, 9, 0, 0, 0, 0, 0], false, false⟩ _ A14.out).mono ?_
  rintro e w' ⟨rfl, ht⟩
  have B15 := Lib.hid (B14.out.trans (ht.fr.below HR.out B14.out.size))
  have A15 : Hid (At w' R 0 ⟨[5, 6, 9, 0, 0, 0, 0, 0], [5, 6, 1, 0, 0, 0, 0, 0], true, false⟩) := ht.here
  clear ht A14 B14
  rw [show inl (2) = true from rfl]
  go_wp2_with fail
  refine (fall_any R 0 true ⟨[5, 6, 9, 0, 0, 0, 0, 0], [5, 6, 1, 0, 0, 0, 0, 0], true, false⟩ _ A15.out).mono ?_
  rintro e w' ⟨rfl, ht⟩
  have B16 := Lib.hid (B15.out.trans (ht.fr.below HR.out B15.out.size))
  have A16 : Hid (At w' R 0 ⟨[5, 6, 1, 0, 0, 0, 0, 0], [5, 6, 1, 0, 0, 0, 0, 0], false, false⟩) := ht.here
  clear ht A15 B15
  have c0 : w'.cell? ⟨R, 0, none⟩ = some (.int .u64 5) := A16.out.cell0 0 rfl
  have c1 : w'.cell? ⟨R, 1, none⟩ = some (.int .u64 6) := A16.out.cell0 1 rfl
  have c2 : w'.cell? ⟨R, 2, none⟩ = some (.int .u64 1) := A16.out.cell0 2 rfl
  have c3 : w'.cell? ⟨R, 3, none⟩ = some (.int .u64 0) := A16.out.cell0 3 rfl
  have c4 : w'.cell? ⟨R, 4, none⟩ = some (.int .u64 0) := A16.out.cell0 4 rfl
  have c5 : w'.cell? ⟨R, 5, none⟩ = some (.int .u64 0) := A16.out.cell0 5 rfl
  have c6 : w'.cell? ⟨R, 6, none⟩ = some (.int .u64 0) := A16.out.cell0 6 rfl
  have c7 : w'.cell? ⟨R, 7, none⟩ = some (.int .u64 0) := A16.out.cell0 7 rfl
  have c8 : w'.cell? ⟨R, 8, none⟩ = some (.int .u64 5) := A16.out.cell0 8 rfl
  have c9 : w'.cell? ⟨R, 9, none⟩ = some (.int .u64 6) := A16.out.cell0 9 rfl
  have c10 : w'.cell? ⟨R, 10, none⟩ = some (.int .u64 1) := A16.out.cell0 10 rfl
  have c11 : w'.cell? ⟨R, 11, none⟩ = some (.int .u64 0) := A16.out.cell0 11 rfl
  have c12 : w'.cell? ⟨R, 12, none⟩ = some (.int .u64 0) := A16.out.cell0 12 rfl
  have c13 : w'.cell? ⟨R, 13, none⟩ = some (.int .u64 0) := A16.out.cell0 13 rfl
  have c14 : w'.cell? ⟨R, 14, none⟩ = some (.int .u64 0) := A16.out.cell0 14 rfl
  have c15 : w'.cell? ⟨R, 15, none⟩ = some (.int .u64 0) := A16.out.cell0 15 rfl
  have c16 : w'.cell? ⟨R, 16, none⟩ = some (.bool false) := A16.out.cell0 16 rfl
  have c17 : w'.cell? ⟨R, 17, none⟩ = some (.bool false) := A16.out.cell0 17 rfl
  have e1 := E1.out
  go_wp2_with fail
  go_quiet ((go_at_call 13; exact Calls.quiet_of_same ((load_final R _ _ _ (A16.out.drewN _) (by rfl)).mono fun _ _ h => ⟨h.1, h.2.symm⟩)))
  go_wp2
  go_ret
  exact ⟨rfl, below_draws B16.out _⟩
end Go.Proofs.Ytigdhgikdknlmaa
