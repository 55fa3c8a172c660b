/-
  How eight words compare; the walk of the law's is: two lines that are alike are found alike. Condition: a line has eight words and eight words.
-/
import Derived.Test.YtigdhgikdknlmaaRd
namespace Go.Proofs.Ytigdhgikdknlmaa
open Go.RowKit

theorem all_range_ints : ∀ (xs ys : List Int), xs.length = ys.length → ((List.range xs.length).all fun i => xs.getD i 0 == ys.getD i 0) = (xs == ys)
  | [], [], _ => rfl
  | x :: xs, y :: ys, h => by
    have ih := all_range_ints xs ys (by simpa using h)
    rw [List.length_cons, List.range_succ_eq_map, List.all_cons, List.all_map]
    simp only [List.getD_cons_zero, Function.comp_def, List.getD_cons_succ, ih]
    simp [List.cons_beq_cons]
  | [], _ :: _, h => by simp at h
  | _ :: _, [], h => by simp at h

theorem equalIn_words {P : Program} (w : World) (d : Nat) (t e : TypeId) (n : Nat) (ht : P.underlying t = some (.array n e)) (he : P.underlying e = some (.int .u64)) (hsz : ∀ w, (sizeOf e).run P w = .ok 1 w)
    (xs ys : List Int) (hx : xs.length = n) (hy : ys.length = n) :
    (Op.equalIn (d + 2) t (.agg (wcells xs).toArray) (.agg (wcells ys).toArray)).run P w = .ok (xs == ys) w := by
  rw [← all_range_ints xs ys (hx.trans hy.symm), hx, List.range_eq_range', Op.equalIn]
  simp only [Sem.run_bind, run_underlying ht, Result.andThen_ok, hsz, Std.Legacy.Range.forIn_eq_forIn_range', Std.Legacy.Range.size, Nat.sub_zero, Nat.add_sub_cancel, Nat.div_one]
  have hl : ∀ i ∈ List.range' 0 n 1, i < n := fun i hi => by simpa using (List.mem_range'_1.1 hi).2
  generalize List.range' 0 n 1 = l at hl ⊢
  induction l with
  | nil => simp
  | cons i l ih =>
    have hi : i < n := hl i (by simp)
    have px : (part e (wcells xs).toArray (i * 1)).run P w = .ok (.int .u64 (xs.getD i 0)) w := by
      have := wcells_get (zs := xs) (j := i) (by omega)
      simp [part, isAgg, run_underlying he, this]
    have py : (part e (wcells ys).toArray (i * 1)).run P w = .ok (.int .u64 (ys.getD i 0)) w := by
      have := wcells_get (zs := ys) (j := i) (by omega)
      simp [part, isAgg, run_underlying he, this]
    have pe : (Op.equalIn (d + 1) e (.int .u64 (xs.getD i 0)) (.int .u64 (ys.getD i 0))).run P w = .ok (xs.getD i 0 == ys.getD i 0) w := by
      rw [run_equalIn_int w d e .u64 .u64 _ _ he]
    simp only [List.forIn_cons, Sem.run_bind, px, py, pe, Result.andThen_ok, List.all_cons]
    cases hb : (xs.getD i 0 == ys.getD i 0)
    · simp
    · simp only [Bool.not_true, Bool.false_eq_true, if_false, Sem.run_pure, Result.andThen_ok, Bool.true_and]
      exact ih fun j hj => hl j (by simp [hj])

theorem size24 : (Try.prog.info? 24).map (·.size) = some 1 := by kernel_rfl
theorem run_size24 (w : World) : (sizeOf 24).run Try.prog w = .ok 1 w := by
  have h := size24
  cases hq : Try.prog.info? 24 with
  | none => simp [hq] at h
  | some i => simp [hq] at h; simp [sizeOf, typeInfo, hq, h]

/-- eight words against eight words -/
theorem eql25 (xs ys : List Int) (hx : xs.length = 8) (hy : ys.length = 8) (w : World) :
    (Op.equalIn 10000 25 (.agg (wcells xs).toArray) (.agg (wcells ys).toArray)).run Try.prog w = .ok (xs == ys) w :=
  equalIn_words w 9998 25 24 8 Try.underlying25 Try.underlying24 run_size24 xs ys hx hy
theorem eql25' (xs ys : List Int) (hx : xs.length = 8) (hy : ys.length = 8) (w : World) :
    (Op.equalIn 9999 25 (.agg (wcells xs).toArray) (.agg (wcells ys).toArray)).run Try.prog w = .ok (xs == ys) w :=
  equalIn_words w 9997 25 24 8 Try.underlying25 Try.underlying24 run_size24 xs ys hx hy

set_option maxHeartbeats 1000000 in
theorem is_same (r : Ln) (hr : r.ok) (w : World) :
    Calls Try.prog 19 #[.agg r.cells.toArray, .agg r.cells.toArray] w fun e w' => e = .returned (.bool true) ∧ Below w.heap.size w w' := by
  obtain ⟨L, N, ou, se⟩ := r
  have e1 := eql25 L L hr.1 hr.1
  have e2 := eql25 N N hr.2 hr.2
  obtain ⟨a0, a1, a2, a3, a4, a5, a6, a7, rfl⟩ := eight hr.1
  obtain ⟨b0, b1, b2, b3, b4, b5, b6, b7, rfl⟩ := eight hr.2
  simp only [beq_self_eq_true] at e1 e2
  clear hr
  simp only [Ln.cells, wcells, List.map_cons, List.map_nil, List.cons_append, List.nil_append] at e1 e2 ⊢
  go_enter Try.func19, Try.ntmps19
  go_wp2
  go_ret
  exact ⟨rfl, ((Below.refl _ _).alloc (Nat.le_refl _) _).alloc (by simp) _⟩
end Go.Proofs.Ytigdhgikdknlmaa
