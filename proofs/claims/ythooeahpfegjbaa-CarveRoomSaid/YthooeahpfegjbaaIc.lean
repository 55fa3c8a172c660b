/-
  The walks of the law's thingOf and the reference's within and two; two things held against each other. No condition.
-/
import Derived.Test.YthooeahpfegjbaaIb
namespace Go.Proofs.Ythooeahpfegjbaa
open Go.RowKit
def TwoRel (W : World) (n : Nat) (k : Nat) (p q : Value) (wr : World) : Prop :=
  ∃ i : Nat, k + i = n ∧ p = .int .i64 ((2 ^ i : Nat) : Int) ∧ q = .int .i64 i ∧ wr = W
/-! ### two things held against each other -/
theorem tall_range : ∀ (xs ys : List Int), xs.length = ys.length → ((List.range xs.length).all fun i => xs.getD i 0 == ys.getD i 0) = (xs == ys)
  | [], [], _ => rfl
  | x :: xs, y :: ys, h => by
    have ih := tall_range xs ys (by simpa using h)
    rw [List.length_cons, List.range_succ_eq_map, List.all_cons, List.all_map]
    simp only [List.getD_cons_zero, Function.comp_def, List.getD_cons_succ, ih]
    simp [List.cons_beq_cons]
  | [], _ :: _, h => by simp at h
  | _ :: _, [], h => by simp at h
def tucells (l : List Int) : List Value := l.map (.int .u64)
theorem tucells_get {zs : List Int} {j : Nat} (h : j < zs.length) : (tucells zs)[j]? = some (.int .u64 (zs.getD j 0)) := by simp [tucells, h]
theorem tequal_words {P : Program} (w : World) (d : Nat) (t e : TypeId) (n : Nat) (ht : P.underlying t = some (.array n e)) (he : P.underlying e = some (.int .u64)) (hsz : ∀ w, (sizeOf e).run P w = .ok 1 w)
    (xs ys : List Int) (hx : xs.length = n) (hy : ys.length = n) :
    (Op.equalIn (d + 2) t (.agg (tucells xs).toArray) (.agg (tucells ys).toArray)).run P w = .ok (xs == ys) w := by
  rw [← tall_range xs ys (hx.trans hy.symm), hx, List.range_eq_range', Op.equalIn]
  simp only [Sem.run_bind, run_underlying ht, Result.andThen_ok, hsz, Std.Legacy.Range.forIn_eq_forIn_range', Std.Legacy.Range.size, Nat.sub_zero, Nat.add_sub_cancel, Nat.div_one]
  have hl : ∀ i ∈ List.range' 0 n 1, i < n := fun i hi => by simpa using (List.mem_range'_1.1 hi).2
  generalize List.range' 0 n 1 = l at hl ⊢
  induction l with
  | nil => simp
  | cons i l ih =>
    have hi : i < n := hl i (by simp)
    have px : (Go.part e (tucells xs).toArray (i * 1)).run P w = .ok (.int .u64 (xs.getD i 0)) w := by
      have := tucells_get (zs := xs) (j := i) (by omega)
      simp [Go.part, isAgg, run_underlying he, this]
    have py : (Go.part e (tucells ys).toArray (i * 1)).run P w = .ok (.int .u64 (ys.getD i 0)) w := by
      have := tucells_get (zs := ys) (j := i) (by omega)
      simp [Go.part, isAgg, run_underlying he, this]
    have pe : (Op.equalIn (d + 1) e (.int .u64 (xs.getD i 0)) (.int .u64 (ys.getD i 0))).run P w = .ok (xs.getD i 0 == ys.getD i 0) w := by
      rw [run_equalIn_int w d e .u64 .u64 _ _ he]
    simp only [List.forIn_cons, Sem.run_bind, px, py, pe, Result.andThen_ok, List.all_cons]
    cases hb : (xs.getD i 0 == ys.getD i 0)
    · simp
    · simp only [Bool.not_true, Bool.false_eq_true, if_false, Sem.run_pure, Result.andThen_ok, Bool.true_and]
      exact ih fun j hj => hl j (by simp [hj])
theorem tsize23 : (Try.prog.info? 42).map (·.size) = some 1 := by kernel_rfl
theorem trun_size23 (w : World) : (sizeOf 42).run Try.prog w = .ok 1 w := by
  have h := tsize23
  cases hq : Try.prog.info? 42 with
  | none => simp [hq] at h
  | some i => simp [hq] at h; simp [sizeOf, typeInfo, hq, h]
theorem four_beq (a b c d a' b' c' d' : Nat) : ([(a : Int), (b : Int), (c : Int), (d : Int)] == [(a' : Int), (b' : Int), (c' : Int), (d' : Int)]) = (a == a' && (b == b' && (c == c' && d == d'))) := by
  have e : ∀ x y : Nat, ((x : Int) == (y : Int)) = (x == y) := fun x y => by
    rw [Bool.eq_iff_iff, beq_iff_eq, beq_iff_eq]
    exact Int.ofNat_inj
  simp only [List.cons_beq_cons, e]
  simp
theorem teq24 (d : Nat) (a b c e a' b' c' e' : Nat) (w : World) : (Op.equalIn (d + 2) 43 (.agg #[.int .u64 (a : Int), .int .u64 (b : Int), .int .u64 (c : Int), .int .u64 (e : Int)]) (.agg #[.int .u64 (a' : Int), .int .u64 (b' : Int), .int .u64 (c' : Int), .int .u64 (e' : Int)])).run Try.prog w = .ok (a == a' && (b == b' && (c == c' && e == e'))) w := by
  rw [← four_beq]
  exact tequal_words w d 43 42 4 Try.underlying43 Try.underlying42 trun_size23 [a, b, c, e] [a', b', c', e'] rfl rfl
set_option maxHeartbeats 1000000 in
theorem teq26 (a b : Tng) (w : World) : (Op.equalIn 10000 45 a.val b.val).run Try.prog w = .ok (a.eq b) w := by
  obtain ⟨a0, a1, a2, a3, a4, a5, a6, a7, a8, a9, a10, a11, a12⟩ := a
  obtain ⟨b0, b1, b2, b3, b4, b5, b6, b7, b8, b9, b10, b11, b12⟩ := b
  have h := fun w => teq24 9997 a9 a10 a11 a12 b9 b10 b11 b12 w
  unfold Tng.val Tng.eq
  simp only
  generalize (a9 == b9 && (a10 == b10 && (a11 == b11 && a12 == b12))) = z at h ⊢
  by_cases h0 : a0 = b0
  case neg => simp [go_sem, h0]
  subst h0
  by_cases h1 : a1 = b1
  case neg => simp [go_sem, h1]
  subst h1
  by_cases h2 : a2 = b2
  case neg => simp [go_sem, h2]
  subst h2
  by_cases h3 : a3 = b3
  case neg => simp [go_sem, h3]
  subst h3
  by_cases h4 : a4 = b4
  case neg => simp [go_sem, h4]
  subst h4
  by_cases h5 : a5 = b5
  case neg => simp [go_sem, h5]
  subst h5
  by_cases h6 : a6 = b6
  case neg => simp [go_sem, h6]
  subst h6
  by_cases h7 : a7 = b7
  case neg => simp [go_sem, h7]
  subst h7
  by_cases h8 : a8 = b8
  case neg =>
    have q : ¬ (a8 : Int) = (b8 : Int) := by omega
    simp [go_sem, h8, q]
  subst h8
  cases z <;> simp [go_sem, h]
end Go.Proofs.Ythooeahpfegjbaa
