/-
  The walks of the law's thingOf and the reference's within and two; two things held against each other. No condition.
-/
import Derived.Test.YtglibcmlophieaaIb
namespace Go.Proofs.Ytglibcmlophieaa
open Go.RowKit
theorem rwithin_is (n a b : Int) (w : World) : Calls Try.prog 32 #[.int .i64 n, .int .i64 a, .int .i64 b] w fun e w' => e = .returned (.bool (inr3 n a b)) ∧ w' = w := by
  by_cases h1 : a ≤ n
  · by_cases h2 : n ≤ b
    · go_enter Try.func32, Try.ntmps32
      go_wp2
      go_ret
      exact ⟨by simp [inr3, h1, h2], rfl⟩
    · go_enter Try.func32, Try.ntmps32
      go_wp2
      go_ret
      exact ⟨by simp [inr3, h1, h2], rfl⟩
  · have h3 : inr3 n a b = false := by rw [inr3, decide_eq_false h1]; rfl
    go_enter Try.func32, Try.ntmps32
    go_wp2
    go_ret
    exact ⟨by rw [← h3]; rfl, rfl⟩
def TwoRel (W : World) (n : Nat) (k : Nat) (p q : Value) (wr : World) : Prop :=
  ∃ i : Nat, k + i = n ∧ p = .int .i64 ((2 ^ i : Nat) : Int) ∧ q = .int .i64 i ∧ wr = W
theorem two_is (n : Int) (h1 : 0 ≤ n) (h2 : n ≤ 60) (w : World) : Calls Try.prog 33 #[.int .i64 n] w fun e w' => e = .returned (.int .i64 (tw2 n)) ∧ w' = w := by
  obtain ⟨m, rfl⟩ : ∃ m : Nat, n = m := ⟨n.toNat, by omega⟩
  have H2 := Lib.hid h2
  have HE : Hid (tw2 (m : Int) = ((2 ^ m : Nat) : Int)) := Lib.hid (by rw [tw2, Int.toNat_natCast]; simp)
  clear h1 h2
  go_enter Try.func33, Try.ntmps33
  go_wp2_with fail
  go_loopg [3, 4] m (fun k p q wr => TwoRel w m k p q wr)
  case atStart => exact ⟨0, by omega, rfl, rfl, rfl⟩
  case round =>
    obtain ⟨i, hk, rfl, rfl, rfl⟩ := hrel
    have HK := Lib.hid hk
    clear hk
    by_cases hlt : i < m
    · have HLT := Lib.hid hlt
      have hlt2 : (i : Int) < (m : Int) := by omega
      have hp : ((2 ^ (i + 1) : Nat) : Int) = 2 * ((2 ^ i : Nat) : Int) := by rw [Nat.pow_succ]; omega
      have hb : (2 ^ i : Nat) ≤ 2 ^ 60 := Nat.pow_le_pow_right (by omega) (by have := H2.out; omega)
      have HP := Lib.hid hp
      have HB := Lib.hid hb
      obtain ⟨y, hy⟩ : ∃ y, (2 ^ i : Nat) = y := ⟨_, rfl⟩
      rw [hy] at HP HB ⊢
      clear hp hb hy
      go_wp2
      go_roundg (m - (i + 1))
      case measure => have := HK.out; have := HLT.out; omega
      case rel => exact ⟨i + 1, by have := HLT.out; omega, (by rw [HP.out]; refine congrArg _ ?_; have := HB.out; first | rfl | (unfold wrap64; omega)), (by refine congrArg _ ?_; have := H2.out; have := HLT.out; first | rfl | (unfold wrap64; omega)), rfl⟩
    · have hlt2 : ¬ (i : Int) < (m : Int) := by omega
      have HI : Hid (i = m) := Lib.hid (by have := HK.out; omega)
      go_wp2
      go_ret
      exact ⟨by rw [HE.out, HI.out]; rfl, rfl⟩
theorem rwithin_at {n a b : Int} {z : Bool} (h : inr3 n a b = z) (w : World) : Calls Try.prog 32 #[.int .i64 n, .int .i64 a, .int .i64 b] w fun e w' => e = .returned (.bool z) ∧ w' = w := h ▸ rwithin_is n a b w
theorem thingof_any (t : Tng) (w : World) : Calls Try.prog 18 #[t.val] w fun e w' => e = .returned t.val ∧ Below w.heap.size w w' := by
  unfold Tng.val
  go_enter Try.func18, Try.ntmps18
  go_wp2_with fail
  go_returns
  exact ⟨rfl, below_on (below_alloc _ _) (below_alloc _ _)⟩

/-! ### two things held against each other -/
theorem tall_range : ∀ (xs ys : List Int), xs.length = ys.length → ((List.range xs.length).all fun i => xs.getD i 0 == ys.getD i 0) = (xs == ys)
  | [], [], _ => rfl
  | x :: xs, y :: ys, h => by
    have ih := tall_range xs ys (by simpa using h)
    rw [List.length_cons, List.range_succ_eq_map, List.all_cons, List.all_map]
    simp only [List.getD_cons_zero, Function.comp_def, List.getD_cons_succ, ih]
    simp [List.cons_beq_cons]
  | [], _ :: _, h => by simp at h
  | _ :: _, [], h => by simp at h
def tucells (l : List Int) : List Value := l.map (.int .u64)
theorem tucells_get {zs : List Int} {j : Nat} (h : j < zs.length) : (tucells zs)[j]? = some (.int .u64 (zs.getD j 0)) := by simp [tucells, h]
theorem tequal_words {P : Program} (w : World) (d : Nat) (t e : TypeId) (n : Nat) (ht : P.underlying t = some (.array n e)) (he : P.underlying e = some (.int .u64)) (hsz : ∀ w, (sizeOf e).run P w = .ok 1 w)
    (xs ys : List Int) (hx : xs.length = n) (hy : ys.length = n) :
    (Op.equalIn (d + 2) t (.agg (tucells xs).toArray) (.agg (tucells ys).toArray)).run P w = .ok (xs == ys) w := by
  rw [← tall_range xs ys (hx.trans hy.symm), hx, List.range_eq_range', Op.equalIn]
  simp only [Sem.run_bind, run_underlying ht, Result.andThen_ok, hsz, Std.Legacy.Range.forIn_eq_forIn_range', Std.Legacy.Range.size, Nat.sub_zero, Nat.add_sub_cancel, Nat.div_one]
  have hl : ∀ i ∈ List.range' 0 n 1, i < n := fun i hi => by simpa using (List.mem_range'_1.1 hi).2
  generalize List.range' 0 n 1 = l at hl ⊢
  induction l with
  | nil => simp
  | cons i l ih =>
    have hi : i < n := hl i (by simp)
    have px : (Go.part e (tucells xs).toArray (i * 1)).run P w = .ok (.int .u64 (xs.getD i 0)) w := by
      have := tucells_get (zs := xs) (j := i) (by omega)
      simp [Go.part, isAgg, run_underlying he, this]
    have py : (Go.part e (tucells ys).toArray (i * 1)).run P w = .ok (.int .u64 (ys.getD i 0)) w := by
      have := tucells_get (zs := ys) (j := i) (by omega)
      simp [Go.part, isAgg, run_underlying he, this]
    have pe : (Op.equalIn (d + 1) e (.int .u64 (xs.getD i 0)) (.int .u64 (ys.getD i 0))).run P w = .ok (xs.getD i 0 == ys.getD i 0) w := by
      rw [run_equalIn_int w d e .u64 .u64 _ _ he]
    simp only [List.forIn_cons, Sem.run_bind, px, py, pe, Result.andThen_ok, List.all_cons]
    cases hb : (xs.getD i 0 == ys.getD i 0)
    · simp
    · simp only [Bool.not_true, Bool.false_eq_true, if_false, Sem.run_pure, Result.andThen_ok, Bool.true_and]
      exact ih fun j hj => hl j (by simp [hj])
theorem tsize23 : (Try.prog.info? 23).map (·.size) = some 1 := by kernel_rfl
theorem trun_size23 (w : World) : (sizeOf 23).run Try.prog w = .ok 1 w := by
  have h := tsize23
  cases hq : Try.prog.info? 23 with
  | none => simp [hq] at h
  | some i => simp [hq] at h; simp [sizeOf, typeInfo, hq, h]
theorem four_beq (a b c d a' b' c' d' : Nat) : ([(a : Int), (b : Int), (c : Int), (d : Int)] == [(a' : Int), (b' : Int), (c' : Int), (d' : Int)]) = (a == a' && (b == b' && (c == c' && d == d'))) := by
  have e : ∀ x y : Nat, ((x : Int) == (y : Int)) = (x == y) := fun x y => by
    rw [Bool.eq_iff_iff, beq_iff_eq, beq_iff_eq]
    exact Int.ofNat_inj
  simp only [List.cons_beq_cons, e]
  simp
theorem teq24 (d : Nat) (a b c e a' b' c' e' : Nat) (w : World) : (Op.equalIn (d + 2) 24 (.agg #[.int .u64 (a : Int), .int .u64 (b : Int), .int .u64 (c : Int), .int .u64 (e : Int)]) (.agg #[.int .u64 (a' : Int), .int .u64 (b' : Int), .int .u64 (c' : Int), .int .u64 (e' : Int)])).run Try.prog w = .ok (a == a' && (b == b' && (c == c' && e == e'))) w := by
  rw [← four_beq]
  exact tequal_words w d 24 23 4 Try.underlying24 Try.underlying23 trun_size23 [a, b, c, e] [a', b', c', e'] rfl rfl
set_option maxHeartbeats 1000000 in
theorem teq26 (a b : Tng) (w : World) : (Op.equalIn 10000 26 a.val b.val).run Try.prog w = .ok (a.eq b) w := by
  obtain ⟨a0, a1, a2, a3, a4, a5, a6, a7, a8, a9, a10, a11, a12⟩ := a
  obtain ⟨b0, b1, b2, b3, b4, b5, b6, b7, b8, b9, b10, b11, b12⟩ := b
  have h := fun w => teq24 9997 a9 a10 a11 a12 b9 b10 b11 b12 w
  unfold Tng.val Tng.eq
  simp only
  generalize (a9 == b9 && (a10 == b10 && (a11 == b11 && a12 == b12))) = z at h ⊢
  by_cases h0 : a0 = b0
  case neg => simp [go_sem, h0]
  subst h0
  by_cases h1 : a1 = b1
  case neg => simp [go_sem, h1]
  subst h1
  by_cases h2 : a2 = b2
  case neg => simp [go_sem, h2]
  subst h2
  by_cases h3 : a3 = b3
  case neg => simp [go_sem, h3]
  subst h3
  by_cases h4 : a4 = b4
  case neg => simp [go_sem, h4]
  subst h4
  by_cases h5 : a5 = b5
  case neg => simp [go_sem, h5]
  subst h5
  by_cases h6 : a6 = b6
  case neg => simp [go_sem, h6]
  subst h6
  by_cases h7 : a7 = b7
  case neg => simp [go_sem, h7]
  subst h7
  by_cases h8 : a8 = b8
  case neg =>
    have q : ¬ (a8 : Int) = (b8 : Int) := by omega
    simp [go_sem, h8, q]
  subst h8
  cases z <;> simp [go_sem, h]
set_option maxHeartbeats 1000000 in
theorem teq36 (a b : Tng) (w : World) : (Op.equalIn 10000 36 a.val b.val).run Try.prog w = .ok (a.eq b) w := by
  obtain ⟨a0, a1, a2, a3, a4, a5, a6, a7, a8, a9, a10, a11, a12⟩ := a
  obtain ⟨b0, b1, b2, b3, b4, b5, b6, b7, b8, b9, b10, b11, b12⟩ := b
  have h := fun w => teq24 9997 a9 a10 a11 a12 b9 b10 b11 b12 w
  unfold Tng.val Tng.eq
  simp only
  generalize (a9 == b9 && (a10 == b10 && (a11 == b11 && a12 == b12))) = z at h ⊢
  by_cases h0 : a0 = b0
  case neg => simp [go_sem, h0]
  subst h0
  by_cases h1 : a1 = b1
  case neg => simp [go_sem, h1]
  subst h1
  by_cases h2 : a2 = b2
  case neg => simp [go_sem, h2]
  subst h2
  by_cases h3 : a3 = b3
  case neg => simp [go_sem, h3]
  subst h3
  by_cases h4 : a4 = b4
  case neg => simp [go_sem, h4]
  subst h4
  by_cases h5 : a5 = b5
  case neg => simp [go_sem, h5]
  subst h5
  by_cases h6 : a6 = b6
  case neg => simp [go_sem, h6]
  subst h6
  by_cases h7 : a7 = b7
  case neg => simp [go_sem, h7]
  subst h7
  by_cases h8 : a8 = b8
  case neg =>
    have q : ¬ (a8 : Int) = (b8 : Int) := by omega
    simp [go_sem, h8, q]
  subst h8
  cases z <;> simp [go_sem, h]
end Go.Proofs.Ytglibcmlophieaa
