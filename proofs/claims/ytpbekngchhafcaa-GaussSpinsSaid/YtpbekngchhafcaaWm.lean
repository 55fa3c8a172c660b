/-
  The walks of Norm, Turn, Word, rest, Sum and Spin of package reeveref1, the document's own answer. Condition: a part is a word below 2^64; a list lies in memory.
-/
import Derived.Test.YtpbekngchhafcaaWl
namespace Go.Proofs.Ytpbekngchhafcaa
open Go.RowKit Flo

set_option maxHeartbeats 400000 in
theorem rnorm_yes (a b : Int) (na : Hid (inN a = true)) (nb : Hid (inN b = true)) (w : World) :
    Calls Try.prog 27 #[.complex .f64 (F a) (F b)] w fun e w' => e = .returned (.int .i64 (a * a + b * b)) ∧ w = w' := by
  have qa := sq_bound na.out
  have qb := sq_bound nb.out
  have TA := Lib.hid (inN_inT na.out)
  have TB := Lib.hid (inN_inT nb.out)
  generalize hqa : a * a = A at qa
  generalize hqb : b * b = B at qb
  obtain ⟨a1, a2⟩ := qa
  obtain ⟨b1, b2⟩ := qb
  go_enter Try.func27, Try.ntmps27
  go_wp2_with (first
    | (go_at_call 22; ((with_reducible refine (rparts_yes a b TA TB _).mono ?_); rintro e w' ⟨rfl, rfl⟩))
    | (go_at_call 34; first | ((with_reducible refine (small_is a _ na _).mono ?_); rintro e w' ⟨rfl, rfl⟩) | ((with_reducible refine (small_is b _ nb _).mono ?_); rintro e w' ⟨rfl, rfl⟩)))
  go_ret
  exact ⟨rfl, rfl⟩

set_option maxHeartbeats 400000 in
theorem rnorm_no (x y : Nat) (hx : Hid (x < 2 ^ 64)) (hy : Hid (y < 2 ^ 64)) (h : Hid ((nr x && nr y) = false)) (w : World) :
    Calls Try.prog 27 #[.complex .f64 x y] w fun e w' => e = .returned (.int .i64 (-1)) ∧ w = w' := by
  obtain ⟨a, b, k, e1, c1⟩ := rparts_near x y hx hy
  have h' := h.out
  rw [e1] at h'
  have C1 := Lib.hid c1
  clear e1 c1
  obtain ⟨fa, ha⟩ : ∃ f, inN a = f := ⟨_, rfl⟩
  obtain ⟨fb, hb⟩ : ∃ f, inN b = f := ⟨_, rfl⟩
  rw [ha, hb] at h'
  have HA := Lib.hid ha
  have HB := Lib.hid hb
  clear ha hb
  have hcs : k = false ∨ (k = true ∧ fa = false) ∨ (k = true ∧ fa = true ∧ fb = false) := by
    revert h'; cases k <;> cases fa <;> cases fb <;> decide
  clear h'
  rcases hcs with rfl | ⟨rfl, rfl⟩ | ⟨rfl, rfl, rfl⟩
  all_goals
    go_enter Try.func27, Try.ntmps27
    go_wp2_with (first
      | (go_at_call 22; ((with_reducible refine (use_rparts x y _ _ _ C1 _).mono ?_); rintro e w' ⟨rfl, rfl⟩))
      | (go_at_call 34; first | ((with_reducible refine (small_is a _ HA _).mono ?_); rintro e w' ⟨rfl, rfl⟩) | ((with_reducible refine (small_is b _ HB _).mono ?_); rintro e w' ⟨rfl, rfl⟩)))
    go_ret
    exact ⟨rfl, rfl⟩

set_option maxHeartbeats 400000 in
theorem rturn_run (a b q k p r : Int) (ha : Hid (inT a = true)) (hb : Hid (inT b = true)) (hq : bits .and .i64 q 3 = k)
    (hk : k = 0 ∧ p = a ∧ r = b ∨ k = 1 ∧ p = -b ∧ r = a ∨ k = 2 ∧ p = -a ∧ r = -b ∨ k = 3 ∧ p = b ∧ r = -a) (tp : Hid (inT p = true)) (tr : Hid (inT r = true)) (w : World) :
    Calls Try.prog 26 #[.complex .f64 (F a) (F b), .int .i64 q] w fun e w' => e = .returned (.complex .f64 (F p) (F r)) ∧ w = w' := by
  have ga := inT_yes ha.out
  have gb := inT_yes hb.out
  unfold top at ga gb
  obtain ⟨a0, a1⟩ := ga
  obtain ⟨b0, b1⟩ := gb
  rcases hk with ⟨rfl, rfl, rfl⟩ | ⟨rfl, rfl, rfl⟩ | ⟨rfl, rfl, rfl⟩ | ⟨rfl, rfl, rfl⟩
  all_goals
    go_enter Try.func26, Try.ntmps26
    go_wp2_with (first
      | (go_at_call 22; ((with_reducible refine (rparts_yes _ _ ha hb _).mono ?_); rintro e w' ⟨rfl, rfl⟩))
      | (go_at_call 21; ((with_reducible refine (rof_yes _ _ tp tr _).mono ?_); rintro e w' ⟨rfl, rfl⟩)))
    go_ret
    exact ⟨rfl, rfl⟩

theorem rturn_yes (a b q : Int) (ha : Hid (inT a = true)) (hb : Hid (inT b = true)) (w : World) :
    Calls Try.prog 26 #[.complex .f64 (F a) (F b), .int .i64 q] w fun e w' => e = .returned (.complex .f64 (F (rotA (q % 4) a b)) (F (rotB (q % 4) a b))) ∧ w = w' := by
  have r := rot_range (k := q % 4) ha.out hb.out
  have hk : q % 4 = 0 ∨ q % 4 = 1 ∨ q % 4 = 2 ∨ q % 4 = 3 := by omega
  refine rturn_run a b q (q % 4) _ _ ha hb (and_three q) ?_ (Lib.hid r.1) (Lib.hid r.2) w
  rcases hk with h | h | h | h <;> rw [h] <;> unfold rotA rotB <;> simp

set_option maxHeartbeats 400000 in
theorem rturn_no (x y : Nat) (q : Int) (hx : Hid (x < 2 ^ 64)) (hy : Hid (y < 2 ^ 64)) (h : Hid ((wh x && wh y) = false)) (w : World) :
    Calls Try.prog 26 #[.complex .f64 x y, .int .i64 q] w fun e w' => e = .returned (.complex .f64 0 0) ∧ w = w' := by
  go_enter Try.func26, Try.ntmps26
  go_wp2_with (go_at_call 22; ((with_reducible refine (rparts_no x y hx hy h _).mono ?_); rintro e w' ⟨rfl, rfl⟩))
  go_ret
  exact ⟨rfl, rfl⟩

set_option maxHeartbeats 400000 in
theorem rword_yes (a b : Int) (ha : Hid (inW a = true)) (hb : Hid (inW b = true)) (w : World) :
    Calls Try.prog 23 #[.complex .f64 (F a) (F b)] w fun e w' => e = .returned (.tuple #[.int .u64 (b * 4294967296 + a), .bool true]) ∧ w = w' := by
  have h1 := inW_yes ha.out
  have h2 := inW_yes hb.out
  have TA := Lib.hid (inT_mk (p := a) (by unfold top; omega) (by unfold top; omega))
  have TB := Lib.hid (inT_mk (p := b) (by unfold top; omega) (by unfold top; omega))
  obtain ⟨a0, a1⟩ := h1
  obtain ⟨b0, b1⟩ := h2
  go_enter Try.func23, Try.ntmps23
  go_wp2_with (go_at_call 22; ((with_reducible refine (rparts_yes a b TA TB _).mono ?_); rintro e w' ⟨rfl, rfl⟩))
  go_ret2
  exact ⟨rfl, rfl⟩

set_option maxHeartbeats 400000 in
theorem rword_not (a b : Int) (ha : Hid (inT a = true)) (hb : Hid (inT b = true)) (h : Hid ((inW a && inW b) = false)) (w : World) :
    Calls Try.prog 23 #[.complex .f64 (F a) (F b)] w fun e w' => e = .returned (.tuple #[.int .u64 0, .bool false]) ∧ w = w' := by
  have hc : a < 0 ∨ (0 ≤ a ∧ b < 0) ∨ (0 ≤ a ∧ 0 ≤ b ∧ 4294967296 ≤ a) ∨ (0 ≤ a ∧ 0 ≤ b ∧ a < 4294967296 ∧ 4294967296 ≤ b) := by
    have h' := h.out
    unfold inW at h'
    simp only [Bool.and_eq_false_iff, decide_eq_false_iff_not] at h'
    omega
  rcases hc with h1 | ⟨h1, h2⟩ | ⟨h1, h2, h3⟩ | ⟨h1, h2, h3, h4⟩
  all_goals
    go_enter Try.func23, Try.ntmps23
    go_wp2_with (go_at_call 22; ((with_reducible refine (rparts_yes a b ha hb _).mono ?_); rintro e w' ⟨rfl, rfl⟩))
    go_ret2
    exact ⟨rfl, rfl⟩

set_option maxHeartbeats 400000 in
theorem rword_no (x y : Nat) (hx : Hid (x < 2 ^ 64)) (hy : Hid (y < 2 ^ 64)) (h : Hid ((wh x && wh y) = false)) (w : World) :
    Calls Try.prog 23 #[.complex .f64 x y] w fun e w' => e = .returned (.tuple #[.int .u64 0, .bool false]) ∧ w = w' := by
  go_enter Try.func23, Try.ntmps23
  go_wp2_with (go_at_call 22; ((with_reducible refine (rparts_no x y hx hy h _).mono ?_); rintro e w' ⟨rfl, rfl⟩))
  go_ret2
  exact ⟨rfl, rfl⟩

theorem tmod_two (n : Int) : (n.tmod 1000003 < 0 ∧ n.tmod 1000003 + 1000003 = res n) ∨ (0 ≤ n.tmod 1000003 ∧ n.tmod 1000003 = res n) := by
  have h1 := Int.tmod_lt_of_pos n (b := 1000003) (by omega)
  have h2 := Int.lt_tmod_of_pos n (b := 1000003) (by omega)
  have h3 := Int.tmod_def n 1000003
  unfold res
  omega

set_option maxHeartbeats 400000 in
theorem rrest_is (n : Int) (w : World) :
    Calls Try.prog 39 #[.int .i64 n] w fun e w' => e = .returned (.int .i64 (res n)) ∧ w = w' := by
  obtain ⟨b1, b2, _⟩ := tmod_facts n
  rcases tmod_two n with ⟨h1, h2⟩ | ⟨h1, h2⟩
  · go_enter Try.func39, Try.ntmps39
    go_wp2
    go_ret
    exact ⟨rfl, rfl⟩
  · go_enter Try.func39, Try.ntmps39
    go_wp2
    go_ret
    exact ⟨rfl, rfl⟩

set_option maxHeartbeats 400000 in
theorem rsum_any (A : Option Addr) (cap : Nat) (zs : List Int) (w : World) (hl : zs.length ≤ maxLen) (hL : Lies w w.heap.size A zs) (hW : Wds zs) :
    Calls Try.prog 37 #[.slice A zs.length cap] w fun e w' => e = .returned (.tuple #[.int .i64 (spin zs).1, .int .i64 (spin zs).2]) ∧ w = w' := by
  unfold maxLen at hl
  have HL := Lib.hid hL
  have HW := Lib.hid hW
  clear hL hW
  obtain ⟨n, hn⟩ : ∃ n, n = zs.length := ⟨_, rfl⟩
  rw [← hn] at hl ⊢
  have HN := Lib.hid hn
  clear hn
  go_enter Try.func37, Try.ntmps37
  go_wp2
  go_loop [4, 5, 6] (fun a b i => ∃ k : Nat, k ≤ n ∧ i = .int .i64 k ∧ a = .int .i64 (spin (zs.take k)).1 ∧ b = .int .i64 (spin (zs.take k)).2) (fun _ _ i => n - (intOf i).toNat)
  case atStart => exact ⟨0, Nat.zero_le _, rfl, rfl, rfl⟩
  case round =>
    obtain ⟨k, hk, rfl, rfl, rfl⟩ := hrel
    by_cases hlt : k < n
    · obtain ⟨ad, rfl, hb, hcell⟩ := HL.out (by rw [← HN.out]; omega)
      have hc := hcell k (by rw [← HN.out]; exact hlt)
      have hwd := HW.out.at (k := k) (by rw [← HN.out]; exact hlt)
      have HS1 := congrArg Prod.fst (spin_snoc zs k (by rw [← HN.out]; exact hlt))
      have HS2 := congrArg Prod.snd (spin_snoc zs k (by rw [← HN.out]; exact hlt))
      obtain ⟨⟨a0, a1⟩, b0, b1⟩ := spin_range (zs.take k)
      clear hcell hb
      simp only [step] at HS1 HS2
      generalize zs.getD k 0 = x at *
      generalize (spin (zs.take k)).1 = a at *
      generalize (spin (zs.take k)).2 = b at *
      obtain ⟨x0, x1⟩ := hwd
      have s1 : x / 65536 / 65536 % 65536 = x / 4294967296 % 65536 := by omega
      have s2 : x / 65536 / 65536 / 65536 = x / 281474976710656 := by omega
      unfold stepA at HS1
      unfold stepB at HS2
      have hs1 := Lib.hid HS1
      have hs2 := Lib.hid HS2
      have r1 : 0 ≤ x % 65536 ∧ x % 65536 ≤ 65535 := by omega
      have r2 : 0 ≤ x / 65536 % 65536 ∧ x / 65536 % 65536 ≤ 65535 := by omega
      have r3 : 0 ≤ x / 4294967296 % 65536 ∧ x / 4294967296 % 65536 ≤ 65535 := by omega
      have r4 : 0 ≤ x / 281474976710656 ∧ x / 281474976710656 ≤ 65535 := by omega
      obtain ⟨r10, r11⟩ := r1
      obtain ⟨r20, r21⟩ := r2
      obtain ⟨r30, r31⟩ := r3
      obtain ⟨r40, r41⟩ := r4
      clear HS1 HS2
      go_wp2_with (go_at_call 39; ((with_reducible refine (rrest_is _ _).mono ?_); rintro e w' ⟨rfl, rfl⟩))
      go_round
      case rel => exact ⟨k + 1, by omega, by go_num, by rw [hs1.out], by rw [hs2.out]⟩
      case measure => simp [intOf]; omega
    · obtain rfl : k = n := by omega
      clear hk hlt
      go_wp2
      go_ret2
      exact ⟨by rw [List.take_of_length_le (by rw [← HN.out]; omega)]; rfl, rfl⟩

set_option maxHeartbeats 400000 in
theorem rspin_any (A : Option Addr) (cap : Nat) (zs : List Int) (w : World) (hl : zs.length ≤ maxLen) (hL : Lies w w.heap.size A zs) (hW : Wds zs) :
    Calls Try.prog 28 #[.slice A zs.length cap] w fun e w' => e = .returned (.complex .f64 (F (spin zs).1) (F (spin zs).2)) ∧ w = w' := by
  have hc := Lib.hid (rsum_any A cap zs w hl hL hW)
  have f1 := fo (spin zs).1
  have f2 := fo (spin zs).2
  clear hl hL hW
  generalize (spin zs).1 = a at *
  generalize (spin zs).2 = b at *
  generalize zs.length = n at *
  go_enter Try.func28, Try.ntmps28
  go_wp2_with (go_at_call 37; refine hc.out.mono ?_; rintro e w' ⟨rfl, rfl⟩)
  go_ret
  exact ⟨rfl, rfl⟩
end Go.Proofs.Ytpbekngchhafcaa
