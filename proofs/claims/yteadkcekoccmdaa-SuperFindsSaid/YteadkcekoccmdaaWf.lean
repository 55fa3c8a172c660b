/-
  The walk of Spin of package gauss: the same sum as the list function spin. Condition: the list lies in memory.
-/
import Derived.Test.YteadkcekoccmdaaWe
namespace Go.Proofs.Yteadkcekoccmdaa
open Go.RowKit Flo

/-- a list of words lies below block B -/
def Lies (w : World) (B : Nat) (A : Option Addr) (zs : List Int) : Prop :=
  0 < zs.length → ∃ ad, A = some ad ∧ ad.block < B ∧ ∀ j, j < zs.length → w.cell? (ad.add j) = some (.int .u64 (zs.getD j 0))
theorem block_add' (a : Addr) (n : Nat) : (a.add n).block = a.block := by unfold Addr.add; split <;> rfl
theorem Lies.below {w w' : World} {B : Nat} {A : Option Addr} {zs : List Int} (h : Lies w B A zs) (hb : Below B w w') : Lies w' B A zs := by
  intro h0
  obtain ⟨ad, e, hB, hc⟩ := h h0
  exact ⟨ad, e, hB, fun j hj => (hb.cell (by rw [block_add']; exact hB)).trans (hc j hj)⟩
/-- words -/
def Wd (x : Int) : Prop := 0 ≤ x ∧ x < 18446744073709551616
def Wds (zs : List Int) : Prop := ∀ x ∈ zs, Wd x
theorem Wds.at {zs : List Int} (h : Wds zs) {k : Nat} (hk : k < zs.length) : Wd (zs.getD k 0) := by
  rw [List.getD, List.getElem?_eq_getElem hk]
  exact h _ (List.getElem_mem hk)

/-- one word more -/
def stepA (_a b x : Int) : Int := res (-b + x % 65536 - x / 4294967296 % 65536)
def stepB (a _b x : Int) : Int := res (a + x / 65536 % 65536 - x / 281474976710656)
def step (p : Int × Int) (x : Int) : Int × Int := (stepA p.1 p.2 x, stepB p.1 p.2 x)
def spin (zs : List Int) : Int × Int := zs.foldl step (0, 0)
theorem spin_snoc (zs : List Int) (k : Nat) (h : k < zs.length) : spin (zs.take (k + 1)) = step (spin (zs.take k)) (zs.getD k 0) := by
  unfold spin
  rw [List.take_add_one, List.foldl_append]
  simp [List.getD, List.getElem?_eq_getElem h]
theorem spin_range (zs : List Int) : (0 ≤ (spin zs).1 ∧ (spin zs).1 ≤ 1000002) ∧ (0 ≤ (spin zs).2 ∧ (spin zs).2 ≤ 1000002) := by
  have : ∀ (l : List Int) (p : Int × Int), ((0 ≤ p.1 ∧ p.1 ≤ 1000002) ∧ (0 ≤ p.2 ∧ p.2 ≤ 1000002)) → ((0 ≤ (l.foldl step p).1 ∧ (l.foldl step p).1 ≤ 1000002) ∧ (0 ≤ (l.foldl step p).2 ∧ (l.foldl step p).2 ≤ 1000002)) := by
    intro l
    induction l with
    | nil => intro p h; exact h
    | cons x r ih => intro p _; exact ih _ ⟨res_range _, res_range _⟩
  exact this zs (0, 0) (by decide)

theorem turn_one (a b : Int) (ha : Hid (inT a = true)) (hb : Hid (inT b = true)) (w : World) :
    Calls Try.prog 35 #[.complex .f64 (F a) (F b), .int .i64 1] w fun e w' => e = .returned (.complex .f64 (F (-b)) (F a)) ∧ Below w.heap.size w w' :=
  turn_yes a b 1 ha hb w

theorem small_natAbs {n : Int} (h1 : -8000000 ≤ n) (h2 : n ≤ 8000000) : n.natAbs < 2 ^ 53 := by omega
theorem small_T {n : Int} (h1 : -8000000 ≤ n) (h2 : n ≤ 8000000) : inT n = true := inT_mk (by unfold top; omega) (by unfold top; omega)

set_option maxHeartbeats 400000 in
theorem spin_any (A : Option Addr) (cap : Nat) (zs : List Int) (w : World) (hl : zs.length ≤ maxLen) (hL : Lies w w.heap.size A zs) (hW : Wds zs) :
    Calls Try.prog 29 #[.slice A zs.length cap] w fun e w' => e = .returned (.complex .f64 (F (spin zs).1) (F (spin zs).2)) ∧ Below w.heap.size w w' := by
  unfold maxLen at hl
  have HL := Lib.hid hL
  have HW := Lib.hid hW
  clear hL hW
  have fz : F 0 = 0 := c_zero
  have H0 := Lib.hid fz
  clear fz
  obtain ⟨n, hn⟩ : ∃ n, n = zs.length := ⟨_, rfl⟩
  rw [← hn] at hl ⊢
  have HN := Lib.hid hn
  clear hn
  have fo' : ∀ n, floatOfInt FloatKind.f64 n = F n := fo
  go_enter Try.func29, Try.ntmps29
  go_wp2
  go_loopw [3, 10] (fun z i wr => ∃ k : Nat, k ≤ n ∧ i = .int .i64 k ∧ z = .complex .f64 (F (spin (zs.take k)).1) (F (spin (zs.take k)).2) ∧ Below w.heap.size w wr) (fun _ i _ => n - (intOf i).toNat)
  case atStart => exact ⟨0, Nat.zero_le _, rfl, by rw [List.take_zero]; show _ = Value.complex _ (F 0) (F 0); rw [H0.out], Below.refl _ _⟩
  case round =>
    obtain ⟨k, hk, rfl, rfl, hB⟩ := hrel
    by_cases hlt : k < n
    · obtain ⟨ad, rfl, hb, hcell⟩ := (HL.out.below hB) (by rw [← HN.out]; omega)
      have hc := hcell k (by rw [← HN.out]; exact hlt)
      have hwd := HW.out.at (k := k) (by rw [← HN.out]; exact hlt)
      have HS1 := congrArg Prod.fst (spin_snoc zs k (by rw [← HN.out]; exact hlt))
      have HS2 := congrArg Prod.snd (spin_snoc zs k (by rw [← HN.out]; exact hlt))
      obtain ⟨⟨a0, a1⟩, b0, b1⟩ := spin_range (zs.take k)
      have HB := Lib.hid hB
      clear hcell hB
      simp only [step] at HS1 HS2
      generalize zs.getD k 0 = x at *
      generalize (spin (zs.take k)).1 = a at *
      generalize (spin (zs.take k)).2 = b at *
      have hs1 := Lib.hid HS1
      have hs2 := Lib.hid HS2
      obtain ⟨x0, x1⟩ := hwd
      clear hb HS1 HS2
      have m1 := and_mask x x0 x1
      have m2 := and_mask (x / 65536) (by omega) (by omega)
      have m3 := and_mask (x / 4294967296) (by omega) (by omega)
      have r1 : 0 ≤ x % 65536 ∧ x % 65536 ≤ 65535 := by omega
      have r2 : 0 ≤ x / 65536 % 65536 ∧ x / 65536 % 65536 ≤ 65535 := by omega
      have r3 : 0 ≤ x / 4294967296 % 65536 ∧ x / 4294967296 % 65536 ≤ 65535 := by omega
      have r4 : 0 ≤ x / 281474976710656 ∧ x / 281474976710656 ≤ 65535 := by omega
      generalize ex1 : x % 65536 = p1 at *
      generalize ex2 : x / 65536 % 65536 = p2 at *
      generalize ex3 : x / 4294967296 % 65536 = p3 at *
      generalize ex4 : x / 281474976710656 = p4 at *
      have TA := Lib.hid (small_T (n := a) (by omega) (by omega))
      have TB := Lib.hid (small_T (n := b) (by omega) (by omega))
      have TC := Lib.hid (small_T (n := -b + p1 - p3) (by omega) (by omega))
      have TD := Lib.hid (small_T (n := a + p2 - p4) (by omega) (by omega))
      have o1 := run_add_F 62 (-b) a p1 p2 (by omega) (by omega) (by omega) (by omega) Try.prog
      have o2 := run_sub_F 62 (-b + p1) (a + p2) p3 p4 (by omega) (by omega) (by omega) (by omega) Try.prog
      have E1 := Lib.hid ex1
      have E2 := Lib.hid ex2
      have E3 := Lib.hid ex3
      clear ex1 ex2 ex3 r1 r2 r3 r4
      go_wp2_with (first | (go_at_call 35; ((with_reducible refine (turn_one a b TA TB _).mono ?_); rintro e w1 ⟨rfl, hb1⟩)) | (go_at_call 36; first | ((with_reducible refine (rest_is (-b + p1 - p3) TC _).mono ?_); rintro e w' ⟨rfl, rfl⟩) | ((with_reducible refine (rest_is (a + p2 - p4) TD _).mono ?_); rintro e w' ⟨rfl, rfl⟩)))
      go_roundw
      case rel => exact ⟨k + 1, by omega, by go_num, by rw [hs1.out, hs2.out]; unfold stepA stepB; rw [E1.out, E2.out, E3.out, ex4], HB.out.trans (hb1.mono HB.out.size)⟩
      case measure => simp [intOf]; omega
    · obtain rfl : k = n := by omega
      clear hk hlt
      go_wp2
      go_ret
      exact ⟨by rw [List.take_of_length_le (by rw [← HN.out]; omega)]; rfl, hB⟩
end Go.Proofs.Yteadkcekoccmdaa
