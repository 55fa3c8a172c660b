/-
  The walk of package path's Word. Condition: the steps lie in memory.
-/
import Derived.Test.YtfcifheejjppfaaDoorHc
namespace Go.Proofs.YtfcifheejjppfaaDoor
open Go.RowKit

/-- a box of the call's own, of one cell; what was before stands -/
structure Hbx (W w : World) (g : Nat) (v : Value) : Prop where
  c : w.cell? ⟨g, 0, none⟩ = some v
  old : Below W.heap.size W w
  base : W.heap.size ≤ g
  lt : g < w.heap.size
theorem Hbx.new (w : World) (v : Value) (t : TypeId) : Hbx w (w.alloc (.cells #[v] t)) w.heap.size v := by
  have hg := heap_alloc_new w (.cells #[v] t)
  exact ⟨by rw [cell_of_row _ _ 0 _ _ _ hg]; rfl, below_alloc _ _, Nat.le_refl _, by simp⟩
theorem Hbx.on {W w w' : World} {g : Nat} {v : Value} (h : Hbx W w g v) (hb : Below w.heap.size w w') : Hbx W w' g v :=
  ⟨by rw [hb.cell (p := ⟨g, 0, none⟩) h.lt]; exact h.c, below_on h.old hb, h.base, Nat.lt_of_lt_of_le h.lt hb.size⟩

theorem good_is {A : Option Addr} {n cap : Nat} {l : List Int} {g : Bool} {w : World} (hn : n = l.length) (hL : IntsAt w w.heap.size A l) (hg : pgood l = g) :
    Calls Tryd.prog 21 #[.agg #[.slice A n cap]] w fun e w' => e = .returned (.bool g) ∧ Below w.heap.size w w' := by
  subst hn
  subst hg
  exact pgood_any A cap l w hL
theorem u64_in {z : Int} (h1 : 0 ≤ z) (h2 : z < 18446744073709551616) : IntKind.u64.wrap z = z := by
  unfold IntKind.wrap
  simp only [show IntKind.u64.signed = false from rfl, show IntKind.u64.bits = 64 from rfl, Bool.false_and, Bool.false_eq_true, if_false]
  omega
theorem pword_no {A : Option Addr} {n cap : Nat} {l : List Int} {w : World} (hn : n = l.length) (hL : IntsAt w w.heap.size A l) (hg : pgood l = false) :
    Calls Tryd.prog 23 #[.agg #[.slice A n cap]] w fun e w' => e = .returned (.tuple #[.int .u64 0, .bool false]) ∧ Below w.heap.size w w' := by
  have HN := Lib.hid hn
  have HG := Lib.hid hg
  have hK := Hbx.new w (.slice A n cap) 25
  have HL := Lib.hid hL
  clear hn hg hL
  go_enter Tryd.func23, Tryd.ntmps23
  go_wp2_with fail
  generalize w.alloc (.cells #[.slice A n cap] 25) = w1 at hK ⊢
  refine (good_is (w := w1) HN.out (HL.out.on hK.old) HG.out).mono ?_
  rintro e w2 ⟨rfl, hb⟩
  have K2 := Lib.hid (hK.on hb)
  clear hK hb
  go_wp2
  go_ret2
  exact ⟨rfl, K2.out.old⟩

/-- one step more goes in above all that is there -/
theorem or_step {t m i : Nat} (hi : i ≤ 2) (hm : m < 16) (ht : t < 2 ^ (4 * (i + 1))) :
    bits .or .u64 (t : Int) (IntKind.u64.wrap ((m : Int) * 2 ^ (4 * (i + 1)))) = ((t + 16 * (16 ^ i * m) : Nat) : Int) := by
  have hp : 2 ^ (4 * (i + 1)) = 16 * 16 ^ i := by
    rw [Nat.pow_mul, Nat.pow_succ, Nat.mul_comm]
  have h3 : 16 ^ i ≤ 16 ^ 2 := Nat.pow_le_pow_right (by omega) hi
  have hle : m * 2 ^ (4 * (i + 1)) ≤ 15 * (16 * 16 ^ 2) := by rw [hp]; exact Nat.mul_le_mul (by omega) (Nat.mul_le_mul_left _ h3)
  have e : (m : Int) * 2 ^ (4 * (i + 1)) = ((m * 2 ^ (4 * (i + 1)) : Nat) : Int) := by rw [Int.natCast_mul]; simp
  have hb : 2 ^ (4 * (i + 1)) ≤ 16 * 16 ^ 2 := by rw [hp]; exact Nat.mul_le_mul_left _ h3
  rw [e, u64_in (by omega) (by omega), bits_or_u64_nat t _ (by omega) (by omega)]
  congr 1
  rw [Nat.or_comm, Nat.mul_comm m, ← Nat.two_pow_add_eq_or_of_lt ht, hp, Nat.add_comm, Nat.mul_assoc]
theorem sh_in {i : Nat} (hi : i ≤ 2) : wrap64 (4 * wrap64 ((i : Int) + 1)) = ((4 * (i + 1) : Nat) : Int) := by unfold wrap64; omega

def PWordRel (W : World) (n : Nat) (l : List Int) (k : Nat) (p q : Value) (wr : World) : Prop :=
  ∃ i : Nat, k + i = n ∧ p = .int .u64 ((n + 16 * hex (l.take i) : Nat) : Int) ∧ q = .int .i64 i ∧ Below W.heap.size W wr

set_option maxHeartbeats 1000000 in
theorem pword_yes {A : Option Addr} {n cap : Nat} {l : List Int} {w : World} (hn : n = l.length) (hL : IntsAt w w.heap.size A l) (hg : pgood l = true) :
    Calls Tryd.prog 23 #[.agg #[.slice A n cap]] w fun e w' => e = .returned (.tuple #[.int .u64 (pword l : Int), .bool true]) ∧ Below w.heap.size w w' := by
  have HN := Lib.hid hn
  have HG := Lib.hid hg
  have hK := Hbx.new w (.slice A n cap) 25
  have HL := Lib.hid hL
  have h3 : n ≤ 3 := hn ▸ (pgood_len hg).2
  have hnw : IntKind.u64.wrap (n : Int) = n := u64_in (by omega) (by omega)
  clear hn hg hL
  go_enter Tryd.func23, Tryd.ntmps23
  go_wp2_with fail
  generalize w.alloc (.cells #[.slice A n cap] 25) = w1 at hK ⊢
  refine (good_is (w := w1) HN.out (HL.out.on hK.old) HG.out).mono ?_
  rintro e w2 ⟨rfl, hb⟩
  have K2 := Lib.hid (hK.on hb)
  have c0 := K2.out.c
  clear hK hb
  go_wp2_with fail
  have H3 := Lib.hid h3
  clear h3 hnw c0
  go_loopg [4, 17] n (fun k p q wr => PWordRel w n l k p q wr)
  case atStart => exact ⟨0, by omega, by simp [hex], rfl, K2.out.old⟩
  case round =>
    obtain ⟨i, hk, rfl, rfl, hb⟩ := hrel
    have HK := Lib.hid hk
    have HB := Lib.hid hb
    clear hk hb
    by_cases hlt : i < n
    · have HLT := Lib.hid hlt
      have hlt2 : (i : Int) < (n : Int) := by omega
      obtain ⟨b, o, rfl, hblk, hc⟩ := HL.out (by rw [← HN.out]; omega)
      obtain ⟨z, hz⟩ : ∃ z, l[i]? = some z := ⟨l[i]'(by rw [← HN.out]; exact hlt), List.getElem?_eq_getElem _⟩
      obtain ⟨m, rfl, hm⟩ := pgood_at HG.out hz
      have HZ := Lib.hid hz
      have c1 := hc i _ hz
      rw [← HB.out.cell (p := ⟨b, _, none⟩) hblk] at c1
      have hmw : IntKind.u64.wrap (m : Int) = m := u64_in (by omega) (by omega)
      have HM := Lib.hid hm
      obtain ⟨t, ht⟩ : ∃ t, t = n + 16 * hex (l.take i) := ⟨_, rfl⟩
      rw [← ht]
      have HT := Lib.hid ht
      clear hc hblk hz hm ht
      have hi3 : i ≤ 2 := by have := H3.out; omega
      have hlt' : t < 2 ^ (4 * (i + 1)) := by
        have h1 := hex_take_lt HG.out i (by rw [← HN.out]; omega)
        have h0 : 0 < 16 ^ i := Nat.pow_pos (by omega)
        have hp : 2 ^ (4 * (i + 1)) = 16 * 16 ^ i := by rw [Nat.pow_mul, Nat.pow_succ, Nat.mul_comm]
        rw [HT.out, hp]
        have := H3.out
        omega
      have ho := or_step hi3 HM.out hlt'
      have hw := sh_in hi3
      have HI : Hid (t + 16 * (16 ^ i * m) = n + 16 * hex (l.take (i + 1))) := Lib.hid (by rw [hex_take HZ.out, HT.out]; omega)
      obtain ⟨f, hf⟩ : ∃ f, f = 4 * (i + 1) := ⟨_, rfl⟩
      obtain ⟨u, hu⟩ : ∃ u, u = t + 16 * (16 ^ i * m) := ⟨_, rfl⟩
      rw [← hf] at ho hw
      rw [← hu] at ho HI
      have hf64 : (f : Int) ≤ 64 := by omega
      have hf0 : (0 : Int) ≤ f := by omega
      clear hi3 hlt' hf hu
      go_wp2
      go_roundg (n - (i + 1))
      case measure => have := HK.out; have := HLT.out; omega
      case rel => exact ⟨i + 1, by have := HLT.out; omega, by rw [HI.out], (by refine congrArg _ ?_; have := H3.out; have := HLT.out; unfold wrap64; omega), HB.out⟩
    · go_wp2
      go_ret2
      refine ⟨?_, HB.out⟩
      have hi : i = l.length := by have := HK.out; have := HN.out; omega
      rw [hi, List.take_length, HN.out]
      rfl
end Go.Proofs.YtfcifheejjppfaaDoor
