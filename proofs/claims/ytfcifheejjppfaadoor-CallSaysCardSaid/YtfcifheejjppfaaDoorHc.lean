/-
  Whole numbers in memory; the walk of package path's Good. Condition: the steps lie in memory.
-/
import Derived.Test.YtfcifheejjppfaaDoorHa
import Derived.WalkKit
import Derived.WalkSpells
import Derived.WalkLawsBesides
import Derived.Lib.Hide
import Derived.Deep.CutBlock
import Derived.Deep.LoopGhost
import Derived.Deep.RegionHeld3
import Derived.Deep.DeepCutAuto
import Derived.Deep.CutRange
import Derived.Deep.QuietTactic
import Derived.BigQuiet
import Derived.StillTailTactics
namespace Go.Proofs.YtfcifheejjppfaaDoor
open Go.RowKit

/-- whole numbers lie in a block below B -/
def IntsAt (w : World) (B : Nat) (A : Option Addr) (l : List Int) : Prop :=
  0 < l.length → ∃ b o, A = some ⟨b, o, none⟩ ∧ b < B ∧ ∀ (j : Nat) (z : Int), l[j]? = some z → w.cell? ⟨b, o + j, none⟩ = some (.int .i64 z)
theorem IntsAt.below {w w' : World} {B : Nat} {A : Option Addr} {l : List Int} (h : IntsAt w B A l) (hb : Below B w w') : IntsAt w' B A l := fun h0 => by
  obtain ⟨b, o, e, hlt, hc⟩ := h h0
  exact ⟨b, o, e, hlt, fun j a ha => by rw [hb.cell (p := ⟨b, _, none⟩) hlt]; exact hc j a ha⟩
theorem IntsAt.mono {w : World} {B B' : Nat} {A : Option Addr} {l : List Int} (h : IntsAt w B A l) (hB : B ≤ B') : IntsAt w B' A l := fun h0 => by
  obtain ⟨b, o, e, hlt, hc⟩ := h h0
  exact ⟨b, o, e, by omega, hc⟩
/-- what lay there lies there still -/
theorem IntsAt.on {w w' : World} {A : Option Addr} {l : List Int} (h : IntsAt w w.heap.size A l) (hb : Below w.heap.size w w') : IntsAt w' w'.heap.size A l := (h.below hb).mono hb.size
theorem below_alloc (w : World) (ob : Obj) : Below w.heap.size w (w.alloc ob) := (Below.refl _ _).alloc (Nat.le_refl _) _
theorem below_self (w : World) : Below w.heap.size w w := Below.refl _ _
theorem below_draws {B : Nat} {a w : World} (h : Below B a w) (n : Nat) : Below B a (w.drewN n) := h.trans ⟨rfl, rfl, rfl, Nat.le_refl _, fun _ _ => rfl⟩
theorem below_on {w w0 w1 : World} (h : Below w.heap.size w w0) (k : Below w0.heap.size w0 w1) : Below w.heap.size w w1 := h.trans (k.mono h.size)

def PGoodRel (W : World) (n : Nat) (l : List Int) (k : Nat) (p : Value) (wr : World) : Prop :=
  ∃ i : Nat, k + i = n ∧ p = .int .i64 i ∧ (l.take i).all stepOk = true ∧ Below W.heap.size W wr

set_option maxHeartbeats 1000000 in
theorem pgood_any (A : Option Addr) (cap : Nat) (l : List Int) (w : World) (hL : IntsAt w w.heap.size A l) :
    Calls Tryd.prog 21 #[.agg #[.slice A l.length cap]] w fun e w' => e = .returned (.bool (pgood l)) ∧ Below w.heap.size w w' := by
  have LL := Lib.hid hL
  obtain ⟨n, hn⟩ : ∃ n, n = l.length := ⟨_, rfl⟩
  rw [← hn]
  have HN := Lib.hid hn
  clear hn hL
  by_cases h1 : n < 1
  · have e : pgood l = false := by rw [pgood, ← HN.out, decide_eq_false (by omega), Bool.false_and]
    rw [e]
    have h1' : (n : Int) < 1 := by omega
    clear e h1
    go_enter Tryd.func21, Tryd.ntmps21
    go_wp2
    go_ret
    exact ⟨rfl, below_alloc _ _⟩
  by_cases h3 : n > 3
  · have e : pgood l = false := by rw [pgood, ← HN.out, decide_eq_false (p := n ≤ 3) (by omega), Bool.false_and, Bool.and_false]
    rw [e]
    have h1' : ¬ (n : Int) < 1 := by omega
    have h3' : (3 : Int) < n := by omega
    clear e h1 h3
    go_enter Tryd.func21, Tryd.ntmps21
    go_wp2
    go_ret
    exact ⟨rfl, below_alloc _ _⟩
  have e : pgood l = l.all stepOk := by rw [pgood, ← HN.out, decide_eq_true (p := 1 ≤ n) (by omega), decide_eq_true (p := n ≤ 3) (by omega), Bool.true_and, Bool.true_and]
  rw [e]
  have h1' : ¬ (n : Int) < 1 := by omega
  have h3' : ¬ (3 : Int) < n := by omega
  have H3 := Lib.hid h3
  clear e h1 h3
  go_enter Tryd.func21, Tryd.ntmps21
  go_wp2_with fail
  go_loopg [18] n (fun k p wr => PGoodRel w n l k p wr)
  case atStart => exact ⟨0, by omega, rfl, rfl, below_alloc _ _⟩
  case round =>
    obtain ⟨i, hk, rfl, ha, hb⟩ := hrel
    have HK := Lib.hid hk
    have HB := Lib.hid hb
    have HA := Lib.hid ha
    clear hk hb ha
    by_cases hlt : i < n
    · have HLT := Lib.hid hlt
      have hlt2 : (i : Int) < (n : Int) := by omega
      obtain ⟨b, o, rfl, hblk, hc⟩ := LL.out (by rw [← HN.out]; omega)
      obtain ⟨z, hz⟩ : ∃ z, l[i]? = some z := ⟨l[i]'(by rw [← HN.out]; exact hlt), List.getElem?_eq_getElem _⟩
      have HZ := Lib.hid hz
      have c1 := hc i z hz
      rw [← HB.out.cell (p := ⟨b, _, none⟩) hblk] at c1
      clear hc hblk hz
      by_cases hs : stepOk z = true
      · obtain ⟨g1, g2⟩ := stepOk_iff.1 hs
        have g1' : ¬ z < 0 := by omega
        have g2' : ¬ 15 < z := by omega
        have HS := Lib.hid hs
        clear g1 g2 hs
        go_wp2
        go_roundg (n - (i + 1))
        case measure => have := HK.out; have := HLT.out; omega
        case rel =>
          refine ⟨i + 1, by have := HLT.out; omega, by go_num, ?_, HB.out⟩
          rw [List.take_add_one, HZ.out, List.all_append, HA.out]
          simpa using HS.out
      · have hf : l.all stepOk = false := by
          rw [Bool.eq_false_iff]
          intro e
          exact hs (List.all_eq_true.1 e z (List.mem_of_getElem? HZ.out))
        have HF := Lib.hid hf
        by_cases g1 : z < 0
        · clear hs hf
          go_wp2
          go_ret
          exact ⟨by rw [HF.out]; rfl, HB.out⟩
        · have g2 : 15 < z := by
            rw [stepOk_iff] at hs
            omega
          clear hs hf
          go_wp2
          go_ret
          exact ⟨by rw [HF.out]; rfl, HB.out⟩
    · go_wp2
      go_ret
      refine ⟨?_, HB.out⟩
      have hi : i = l.length := by have := HK.out; have := HN.out; omega
      have := HA.out
      rw [hi, List.take_length] at this
      rw [this]
      rfl
end Go.Proofs.YtfcifheejjppfaaDoor
