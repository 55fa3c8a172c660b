/-
  The walks of the reference's GoodForest and There. Condition: the places lie in memory, at most a million.
-/
import Derived.Test.YtigljoafmefbnaaEd
namespace Go.Proofs.Ytigljoafmefbnaa
open Go.RowKit

/-- a place is read -/
theorem at_place {w : World} {b o : Nat} {l : List Int} (hc : ∀ (j : Nat) (z : Int), l[j]? = some z → w.cell? ⟨b, o + j, none⟩ = some (.int .i64 z)) {k : Nat} (hk : k < l.length) : w.cell? ⟨b, o + k, none⟩ = some (.int .i64 (fu l k)) := hc k _ (fu_get hk)
theorem at_open {w : World} {B : Nat} {A : Option Addr} {l : List Int} (h : IntsAt w B A l) (h0 : 0 < l.length) : ∃ b o, A = some ⟨b, o, none⟩ ∧ b < B ∧ ∀ k, k < l.length → w.cell? ⟨b, o + k, none⟩ = some (.int .i64 (fu l k)) := by
  obtain ⟨b, o, e, hlt, hc⟩ := h h0
  exact ⟨b, o, e, hlt, fun k hk => at_place hc hk⟩
theorem okAt_iff {l : List Int} {k : Nat} : okAt l k = true ↔ -2 ≤ fu l k ∧ fu l k < l.length ∧ (0 ≤ fu l k → fu l (fu l k).toNat ≠ -2) := by
  simp only [okAt, Bool.and_eq_true, decide_eq_true_eq, Bool.not_eq_true', Bool.and_eq_false_iff, decide_eq_false_iff_not]
  constructor
  · rintro ⟨h1, h2, h3⟩
    exact ⟨h1, h2, fun h0 => h3.resolve_left (fun q => q h0)⟩
  · rintro ⟨h1, h2, h3⟩
    refine ⟨h1, h2, ?_⟩
    by_cases h0 : 0 ≤ fu l k
    · exact .inr (h3 h0)
    · exact .inl h0

def RG1 (W : World) (n : Nat) (l : List Int) (k : Nat) (p : Value) (wr : World) : Prop :=
  ∃ i : Nat, k + i = n ∧ p = .int .i64 i ∧ (∀ j, j < i → okAt l j = true) ∧ Below W.heap.size W wr
def RG2 (W : World) (n : Nat) (l : List Int) (k : Nat) (p : Value) (wr : World) : Prop :=
  ∃ i : Nat, k + i = n ∧ p = .int .i64 i ∧ (∀ j, j < i → ends l n j = true) ∧ Below W.heap.size W wr
/-- c places have been counted, z is the next one -/
def RG3 (W : World) (n : Nat) (l : List Int) (i : Nat) (k : Nat) (p q : Value) (wr : World) : Prop :=
  ∃ (c : Nat) (z : Int), k + c = n + 1 ∧ p = .int .i64 c ∧ q = .int .i64 z ∧ -2 ≤ z ∧ z < n ∧ (c ≤ n → ends l n i = ends l (n - c) z) ∧ (n < c → ends l n i = false) ∧ Below W.heap.size W wr

set_option maxHeartbeats 4000000 in
theorem rgoodf_any (A : Option Addr) (cap : Nat) (l : List Int) (w : World) (hL : IntsAt w w.heap.size A l) :
    Calls Try.prog 24 #[.slice A l.length cap] w fun e w' => e = .returned (.bool (fgood l)) ∧ Below w.heap.size w w' := by
  have LL := Lib.hid hL
  obtain ⟨n, hn⟩ : ∃ n, n = l.length := ⟨_, rfl⟩
  obtain ⟨g, hg⟩ : ∃ g, fgood l = g := ⟨_, rfl⟩
  rw [← hn, hg]
  have HN := Lib.hid hn
  have HG := Lib.hid hg
  clear hn hL hg
  by_cases h96 : 96 < n
  · have e : g = false := by
      rw [← HG.out, fgood, ← HN.out, decide_eq_false (by omega), Bool.false_and]
    subst e
    have h1 : (96 : Int) < n := by omega
    go_enter Try.func24, Try.ntmps24
    go_wp2
    go_ret
    exact ⟨rfl, below_self _⟩
  have h1 : ¬ (96 : Int) < n := by omega
  have H96 : Hid (n ≤ 96) := Lib.hid (by omega)
  clear h96
  go_enter Try.func24, Try.ntmps24
  go_wp2_with fail
  go_loopg [3] n (fun k p wr => RG1 w n l k p wr)
  case atStart => exact ⟨0, by omega, rfl, fun j h => by omega, below_self _⟩
  case round =>
    obtain ⟨i, hk, rfl, ha, hb⟩ := hrel
    have HK := Lib.hid hk
    have HB := Lib.hid hb
    have HA := Lib.hid ha
    clear hk hb ha
    by_cases hlt : i < n
    · have HLT := Lib.hid hlt
      have hlt2 : (i : Int) < (n : Int) := by omega
      obtain ⟨b, o, rfl, hblk, hc⟩ := at_open LL.out (by rw [← HN.out]; omega)
      have hcell : ∀ k, k < n → wr.cell? ⟨b, o + k, none⟩ = some (.int .i64 (fu l k)) := fun k hk => by
        rw [HB.out.cell (p := ⟨b, _, none⟩) hblk]
        exact hc k (by rw [← HN.out]; exact hk)
      have c1 := hcell i hlt
      obtain ⟨x, hx⟩ : ∃ x, fu l i = x := ⟨_, rfl⟩
      rw [hx] at c1
      have HX := Lib.hid hx
      have hbad : okAt l i = false → g = false := fun q => by
        rw [← HG.out, Bool.eq_false_iff]
        intro e
        rw [fgood, Bool.and_eq_true, Bool.and_eq_true, List.all_eq_true] at e
        have := e.2.1 i (List.mem_range.2 (by rw [← HN.out]; exact hlt))
        rw [q] at this
        cases this
      by_cases h2 : x < -2
      · have HF := Lib.hid (hbad (by rw [Bool.eq_false_iff]; intro q; have := (okAt_iff.1 q).1; omega))
        clear hbad hcell hc hblk hx
        go_wp2
        go_ret
        exact ⟨by rw [HF.out]; rfl, HB.out⟩
      by_cases h3 : (n : Int) ≤ x
      · have HF := Lib.hid (hbad (by rw [Bool.eq_false_iff]; intro q; have := (okAt_iff.1 q).2.1; rw [← HN.out] at this; omega))
        clear hbad hcell hc hblk hx
        go_wp2
        go_ret
        exact ⟨by rw [HF.out]; rfl, HB.out⟩
      by_cases h4 : 0 ≤ x
      · obtain ⟨j, rfl⟩ : ∃ j : Nat, x = j := ⟨x.toNat, by omega⟩
        have c2 := hcell j (by omega)
        obtain ⟨y, hy⟩ : ∃ y, fu l j = y := ⟨_, rfl⟩
        rw [hy] at c2
        by_cases h5 : y = -2
        · have HF := Lib.hid (hbad (by rw [Bool.eq_false_iff]; intro q; have := (okAt_iff.1 q).2.2; rw [hx] at this; exact this h4 (by rw [Int.toNat_natCast, hy, h5])))
          subst h5
          clear hbad hcell hc hblk hx hy
          go_wp2
          go_ret
          exact ⟨by rw [HF.out]; rfl, HB.out⟩
        · have HO := Lib.hid (okAt_iff.2 ⟨by omega, by rw [hx, ← HN.out]; omega, fun _ => by rw [hx, Int.toNat_natCast, hy]; exact h5⟩ : okAt l i = true)
          clear hbad hcell hc hblk hx hy
          go_wp2
          go_roundg (n - (i + 1))
          case measure => have := HK.out; have := HLT.out; omega
          case rel =>
            refine ⟨i + 1, by have := HLT.out; omega, by go_num, fun j hj => ?_, HB.out⟩
            by_cases e : j = i
            · subst e; exact HO.out
            · exact HA.out j (by omega)
      · have HO := Lib.hid (okAt_iff.2 ⟨by omega, by rw [hx, ← HN.out]; omega, fun q => absurd (hx ▸ q) h4⟩ : okAt l i = true)
        clear hbad hcell hc hblk hx
        go_wp2
        go_roundg (n - (i + 1))
        case measure => have := HK.out; have := HLT.out; omega
        case rel =>
          refine ⟨i + 1, by have := HLT.out; omega, by go_num, fun j hj => ?_, HB.out⟩
          by_cases e : j = i
          · subst e; exact HO.out
          · exact HA.out j (by omega)
    · have hlt2 : ¬ (i : Int) < (n : Int) := by omega
      have HOK : Hid (∀ j, j < n → okAt l j = true) := Lib.hid fun j hj => HA.out j (by have := HK.out; omega)
      clear HA HK hlt
      go_wp2_with fail
      go_loopg [4] n (fun k p wr => RG2 w n l k p wr)
      case atStart => exact ⟨0, by omega, rfl, fun j h => by omega, HB.out⟩
      case round =>
        obtain ⟨i, hk, rfl, ha, hb⟩ := hrel
        have HK := Lib.hid hk
        have HB2 := Lib.hid hb
        have HA := Lib.hid ha
        clear hk hb ha
        by_cases hlt : i < n
        · have HLT := Lib.hid hlt
          have hlt3 : (i : Int) < (n : Int) := by omega
          obtain ⟨b, o, rfl, hblk, hc⟩ := at_open LL.out (by rw [← HN.out]; omega)
          have hno2 : ∀ i, i < n → ends l n i = false → g = false := fun i hi q => by
            rw [← HG.out, Bool.eq_false_iff]
            intro e
            rw [fgood, Bool.and_eq_true, Bool.and_eq_true, List.all_eq_true, List.all_eq_true] at e
            have := e.2.2 i (List.mem_range.2 (by rw [← HN.out]; exact hi))
            rw [← HN.out, q] at this
            cases this
          have HNO2 := Lib.hid hno2
          clear hno2
          have HC : Hid (b < w.heap.size ∧ ∀ k, k < n → w.cell? ⟨b, o + k, none⟩ = some (.int .i64 (fu l k))) := Lib.hid ⟨hblk, fun k hk => hc k (by rw [← HN.out]; exact hk)⟩
          clear hc hblk
          go_wp2_with fail
          go_loopg [5, 6] (n + 1) (fun k p q wr => RG3 w n l i k p q wr)
          case atStart => exact ⟨0, i, by omega, rfl, rfl, by omega, by omega, fun _ => rfl, fun h => by omega, HB2.out⟩
          case round =>
            obtain ⟨c, z, hk, rfl, rfl, hz1, hz2, hyes, hno, hb⟩ := hrel
            have HK3 := Lib.hid hk
            have HB3 := Lib.hid hb
            have HYES := Lib.hid hyes
            have HNO := Lib.hid hno
            clear hk hb hyes hno
            by_cases hz0 : z < 0
            · by_cases hcn : c ≤ n
              · have HE := Lib.hid ((HYES.out hcn).trans (ends_neg hz0 _))
                have hc1 : ¬ (n : Int) < (c : Int) := by omega
                clear HYES HNO HK3 hcn
                go_wp2
                go_roundg (n - (i + 1))
                case measure => have := HK.out; have := HLT.out; omega
                case rel =>
                  refine ⟨i + 1, by have := HLT.out; omega, by go_num, fun j hj => ?_, HB3.out⟩
                  by_cases e : j = i
                  · subst e; exact HE.out
                  · exact HA.out j (by omega)
              · have HF := Lib.hid (HNO2.out i hlt (HNO.out (by omega)))
                have hc1 : (n : Int) < (c : Int) := by omega
                clear HYES HNO HK3 hcn
                go_wp2
                go_ret
                exact ⟨by rw [HF.out]; rfl, HB3.out⟩
            · obtain ⟨m, rfl⟩ : ∃ m : Nat, z = m := ⟨z.toNat, by omega⟩
              by_cases hcn : c ≤ n
              · have hc1 : (c : Int) ≤ (n : Int) := by omega
                have hz3 : (0 : Int) ≤ (m : Int) := by omega
                have hok := okAt_iff.1 (HOK.out m (by omega))
                have c1 : wr.cell? ⟨b, o + m, none⟩ = some (.int .i64 (fu l m)) := by
                  rw [HB3.out.cell (p := ⟨b, _, none⟩) HC.out.1]
                  exact HC.out.2 m (by omega)
                obtain ⟨y, hy⟩ : ∃ y, fu l m = y := ⟨_, rfl⟩
                rw [hy] at c1 hok
                have HY : Hid (-2 ≤ y ∧ y < n) := Lib.hid ⟨hok.1, by rw [HN.out]; exact hok.2.1⟩
                have H1 : Hid (c + 1 ≤ n → ends l n i = ends l (n - (c + 1)) y) := Lib.hid fun h => by
                  rw [HYES.out hcn, show n - c = (n - (c + 1)) + 1 by omega, ends_succ (by omega), Int.toNat_natCast, hy]
                have H2 : Hid (n < c + 1 → ends l n i = false) := Lib.hid fun h => by
                  rw [HYES.out hcn, show n - c = 0 by omega, ends]
                  simp
                have HCN := Lib.hid hcn
                clear HYES HNO hok hy hcn
                go_wp2
                go_roundg (n + 1 - (c + 1))
                case measure => have := HK3.out; have := HCN.out; omega
                case rel => exact ⟨c + 1, y, by have := HCN.out; omega, by go_num, rfl, HY.out.1, HY.out.2, H1.out, H2.out, HB3.out⟩
              · have HF := Lib.hid (HNO2.out i hlt (HNO.out (by omega)))
                have hc1 : ¬ (c : Int) ≤ (n : Int) := by omega
                have hc2 : (n : Int) < (c : Int) := by omega
                have hz3 : (0 : Int) ≤ (m : Int) := by omega
                clear HYES HNO HK3 hcn
                go_wp2
                go_ret
                exact ⟨by rw [HF.out]; rfl, HB3.out⟩
        · have HT : Hid (g = true) := Lib.hid (by
            rw [← HG.out, fgood, ← HN.out, decide_eq_true H96.out, Bool.true_and, Bool.and_eq_true, List.all_eq_true, List.all_eq_true]
            refine ⟨fun j hj => HOK.out j (List.mem_range.1 hj), fun j hj => HA.out j ?_⟩
            have := List.mem_range.1 hj
            have := HK.out
            omega)
          have hlt3 : ¬ (i : Int) < (n : Int) := by omega
          clear HA HK hlt
          go_wp2
          go_ret
          exact ⟨by rw [HT.out]; rfl, HB2.out⟩
theorem rgoodf_is {A : Option Addr} {n cap : Nat} {l : List Int} {g : Bool} {w : World} (hn : n = l.length) (hL : IntsAt w w.heap.size A l) (hg : fgood l = g) :
    Calls Try.prog 24 #[.slice A n cap] w fun e w' => e = .returned (.bool g) ∧ Below w.heap.size w w' := by
  subst hn
  subst hg
  exact rgoodf_any A cap l w hL
end Go.Proofs.Ytigljoafmefbnaa
