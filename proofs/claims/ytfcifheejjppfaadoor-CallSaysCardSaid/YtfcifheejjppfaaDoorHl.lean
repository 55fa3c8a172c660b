/-
  The walks of the reference's GoodPath and PathWord. Condition: the steps lie in memory, at most a million.
-/
import Derived.Test.YtfcifheejjppfaaDoorAl
namespace Go.Proofs.YtfcifheejjppfaaDoor
open Go.RowKit

set_option maxHeartbeats 1000000 in
theorem rpgood_any (A : Option Addr) (cap : Nat) (l : List Int) (w : World) (hl : l.length ≤ 1000000) (hL : IntsAt w w.heap.size A l) :
    Calls Tryd.prog 33 #[.slice A l.length cap] w fun e w' => e = .returned (.bool (pgood l)) ∧ Below w.heap.size w w' := by
  have LL := Lib.hid hL
  obtain ⟨n, hn⟩ : ∃ n, n = l.length := ⟨_, rfl⟩
  rw [← hn] at hl ⊢
  have HN := Lib.hid hn
  clear hn hL
  go_enter Tryd.func33, Tryd.ntmps33
  go_wp2_with fail
  go_loopg [3] n (fun k p wr => PGoodRel w n l k p wr)
  case atStart => exact ⟨0, by omega, rfl, rfl, below_self _⟩
  case round =>
    obtain ⟨i, hk, rfl, ha, hb⟩ := hrel
    have HK := Lib.hid hk
    have HB := Lib.hid hb
    have HA := Lib.hid ha
    clear hk hb ha
    by_cases hlt : i < n
    · have HLT := Lib.hid hlt
      have hlt2 : (i : Int) < (n : Int) := by omega
      obtain ⟨b, o, rfl, hblk, hc⟩ := LL.out (by rw [← HN.out]; omega)
      obtain ⟨z, hz⟩ : ∃ z, l[i]? = some z := ⟨l[i]'(by rw [← HN.out]; exact hlt), List.getElem?_eq_getElem _⟩
      have HZ := Lib.hid hz
      have c1 := hc i z hz
      rw [← HB.out.cell (p := ⟨b, _, none⟩) hblk] at c1
      clear hc hblk hz
      by_cases hs : stepOk z = true
      · obtain ⟨g1, g2⟩ := stepOk_iff.1 hs
        have g1' : ¬ z < 0 := by omega
        have g2' : ¬ 15 < z := by omega
        have HS := Lib.hid hs
        clear g1 g2 hs
        go_wp2
        go_roundg (n - (i + 1))
        case measure => have := HK.out; have := HLT.out; omega
        case rel =>
          refine ⟨i + 1, by have := HLT.out; omega, by go_num, ?_, HB.out⟩
          rw [List.take_add_one, HZ.out, List.all_append, HA.out]
          simpa using HS.out
      · have hf : l.all stepOk = false := by
          rw [Bool.eq_false_iff]
          intro e
          exact hs (List.all_eq_true.1 e z (List.mem_of_getElem? HZ.out))
        have hp : pgood l = false := by rw [pgood, hf, Bool.and_false, Bool.and_false]
        have HF := Lib.hid hp
        by_cases g1 : z < 0
        · clear hs hf hp
          go_wp2
          go_ret
          exact ⟨by rw [HF.out]; rfl, HB.out⟩
        · have g2 : 15 < z := by
            rw [stepOk_iff] at hs
            omega
          clear hs hf hp
          go_wp2
          go_ret
          exact ⟨by rw [HF.out]; rfl, HB.out⟩
    · have hp : pgood l = (decide (1 ≤ n) && decide (n ≤ 3)) := by
        have hi : i = n := by have := HK.out; omega
        have := HA.out
        rw [hi, HN.out, List.take_length] at this
        rw [pgood, this, Bool.and_true, HN.out]
      have HP := Lib.hid hp
      clear hp
      by_cases h1 : 1 ≤ n
      · by_cases h3 : n ≤ 3
        · have h1' : (1 : Int) ≤ n := by omega
          have h3' : (n : Int) ≤ 3 := by omega
          go_wp2
          go_ret
          exact ⟨by rw [HP.out]; simp [h1, h3], HB.out⟩
        · have h1' : (1 : Int) ≤ n := by omega
          have h3' : ¬ (n : Int) ≤ 3 := by omega
          go_wp2
          go_ret
          exact ⟨by rw [HP.out]; simp [h1, h3], HB.out⟩
      · have h1' : ¬ (1 : Int) ≤ n := by omega
        go_wp2
        go_ret
        exact ⟨by rw [HP.out]; simp [h1], HB.out⟩
theorem rgood_is {A : Option Addr} {n cap : Nat} {l : List Int} {g : Bool} {w : World} (hn : n = l.length) (hl : n ≤ 1000000) (hL : IntsAt w w.heap.size A l) (hg : pgood l = g) :
    Calls Tryd.prog 33 #[.slice A n cap] w fun e w' => e = .returned (.bool g) ∧ Below w.heap.size w w' := by
  subst hn
  subst hg
  exact rpgood_any A cap l w hl hL

theorem pred_in {n : Nat} (h : n ≤ 1000000) : wrap64 ((n : Int) - 1) = (n : Int) - 1 := by unfold wrap64; omega
def PRWordRel (W : World) (l : List Int) (k : Nat) (p q : Value) (wr : World) : Prop :=
  k ≤ l.length ∧ p = .int .u64 ((hex (l.drop k) : Nat) : Int) ∧ q = .int .i64 ((k : Int) - 1) ∧ Below W.heap.size W wr

theorem rpword_no {A : Option Addr} {n cap : Nat} {l : List Int} {w : World} (hn : n = l.length) (hl : n ≤ 1000000) (hL : IntsAt w w.heap.size A l) (hg : pgood l = false) :
    Calls Tryd.prog 36 #[.slice A n cap] w fun e w' => e = .returned (.tuple #[.int .u64 0, .bool false]) ∧ Below w.heap.size w w' := by
  have HN := Lib.hid hn
  have H6 := Lib.hid hl
  have HG := Lib.hid hg
  have HL := Lib.hid hL
  clear hn hg hL hl
  go_enter Tryd.func36, Tryd.ntmps36
  go_wp2_with fail
  refine (rgood_is HN.out H6.out HL.out HG.out).mono ?_
  rintro e w2 ⟨rfl, hb⟩
  have HB := Lib.hid hb
  clear hb
  go_wp2
  go_ret2
  exact ⟨rfl, HB.out⟩
set_option maxHeartbeats 1000000 in
theorem rpword_yes {A : Option Addr} {n cap : Nat} {l : List Int} {w : World} (hn : n = l.length) (hL : IntsAt w w.heap.size A l) (hg : pgood l = true) :
    Calls Tryd.prog 36 #[.slice A n cap] w fun e w' => e = .returned (.tuple #[.int .u64 (pword l : Int), .bool true]) ∧ Below w.heap.size w w' := by
  have h3 : n ≤ 3 := hn ▸ (pgood_len hg).2
  have HN := Lib.hid hn
  have HG := Lib.hid hg
  have HL := Lib.hid hL
  have H3 := Lib.hid h3
  clear hn hg hL h3
  go_enter Tryd.func36, Tryd.ntmps36
  go_wp2_with fail
  refine (rgood_is HN.out (by have := H3.out; omega) HL.out HG.out).mono ?_
  rintro e w2 ⟨rfl, hb⟩
  have HB := Lib.hid hb
  have hw : wrap64 ((n : Int) - 1) = (n : Int) - 1 := by have := H3.out; unfold wrap64; omega
  clear hb
  go_wp2_with fail
  clear hw
  go_loopg [4, 5] n (fun k p q wr => PRWordRel w l k p q wr)
  case atStart => exact ⟨by rw [HN.out]; exact Nat.le_refl _, by rw [HN.out, List.drop_length]; rfl, by rw [pred_in (by have := H3.out; omega)], HB.out⟩
  case round =>
    obtain ⟨hk, rfl, rfl, hb⟩ := hrel
    have HKL := Lib.hid hk
    have HB := Lib.hid hb
    clear hk hb
    rcases gk with _ | j
    · obtain ⟨t, ht⟩ : ∃ t, t = hex (l.drop 0) := ⟨_, rfl⟩
      rw [← ht]
      have hlt : t < 4096 := by
        have h1 := hex_lt (pgood_iff.1 HG.out).2.2
        have h2 : 16 ^ l.length ≤ 16 ^ 3 := Nat.pow_le_pow_right (by omega) (pgood_len HG.out).2
        rw [ht, List.drop_zero]
        omega
      obtain ⟨u, hu⟩ : ∃ u, u = 16 * t := ⟨_, rfl⟩
      obtain ⟨v, hv⟩ : ∃ v, v = u + n := ⟨_, rfl⟩
      have h1 : IntKind.u64.wrap ((t : Int) * 16) = (u : Int) := by rw [u64_in (by omega) (by omega)]; omega
      have h2 : IntKind.u64.wrap ((u : Int) + (n : Int)) = (v : Int) := by have := H3.out; rw [u64_in (by omega) (by omega)]; omega
      have h3 : IntKind.u64.wrap (n : Int) = (n : Int) := by have := H3.out; exact u64_in (by omega) (by omega)
      have HV : Hid (v = pword l) := Lib.hid (by rw [hv, hu, ht, List.drop_zero, pword, ← HN.out]; omega)
      have hj : ((0 : Nat) : Int) - 1 = -1 := rfl
      rw [hj]
      clear ht hlt hu hv hj
      go_wp2
      go_ret2
      exact ⟨by rw [← HV.out]; rfl, HB.out⟩
    · have hjn : j < n := by have := HKL.out; rw [HN.out]; omega
      have hj : ((j + 1 : Nat) : Int) - 1 = (j : Int) := by omega
      rw [hj]
      obtain ⟨b, o, rfl, hblk, hc⟩ := HL.out (by rw [← HN.out]; omega)
      obtain ⟨z, hz⟩ : ∃ z, l[j]? = some z := ⟨l[j]'(by rw [← HN.out]; exact hjn), List.getElem?_eq_getElem _⟩
      obtain ⟨m, rfl, hm⟩ := pgood_at HG.out hz
      have c1 := hc j _ hz
      rw [← HB.out.cell (p := ⟨b, _, none⟩) hblk] at c1
      obtain ⟨t, ht⟩ : ∃ t, t = hex (l.drop (j + 1)) := ⟨_, rfl⟩
      rw [← ht]
      have hlt : t < 256 := by
        have h1 := hex_lt (l := l.drop (j + 1)) fun z hz => (pgood_iff.1 HG.out).2.2 z (List.mem_of_mem_drop hz)
        have h2 : 16 ^ (l.drop (j + 1)).length ≤ 16 ^ 2 := Nat.pow_le_pow_right (by omega) (by have := (pgood_len HG.out).2; rw [List.length_drop]; omega)
        omega
      obtain ⟨u, hu⟩ : ∃ u, u = 16 * t := ⟨_, rfl⟩
      obtain ⟨v, hv⟩ : ∃ v, v = u + m := ⟨_, rfl⟩
      have h1 : IntKind.u64.wrap ((t : Int) * 16) = (u : Int) := by rw [u64_in (by omega) (by omega)]; omega
      have h2 : IntKind.u64.wrap ((u : Int) + (m : Int)) = (v : Int) := by rw [u64_in (by omega) (by omega)]; omega
      have h3 : IntKind.u64.wrap (m : Int) = (m : Int) := u64_in (by omega) (by omega)
      have h4 : wrap64 ((j : Int) - 1) = (j : Int) - 1 := by have := H3.out; unfold wrap64; omega
      have HV : Hid (v = hex (l.drop j)) := Lib.hid (by
        have e : l.drop j = (m : Int) :: l.drop (j + 1) := by
          obtain ⟨hi, e⟩ := List.getElem?_eq_some_iff.1 hz
          rw [← e]
          exact List.drop_eq_getElem_cons hi
        rw [hv, hu, ht, e, hex, Int.toNat_natCast]
        omega)
      have hjn' : (j : Int) < (n : Int) := by omega
      clear hc hblk hz hm ht hlt hu hv hj
      go_wp2
      go_roundg j
      case measure => omega
      case rel => exact ⟨by have := HKL.out; omega, by rw [HV.out], by rw [pred_in (by have := H3.out; omega)], HB.out⟩
end Go.Proofs.YtfcifheejjppfaaDoor
