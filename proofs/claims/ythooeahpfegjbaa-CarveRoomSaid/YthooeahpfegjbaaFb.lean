/-
  The walks of package forest's ends, Good and holds. Condition: the places lie in memory, at most a million.
-/
import Derived.Test.YthooeahpfegjbaaFa
namespace Go.Proofs.Ythooeahpfegjbaa
open Go.RowKit

/-- j steps have been made up from a place, z is the place reached -/
def PEndRel (W : World) (l : List Int) (A : Option Addr) (n cap g i : Nat) (k : Nat) (p q : Value) (wr : World) : Prop :=
  ∃ j m : Nat, k + j = n ∧ p = .int .i64 j ∧ q = .int .i64 m ∧ m < n ∧ ends l n i = ends l k m ∧ Pbx W wr g (.slice A n cap)
theorem pends_is {A : Option Addr} {n cap : Nat} {l : List Int} {i : Nat} {t : Bool} {w : World} (hn : n = l.length) (hn6 : n ≤ 1000000) (hL : IntsAt w w.heap.size A l) (hok : ∀ j, j < n → okAt l j = true) (hi : i < n) (ht : ends l n i = t) :
    Calls Try.prog 42 #[.agg #[.slice A n cap], .int .i64 (i : Int)] w fun e w' => e = .returned (.bool t) ∧ Below w.heap.size w w' := by
  have HN := Lib.hid hn
  have H6 := Lib.hid hn6
  have HL := Lib.hid hL
  have HT := Lib.hid ht
  have HOK := Lib.hid hok
  have hK := Pbx.new w (.slice A n cap) 60
  have c0 := hK.c
  obtain ⟨b, o, rfl, hblk, hc⟩ := at_open HL.out (by omega)
  have HC : Hid (b < w.heap.size ∧ ∀ k, k < n → w.cell? ⟨b, o + k, none⟩ = some (.int .i64 (fu l k))) := Lib.hid ⟨hblk, fun k hk => hc k (by rw [← HN.out]; exact hk)⟩
  have HI := Lib.hid hi
  clear hn hn6 hL hok ht hblk hc hi
  go_enter Try.func42, Try.ntmps42
  go_wp2_with fail
  generalize w.alloc (.cells #[.slice (some ⟨b, o, none⟩) n cap] 60) = w1 at hK c0 ⊢
  have HK1 := Lib.hid hK
  clear hK
  go_wp2_with fail
  clear c0
  go_loopg [8, 1] n (fun k p q wr => PEndRel w l (some ⟨b, o, none⟩) n cap w.heap.size i k p q wr)
  case atStart => exact ⟨0, i, by omega, rfl, rfl, HI.out, rfl, HK1.out⟩
  case round =>
    obtain ⟨j, m, hk, rfl, rfl, hm, he, hK⟩ := hrel
    have HK := Lib.hid hk
    have K := Lib.hid hK
    have HM := Lib.hid hm
    have HE := Lib.hid he
    clear hk hK hm he HK1
    have c0 := K.out.c
    by_cases hlt : j < n
    · have HLT := Lib.hid hlt
      have hlt2 : (j : Int) < (n : Int) := by omega
      have hmn : (m : Int) < (n : Int) := by have := HM.out; omega
      have hok := okAt_iff.1 (HOK.out m HM.out)
      have c1 : wr.cell? ⟨b, o + m, none⟩ = some (.int .i64 (fu l m)) := by
        rw [K.out.old.cell (p := ⟨b, _, none⟩) HC.out.1]
        exact HC.out.2 m HM.out
      have HS : Hid (ends l gk m = ends l (gk - 1) (fu l m)) := Lib.hid (by
        obtain ⟨f, rfl⟩ : ∃ f, gk = f + 1 := ⟨gk - 1, by have := HK.out; omega⟩
        rw [ends_succ (by omega), Int.toNat_natCast]; rfl)
      obtain ⟨y, hy⟩ : ∃ y, fu l m = y := ⟨_, rfl⟩
      rw [hy] at c1 hok HS
      by_cases h0 : y < 0
      · have HF : Hid (t = true) := Lib.hid (by rw [← HT.out, HE.out, HS.out, ends_neg h0])
        clear hok hy
        go_wp2
        go_ret
        exact ⟨by rw [HF.out]; rfl, K.out.old⟩
      · obtain ⟨y', rfl⟩ : ∃ y' : Nat, y = y' := ⟨y.toNat, by omega⟩
        have HY : Hid (y' < n) := Lib.hid (by have := hok.2.1; rw [← HN.out] at this; omega)
        clear hok hy
        go_wp2
        go_roundg (gk - 1)
        case measure => have := HK.out; have := HLT.out; omega
        case rel => exact ⟨j + 1, y', by have := HK.out; have := HLT.out; omega, (by refine congrArg _ ?_; have := H6.out; have := HLT.out; first | rfl | (unfold wrap64; omega)), rfl, HY.out, by rw [HE.out, HS.out], K.out⟩
    · have hlt2 : ¬ (j : Int) < (n : Int) := by omega
      have HF : Hid (t = false) := Lib.hid (by
        have : gk = 0 := by have := HK.out; omega
        subst this
        rw [← HT.out, HE.out, ends, decide_eq_false (by omega)])
      clear hlt
      go_wp2
      go_ret
      exact ⟨by rw [HF.out]; rfl, K.out.old⟩

def PG1 (W : World) (n cap g : Nat) (A : Option Addr) (l : List Int) (k : Nat) (p : Value) (wr : World) : Prop :=
  ∃ i : Nat, k + i = n ∧ p = .int .i64 i ∧ (∀ j, j < i → okAt l j = true) ∧ Pbx W wr g (.slice A n cap)
def PG2 (W : World) (n cap g : Nat) (A : Option Addr) (l : List Int) (k : Nat) (p : Value) (wr : World) : Prop :=
  ∃ i : Nat, k + i = n ∧ p = .int .i64 i ∧ (∀ j, j < i → ends l n j = true) ∧ Pbx W wr g (.slice A n cap)

set_option maxHeartbeats 4000000 in
theorem pgood_is {A : Option Addr} {n cap : Nat} {l : List Int} {t : Bool} {w : World} (hn : n = l.length) (hL : IntsAt w w.heap.size A l) (ht : fgood l = t) :
    Calls Try.prog 16 #[.agg #[.slice A n cap]] w fun e w' => e = .returned (.bool t) ∧ Below w.heap.size w w' := by
  have HN := Lib.hid hn
  have HL := Lib.hid hL
  have HT := Lib.hid ht
  have hK := Pbx.new w (.slice A n cap) 60
  have c0 := hK.c
  clear hn hL ht
  by_cases h96 : 96 < n
  · have HF : Hid (t = false) := Lib.hid (by rw [← HT.out, fgood, ← HN.out, decide_eq_false (by omega), Bool.false_and])
    have HO := Lib.hid hK.old
    have h1 : (96 : Int) < n := by omega
    clear hK
    go_enter Try.func16, Try.ntmps16
    go_wp2
    go_ret
    exact ⟨by rw [HF.out]; rfl, HO.out⟩
  have h1 : ¬ (96 : Int) < n := by omega
  have H96 : Hid (n ≤ 96) := Lib.hid (by omega)
  clear h96
  go_enter Try.func16, Try.ntmps16
  go_wp2_with fail
  generalize w.alloc (.cells #[.slice A n cap] 60) = w1 at hK c0 ⊢
  have HK1 := Lib.hid hK
  clear hK
  go_wp2_with fail
  clear c0
  go_loopg [13] n (fun k p wr => PG1 w n cap w.heap.size A l k p wr)
  case atStart => exact ⟨0, by omega, rfl, fun j h => by omega, HK1.out⟩
  case round =>
    obtain ⟨i, hk, rfl, ha, hb⟩ := hrel
    have HK := Lib.hid hk
    have K := Lib.hid hb
    have HA := Lib.hid ha
    clear hk hb ha HK1
    have c0 := K.out.c
    by_cases hlt : i < n
    · have HLT := Lib.hid hlt
      have hlt2 : (i : Int) < (n : Int) := by omega
      obtain ⟨b, o, rfl, hblk, hc⟩ := at_open HL.out (by rw [← HN.out]; omega)
      have c1 : wr.cell? ⟨b, o + i, none⟩ = some (.int .i64 (fu l i)) := by
        rw [K.out.old.cell (p := ⟨b, _, none⟩) hblk]
        exact hc i (by rw [← HN.out]; exact hlt)
      have hoe := okAt_eq l i
      have HBAD : Hid (okAt l i = false → t = false) := Lib.hid fun q => by
        rw [← HT.out, Bool.eq_false_iff]
        intro e
        rw [fgood, Bool.and_eq_true, Bool.and_eq_true, List.all_eq_true] at e
        have := e.2.1 i (List.mem_range.2 (by rw [← HN.out]; exact hlt))
        rw [q] at this
        cases this
      obtain ⟨x, hx⟩ : ∃ x, fu l i = x := ⟨_, rfl⟩
      rw [hx] at c1 hoe
      by_cases h2 : x = -2
      · have HO : Hid (okAt l i = true) := Lib.hid (by rw [hoe, decide_eq_true h2, Bool.true_or])
        subst h2
        clear hc hblk hx hoe
        go_wp2
        go_roundg (n - (i + 1))
        case measure => have := HK.out; have := HLT.out; omega
        case rel =>
          refine ⟨i + 1, by have := HLT.out; omega, by go_num, fun j hj => ?_, K.out⟩
          by_cases e : j = i
          · subst e; exact HO.out
          · exact HA.out j (by omega)
      · have h3 : (x != -2) = true := by simp [h2]
        rw [decide_eq_false h2, Bool.false_or] at hoe
        rcases hbr : bearB l x with _ | _
        · have HF := Lib.hid (HBAD.out (hoe.trans hbr))
          have HB := Lib.hid hbr
          clear hc hblk hx hoe hbr
          go_wp2_with fail
          refine (maybear_is (w := wr) HN.out (HL.out.on K.out.old) HB.out).mono ?_
          rintro e w2 ⟨rfl, hb⟩
          have HO := Lib.hid (K.out.on hb).old
          clear hb c0 c1
          go_wp2
          go_ret
          exact ⟨by rw [HF.out]; rfl, HO.out⟩
        · have HO := Lib.hid (hoe.trans hbr)
          have HB := Lib.hid hbr
          clear hc hblk hx hoe hbr
          go_wp2_with fail
          refine (maybear_is (w := wr) HN.out (HL.out.on K.out.old) HB.out).mono ?_
          rintro e w2 ⟨rfl, hb⟩
          have K2 := Lib.hid (K.out.on hb)
          clear hb c0 c1
          go_wp2
          go_roundg (n - (i + 1))
          case measure => have := HK.out; have := HLT.out; omega
          case rel =>
            refine ⟨i + 1, by have := HLT.out; omega, by go_num, fun j hj => ?_, K2.out⟩
            by_cases e : j = i
            · subst e; exact HO.out
            · exact HA.out j (by omega)
    · have hlt2 : ¬ (i : Int) < (n : Int) := by omega
      have HOK : Hid (∀ j, j < n → okAt l j = true) := Lib.hid fun j hj => HA.out j (by have := HK.out; omega)
      clear HA HK hlt
      go_wp2_with fail
      clear c0
      go_loopg [29] n (fun k p wr => PG2 w n cap w.heap.size A l k p wr)
      case atStart => exact ⟨0, by omega, rfl, fun j h => by omega, K.out⟩
      case round =>
        obtain ⟨i, hk, rfl, ha, hb⟩ := hrel
        have HK := Lib.hid hk
        have K2 := Lib.hid hb
        have HA := Lib.hid ha
        clear hk hb ha K
        have c0 := K2.out.c
        by_cases hlt : i < n
        · have HLT := Lib.hid hlt
          have hlt3 : (i : Int) < (n : Int) := by omega
          rcases hed : ends l n i with _ | _
          · have HF : Hid (t = false) := Lib.hid (by
              rw [← HT.out, Bool.eq_false_iff]
              intro e
              rw [fgood, Bool.and_eq_true, Bool.and_eq_true, List.all_eq_true, List.all_eq_true] at e
              have := e.2.2 i (List.mem_range.2 (by rw [← HN.out]; exact hlt))
              rw [← HN.out, hed] at this
              cases this)
            have HED := Lib.hid hed
            clear hed
            go_wp2_with fail
            refine (pends_is (w := wr) HN.out (by have := H96.out; omega) (HL.out.on K2.out.old) HOK.out HLT.out HED.out).mono ?_
            rintro e w2 ⟨rfl, hb⟩
            have HO := Lib.hid (K2.out.on hb).old
            clear hb c0
            go_wp2
            go_ret
            exact ⟨by rw [HF.out]; rfl, HO.out⟩
          · have HED := Lib.hid hed
            clear hed
            go_wp2_with fail
            refine (pends_is (w := wr) HN.out (by have := H96.out; omega) (HL.out.on K2.out.old) HOK.out HLT.out HED.out).mono ?_
            rintro e w2 ⟨rfl, hb⟩
            have K3 := Lib.hid (K2.out.on hb)
            clear hb c0
            go_wp2
            go_roundg (n - (i + 1))
            case measure => have := HK.out; have := HLT.out; omega
            case rel =>
              refine ⟨i + 1, by have := HLT.out; omega, by go_num, fun j hj => ?_, K3.out⟩
              by_cases e : j = i
              · subst e; exact HED.out
              · exact HA.out j (by omega)
        · have HT2 : Hid (t = true) := Lib.hid (by
            rw [← HT.out, fgood, ← HN.out, decide_eq_true H96.out, Bool.true_and, Bool.and_eq_true, List.all_eq_true, List.all_eq_true]
            refine ⟨fun j hj => HOK.out j (List.mem_range.1 hj), fun j hj => HA.out j ?_⟩
            have := List.mem_range.1 hj
            have := HK.out
            omega)
          have hlt3 : ¬ (i : Int) < (n : Int) := by omega
          clear HA HK hlt
          go_wp2
          go_ret
          exact ⟨by rw [HT2.out]; rfl, K2.out.old⟩

theorem holds_is {A : Option Addr} {n cap : Nat} {l : List Int} {i : Int} {t : Bool} {w : World} (hn : n = l.length) (hL : IntsAt w w.heap.size A l) (ht : there l i = t) :
    Calls Try.prog 54 #[.agg #[.slice A n cap], .int .i64 i] w fun e w' => e = .returned (.bool t) ∧ Below w.heap.size w w' := by
  have HN := Lib.hid hn
  have HL := Lib.hid hL
  have hK := Pbx.new w (.slice A n cap) 60
  have c0 := hK.c
  rw [there_eq] at ht
  clear hn hL
  rcases hp : filledB l i with _ | _
  · have HF : Hid (t = false) := Lib.hid (by rw [← ht, hp]; rfl)
    have HP := Lib.hid hp
    clear hp ht
    go_enter Try.func54, Try.ntmps54
    go_wp2_with fail
    generalize w.alloc (.cells #[.slice A n cap] 60) = w1 at hK c0 ⊢
    refine (filled_is (w := w1) HN.out (HL.out.on hK.old) HP.out).mono ?_
    rintro e w2 ⟨rfl, hb⟩
    have HO := Lib.hid (hK.on hb).old
    clear hb hK c0
    go_wp2
    go_ret
    exact ⟨by rw [HF.out]; rfl, HO.out⟩
  · have HF : Hid (fgood l = t) := Lib.hid (by rw [← ht, hp]; rfl)
    have HP := Lib.hid hp
    clear hp ht
    go_enter Try.func54, Try.ntmps54
    go_wp2_with fail
    generalize w.alloc (.cells #[.slice A n cap] 60) = w1 at hK c0 ⊢
    refine (filled_is (w := w1) HN.out (HL.out.on hK.old) HP.out).mono ?_
    rintro e w2 ⟨rfl, hb⟩
    have K2 := Lib.hid (hK.on hb)
    clear hb hK c0
    have c0 := K2.out.c
    go_wp2_with fail
    refine (pgood_is (w := w2) HN.out (HL.out.on K2.out.old) HF.out).mono ?_
    rintro e w3 ⟨rfl, hb⟩
    have HO := Lib.hid (K2.out.on hb).old
    clear hb c0
    go_wp2
    go_ret
    exact ⟨rfl, HO.out⟩
end Go.Proofs.Ythooeahpfegjbaa
