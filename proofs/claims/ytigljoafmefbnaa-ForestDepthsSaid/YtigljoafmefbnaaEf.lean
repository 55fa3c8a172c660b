/-
  The walks of the reference's There, Depth, Kids and Below. Condition: the places lie in memory.
-/
import Derived.Test.YtigljoafmefbnaaEe
namespace Go.Proofs.Ytigljoafmefbnaa
open Go.RowKit

theorem rthere_is {A : Option Addr} {n cap : Nat} {l : List Int} {i : Int} {t : Bool} {w : World} (hn : n = l.length) (hL : IntsAt w w.heap.size A l) (ht : there l i = t) :
    Calls Try.prog 37 #[.slice A n cap, .int .i64 i] w fun e w' => e = .returned (.bool t) ∧ Below w.heap.size w w' := by
  have HN := Lib.hid hn
  have HL := Lib.hid hL
  have HT := Lib.hid ht
  clear hn hL ht
  go_enter Try.func37, Try.ntmps37
  go_wp2_with fail
  rcases hg : fgood l with _ | _
  · refine (rgoodf_is HN.out HL.out hg).mono ?_
    rintro e w1 ⟨rfl, hb⟩
    have HB := Lib.hid hb
    have HF : Hid (t = false) := Lib.hid (by rw [← HT.out, there, hg, Bool.false_and])
    clear hb hg
    go_wp2
    go_ret
    exact ⟨by rw [HF.out]; rfl, HB.out⟩
  refine (rgoodf_is HN.out HL.out hg).mono ?_
  rintro e w1 ⟨rfl, hb⟩
  have HB := Lib.hid hb
  have ht : there l i = (decide (0 ≤ i) && (decide (i < n) && !decide (fu l i.toNat = -2))) := by rw [there, hg, Bool.true_and, HN.out]
  rw [HT.out] at ht
  by_cases h0 : 0 ≤ i
  · by_cases h1 : i < n
    · obtain ⟨k, rfl⟩ : ∃ k : Nat, i = k := ⟨i.toNat, by omega⟩
      obtain ⟨b, o, rfl, hblk, hc⟩ := at_open HL.out (by rw [← HN.out]; omega)
      have c1 : w1.cell? ⟨b, o + k, none⟩ = some (.int .i64 (fu l k)) := by
        rw [HB.out.cell (p := ⟨b, _, none⟩) hblk]
        exact hc k (by rw [← HN.out]; omega)
      rw [decide_eq_true h0, decide_eq_true h1, Bool.true_and, Bool.true_and, Int.toNat_natCast] at ht
      obtain ⟨y, hy⟩ : ∃ y, fu l k = y := ⟨_, rfl⟩
      rw [hy] at c1 ht
      by_cases h2 : y = -2
      · have HF : Hid (t = false) := Lib.hid (by rw [ht, h2]; rfl)
        subst h2
        clear hb hg ht hc hblk hy
        go_wp2
        go_ret
        exact ⟨by rw [HF.out]; rfl, HB.out⟩
      · have HF : Hid (t = true) := Lib.hid (by rw [ht]; simp [h2])
        have h3 : (y != -2) = true := by simp [h2]
        clear hb hg ht hc hblk hy
        go_wp2
        go_ret
        exact ⟨by rw [HF.out]; rfl, HB.out⟩
    · have HF : Hid (t = false) := Lib.hid (by rw [ht, decide_eq_false h1, Bool.false_and, Bool.and_false])
      clear hb hg ht
      go_wp2
      go_ret
      exact ⟨by rw [HF.out]; rfl, HB.out⟩
  · have HF : Hid (t = false) := Lib.hid (by rw [ht, decide_eq_false h0, Bool.false_and])
    clear hb hg ht
    go_wp2
    go_ret
    exact ⟨by rw [HF.out]; rfl, HB.out⟩

def RDepRel (W : World) (l : List Int) (d : Nat) (k : Nat) (p q : Value) (wr : World) : Prop :=
  ∃ (c : Nat) (z : Int), k + c = d ∧ p = .int .i64 c ∧ q = .int .i64 z ∧ (ups l z).length = k ∧ z < l.length ∧ Below W.heap.size W wr
theorem rdepth_is {A : Option Addr} {n cap : Nat} {l : List Int} {i d : Int} {w : World} (hn : n = l.length) (hL : IntsAt w w.heap.size A l) (hd : fdepth l i = d) :
    Calls Try.prog 25 #[.slice A n cap, .int .i64 i] w fun e w' => e = .returned (.int .i64 d) ∧ Below w.heap.size w w' := by
  have HN := Lib.hid hn
  have HL := Lib.hid hL
  have HD := Lib.hid hd
  clear hn hL hd
  go_enter Try.func25, Try.ntmps25
  go_wp2_with fail
  rcases ht : there l i with _ | _
  · refine (rthere_is HN.out HL.out ht).mono ?_
    rintro e w1 ⟨rfl, hb⟩
    have HB := Lib.hid hb
    have HF : Hid (d = -1) := Lib.hid (by rw [← HD.out, fdepth, ht]; rfl)
    clear hb ht
    go_wp2
    go_ret
    exact ⟨by rw [HF.out]; rfl, HB.out⟩
  refine (rthere_is HN.out HL.out ht).mono ?_
  rintro e w1 ⟨rfl, hb⟩
  have HB := Lib.hid hb
  obtain ⟨hF, k, rfl, hk, hk2⟩ := there_iff.1 ht
  have HF := Lib.hid hF
  have HK := Lib.hid hk
  have HE : Hid (d = (dep l k : Int)) := Lib.hid (by rw [← HD.out, fdepth, if_pos ht, Int.toNat_natCast])
  have hkn : (k : Int) < (n : Int) := by rw [HN.out]; omega
  obtain ⟨b, o, rfl, hblk, hc⟩ := at_open HL.out (by omega)
  have HC : Hid (b < w.heap.size ∧ ∀ k, k < l.length → w.cell? ⟨b, o + k, none⟩ = some (.int .i64 (fu l k))) := Lib.hid ⟨hblk, hc⟩
  have c1 : w1.cell? ⟨b, o + k, none⟩ = some (.int .i64 (fu l k)) := by
    rw [HB.out.cell (p := ⟨b, _, none⟩) hblk]
    exact hc k hk
  have HDL := Lib.hid (hF.dep_lt hk)
  have H96 := Lib.hid hF.few
  clear hb ht hF hk hk2 hc hblk
  go_wp2_with fail
  clear c1
  go_loopg [5, 6] (dep l k) (fun f p q wr => RDepRel w l (dep l k) f p q wr)
  case atStart =>
    refine ⟨0, fu l k, by omega, rfl, rfl, rfl, ?_, HB.out⟩
    rcases neg_or (fu l k) with h0 | h0
    · omega
    · have := HF.out.up k (fu l k).toNat (by omega)
      omega
  case round =>
    obtain ⟨c, z, hk, rfl, rfl, hz, hzl, hb⟩ := hrel
    have HB2 := Lib.hid hb
    have HI := Lib.hid hk
    clear hb hk
    by_cases h0 : z < 0
    · rw [ups_neg h0, List.length_nil] at hz
      have HCE : Hid (c = dep l k) := Lib.hid (by have := HI.out; omega)
      clear hz hzl
      go_wp2
      go_ret
      exact ⟨by rw [HE.out, HCE.out]; rfl, HB2.out⟩
    · obtain ⟨m, rfl⟩ : ∃ m : Nat, z = m := ⟨z.toNat, by omega⟩
      have hml : m < l.length := by omega
      rw [HF.out.ups_cons hml, List.length_cons] at hz
      have h3 : (0 : Int) ≤ (m : Int) := by omega
      have hmn : (m : Int) < (n : Int) := by rw [HN.out]; omega
      have c1 : wr.cell? ⟨b, o + m, none⟩ = some (.int .i64 (fu l m)) := by
        rw [HB2.out.cell (p := ⟨b, _, none⟩) HC.out.1]
        exact HC.out.2 m hml
      have HZ : Hid ((ups l (fu l m)).length + 1 = gk) := Lib.hid hz
      have HU : Hid (fu l m < l.length) := Lib.hid (by
        rcases neg_or (fu l m) with h0 | h0
        · omega
        · have := HF.out.up m (fu l m).toNat (by omega)
          omega)
      obtain ⟨y, hy⟩ : ∃ y, fu l m = y := ⟨_, rfl⟩
      rw [hy] at c1 HZ HU
      clear hz hzl hml hy h0
      go_wp2
      go_roundg (gk - 1)
      case measure => have := HZ.out; omega
      case rel => exact ⟨c + 1, y, by have := HI.out; have := HZ.out; omega, (by refine congrArg _ ?_; have := HI.out; have := HZ.out; have := HDL.out; have := H96.out; first | rfl | (unfold wrap64; omega)), rfl, by have := HZ.out; omega, HU.out, HB2.out⟩

/-- those of the first i places that are picked -/
def pick (p : Nat → Bool) (i : Nat) : List Nat := (List.range i).filter p
theorem pick_zero (p : Nat → Bool) : pick p 0 = [] := rfl
theorem pick_yes {p : Nat → Bool} {i : Nat} (h : p i = true) : pick p (i + 1) = pick p i ++ [i] := by
  rw [pick, List.range_succ, List.filter_append, pick, List.filter_cons_of_pos h]
  rfl
theorem pick_no {p : Nat → Bool} {i : Nat} (h : p i = false) : pick p (i + 1) = pick p i := by
  rw [pick, List.range_succ, List.filter_append, pick, List.filter_cons_of_neg (by rw [h]; decide)]
  simp
theorem pick_len (p : Nat → Bool) (i : Nat) : (pick p i).length ≤ i := by
  have := List.length_filter_le p (List.range i)
  rwa [List.length_range] at this
theorem toInts_append (a b : List Nat) : toInts (a ++ b) = toInts a ++ toInts b := List.map_append
theorem toInts_length (a : List Nat) : (toInts a).length = a.length := List.length_map _

def RPickRel (W : World) (n : Nat) (p : Nat → Bool) (k : Nat) (v q : Value) (wr : World) : Prop :=
  ∃ i : Nat, k + i = n ∧ Bi W wr v (toInts (pick p i)) ∧ q = .int .i64 i

set_option maxHeartbeats 2000000 in
theorem rkids_is {A : Option Addr} {n cap : Nat} {l L : List Int} {i : Int} {w : World} (hn : n = l.length) (hn6 : n ≤ 1000000) (hL : IntsAt w w.heap.size A l) (hr : fkids l i = L) :
    Calls Try.prog 26 #[.slice A n cap, .int .i64 i] w fun e w' => ∃ B cb, e = .returned (.slice B L.length cb) ∧ IntsAt w' w'.heap.size B L ∧ Below w.heap.size w w' := by
  have HN := Lib.hid hn
  have HL := Lib.hid hL
  have HR := Lib.hid hr
  have H6 := Lib.hid hn6
  have H0 : Hid (Bi w w (.slice none 0 0) []) := Lib.hid ⟨World.ownsRow_nil _ _ _ _, Below.refl _ _⟩
  clear hn hL hr hn6
  rcases ht : there l i with _ | _
  · have HE : Hid (L = []) := Lib.hid (by rw [← HR.out, fkids, ht]; rfl)
    have HT := Lib.hid ht
    clear ht
    go_enter Try.func26, Try.ntmps26
    go_wp2_with fail
    by_cases h0 : 0 < n
    · have h0' : (0 : Int) < (n : Int) := by omega
      go_loopg [5, 6] 1 (fun (k : Nat) (p q : Value) (wr : World) => p = .slice none 0 0 ∧ q = .int .i64 0 ∧ wr = w)
      case atStart => exact ⟨rfl, rfl, rfl⟩
      case round =>
        obtain ⟨rfl, rfl, rfl⟩ := hrel
        go_wp2_with fail
        refine (rthere_is HN.out HL.out HT.out).mono ?_
        rintro e w1 ⟨rfl, hb⟩
        have HB := Lib.hid hb
        clear hb
        go_wp2
        go_ret
        rw [HE.out]
        first | exact ⟨none, 0, rfl, none_at _, HB.out⟩ | exact ⟨none, ⟨0, rfl⟩, none_at _, HB.out⟩
    · have h0' : ¬ (0 : Int) < (n : Int) := by omega
      go_loopg [5, 6] 1 (fun (k : Nat) (p q : Value) (wr : World) => p = .slice none 0 0 ∧ q = .int .i64 0 ∧ wr = w)
      case atStart => exact ⟨rfl, rfl, rfl⟩
      case round =>
        obtain ⟨rfl, rfl, rfl⟩ := hrel
        go_wp2
        go_ret
        rw [HE.out]
        first | exact ⟨none, 0, rfl, none_at _, below_self _⟩ | exact ⟨none, ⟨0, rfl⟩, none_at _, below_self _⟩
  · obtain ⟨_, m, rfl, hm, _⟩ := there_iff.1 ht
    have HE : Hid (L = toInts (pick (fun k => decide (fu l k = (m : Int))) n)) := Lib.hid (by rw [← HR.out, fkids, if_pos ht, Int.toNat_natCast, kidsN, pick, HN.out])
    have HT := Lib.hid ht
    have HM := Lib.hid hm
    clear ht hm
    go_enter Try.func26, Try.ntmps26
    go_wp2_with fail
    go_loopg [5, 6] n (fun k p q wr => RPickRel w n (fun k => decide (fu l k = (m : Int))) k p q wr)
    case atStart => exact ⟨0, by omega, H0.out, rfl⟩
    case round =>
      obtain ⟨i, hk, hb, rfl⟩ := hrel
      have HK := Lib.hid hk
      clear hk H0
      by_cases hlt : i < n
      · have HLT := Lib.hid hlt
        have hlt2 : (i : Int) < (n : Int) := by omega
        have HB := Lib.hid hb
        clear hb
        go_wp2_with fail
        refine (rthere_is HN.out (HL.out.on HB.out.old) HT.out).mono ?_
        rintro e w1 ⟨rfl, hb⟩
        have HB1 := Lib.hid (HB.out.on hb)
        clear hb HB
        obtain ⟨b, o, rfl, hblk, hc⟩ := at_open HL.out (by rw [← HN.out]; omega)
        have c1 : w1.cell? ⟨b, o + i, none⟩ = some (.int .i64 (fu l i)) := by
          rw [HB1.out.old.cell (p := ⟨b, _, none⟩) hblk]
          exact hc i (by rw [← HN.out]; exact hlt)
        obtain ⟨x, hx⟩ : ∃ x, fu l i = x := ⟨_, rfl⟩
        rw [hx] at c1
        by_cases hxm : x = (m : Int)
        · have HP : Hid (toInts (pick (fun k => decide (fu l k = (m : Int))) (i + 1)) = toInts (pick (fun k => decide (fu l k = (m : Int))) i) ++ [(i : Int)]) := Lib.hid (by rw [pick_yes (by simp [hx, hxm]), toInts_append]; rfl)
          have hq : (toInts (pick (fun k => decide (fu l k = (m : Int))) i)).length ≤ 1000000 := by rw [toInts_length]; have := pick_len (fun k => decide (fu l k = (m : Int))) i; have := H6.out; omega
          obtain ⟨u, hu⟩ : ∃ u, u = toInts (pick (fun k => decide (fu l k = (m : Int))) i) := ⟨_, rfl⟩
          rw [← hu] at HB1 HP hq
          subst hxm
          have HB2 := Lib.hid (HB1.out.alloc (.cells #[.int .i64 (i : Int)] 3))
          have HNEW := Lib.hid (one_new w1 i)
          have HSZ : Hid (w.heap.size ≤ (w1.alloc (.cells #[.int .i64 (i : Int)] 3)).heap.size) := Lib.hid HB2.out.old.size
          obtain ⟨i0, hii, hz0, hz1, hz2⟩ := info3_parts
          have HONE := Lib.hid (one_plain i)
          clear hu hc hblk hx HB1
          go_wp2_with (at_builtin; refine wpList_append_own _ rfl _ _ 23 rfl w.heap.size 3 i0 (.int .i64 0) 1 8 Try.underlying23 hii hz0 hz1 hz2 rfl (by decide) _ _ _ rfl HB2.out.own ⟨w1.heap.size, 0, none⟩ 1 1 [.int .i64 i] rfl rfl HNEW.out HONE.out ?c3 ?c4 HSZ.out ?_)
          case c3 => unfold maxLen; omega
          case c4 => omega
          intro v' w4 hown hgrow _
          have HB3 := Lib.hid (HB2.out.more (l' := toInts (pick (fun k => decide (fu l k = (m : Int))) (i + 1))) hgrow (by rw [HP.out, icells_append, List.length_append]; exact hown))
          clear hown hgrow HB2 HNEW HSZ HONE hq
          go_wp2
          go_roundg (n - (i + 1))
          case measure => have := HK.out; have := HLT.out; omega
          case rel => exact ⟨i + 1, by have := HLT.out; omega, HB3.out, (by refine congrArg _ ?_; have := H6.out; have := HLT.out; first | rfl | (unfold wrap64; omega))⟩
        · have HP : Hid (toInts (pick (fun k => decide (fu l k = (m : Int))) (i + 1)) = toInts (pick (fun k => decide (fu l k = (m : Int))) i)) := Lib.hid (by rw [pick_no (by simp [hx, hxm])])
          have h3 : (x == (m : Int)) = false := by simp [hxm]
          clear hc hblk hx
          go_wp2
          go_roundg (n - (i + 1))
          case measure => have := HK.out; have := HLT.out; omega
          case rel => exact ⟨i + 1, by have := HLT.out; omega, by rw [HP.out]; exact HB1.out, (by refine congrArg _ ?_; have := H6.out; have := HLT.out; first | rfl | (unfold wrap64; omega))⟩
      · have hin : i = n := by have := HK.out; omega
        subst hin
        rw [← HE.out] at hb
        obtain ⟨B, cb, rfl, hi⟩ := hb.ints
        have ho := hb.old
        have HI := Lib.hid hi
        have HO := Lib.hid ho
        have hlt2 : ¬ (i : Int) < (i : Int) := by omega
        clear hb hi ho hlt
        go_wp2
        go_ret
        first | exact ⟨B, cb, rfl, HI.out, HO.out⟩ | exact ⟨B, ⟨cb, rfl⟩, HI.out, HO.out⟩
end Go.Proofs.Ytigljoafmefbnaa
