/-
  The walk of the reference's PathParse. Condition: the text has at most 1000 bytes.
-/
import Derived.Test.YtcobcdkpfmifeaaDoorHm
import Derived.Test.YtcobcdkpfmifeaaDoorHn
namespace Go.Proofs.YtcobcdkpfmifeaaDoor
open Go.RowKit

/-- what the letters read so far have made: at least one number, none below 0, none beyond what so many digits make -/
def Fed (i : Nat) (l : List Int) : Prop := l ≠ [] ∧ l.length ≤ i + 1 ∧ ∀ z ∈ l, 0 ≤ z ∧ z < 10 ^ i
theorem pow10_pos (i : Nat) : (0 : Int) < 10 ^ i := Int.pow_pos (by decide)
theorem Fed.start : Fed 0 [0] := ⟨by simp, by simp, fun z hz => by simp at hz; subst hz; simp⟩
theorem fed_split {i : Nat} {l : List Int} (h : Fed i l) : ∃ (l' : List Int) (m : Nat), l = l' ++ [(m : Int)] ∧ (m : Int) < 10 ^ i ∧ l'.length ≤ i := by
  refine ⟨l.dropLast, (l.getLast h.1).toNat, ?_, ?_, ?_⟩
  · have := h.2.2 _ (List.getLast_mem h.1)
    rw [show (((l.getLast h.1).toNat : Nat) : Int) = l.getLast h.1 by omega, List.dropLast_concat_getLast]
  · have := h.2.2 _ (List.getLast_mem h.1)
    omega
  · have := h.2.1
    rw [List.length_dropLast]
    omega
theorem Fed.next {i : Nat} {l : List Int} (h : Fed i l) (c : UInt8) : Fed (i + 1) (feed l c) := by
  have hp := pow10_pos i
  have he : (10 : Int) ^ (i + 1) = 10 * 10 ^ i := by rw [Int.pow_succ, Int.mul_comm]
  unfold feed
  split
  · refine ⟨by simp, by simpa using h.2.1, fun z hz => ?_⟩
    rw [List.mem_append, List.mem_singleton] at hz
    rcases hz with hz | rfl
    · have := h.2.2 z hz
      omega
    · omega
  · split
    · rename_i hc
      obtain ⟨l', m, rfl, hm, hl⟩ := fed_split h
      have h57 : c.toNat ≤ 57 := UInt8.le_iff_toNat_le.1 hc.2
      refine ⟨by simp, by simp; omega, fun z hz => ?_⟩
      rw [List.dropLast_concat, List.mem_append, List.mem_singleton] at hz
      rcases hz with hz | rfl
      · have := h.2.2 z (List.mem_append_left _ hz)
        omega
      · have : (l' ++ [(m : Int)]).getLast! = m := by simp
        rw [this]
        omega
    · exact ⟨h.1, by have := h.2.1; omega, fun z hz => by have := h.2.2 z hz; omega⟩
/-- after i letters -/
def fedBy (s : List UInt8) (i : Nat) : List Int := (s.take i).foldl feed [0]
theorem fedBy_succ {s : List UInt8} {i : Nat} {c : UInt8} (h : s[i]? = some c) : fedBy s (i + 1) = feed (fedBy s i) c := by
  rw [fedBy, List.take_add_one, h, List.foldl_append]
  rfl
theorem fedBy_fed (s : List UInt8) : ∀ i, Fed i (fedBy s i)
  | 0 => Fed.start
  | i + 1 => by
    cases h : s[i]? with
    | none =>
      have e : fedBy s (i + 1) = fedBy s i := by rw [fedBy, List.take_add_one, h]; simp [fedBy]
      have k := fedBy_fed s i
      have hp := pow10_pos i
      have he : (10 : Int) ^ (i + 1) = 10 * 10 ^ i := by rw [Int.pow_succ, Int.mul_comm]
      rw [e]
      exact ⟨k.1, by have := k.2.1; omega, fun z hz => by have := k.2.2 z hz; omega⟩
    | some c =>
      rw [fedBy_succ h]
      exact (fedBy_fed s i).next c

theorem Bi.block {W w : World} {v : Value} {l : List Int} (h : Bi W w v l) (h0 : l ≠ []) : ∃ g cap, v = .slice (some ⟨g, 0, none⟩) l.length cap ∧ W.heap.size ≤ g ∧ g < w.heap.size ∧
    (∀ j (z : Int), l[j]? = some z → w.cell? ⟨g, j, none⟩ = some (.int .i64 z)) ∧ ∀ j, w.frozen? ⟨g, j, none⟩ = false := by
  have ho := h.own
  rcases ho.2 with ⟨rfl, hz⟩ | ⟨g, cap, cur, rfl, hb, hg, h1, h2, h3, h4⟩
  · exact absurd (List.length_eq_zero_iff.1 hz) h0
  · refine ⟨g, cap, rfl, hb, (Array.getElem?_eq_some_iff.1 hg).1, fun j x hx => ?_, fun j => ho.frozenAt j⟩
    have hj : j < l.length := (List.getElem?_eq_some_iff.1 hx).1
    have := ho.cellAt j (by omega)
    rw [this, icells, List.getElem?_map, hx]
    rfl
theorem Bi.put {W w : World} {g cap : Nat} {l : List Int} (h : Bi W w (.slice (some ⟨g, 0, none⟩) l.length cap) l) (k : Nat) (y : Int) : Bi W (w.setCell ⟨g, k, none⟩ (.int .i64 y)) (.slice (some ⟨g, 0, none⟩) l.length cap) (l.set k y) := by
  obtain ⟨h1, h2⟩ := h.own.stored k (.int .i64 y)
  refine h.more h2 ?_
  rw [icells, List.map_set, List.length_set]
  exact h1
theorem Bi.drew {W w : World} {v : Value} {l : List Int} (h : Bi W w v l) : Bi W w.drew v l := ⟨h.own, h.old.drew⟩
def RParRel (W : World) (s : ByteArray) (N : Nat) (k : Nat) (p q : Value) (wr : World) : Prop :=
  ∃ i : Nat, k + i = N ∧ Bi W wr p (fedBy s.data.toList i) ∧ q = .int .i64 i

set_option maxHeartbeats 4000000 in
theorem rparse_any (s : ByteArray) (hs : s.size ≤ 1000) (w : World) : Calls Tryd.prog 16 #[.string s] w fun e w' => ∃ A cap, e = .returned (.tuple #[.slice A ((pparse s.data.toList).getD []).length cap, .bool (pparse s.data.toList).isSome]) ∧ IntsAt w' w'.heap.size A ((pparse s.data.toList).getD []) ∧ Below w.heap.size w w' := by
  obtain ⟨N, hN⟩ : ∃ N, N = min s.size 9 := ⟨_, rfl⟩
  have HN := Lib.hid hN
  have HS := Lib.hid hs
  have H0 : Hid (Bi w (w.alloc (.cells #[.int .i64 0] 3)) (.slice (some ⟨w.heap.size, 0, none⟩) 1 1) [0]) :=
    Lib.hid ⟨World.ownsRow_lit w _ 1 (Nat.le_refl _) (by unfold maxLen; omega) rfl, below_alloc _ _⟩
  clear hN hs
  go_enter Tryd.func16, Tryd.ntmps16
  go_wp2_with fail
  go_loopg [4, 5] N (fun k p q wr => RParRel w s N k p q wr)
  case atStart => exact ⟨0, by omega, H0.out, rfl⟩
  case round =>
    obtain ⟨i, hk, hb, rfl⟩ := hrel
    have HK := Lib.hid hk
    clear hk H0
    by_cases hlt : i < N
    · have HLT := Lib.hid hlt
      have h1 : (i : Int) < (s.size : Int) := by have := HN.out; omega
      have h2 : (i : Int) < 9 := by have := HN.out; omega
      obtain ⟨c, hc⟩ : ∃ c, s.data.toList[i]? = some c := ⟨s.data.toList[i]'(by have := HN.out; have : i < s.size := by omega
                                                                                exact this), List.getElem?_eq_getElem _⟩
      have hi : i < s.size := by omega
      obtain ⟨x, hx⟩ : ∃ x, (s[i]'hi).toNat = x := ⟨_, rfl⟩
      have hcx : c.toNat = x := by
        rw [← hx]
        have e : s[i]'hi = c := by
          have := List.getElem?_eq_some_iff.1 hc
          exact this.2
        rw [e]
      have hx256 : x < 256 := hcx ▸ c.toNat_lt
      have HF := Lib.hid (fedBy_succ hc)
      have HD := Lib.hid (fedBy_fed s.data.toList i)
      have HB := Lib.hid hb
      clear hb hc
      by_cases h46 : x = 46
      · have HE : Hid (fedBy s.data.toList (i + 1) = fedBy s.data.toList i ++ [0]) := Lib.hid (by
          have : c = 46 := UInt8.toNat_inj.1 (hcx.trans h46)
          rw [HF.out, this, feed_point])
        subst h46
        obtain ⟨l, hl⟩ : ∃ l, l = fedBy s.data.toList i := ⟨_, rfl⟩
        rw [← hl] at HB HD HE
        have hq : l.length ≤ 10 := by have := HD.out.2.1; have := HN.out; omega
        have HB1 := Lib.hid (HB.out.alloc (.cells #[.int .i64 0] 3))
        have HNEW := Lib.hid (one_new wr 0)
        have HSZ : Hid (w.heap.size ≤ (wr.alloc (.cells #[.int .i64 0] 3)).heap.size) := Lib.hid HB1.out.old.size
        obtain ⟨i0, hii, hz0, hz1, hz2⟩ := info3_parts
        have HONE := Lib.hid (one_plain 0)
        clear hcx hx256 HF HD hl HB
        go_wp2_with (at_builtin; refine wpList_append_own _ rfl _ _ 24 rfl w.heap.size 3 i0 (.int .i64 0) 1 8 Tryd.underlying24 hii hz0 hz1 hz2 rfl (by decide) _ _ _ rfl HB1.out.own ⟨wr.heap.size, 0, none⟩ 1 1 [.int .i64 0] rfl rfl HNEW.out HONE.out ?c3 ?c4 HSZ.out ?_)
        case c3 => unfold maxLen; omega
        case c4 => omega
        intro v' w4 hown hgrow _
        have HB2 := Lib.hid (HB1.out.more (l' := fedBy s.data.toList (i + 1)) hgrow (by rw [HE.out, icells_append, List.length_append]; exact hown))
        clear hown hgrow HB1 HNEW HSZ HONE hq
        go_wp2
        go_roundg (N - (i + 1))
        case measure => have := HK.out; have := HLT.out; omega
        case rel => exact ⟨i + 1, by have := HLT.out; omega, HB2.out, (by go_num)⟩
      · have h46' : ((x : Int) == 46) = false := by simp; omega
        have h46n : ¬ (x : Int) = 46 := by omega
        by_cases hlo : 48 ≤ x
        · by_cases hhi : x ≤ 57
          · have h3 : (48 : Int) ≤ (x : Int) := by omega
            have h4 : (x : Int) ≤ 57 := by omega
            obtain ⟨l', m, hlm, hm, hll⟩ := fed_split HD.out
            obtain ⟨d, hd⟩ : ∃ d, d = x - 48 := ⟨_, rfl⟩
            have HE : Hid (fedBy s.data.toList (i + 1) = l' ++ [10 * (m : Int) + (d : Int)]) := Lib.hid (by
              rw [HF.out, hlm, feed_num l' m (fun e => h46 (by rw [← hcx, e]; rfl)) ⟨UInt8.le_iff_toNat_le.2 (by rw [hcx]; exact hlo), UInt8.le_iff_toNat_le.2 (by rw [hcx]; exact hhi)⟩, hcx, hd])
            obtain ⟨g, cap, rfl, _, _, hgc, hgf⟩ := HB.out.block HD.out.1
            obtain ⟨n, hn⟩ : ∃ n, n = (fedBy s.data.toList i).length := ⟨_, rfl⟩
            obtain ⟨k, hk⟩ : ∃ k, k = l'.length := ⟨_, rfl⟩
            have hnk : n = k + 1 := by rw [hn, hlm, hk, List.length_append]; rfl
            have c1 := hgc k m (by rw [hlm, hk]; simp)
            have c2 := hgf k
            have hm9 : (m : Int) < 1000000000 := by
              have : (10 : Int) ^ i ≤ 10 ^ 9 := by
                have : i ≤ 9 := by have := HN.out; omega
                have e : ∀ j : Nat, (10 : Int) ^ j = ((10 ^ j : Nat) : Int) := fun j => by simp
                rw [e, e]
                exact Int.ofNat_le.2 (Nat.pow_le_pow_right (by decide) this)
              omega
            obtain ⟨p, hp⟩ : ∃ p, p = 10 * m := ⟨_, rfl⟩
            obtain ⟨y, hy⟩ : ∃ y, y = p + d := ⟨_, rfl⟩
            have e1 : wrap64 ((n : Int) - 1) = (k : Int) := by have := HN.out; have := HLT.out; unfold wrap64; omega
            have e2 : wrap64 (10 * (m : Int)) = (p : Int) := by unfold wrap64; omega
            have e3 : IntKind.u8.wrap ((x : Int) - 48) = (d : Int) := by rw [u8_in (by omega) (by omega)]; omega
            have e4 : IntKind.i64.wrap (d : Int) = (d : Int) := i64_in (by omega) (by omega)
            have e5 : wrap64 ((p : Int) + (d : Int)) = (y : Int) := by unfold wrap64; omega
            have e6 : (k : Int) < (n : Int) := by omega
            have e7 : k < n := by omega
            have HY : Hid (fedBy s.data.toList (i + 1) = (fedBy s.data.toList i).set k (y : Int)) := Lib.hid (by
              rw [HE.out, hlm, hk, List.set_append_right _ _ (Nat.le_refl _), Nat.sub_self]
              simp only [List.set_cons_zero]
              rw [hy, hp]
              congr 2)
            have HP := Lib.hid (HB.out.put k y)
            rw [← hn] at HB HP ⊢
            clear hlm hm hll hd HE hnk hm9 hp hy hn hk hgc hgf HF HD hcx hx256 h46 hlo hhi
            go_wp2_with fail
            go_region
            go_wp2
            go_roundg (N - (i + 1))
            case measure => have := HK.out; have := HLT.out; omega
            case rel => exact ⟨i + 1, by have := HLT.out; omega, by rw [HY.out]; exact HP.out.drew, (by go_num)⟩
          · have h3 : (48 : Int) ≤ (x : Int) := by omega
            have h4 : ¬ (x : Int) ≤ 57 := by omega
            have HE : Hid (fedBy s.data.toList (i + 1) = fedBy s.data.toList i) := Lib.hid (by
              rw [HF.out, feed, if_neg (fun e => h46 (by rw [← hcx, e]; rfl)), if_neg (fun e => hhi (by rw [← hcx]; exact UInt8.le_iff_toNat_le.1 e.2))])
            clear HF HD hcx hx256 h46 hlo hhi
            go_wp2
            go_roundg (N - (i + 1))
            case measure => have := HK.out; have := HLT.out; omega
            case rel => exact ⟨i + 1, by have := HLT.out; omega, by rw [HE.out]; exact HB.out, (by go_num)⟩
        · have h3 : ¬ (48 : Int) ≤ (x : Int) := by omega
          have HE : Hid (fedBy s.data.toList (i + 1) = fedBy s.data.toList i) := Lib.hid (by
            rw [HF.out, feed, if_neg (fun e => h46 (by rw [← hcx, e]; rfl)), if_neg (fun e => hlo (by rw [← hcx]; exact UInt8.le_iff_toNat_le.1 e.1))])
          clear HF HD hcx hx256 h46 hlo
          go_wp2
          go_roundg (N - (i + 1))
          case measure => have := HK.out; have := HLT.out; omega
          case rel => exact ⟨i + 1, by have := HLT.out; omega, by rw [HE.out]; exact HB.out, (by go_num)⟩
    · have hin : i = N := by have := HK.out; omega
      subst hin
      have hfe : fedBy s.data.toList i = (s.data.toList.take 9).foldl feed [0] := by
        rw [fedBy]
        congr 1
        by_cases h9 : 9 ≤ s.size
        · rw [show i = 9 by have := HN.out; omega]
        · have e : s.data.toList.length = s.size := rfl
          rw [List.take_of_length_le (by have := HN.out; omega), List.take_of_length_le (by omega)]
      have HFE := Lib.hid hfe
      have hex : ¬ ((i : Int) < (s.size : Int) ∧ (i : Int) < 9) := by have := HN.out; omega
      obtain ⟨l, hl⟩ : ∃ l, l = fedBy s.data.toList i := ⟨_, rfl⟩
      rw [← hl] at HFE hb
      have HD : Hid (l.length ≤ 10) := Lib.hid (by rw [hl]; have := (fedBy_fed s.data.toList i).2.1; have := HN.out; omega)
      have ho := hb.old
      obtain ⟨A, cap, rfl, hi⟩ := hb.ints
      have HO := Lib.hid ho
      have HI := Lib.hid hi
      obtain ⟨n, hn⟩ : ∃ n, n = l.length := ⟨_, rfl⟩
      rw [← hn] at HD ⊢
      have HL := Lib.hid hn
      have h6 : Hid (n ≤ 1000000) := Lib.hid (by have := HD.out; omega)
      obtain ⟨t, ht⟩ : ∃ t : ByteArray, t = ⟨(ptext l).toArray⟩ := ⟨_, rfl⟩
      have HT := Lib.hid ht
      have hpp : pparse s.data.toList = if pgood l = true ∧ ptext l = s.data.toList then some l else none := by rw [pparse, ← HFE.out]
      have HPP := Lib.hid hpp
      clear hb hi ho hlt hfe hl hn ht hpp HFE HD
      by_cases hsz : i < s.size
      · have hs1 : (i : Int) < (s.size : Int) := by omega
        have hs2 : ¬ (i : Int) < 9 := by omega
        clear hex hsz
        rcases hp : pgood l with _ | _
        · have HE : Hid (pparse s.data.toList = none) := Lib.hid (by rw [HPP.out, hp]; simp)
          go_wp2_with fail
          refine (rgood_is HL.out h6.out HI.out hp).mono ?_
          rintro e w2 ⟨rfl, hb⟩
          have HO2 := Lib.hid (below_on HO.out hb)
          clear hb hp
          go_wp2
          go_ret2
          rw [HE.out]
          exact ⟨none, 0, rfl, fun h => absurd h (by simp), HO2.out⟩
        · go_wp2_with fail
          refine (rgood_is HL.out h6.out HI.out hp).mono ?_
          rintro e w2 ⟨rfl, hb⟩
          have HO2 := Lib.hid (below_on HO.out hb)
          have HI2 := Lib.hid (HI.out.on hb)
          clear hb
          go_wp2_with fail
          refine (rtext_is HL.out h6.out HI2.out HT.out.symm).mono ?_
          rintro e w3 ⟨rfl, hb⟩
          have HO3 := Lib.hid (below_on HO2.out hb)
          have HI3 := Lib.hid (HI2.out.on hb)
          clear hb
          by_cases he : ptext l = s.data.toList
          · have HE : Hid (pparse s.data.toList = some l) := Lib.hid (by rw [HPP.out, if_pos ⟨hp, he⟩])
            have hq : (t.toList == s.toList) = true := by rw [ByteArray.toList_eq, ByteArray.toList_eq, HT.out, ← he]; simp
            clear hp he
            go_wp2
            go_ret2
            rw [HE.out]
            exact ⟨A, cap, by rw [Option.getD_some, ← HL.out]; rfl, HI3.out, HO3.out⟩
          · have HE : Hid (pparse s.data.toList = none) := Lib.hid (by rw [HPP.out, if_neg (fun h => he h.2)])
            have hq : (t.toList == s.toList) = false := by
              rw [ByteArray.toList_eq, ByteArray.toList_eq, HT.out, beq_eq_false_iff_ne]
              exact he
            clear hp he
            go_wp2
            go_ret2
            rw [HE.out]
            exact ⟨none, 0, rfl, fun h => absurd h (by simp), HO3.out⟩
      · have hs1 : ¬ (i : Int) < (s.size : Int) := by omega
        clear hex hsz
        rcases hp : pgood l with _ | _
        · have HE : Hid (pparse s.data.toList = none) := Lib.hid (by rw [HPP.out, hp]; simp)
          go_wp2_with fail
          refine (rgood_is HL.out h6.out HI.out hp).mono ?_
          rintro e w2 ⟨rfl, hb⟩
          have HO2 := Lib.hid (below_on HO.out hb)
          clear hb hp
          go_wp2
          go_ret2
          rw [HE.out]
          exact ⟨none, 0, rfl, fun h => absurd h (by simp), HO2.out⟩
        · go_wp2_with fail
          refine (rgood_is HL.out h6.out HI.out hp).mono ?_
          rintro e w2 ⟨rfl, hb⟩
          have HO2 := Lib.hid (below_on HO.out hb)
          have HI2 := Lib.hid (HI.out.on hb)
          clear hb
          go_wp2_with fail
          refine (rtext_is HL.out h6.out HI2.out HT.out.symm).mono ?_
          rintro e w3 ⟨rfl, hb⟩
          have HO3 := Lib.hid (below_on HO2.out hb)
          have HI3 := Lib.hid (HI2.out.on hb)
          clear hb
          by_cases he : ptext l = s.data.toList
          · have HE : Hid (pparse s.data.toList = some l) := Lib.hid (by rw [HPP.out, if_pos ⟨hp, he⟩])
            have hq : (t.toList == s.toList) = true := by rw [ByteArray.toList_eq, ByteArray.toList_eq, HT.out, ← he]; simp
            clear hp he
            go_wp2
            go_ret2
            rw [HE.out]
            exact ⟨A, cap, by rw [Option.getD_some, ← HL.out]; rfl, HI3.out, HO3.out⟩
          · have HE : Hid (pparse s.data.toList = none) := Lib.hid (by rw [HPP.out, if_neg (fun h => he h.2)])
            have hq : (t.toList == s.toList) = false := by
              rw [ByteArray.toList_eq, ByteArray.toList_eq, HT.out, beq_eq_false_iff_ne]
              exact he
            clear hp he
            go_wp2
            go_ret2
            rw [HE.out]
            exact ⟨none, 0, rfl, fun h => absurd h (by simp), HO3.out⟩
end Go.Proofs.YtcobcdkpfmifeaaDoor
