/-
  The walks of the reference's Add, Drop, Move and Prune. Condition: the places lie in memory.
-/
import Derived.Test.YtigljoafmefbnaaEg
namespace Go.Proofs.Ytigljoafmefbnaa
open Go.RowKit

theorem add_plain' (b o j : Nat) : (⟨b, o, none⟩ : Addr).add j = ⟨b, o + j, none⟩ := Addr.add_mid b o j
/-- what a call that changes a forest answers -/
def Gives (w w' : World) (e : Ending) (r : Option (List Int)) : Prop := ∃ B cb, e = .returned (.tuple #[.slice B (r.getD []).length cb, .bool r.isSome]) ∧ IntsAt w' w'.heap.size B (r.getD []) ∧ Below w.heap.size w w'

set_option maxHeartbeats 4000000 in
theorem radd_is {A : Option Addr} {n cap : Nat} {l : List Int} {i k : Int} {r : Option (List Int)} {w : World} (hn : n = l.length) (hL : IntsAt w w.heap.size A l) (hr : fadd l i k = r) :
    Calls Try.prog 20 #[.slice A n cap, .int .i64 i, .int .i64 k] w fun e w' => Gives w w' e r := by
  unfold Gives
  have HN := Lib.hid hn
  have HL := Lib.hid hL
  have HR := Lib.hid hr
  clear hn hL hr
  go_enter Try.func20, Try.ntmps20
  go_wp2_with fail
  rcases hg : fgood l with _ | _
  · have HE : Hid (r = none) := Lib.hid (by rw [← HR.out, fadd, if_neg (fun h => by rw [h.1] at hg; cases hg)])
    refine (rgoodf_is HN.out HL.out hg).mono ?_
    rintro e w1 ⟨rfl, hb⟩
    have HB := Lib.hid hb
    clear hb hg
    go_wp2
    go_ret2
    rw [HE.out]
    exact ⟨none, 0, rfl, none_at _, HB.out⟩
  have HF := Lib.hid (fo_iff.1 hg)
  have HGD := Lib.hid hg
  refine (rgoodf_is HN.out HL.out hg).mono ?_
  rintro e w1 ⟨rfl, hb⟩
  have HO := Lib.hid hb
  clear hb hg
  by_cases h0 : i < 0
  · have HE : Hid (r = none) := Lib.hid (by rw [← HR.out, fadd, if_neg (fun h => by have := h.2.1; omega)])
    go_wp2
    go_ret2
    rw [HE.out]
    exact ⟨none, 0, rfl, none_at _, HO.out⟩
  by_cases h1 : (n : Int) ≤ i
  · have HE : Hid (r = none) := Lib.hid (by rw [← HR.out, fadd, if_neg (fun h => by have := h.2.2.1; rw [← HN.out] at this; omega)])
    go_wp2
    go_ret2
    rw [HE.out]
    exact ⟨none, 0, rfl, none_at _, HO.out⟩
  obtain ⟨m, rfl⟩ : ∃ m : Nat, i = m := ⟨i.toNat, by omega⟩
  have hml : m < l.length := by rw [← HN.out]; omega
  have HPOS : Hid (0 < l.length) := Lib.hid (by omega)
  obtain ⟨b, o, rfl, hblk, hc⟩ := at_open HL.out HPOS.out
  have HC : Hid (b < w.heap.size ∧ ∀ k, k < l.length → w.cell? ⟨b, o + k, none⟩ = some (.int .i64 (fu l k))) := Lib.hid ⟨hblk, hc⟩
  have HML := Lib.hid hml
  have hmn : (m : Int) < (n : Int) := by omega
  have c1 : w1.cell? ⟨b, o + m, none⟩ = some (.int .i64 (fu l m)) := by rw [HO.out.cell (p := ⟨b, _, none⟩) hblk]; exact hc m hml
  obtain ⟨y, hy⟩ : ∃ y, fu l m = y := ⟨_, rfl⟩
  rw [hy] at c1
  have HY := Lib.hid hy
  clear hblk hc hml hy
  by_cases h2 : y = -2
  · subst h2
    by_cases h3 : k = -1
    · subst h3
      have HE : Hid (r = some (l.set m (-1))) := Lib.hid (by rw [← HR.out, fadd, if_pos ⟨HGD.out, by omega, by rw [← HN.out]; omega, by rw [Int.toNat_natCast]; exact HY.out, .inl rfl⟩, Int.toNat_natCast])
      have hq : l.length ≤ 1000000 := by have := HF.out.few; omega
      have HB0 : Hid (Bi w (w1.alloc (.cells #[] 3)) (.slice (some ⟨w1.heap.size, 0, none⟩) 0 0) []) :=
        Lib.hid ⟨World.ownsRow_lit w1 _ 0 HO.out.size (Nat.zero_le _) rfl, below_on HO.out (below_alloc _ _)⟩
      have HNEW : Hid (∀ j u, (icells l)[j]? = some u → (w1.alloc (.cells #[] 3)).cell? ((⟨b, o, none⟩ : Addr).add j) = some u) := Lib.hid fun j u hu => by
        rw [icells, List.getElem?_map, Option.map_eq_some_iff] at hu
        obtain ⟨x, hx, rfl⟩ := hu
        rw [add_plain', HB0.out.old.cell (p := ⟨b, _, none⟩) HC.out.1, HC.out.2 j (List.getElem?_eq_some_iff.1 hx).1, fu_at hx]
      have HSZ : Hid (w.heap.size ≤ (w1.alloc (.cells #[] 3)).heap.size) := Lib.hid HB0.out.old.size
      obtain ⟨i0, hii, hz0, hz1, hz2⟩ := info3_parts
      have HONE : Hid (∀ u ∈ icells l, u.oneCell' = true) := Lib.hid fun u hu => by
        obtain ⟨x, _, rfl⟩ := List.mem_map.1 hu
        rfl
      have HLEN : Hid ((icells l).length = n * 1) := Lib.hid (by rw [icells, List.length_map, HN.out, Nat.mul_one])
      have hqn : n ≤ 1000000 := by rw [HN.out]; exact hq
      go_wp2_with (at_builtin; refine wpList_append_own _ rfl _ _ 23 rfl w.heap.size 3 i0 (.int .i64 0) 1 8 Try.underlying23 hii hz0 hz1 hz2 rfl (by decide) _ _ _ rfl HB0.out.own ⟨b, o, none⟩ n cap (icells l) rfl HLEN.out HNEW.out HONE.out ?c3 ?c4 HSZ.out ?_)
      case c3 => unfold maxLen; simp; omega
      case c4 => simp; omega
      intro v5 w5 hown hgrow _
      have hB : Bi w w5 v5 l := HB0.out.more (l' := l) hgrow (by
        rw [HN.out] at hown
        exact hown)
      clear hown hgrow HB0 HNEW HSZ HONE HLEN hq hqn
      obtain ⟨g, cb, rfl, hg1, hg2, hgc, hgf⟩ := hB.block (fun e => by have := HPOS.out; rw [e] at this; simp at this)
      rw [← HN.out] at hB
      rw [← HN.out]
      have HB := Lib.hid hB
      have HG : Hid (w.heap.size ≤ g ∧ g < w5.heap.size) := Lib.hid ⟨hg1, hg2⟩
      have HGC : Hid (∀ k, k < n → w5.cell? ⟨g, k, none⟩ = some (.int .i64 (fu l k))) := Lib.hid fun k hk => hgc k _ (fu_get (by rw [← HN.out]; exact hk))
      have HGF := Lib.hid hgf
      clear hB hg1 hg2 hgc hgf
      have c2 := HGC.out m (by rw [HN.out]; exact HML.out)
      have c3 := HGF.out m
      have HP := Lib.hid (HB.out.put' HN.out m (-1))
      clear HGC HGF
      go_wp2
      go_ret2
      rw [HE.out]
      obtain ⟨B, cb', e, hi⟩ := HP.out.ints
      injection e with e1 e2 e3
      subst e1
      exact ⟨_, cb, by rw [Option.getD_some, List.length_set, ← HN.out]; rfl, hi, HP.out.old⟩
    · have h3' : (k != -1) = true := by simp [h3]
      rcases ht : there l k with _ | _
      · have HE : Hid (r = none) := Lib.hid (by
          rw [← HR.out, fadd, if_neg]
          rintro ⟨_, _, _, _, q | q⟩
          · exact h3 q
          · rw [ht] at q; cases q)
        go_wp2_with fail
        refine (rthere_is (w := w1) HN.out (HL.out.on HO.out) ht).mono ?_
        rintro e w2 ⟨rfl, hb⟩
        have HO2 := Lib.hid (below_on HO.out hb)
        clear hb ht
        go_wp2
        go_ret2
        rw [HE.out]
        exact ⟨none, 0, rfl, none_at _, HO2.out⟩
      · have HE : Hid (r = some (l.set m k)) := Lib.hid (by rw [← HR.out, fadd, if_pos ⟨HGD.out, by omega, by rw [← HN.out]; omega, by rw [Int.toNat_natCast]; exact HY.out, .inr ht⟩, Int.toNat_natCast])
        go_wp2_with fail
        refine (rthere_is (w := w1) HN.out (HL.out.on HO.out) ht).mono ?_
        rintro e w2 ⟨rfl, hb⟩
        have HO2 := Lib.hid (below_on HO.out hb)
        clear hb ht c1
        have hq : l.length ≤ 1000000 := by have := HF.out.few; omega
        have HB0 : Hid (Bi w (w2.alloc (.cells #[] 3)) (.slice (some ⟨w2.heap.size, 0, none⟩) 0 0) []) :=
          Lib.hid ⟨World.ownsRow_lit w2 _ 0 HO2.out.size (Nat.zero_le _) rfl, below_on HO2.out (below_alloc _ _)⟩
        have HNEW : Hid (∀ j u, (icells l)[j]? = some u → (w2.alloc (.cells #[] 3)).cell? ((⟨b, o, none⟩ : Addr).add j) = some u) := Lib.hid fun j u hu => by
          rw [icells, List.getElem?_map, Option.map_eq_some_iff] at hu
          obtain ⟨x, hx, rfl⟩ := hu
          rw [add_plain', HB0.out.old.cell (p := ⟨b, _, none⟩) HC.out.1, HC.out.2 j (List.getElem?_eq_some_iff.1 hx).1, fu_at hx]
        have HSZ : Hid (w.heap.size ≤ (w2.alloc (.cells #[] 3)).heap.size) := Lib.hid HB0.out.old.size
        obtain ⟨i0, hii, hz0, hz1, hz2⟩ := info3_parts
        have HONE : Hid (∀ u ∈ icells l, u.oneCell' = true) := Lib.hid fun u hu => by
          obtain ⟨x, _, rfl⟩ := List.mem_map.1 hu
          rfl
        have HLEN : Hid ((icells l).length = n * 1) := Lib.hid (by rw [icells, List.length_map, HN.out, Nat.mul_one])
        have hqn : n ≤ 1000000 := by rw [HN.out]; exact hq
        go_wp2_with (at_builtin; refine wpList_append_own _ rfl _ _ 23 rfl w.heap.size 3 i0 (.int .i64 0) 1 8 Try.underlying23 hii hz0 hz1 hz2 rfl (by decide) _ _ _ rfl HB0.out.own ⟨b, o, none⟩ n cap (icells l) rfl HLEN.out HNEW.out HONE.out ?c3 ?c4 HSZ.out ?_)
        case c3 => unfold maxLen; simp; omega
        case c4 => simp; omega
        intro v5 w5 hown hgrow _
        have hB : Bi w w5 v5 l := HB0.out.more (l' := l) hgrow (by
          rw [HN.out] at hown
          exact hown)
        clear hown hgrow HB0 HNEW HSZ HONE HLEN hq hqn
        obtain ⟨g, cb, rfl, hg1, hg2, hgc, hgf⟩ := hB.block (fun e => by have := HPOS.out; rw [e] at this; simp at this)
        rw [← HN.out] at hB
        rw [← HN.out]
        have HB := Lib.hid hB
        have HG : Hid (w.heap.size ≤ g ∧ g < w5.heap.size) := Lib.hid ⟨hg1, hg2⟩
        have HGC : Hid (∀ k, k < n → w5.cell? ⟨g, k, none⟩ = some (.int .i64 (fu l k))) := Lib.hid fun k hk => hgc k _ (fu_get (by rw [← HN.out]; exact hk))
        have HGF := Lib.hid hgf
        clear hB hg1 hg2 hgc hgf
        have c2 := HGC.out m (by rw [HN.out]; exact HML.out)
        have c3 := HGF.out m
        have HP := Lib.hid (HB.out.put' HN.out m k)
        clear HGC HGF
        go_wp2
        go_ret2
        rw [HE.out]
        obtain ⟨B, cb', e, hi⟩ := HP.out.ints
        injection e with e1 e2 e3
        subst e1
        exact ⟨_, cb, by rw [Option.getD_some, List.length_set, ← HN.out]; rfl, hi, HP.out.old⟩
  · have HE : Hid (r = none) := Lib.hid (by rw [← HR.out, fadd, if_neg (fun h => h2 (by have := h.2.2.2.1; rw [Int.toNat_natCast, HY.out] at this; exact this))])
    have h2' : (y != -2) = true := by simp [h2]
    go_wp2
    go_ret2
    rw [HE.out]
    exact ⟨none, 0, rfl, none_at _, HO.out⟩

/-- of the first j places those that name one are changed -/
def chg (l : List Int) (i x : Int) (j : Nat) : List Int := (l.take j).map (fun y => if y = i then x else y) ++ l.drop j
theorem chg_length (l : List Int) (i x : Int) (j : Nat) : (chg l i x j).length = l.length := by
  simp [chg]
  omega
theorem chg_at {l : List Int} (i x : Int) {j : Nat} (hj : j < l.length) : (chg l i x j)[j]? = some (fu l j) := by
  rw [chg, List.getElem?_append_right (by simp; omega)]
  have : ((l.take j).map fun y => if y = i then x else y).length = j := by simp; omega
  rw [this, Nat.sub_self, List.getElem?_drop, Nat.add_zero]
  exact fu_get hj
theorem chg_zero (l : List Int) (i x : Int) : chg l i x 0 = l := by simp [chg]
theorem chg_succ {l : List Int} (i x : Int) {j : Nat} (hj : j < l.length) : chg l i x (j + 1) = (chg l i x j).set j (if fu l j = i then x else fu l j) := by
  have h1 : ((l.take j).map fun y => if y = i then x else y).length = j := by simp; omega
  have h2 : l.drop j = fu l j :: l.drop (j + 1) := by
    have := fu_get hj
    obtain ⟨hi, e⟩ := List.getElem?_eq_some_iff.1 this
    rw [← e]
    exact List.drop_eq_getElem_cons hi
  rw [chg, chg, List.set_append_right _ _ (by omega), h1, Nat.sub_self, h2, List.set_cons_zero, List.take_add_one, fu_get hj, Option.toList_some, List.map_append, List.append_assoc]
  rfl
theorem chg_same {l : List Int} {i x : Int} {j : Nat} (hj : j < l.length) (h : fu l j ≠ i) : chg l i x (j + 1) = chg l i x j := by
  rw [chg_succ i x hj, if_neg h]
  refine List.ext_getElem? fun k => ?_
  by_cases e : k = j
  · subst e
    rw [List.getElem?_set_self (by rw [chg_length]; exact hj), chg_at i x hj]
  · rw [List.getElem?_set_ne (fun q => e q.symm)]
theorem chg_all (l : List Int) (i x : Int) : chg l i x l.length = l.map fun y => if y = i then x else y := by simp [chg]

def RChgRel (W : World) (n g cb : Nat) (l : List Int) (i x : Int) (k : Nat) (p : Value) (wr : World) : Prop :=
  ∃ j : Nat, k + j = n ∧ Bi W wr (.slice (some ⟨g, 0, none⟩) n cb) (chg l i x j) ∧ p = .int .i64 j
set_option maxHeartbeats 4000000 in
theorem rdrop_is {A : Option Addr} {n cap : Nat} {l : List Int} {i : Int} {r : Option (List Int)} {w : World} (hn : n = l.length) (hL : IntsAt w w.heap.size A l) (hr : fdrop l i = r) :
    Calls Try.prog 21 #[.slice A n cap, .int .i64 i] w fun e w' => Gives w w' e r := by
  unfold Gives
  have HN := Lib.hid hn
  have HL := Lib.hid hL
  have HR := Lib.hid hr
  clear hn hL hr
  go_enter Try.func21, Try.ntmps21
  go_wp2_with fail
  rcases ht : there l i with _ | _
  · have HE : Hid (r = none) := Lib.hid (by rw [← HR.out, fdrop, ht]; first | rfl | simp [ht])
    refine (rthere_is HN.out HL.out ht).mono ?_
    rintro e w1 ⟨rfl, hb⟩
    have HB := Lib.hid hb
    clear hb ht
    go_wp2
    go_ret2
    rw [HE.out]
    exact ⟨none, 0, rfl, none_at _, HB.out⟩
  obtain ⟨hF, m, rfl, hml, hmt⟩ := there_iff.1 ht
  have HF := Lib.hid hF
  obtain ⟨x, hx⟩ : ∃ x, x = fu l m := ⟨_, rfl⟩
  have HX := Lib.hid hx
  have HE : Hid (r = some (((l.map fun y => if y = (m : Int) then x else y)).set m (-2))) := Lib.hid (by rw [← HR.out, fdrop, if_pos ht, Int.toNat_natCast, dropL, hx])
  refine (rthere_is HN.out HL.out ht).mono ?_
  rintro e w1 ⟨rfl, hb⟩
  have HO := Lib.hid hb
  have HPOS : Hid (0 < l.length) := Lib.hid (by omega)
  obtain ⟨b, o, rfl, hblk, hc⟩ := at_open HL.out HPOS.out
  have HC : Hid (b < w.heap.size ∧ ∀ k, k < l.length → w.cell? ⟨b, o + k, none⟩ = some (.int .i64 (fu l k))) := Lib.hid ⟨hblk, hc⟩
  have HML := Lib.hid hml
  have hmn : (m : Int) < (n : Int) := by rw [HN.out]; omega
  have hmnn : m < n := by rw [HN.out]; exact hml
  clear hb ht hF hblk hc hml hmt hx
  have hq : l.length ≤ 1000000 := by have := HF.out.few; omega
  have HB0 : Hid (Bi w (w1.alloc (.cells #[] 3)) (.slice (some ⟨w1.heap.size, 0, none⟩) 0 0) []) :=
    Lib.hid ⟨World.ownsRow_lit w1 _ 0 HO.out.size (Nat.zero_le _) rfl, below_on HO.out (below_alloc _ _)⟩
  have HNEW : Hid (∀ j u, (icells l)[j]? = some u → (w1.alloc (.cells #[] 3)).cell? ((⟨b, o, none⟩ : Addr).add j) = some u) := Lib.hid fun j u hu => by
    rw [icells, List.getElem?_map, Option.map_eq_some_iff] at hu
    obtain ⟨x, hx, rfl⟩ := hu
    rw [add_plain', HB0.out.old.cell (p := ⟨b, _, none⟩) HC.out.1, HC.out.2 j (List.getElem?_eq_some_iff.1 hx).1, fu_at hx]
  have HSZ : Hid (w.heap.size ≤ (w1.alloc (.cells #[] 3)).heap.size) := Lib.hid HB0.out.old.size
  obtain ⟨i0, hii, hz0, hz1, hz2⟩ := info3_parts
  have HONE : Hid (∀ u ∈ icells l, u.oneCell' = true) := Lib.hid fun u hu => by
    obtain ⟨x, _, rfl⟩ := List.mem_map.1 hu
    rfl
  have HLEN : Hid ((icells l).length = n * 1) := Lib.hid (by rw [icells, List.length_map, HN.out, Nat.mul_one])
  have hqn : n ≤ 1000000 := by rw [HN.out]; exact hq
  go_wp2_with (at_builtin; refine wpList_append_own _ rfl _ _ 23 rfl w.heap.size 3 i0 (.int .i64 0) 1 8 Try.underlying23 hii hz0 hz1 hz2 rfl (by decide) _ _ _ rfl HB0.out.own ⟨b, o, none⟩ n cap (icells l) rfl HLEN.out HNEW.out HONE.out ?c3 ?c4 HSZ.out ?_)
  case c3 => unfold maxLen; simp; omega
  case c4 => simp; omega
  intro v5 w5 hown hgrow _
  have hB : Bi w w5 v5 l := HB0.out.more (l' := l) hgrow (by
    rw [HN.out] at hown
    exact hown)
  clear hown hgrow HB0 HNEW HSZ HONE HLEN hq hqn
  obtain ⟨g, cb, rfl, hg1, hg2, hgc, hgf⟩ := hB.block (fun e => by have := HPOS.out; rw [e] at this; simp at this)
  rw [← HN.out] at hB
  rw [← HN.out]
  have HB := Lib.hid hB
  have HG : Hid (w.heap.size ≤ g ∧ g < w5.heap.size) := Lib.hid ⟨hg1, hg2⟩
  have HGC : Hid (∀ k, k < n → w5.cell? ⟨g, k, none⟩ = some (.int .i64 (fu l k))) := Lib.hid fun k hk => hgc k _ (fu_get (by rw [← HN.out]; exact hk))
  have HGF := Lib.hid hgf
  clear hB hg1 hg2 hgc hgf
  clear HGC HGF
  go_wp2_with fail
  go_loopg [7] n (fun k p wr => RChgRel w n g cb l (m : Int) x k p wr)
  case atStart => exact ⟨0, by omega, by rw [chg_zero]; exact HB.out, rfl⟩
  case round =>
    obtain ⟨j, hk, hb, rfl⟩ := hrel
    have HK := Lib.hid hk
    have HB2 := Lib.hid hb
    clear hk hb HB
    have hlen : n = (chg l (m : Int) x j).length := by rw [chg_length]; exact HN.out
    obtain ⟨g', cb', e, _, _, hgc, hgf⟩ := HB2.out.block (fun e => by have := HPOS.out; rw [e] at hlen; rw [HN.out, List.length_nil] at hlen; omega)
    rw [← hlen] at e
    injection e with e1 e2 e3
    injection e1 with e1
    injection e1 with e1
    subst e1
    subst e3
    clear e2
    by_cases hlt : j < n
    · have HLT := Lib.hid hlt
      have hlt2 : (j : Int) < (n : Int) := by omega
      have c1 := hgc j _ (chg_at (m : Int) x (by rw [← HN.out]; exact hlt))
      have c2 := hgf j
      have c3 : wr.cell? ⟨b, o + m, none⟩ = some (.int .i64 x) := by rw [HB2.out.old.cell (p := ⟨b, _, none⟩) HC.out.1, HX.out]; exact HC.out.2 m HML.out
      obtain ⟨y, hy⟩ : ∃ y, fu l j = y := ⟨_, rfl⟩
      rw [hy] at c1
      by_cases hym : y = (m : Int)
      · have HS : Hid (chg l (m : Int) x (j + 1) = (chg l (m : Int) x j).set j x) := Lib.hid (by rw [chg_succ _ _ (by rw [← HN.out]; exact hlt), hy, if_pos hym])
        have HP := Lib.hid (HB2.out.put' hlen j x)
        subst hym
        clear hgc hgf hy hlen
        go_wp2
        go_roundg (n - (j + 1))
        case measure => have := HK.out; have := HLT.out; omega
        case rel => exact ⟨j + 1, by have := HLT.out; omega, by rw [HS.out]; exact HP.out, (by refine congrArg _ ?_; have := HF.out.few; have := HN.out; have := HLT.out; first | rfl | (unfold wrap64; omega))⟩
      · have HS : Hid (chg l (m : Int) x (j + 1) = chg l (m : Int) x j) := Lib.hid (chg_same (by rw [← HN.out]; exact hlt) (by rw [hy]; exact hym))
        have h3 : (y == (m : Int)) = false := by simp [hym]
        clear hgc hgf hy hlen
        go_wp2
        go_roundg (n - (j + 1))
        case measure => have := HK.out; have := HLT.out; omega
        case rel => exact ⟨j + 1, by have := HLT.out; omega, by rw [HS.out]; exact HB2.out, (by refine congrArg _ ?_; have := HF.out.few; have := HN.out; have := HLT.out; first | rfl | (unfold wrap64; omega))⟩
    · have hin : j = n := by have := HK.out; omega
      have hal : chg l (m : Int) x j = l.map fun y => if y = (m : Int) then x else y := by rw [hin, HN.out, chg_all]
      have hlt2 : ¬ (j : Int) < (n : Int) := by omega
      have c1 := hgc m _ (fu_get (by rw [← hlen]; exact hmnn))
      have c2 := hgf m
      have HP := Lib.hid (HB2.out.put' hlen m (-2))
      rw [hal] at HP
      clear hgc hgf hlen hlt hal
      go_wp2
      go_ret2
      rw [HE.out]
      obtain ⟨B, cb', e, hi⟩ := HP.out.ints
      injection e with e1 e2 e3
      subst e1
      first | exact ⟨_, cb, by rw [Option.getD_some, List.length_set, List.length_map, ← HN.out]; rfl, hi, HP.out.old⟩ | exact ⟨_, ⟨cb, by rw [Option.getD_some, List.length_set, List.length_map, ← HN.out]; rfl⟩, hi, HP.out.old⟩
set_option maxHeartbeats 4000000 in
theorem rmove_is {A : Option Addr} {n cap : Nat} {l : List Int} {i k : Int} {r : Option (List Int)} {w : World} (hn : n = l.length) (hL : IntsAt w w.heap.size A l) (hr : fmove l i k = r) :
    Calls Try.prog 22 #[.slice A n cap, .int .i64 i, .int .i64 k] w fun e w' => Gives w w' e r := by
  unfold Gives
  have HN := Lib.hid hn
  have HL := Lib.hid hL
  have HR := Lib.hid hr
  clear hn hL hr
  go_enter Try.func22, Try.ntmps22
  go_wp2_with fail
  rcases ht : there l i with _ | _
  · have HE : Hid (r = none) := Lib.hid (by rw [← HR.out, fmove, ht]; first | rfl | simp [ht])
    refine (rthere_is HN.out HL.out ht).mono ?_
    rintro e w1 ⟨rfl, hb⟩
    have HB := Lib.hid hb
    clear hb ht
    go_wp2
    go_ret2
    rw [HE.out]
    exact ⟨none, 0, rfl, none_at _, HB.out⟩
  refine (rthere_is HN.out HL.out ht).mono ?_
  rintro e w1 ⟨rfl, hb⟩
  have HO := Lib.hid hb
  clear hb
  by_cases h0 : k < 0
  · have HE : Hid (r = none) := Lib.hid (by rw [← HR.out, fmove, if_neg (fun h => by have := h.2.1; omega)])
    clear ht
    go_wp2
    go_ret2
    rw [HE.out]
    exact ⟨none, 0, rfl, none_at _, HO.out⟩
  by_cases h1 : (n : Int) ≤ k
  · have HE : Hid (r = none) := Lib.hid (by rw [← HR.out, fmove, if_neg (fun h => by have := h.2.2.1; rw [← HN.out] at this; omega)])
    clear ht
    go_wp2
    go_ret2
    rw [HE.out]
    exact ⟨none, 0, rfl, none_at _, HO.out⟩
  obtain ⟨hF, m, rfl, hml, hmt⟩ := there_iff.1 ht
  have HF := Lib.hid hF
  have HTH := Lib.hid ht
  obtain ⟨q, rfl⟩ : ∃ q : Nat, k = q := ⟨k.toNat, by omega⟩
  have hql : q < l.length := by rw [← HN.out]; omega
  have hqn : (q : Int) < (n : Int) := by omega
  have hqnn : q < n := by omega
  have HQL := Lib.hid hql
  have HPOS : Hid (0 < l.length) := Lib.hid (by omega)
  obtain ⟨b, o, rfl, hblk, hc⟩ := at_open HL.out HPOS.out
  have HC : Hid (b < w.heap.size ∧ ∀ k, k < l.length → w.cell? ⟨b, o + k, none⟩ = some (.int .i64 (fu l k))) := Lib.hid ⟨hblk, hc⟩
  have HML := Lib.hid hml
  have hmn : (m : Int) < (n : Int) := by rw [HN.out]; omega
  have hmnn : m < n := by rw [HN.out]; exact hml
  have c1 : w1.cell? ⟨b, o + q, none⟩ = some (.int .i64 (fu l q)) := by rw [HO.out.cell (p := ⟨b, _, none⟩) hblk]; exact hc q hql
  obtain ⟨y, hy⟩ : ∃ y, fu l q = y := ⟨_, rfl⟩
  rw [hy] at c1
  have HY := Lib.hid hy
  by_cases h2 : y = -2
  · subst h2
    obtain ⟨x, hx⟩ : ∃ x, x = fu l m := ⟨_, rfl⟩
    have HX := Lib.hid hx
    have HQM : Hid (m ≠ q) := Lib.hid (fun e => hmt (e ▸ hy))
    have HE : Hid (r = some ((((l.map fun y => if y = (m : Int) then (q : Int) else y)).set q x).set m (-2))) := Lib.hid (by rw [← HR.out, fmove, if_pos ⟨ht, by omega, by rw [← HN.out]; omega, by rw [Int.toNat_natCast]; exact hy⟩, Int.toNat_natCast, Int.toNat_natCast, moveL, hx])
    clear ht hF hblk hc hml hmt hx hy hql h0 h1
    have hq : l.length ≤ 1000000 := by have := HF.out.few; omega
    have HB0 : Hid (Bi w (w1.alloc (.cells #[] 3)) (.slice (some ⟨w1.heap.size, 0, none⟩) 0 0) []) :=
      Lib.hid ⟨World.ownsRow_lit w1 _ 0 HO.out.size (Nat.zero_le _) rfl, below_on HO.out (below_alloc _ _)⟩
    have HNEW : Hid (∀ j u, (icells l)[j]? = some u → (w1.alloc (.cells #[] 3)).cell? ((⟨b, o, none⟩ : Addr).add j) = some u) := Lib.hid fun j u hu => by
      rw [icells, List.getElem?_map, Option.map_eq_some_iff] at hu
      obtain ⟨x, hx, rfl⟩ := hu
      rw [add_plain', HB0.out.old.cell (p := ⟨b, _, none⟩) HC.out.1, HC.out.2 j (List.getElem?_eq_some_iff.1 hx).1, fu_at hx]
    have HSZ : Hid (w.heap.size ≤ (w1.alloc (.cells #[] 3)).heap.size) := Lib.hid HB0.out.old.size
    obtain ⟨i0, hii, hz0, hz1, hz2⟩ := info3_parts
    have HONE : Hid (∀ u ∈ icells l, u.oneCell' = true) := Lib.hid fun u hu => by
      obtain ⟨x, _, rfl⟩ := List.mem_map.1 hu
      rfl
    have HLEN : Hid ((icells l).length = n * 1) := Lib.hid (by rw [icells, List.length_map, HN.out, Nat.mul_one])
    have hqb : n ≤ 1000000 := by rw [HN.out]; exact hq
    go_wp2_with (at_builtin; refine wpList_append_own _ rfl _ _ 23 rfl w.heap.size 3 i0 (.int .i64 0) 1 8 Try.underlying23 hii hz0 hz1 hz2 rfl (by decide) _ _ _ rfl HB0.out.own ⟨b, o, none⟩ n cap (icells l) rfl HLEN.out HNEW.out HONE.out ?c3 ?c4 HSZ.out ?_)
    case c3 => unfold maxLen; simp; omega
    case c4 => simp; omega
    intro v5 w5 hown hgrow _
    have hB : Bi w w5 v5 l := HB0.out.more (l' := l) hgrow (by
      rw [HN.out] at hown
      exact hown)
    clear hown hgrow HB0 HNEW HSZ HONE HLEN hq hqb
    obtain ⟨g, cb, rfl, hg1, hg2, hgc, hgf⟩ := hB.block (fun e => by have := HPOS.out; rw [e] at this; simp at this)
    rw [← HN.out] at hB
    rw [← HN.out]
    have HB := Lib.hid hB
    have HG : Hid (w.heap.size ≤ g ∧ g < w5.heap.size) := Lib.hid ⟨hg1, hg2⟩
    have HGC : Hid (∀ k, k < n → w5.cell? ⟨g, k, none⟩ = some (.int .i64 (fu l k))) := Lib.hid fun k hk => hgc k _ (fu_get (by rw [← HN.out]; exact hk))
    have HGF := Lib.hid hgf
    clear hB hg1 hg2 hgc hgf
    clear HGC HGF c1
    go_wp2_with fail
    go_loopg [9] n (fun k p wr => RChgRel w n g cb l (m : Int) (q : Int) k p wr)
    case atStart => exact ⟨0, by omega, by rw [chg_zero]; exact HB.out, rfl⟩
    case round =>
      obtain ⟨j, hk, hb, rfl⟩ := hrel
      have HK := Lib.hid hk
      have HB2 := Lib.hid hb
      clear hk hb HB
      have hlen : n = (chg l (m : Int) (q : Int) j).length := by rw [chg_length]; exact HN.out
      obtain ⟨g', cb', e, _, _, hgc, hgf⟩ := HB2.out.block (fun e => by have := HPOS.out; rw [e] at hlen; rw [HN.out, List.length_nil] at hlen; omega)
      rw [← hlen] at e
      injection e with e1 e2 e3
      injection e1 with e1
      injection e1 with e1
      subst e1
      subst e3
      clear e2
      by_cases hlt : j < n
      · have HLT := Lib.hid hlt
        have hlt2 : (j : Int) < (n : Int) := by omega
        have c1 := hgc j _ (chg_at (m : Int) (q : Int) (by rw [← HN.out]; exact hlt))
        have c2 := hgf j
        obtain ⟨y, hy⟩ : ∃ y, fu l j = y := ⟨_, rfl⟩
        rw [hy] at c1
        by_cases hym : y = (m : Int)
        · have HS : Hid (chg l (m : Int) (q : Int) (j + 1) = (chg l (m : Int) (q : Int) j).set j (q : Int)) := Lib.hid (by rw [chg_succ _ _ (by rw [← HN.out]; exact hlt), hy, if_pos hym])
          have HP := Lib.hid (HB2.out.put' hlen j (q : Int))
          subst hym
          clear hgc hgf hy hlen
          go_wp2
          go_roundg (n - (j + 1))
          case measure => have := HK.out; have := HLT.out; omega
          case rel => exact ⟨j + 1, by have := HLT.out; omega, by rw [HS.out]; exact HP.out, (by refine congrArg _ ?_; have := HF.out.few; have := HN.out; have := HLT.out; first | rfl | (unfold wrap64; omega))⟩
        · have HS : Hid (chg l (m : Int) (q : Int) (j + 1) = chg l (m : Int) (q : Int) j) := Lib.hid (chg_same (by rw [← HN.out]; exact hlt) (by rw [hy]; exact hym))
          have h3 : (y == (m : Int)) = false := by simp [hym]
          clear hgc hgf hy hlen
          go_wp2
          go_roundg (n - (j + 1))
          case measure => have := HK.out; have := HLT.out; omega
          case rel => exact ⟨j + 1, by have := HLT.out; omega, by rw [HS.out]; exact HB2.out, (by refine congrArg _ ?_; have := HF.out.few; have := HN.out; have := HLT.out; first | rfl | (unfold wrap64; omega))⟩
      · have hin : j = n := by have := HK.out; omega
        have hal : chg l (m : Int) (q : Int) j = l.map fun y => if y = (m : Int) then (q : Int) else y := by rw [hin, HN.out, chg_all]
        have hlt2 : ¬ (j : Int) < (n : Int) := by omega
        have c3 : wr.cell? ⟨b, o + m, none⟩ = some (.int .i64 x) := by rw [HB2.out.old.cell (p := ⟨b, _, none⟩) HC.out.1, HX.out]; exact HC.out.2 m HML.out
        have c4 := hgc q _ (fu_get (by rw [← hlen]; exact hqnn))
        have c5 := hgf q
        have c6 := hgc m _ (fu_get (by rw [← hlen]; exact hmnn))
        have c7 := hgf m
        have HP := Lib.hid (HB2.out.put' hlen q x)
        have HP2 := Lib.hid (HP.out.put' (by rw [List.length_set]; exact hlen) m (-2))
        have c8 : (wr.setCell ⟨g, q, none⟩ (.int .i64 x)).cell? ⟨g, m, none⟩ = some (.int .i64 (fu (chg l (m : Int) (q : Int) j) m)) := by
          rw [World.cell?_setCell_other _ _ _ _ (fun e => HQM.out (by injection e with _ e; exact e.symm))]
          exact c6
        have c9 : (wr.setCell ⟨g, q, none⟩ (.int .i64 x)).frozen? ⟨g, m, none⟩ = false := by rw [World.frozen?_setCell]; exact c7
        rw [hal] at HP2
        clear hgc hgf hlen hlt hal HP
        go_wp2
        go_ret2
        rw [HE.out]
        obtain ⟨B, cb', e, hi⟩ := HP2.out.ints
        injection e with e1 e2 e3
        subst e1
        first | exact ⟨_, cb, by rw [Option.getD_some, List.length_set, List.length_set, List.length_map, ← HN.out]; rfl, hi, HP2.out.old⟩ | exact ⟨_, ⟨cb, by rw [Option.getD_some, List.length_set, List.length_set, List.length_map, ← HN.out]; rfl⟩, hi, HP2.out.old⟩
  · have HE : Hid (r = none) := Lib.hid (by rw [← HR.out, fmove, if_neg (fun h => h2 (by have := h.2.2.2; rw [Int.toNat_natCast, hy] at this; exact this))])
    have h2' : (y != -2) = true := by simp [h2]
    clear ht hF hblk hc hml hmt hy hql
    go_wp2
    go_ret2
    rw [HE.out]
    exact ⟨none, 0, rfl, none_at _, HO.out⟩

/-- these places are emptied -/
def cut (l : List Int) (bs : List Nat) : List Int := bs.foldl (fun a b => a.set b (-2)) l
theorem cut_length : ∀ (bs : List Nat) (l : List Int), (cut l bs).length = l.length
  | [], _ => rfl
  | b :: bs, l => by rw [cut, List.foldl_cons, ← cut, cut_length bs, List.length_set]
theorem cut_snoc (l : List Int) (bs : List Nat) (b : Nat) : cut l (bs ++ [b]) = (cut l bs).set b (-2) := by rw [cut, List.foldl_append]; rfl
theorem fu_cut : ∀ (bs : List Nat) (l : List Int), (∀ b ∈ bs, b < l.length) → ∀ k, fu (cut l bs) k = if k ∈ bs then -2 else fu l k
  | [], l, _, k => by simp [cut]
  | b :: bs, l, h, k => by
    rw [cut, List.foldl_cons, ← cut, fu_cut bs _ (fun x hx => by rw [List.length_set]; exact h x (List.mem_cons_of_mem _ hx)) k, fu_set (h b (List.mem_cons_self ..))]
    by_cases e : k ∈ bs
    · simp [e]
    · by_cases e2 : k = b <;> simp [e, e2]
theorem cut_below {l : List Int} (i : Nat) : cut l (belowN l i) = pruneL l i := by
  refine fu_ext (by rw [cut_length, prune_length]) fun k hk => ?_
  rw [cut_length] at hk
  rw [fu_cut _ _ (fun b hb => by rw [belowN, List.mem_filter, List.mem_range] at hb; exact hb.1), fu_prune]
  have : k ∈ belowN l i ↔ i ∈ above l k := by
    rw [belowN, List.mem_filter, List.mem_range, List.contains_iff_mem]
    exact ⟨fun h => h.2, fun h => ⟨hk, h⟩⟩
  by_cases e : i ∈ above l k
  · rw [if_pos (this.2 e), if_pos e]
  · rw [if_neg (fun h => e (this.1 h)), if_neg e]
def CellsOf (D : Option Addr) (L : List Int) (w : World) : Prop := ∀ gd, D = some ⟨gd, 0, none⟩ → ∀ (j : Nat) (x : Int), L[j]? = some x → w.cell? ⟨gd, j, none⟩ = some (.int .i64 x)
def RCutRel (W : World) (n g cb q : Nat) (l : List Int) (bs : List Nat) (D : Option Addr) (k : Nat) (p : Value) (wr : World) : Prop :=
  ∃ j : Nat, k + j = q ∧ Bi W wr (.slice (some ⟨g, 0, none⟩) n cb) (cut l (bs.take j)) ∧ p = .int .i64 j ∧ CellsOf D (toInts bs) wr
set_option maxHeartbeats 4000000 in
theorem rprune_is {A : Option Addr} {n cap : Nat} {l : List Int} {i : Int} {r : Option (List Int)} {w : World} (hn : n = l.length) (hL : IntsAt w w.heap.size A l) (hr : fprune l i = r) :
    Calls Try.prog 23 #[.slice A n cap, .int .i64 i] w fun e w' => Gives w w' e r := by
  unfold Gives
  have HN := Lib.hid hn
  have HL := Lib.hid hL
  have HR := Lib.hid hr
  clear hn hL hr
  go_enter Try.func23, Try.ntmps23
  go_wp2_with fail
  rcases ht : there l i with _ | _
  · have HE : Hid (r = none) := Lib.hid (by rw [← HR.out, fprune, ht]; first | rfl | simp [ht])
    refine (rthere_is HN.out HL.out ht).mono ?_
    rintro e w1 ⟨rfl, hb⟩
    have HB := Lib.hid hb
    clear hb ht
    go_wp2
    go_ret2
    rw [HE.out]
    exact ⟨none, 0, rfl, none_at _, HB.out⟩
  obtain ⟨hF, m, rfl, hml, hmt⟩ := there_iff.1 ht
  have HF := Lib.hid hF
  have HE : Hid (r = some (pruneL l m)) := Lib.hid (by rw [← HR.out, fprune, if_pos ht, Int.toNat_natCast])
  obtain ⟨bs, hbs⟩ : ∃ bs, bs = belowN l m := ⟨_, rfl⟩
  have HBL : Hid (fbelow l (m : Int) = toInts bs) := Lib.hid (by rw [fbelow, if_pos ht, Int.toNat_natCast, hbs])
  have HBS : Hid (∀ b ∈ bs, b < l.length) := Lib.hid (fun b hb => (hF.below_dep (hbs ▸ hb)).1)
  have HBE := Lib.hid hbs
  refine (rthere_is HN.out HL.out ht).mono ?_
  rintro e w1 ⟨rfl, hb⟩
  have HO := Lib.hid hb
  have HPOS : Hid (0 < l.length) := Lib.hid (by omega)
  obtain ⟨b, o, rfl, hblk, hc⟩ := at_open HL.out HPOS.out
  have HC : Hid (b < w.heap.size ∧ ∀ k, k < l.length → w.cell? ⟨b, o + k, none⟩ = some (.int .i64 (fu l k))) := Lib.hid ⟨hblk, hc⟩
  have HML := Lib.hid hml
  have hmn : (m : Int) < (n : Int) := by rw [HN.out]; omega
  have hmnn : m < n := by rw [HN.out]; exact hml
  clear hb ht hF hblk hc hml hmt hmn hmnn hbs
  have hq : l.length ≤ 1000000 := by have := HF.out.few; omega
  have HB0 : Hid (Bi w (w1.alloc (.cells #[] 3)) (.slice (some ⟨w1.heap.size, 0, none⟩) 0 0) []) :=
    Lib.hid ⟨World.ownsRow_lit w1 _ 0 HO.out.size (Nat.zero_le _) rfl, below_on HO.out (below_alloc _ _)⟩
  have HNEW : Hid (∀ j u, (icells l)[j]? = some u → (w1.alloc (.cells #[] 3)).cell? ((⟨b, o, none⟩ : Addr).add j) = some u) := Lib.hid fun j u hu => by
    rw [icells, List.getElem?_map, Option.map_eq_some_iff] at hu
    obtain ⟨x, hx, rfl⟩ := hu
    rw [add_plain', HB0.out.old.cell (p := ⟨b, _, none⟩) HC.out.1, HC.out.2 j (List.getElem?_eq_some_iff.1 hx).1, fu_at hx]
  have HSZ : Hid (w.heap.size ≤ (w1.alloc (.cells #[] 3)).heap.size) := Lib.hid HB0.out.old.size
  obtain ⟨i0, hii, hz0, hz1, hz2⟩ := info3_parts
  have HONE : Hid (∀ u ∈ icells l, u.oneCell' = true) := Lib.hid fun u hu => by
    obtain ⟨x, _, rfl⟩ := List.mem_map.1 hu
    rfl
  have HLEN : Hid ((icells l).length = n * 1) := Lib.hid (by rw [icells, List.length_map, HN.out, Nat.mul_one])
  have hqn : n ≤ 1000000 := by rw [HN.out]; exact hq
  go_wp2_with (at_builtin; refine wpList_append_own _ rfl _ _ 23 rfl w.heap.size 3 i0 (.int .i64 0) 1 8 Try.underlying23 hii hz0 hz1 hz2 rfl (by decide) _ _ _ rfl HB0.out.own ⟨b, o, none⟩ n cap (icells l) rfl HLEN.out HNEW.out HONE.out ?c3 ?c4 HSZ.out ?_)
  case c3 => unfold maxLen; simp; omega
  case c4 => simp; omega
  intro v5 w5 hown hgrow _
  have hB : Bi w w5 v5 l := HB0.out.more (l' := l) hgrow (by
    rw [HN.out] at hown
    exact hown)
  clear hown hgrow HB0 HNEW HSZ HONE HLEN hq hqn
  obtain ⟨g, cb, rfl, hg1, hg2, hgc, hgf⟩ := hB.block (fun e => by have := HPOS.out; rw [e] at this; simp at this)
  rw [← HN.out] at hB
  rw [← HN.out]
  have HB := Lib.hid hB
  have HG : Hid (w.heap.size ≤ g ∧ g < w5.heap.size) := Lib.hid ⟨hg1, hg2⟩
  have HGC : Hid (∀ k, k < n → w5.cell? ⟨g, k, none⟩ = some (.int .i64 (fu l k))) := Lib.hid fun k hk => hgc k _ (fu_get (by rw [← HN.out]; exact hk))
  have HGF := Lib.hid hgf
  clear hB hg1 hg2 hgc hgf
  clear HGC HGF
  go_wp2_with fail
  refine (rbelow_is (w := w5) HN.out (by rw [HN.out]; have := HF.out.few; omega) (HL.out.on HB.out.old) HBL.out).mono ?_
  rintro e w6 ⟨vb, rfl, hbb⟩
  have hb := hbb.old
  obtain ⟨D, cd, rfl, hi⟩ := hbb.ints
  have HOWN : Hid (∀ gd, D = some ⟨gd, 0, none⟩ → w5.heap.size ≤ gd) := Lib.hid (fun gd e => (hbb.own.lt gd (by rw [e]; rfl)).1)
  have HSP : Hid (0 < (toInts bs).length → ∃ gd, D = some ⟨gd, 0, none⟩) := Lib.hid (fun h => by
    obtain ⟨gd, c', e, _⟩ := hbb.block (fun e => by rw [e] at h; simp at h)
    injection e with e1 e2 e3
    exact ⟨gd, e1⟩)
  have HCD : Hid (CellsOf D (toInts bs) w6) := Lib.hid (fun gd e j x hx => by
    obtain ⟨gd', c', e', _, _, hcc, _⟩ := hbb.block (fun e => by rw [e] at hx; simp at hx)
    injection e' with e1 e2 e3
    rw [e] at e1
    injection e1 with e1
    injection e1 with e1
    rw [e1]
    exact hcc j x hx)
  obtain ⟨q, hq⟩ : ∃ q, q = (toInts bs).length := ⟨_, rfl⟩
  rw [← hq]
  have HQ := Lib.hid hq
  have HB6 := Lib.hid (HB.out.on hb)
  have HBIG : Hid (q ≤ 96) := Lib.hid (by
    rw [hq, toInts_length, HBE.out, belowN]
    have := List.length_filter_le (fun k => (above l k).contains m) (List.range l.length)
    rw [List.length_range] at this
    have := HF.out.few
    omega)
  have HI := Lib.hid hi
  clear hb hbb HB hq hi
  go_wp2_with fail
  go_loopg [8] q (fun k p wr => RCutRel w n g cb q l bs D k p wr)
  case atStart => exact ⟨0, by omega, by rw [List.take_zero]; exact HB6.out, rfl, HCD.out⟩
  case round =>
    obtain ⟨j, hk, hb, rfl, hcd⟩ := hrel
    have HK := Lib.hid hk
    have HB2 := Lib.hid hb
    have HCD2 := Lib.hid hcd
    clear hk hb hcd HB6 HCD
    have hlen : n = (cut l (bs.take j)).length := by rw [cut_length]; exact HN.out
    by_cases hlt : j < q
    · have HLT := Lib.hid hlt
      have hlt2 : (j : Int) < (q : Int) := by omega
      obtain ⟨gd, rfl⟩ := HSP.out (by rw [← HQ.out]; omega)
      obtain ⟨x, hx⟩ : ∃ x, bs[j]? = some x := ⟨bs[j]'(by have := HQ.out; rw [toInts_length] at this; omega), List.getElem?_eq_getElem _⟩
      have hxl := HBS.out x (List.mem_of_getElem? hx)
      have c1 := HCD2.out gd rfl j (x : Int) (by rw [toInts, List.getElem?_map, hx]; rfl)
      obtain ⟨g', cb', e, _, _, hgc, hgf⟩ := HB2.out.block (fun e => by have := HPOS.out; rw [e] at hlen; rw [HN.out, List.length_nil] at hlen; omega)
      rw [← hlen] at e
      injection e with e1 e2 e3
      injection e1 with e1
      injection e1 with e1
      subst e1
      subst e3
      clear e2
      have c2 := hgc x _ (fu_get (by rw [cut_length]; exact hxl))
      have c3 := hgf x
      have hxn : (x : Int) < (n : Int) := by rw [HN.out]; omega
      have hxnn : x < n := by rw [HN.out]; exact hxl
      have HS : Hid (cut l (bs.take (j + 1)) = (cut l (bs.take j)).set x (-2)) := Lib.hid (by rw [List.take_add_one, hx, Option.toList_some, cut_snoc])
      have HP := Lib.hid (HB2.out.put' hlen x (-2))
      have HCD3 : Hid (CellsOf (some ⟨gd, 0, none⟩) (toInts bs) (wr.setCell ⟨g, x, none⟩ (.int .i64 (-2)))) := Lib.hid (fun gd' e k y hy => by
        have h1 := HOWN.out gd' e
        have h2 := HG.out.2
        rw [World.cell?_setCell_other _ _ _ _ (fun q => by injection q with q; omega)]
        exact HCD2.out gd' e k y hy)
      clear hgc hgf hx hxl hlen
      go_wp2
      go_roundg (q - (j + 1))
      case measure => have := HK.out; have := HLT.out; omega
      case rel => exact ⟨j + 1, by have := HLT.out; omega, by rw [HS.out]; exact HP.out, (by refine congrArg _ ?_; have := HBIG.out; have := HLT.out; first | rfl | (unfold wrap64; omega)), HCD3.out⟩
    · have hin : j = q := by have := HK.out; omega
      have hal : cut l (bs.take j) = pruneL l m := by
        have : bs.length = q := by rw [HQ.out, toInts_length]
        rw [hin, ← this, List.take_length, HBE.out, cut_below]
      have hlt2 : ¬ (j : Int) < (q : Int) := by omega
      have HP := HB2
      rw [hal] at HP
      clear hlen hlt hal HB2
      go_wp2
      go_ret2
      rw [HE.out]
      obtain ⟨B, cb', e, hi⟩ := HP.out.ints
      injection e with e1 e2 e3
      subst e1
      first | exact ⟨_, cb, by rw [Option.getD_some, prune_length, ← HN.out]; rfl, hi, HP.out.old⟩ | exact ⟨_, ⟨cb, by rw [Option.getD_some, prune_length, ← HN.out]; rfl⟩, hi, HP.out.old⟩
end Go.Proofs.Ytigljoafmefbnaa
