/-
  The texts Eg, Eh, Fc, Fd, Fe, Ff of this seat, one behind the other. Conditions: as each theorem says.
-/
import Derived.Test.YtkpbfbmkolgmgaaGreatTB2
import Derived.Deep.RegionLaw
import Derived.Deep.AppendLies
import Derived.Lib.SliceRun
import Derived.StillTailTactics
namespace Go.Proofs.YtkpbfbmkolgmgaaGreat
open Go.RowKit

theorem fu_top {l : List Int} (h : Fo l) (k : Nat) : fu l k < l.length := by
  rcases neg_or (fu l k) with h0 | h0
  · omega
  · have := h.up k (fu l k).toNat (by omega)
    omega

end Go.Proofs.YtkpbfbmkolgmgaaGreat
namespace Go.Proofs.YtkpbfbmkolgmgaaGreat
open Go.RowKit

theorem add_plain' (b o j : Nat) : (⟨b, o, none⟩ : Addr).add j = ⟨b, o + j, none⟩ := Addr.add_mid b o j
/-- of the first j places those that name one are changed -/
def chg (l : List Int) (i x : Int) (j : Nat) : List Int := (l.take j).map (fun y => if y = i then x else y) ++ l.drop j
theorem chg_length (l : List Int) (i x : Int) (j : Nat) : (chg l i x j).length = l.length := by
  simp [chg]
  omega
theorem chg_at {l : List Int} (i x : Int) {j : Nat} (hj : j < l.length) : (chg l i x j)[j]? = some (fu l j) := by
  rw [chg, List.getElem?_append_right (by simp; omega)]
  have : ((l.take j).map fun y => if y = i then x else y).length = j := by simp; omega
  rw [this, Nat.sub_self, List.getElem?_drop, Nat.add_zero]
  exact fu_get hj
theorem chg_zero (l : List Int) (i x : Int) : chg l i x 0 = l := by simp [chg]
theorem chg_succ {l : List Int} (i x : Int) {j : Nat} (hj : j < l.length) : chg l i x (j + 1) = (chg l i x j).set j (if fu l j = i then x else fu l j) := by
  have h1 : ((l.take j).map fun y => if y = i then x else y).length = j := by simp; omega
  have h2 : l.drop j = fu l j :: l.drop (j + 1) := by
    have := fu_get hj
    obtain ⟨hi, e⟩ := List.getElem?_eq_some_iff.1 this
    rw [← e]
    exact List.drop_eq_getElem_cons hi
  rw [chg, chg, List.set_append_right _ _ (by omega), h1, Nat.sub_self, h2, List.set_cons_zero, List.take_add_one, fu_get hj, Option.toList_some, List.map_append, List.append_assoc]
  rfl
theorem chg_same {l : List Int} {i x : Int} {j : Nat} (hj : j < l.length) (h : fu l j ≠ i) : chg l i x (j + 1) = chg l i x j := by
  rw [chg_succ i x hj, if_neg h]
  refine List.ext_getElem? fun k => ?_
  by_cases e : k = j
  · subst e
    rw [List.getElem?_set_self (by rw [chg_length]; exact hj), chg_at i x hj]
  · rw [List.getElem?_set_ne (fun q => e q.symm)]
theorem chg_all (l : List Int) (i x : Int) : chg l i x l.length = l.map fun y => if y = i then x else y := by simp [chg]

def RChgRel (W : World) (n g cb : Nat) (l : List Int) (i x : Int) (k : Nat) (p : Value) (wr : World) : Prop :=
  ∃ j : Nat, k + j = n ∧ Bi W wr (.slice (some ⟨g, 0, none⟩) n cb) (chg l i x j) ∧ p = .int .i64 j
/-- these places are emptied -/
def cut (l : List Int) (bs : List Nat) : List Int := bs.foldl (fun a b => a.set b (-2)) l
end Go.Proofs.YtkpbfbmkolgmgaaGreat
namespace Go.Proofs.YtkpbfbmkolgmgaaGreat
open Go.RowKit

def PIsBRel (W : World) (l : List Int) (A : Option Addr) (n cap g i m : Nat) (k : Nat) (q : Value) (wr : World) : Prop :=
  ∃ (z : Int), q = .int .i64 z ∧ (ups l z).length = k ∧ z < l.length ∧ (above l i).contains m = (ups l z).contains m ∧ Pbx W wr g (.slice A n cap)
theorem isbelow_is {A : Option Addr} {n cap : Nat} {l : List Int} {i m : Nat} {t : Bool} {w : World} (hF : Fo l) (hn : n = l.length) (hL : IntsAt w w.heap.size A l) (hi : i < n) (ht : (above l i).contains m = t) :
    Calls Tryz.prog 183 #[.agg #[.slice A n cap], .int .i64 (i : Int), .int .i64 (m : Int)] w fun e w' => e = .returned (.bool t) ∧ Below w.heap.size w w' := by
  have HN := Lib.hid hn
  have HL := Lib.hid hL
  have HT := Lib.hid ht
  have HF := Lib.hid hF
  have hin : (i : Int) < (n : Int) := by omega
  have hK := Pbx.new w (.slice A n cap) 71
  have c0 := hK.c
  obtain ⟨b, o, rfl, hblk, hc⟩ := at_open HL.out (by omega)
  have HC : Hid (b < w.heap.size ∧ ∀ k, k < l.length → w.cell? ⟨b, o + k, none⟩ = some (.int .i64 (fu l k))) := Lib.hid ⟨hblk, hc⟩
  have c1 : (w.alloc (.cells #[.slice (some ⟨b, o, none⟩) n cap] 71)).cell? ⟨b, o + i, none⟩ = some (.int .i64 (fu l i)) := by
    rw [hK.old.cell (p := ⟨b, _, none⟩) hblk]
    exact hc i (by omega)
  have K := Lib.hid hK
  clear hn hL ht hF hK hblk hc hi
  go_enter Tryz.func183, Tryz.ntmps183
  go_wp2_with fail
  clear c0 c1
  go_loopg [7] (above l i).length (fun k q wr => PIsBRel w l (some ⟨b, o, none⟩) n cap w.heap.size i m k q wr)
  case atStart => exact ⟨fu l i, rfl, rfl, fu_top HF.out i, rfl, K.out⟩
  case round =>
    obtain ⟨z, rfl, hz, hzl, hco, hb⟩ := hrel
    have K2 := Lib.hid hb
    have c0 := K2.out.c
    clear hb K
    by_cases h0 : z < 0
    · have HE : Hid (t = false) := Lib.hid (by rw [← HT.out, hco, ups_neg h0]; rfl)
      clear hz hzl hco
      go_wp2
      go_ret
      exact ⟨by rw [HE.out]; rfl, K2.out.old⟩
    · obtain ⟨x, rfl⟩ : ∃ x : Nat, z = x := ⟨z.toNat, by omega⟩
      have hxl : x < l.length := by omega
      have hcons := HF.out.ups_cons hxl
      have h3 : (0 : Int) ≤ (x : Int) := by omega
      have hxn : (x : Int) < (n : Int) := by rw [HN.out]; omega
      by_cases hxm : x = m
      · have HE : Hid (t = true) := Lib.hid (by rw [← HT.out, hco, hcons, hxm]; simp)
        subst hxm
        clear hz hzl hco hcons hxl
        go_wp2
        go_ret
        exact ⟨by rw [HE.out]; rfl, K2.out.old⟩
      · have hmx : ¬ m = x := fun e => hxm e.symm
        have HCO : Hid ((above l i).contains m = (ups l (fu l x)).contains m) := Lib.hid (by
          rw [hco, hcons, List.contains_cons, above, beq_eq_false_iff_ne.2 hmx, Bool.false_or])
        have HZ : Hid ((ups l (fu l x)).length + 1 = gk) := Lib.hid (by rw [← hz, hcons]; rfl)
        have HU := Lib.hid (fu_top HF.out x)
        have hxm' : ¬ (x : Int) = (m : Int) := by omega
        have hxm2 : ((x : Int) == (m : Int)) = false := by simp; omega
        have c2 : wr.cell? ⟨b, o + x, none⟩ = some (.int .i64 (fu l x)) := by
          rw [K2.out.old.cell (p := ⟨b, _, none⟩) HC.out.1]
          exact HC.out.2 x hxl
        clear hz hzl hco hcons hxm h0 hmx hxl
        go_wp2
        go_roundg (gk - 1)
        case measure => have := HZ.out; omega
        case rel => exact ⟨fu l x, rfl, by have := HZ.out; omega, HU.out, HCO.out, K2.out⟩
end Go.Proofs.YtkpbfbmkolgmgaaGreat
namespace Go.Proofs.YtkpbfbmkolgmgaaGreat
open Go.RowKit

set_option maxHeartbeats 2000000 in
theorem pbelow_bi {A : Option Addr} {n cap : Nat} {l L : List Int} {i : Int} {w : World} (hn : n = l.length) (hn6 : n ≤ 1000000) (hL : IntsAt w w.heap.size A l) (hr : fbelow l i = L) :
    Calls Tryz.prog 142 #[.agg #[.slice A n cap], .int .i64 i] w fun e w' => ∃ v, e = .returned v ∧ Bi w w' v L := by
  have HN := Lib.hid hn
  have HL := Lib.hid hL
  have HR := Lib.hid hr
  have H6 := Lib.hid hn6
  have hK := Pbx.new w (.slice A n cap) 71
  have c0 := hK.c
  clear hn hL hr hn6
  go_enter Tryz.func142, Tryz.ntmps142
  go_wp2_with fail
  generalize w.alloc (.cells #[.slice A n cap] 71) = w1 at hK c0 ⊢
  rcases ht : there l i with _ | _
  · refine (holds_is (w := w1) HN.out (HL.out.on hK.old) ht).mono ?_
    rintro e w2 ⟨rfl, hb⟩
    have HO := Lib.hid (hK.on hb).old
    have HE : Hid (L = []) := Lib.hid (by rw [← HR.out, fbelow, ht]; rfl)
    clear hb ht hK c0
    go_wp2
    go_ret
    rw [HE.out]
    exact ⟨_, rfl, World.ownsRow_nil _ _ _ _, HO.out⟩
  obtain ⟨hF, m, rfl, hm, _⟩ := there_iff.1 ht
  refine (holds_is (w := w1) HN.out (HL.out.on hK.old) ht).mono ?_
  rintro e w2 ⟨rfl, hb⟩
  have HF := Lib.hid hF
  have K := Lib.hid (hK.on hb)
  have HE : Hid (L = toInts (pick (fun k => (above l k).contains m) n)) := Lib.hid (by rw [← HR.out, fbelow, if_pos ht, Int.toNat_natCast, belowN, pick, HN.out])
  have H0 : Hid (Bi w w2 (.slice none 0 0) []) := Lib.hid ⟨World.ownsRow_nil _ _ _ _, K.out.old⟩
  clear hK c0 hb hm ht hF
  have c0 := K.out.c
  have hg : w.heap.size < w2.heap.size := K.out.lt
  go_wp2_with fail
  clear c0
  go_loopg [5, 14] n (fun k p q wr => PPickRel w2 n (fun k => (above l k).contains m) k p q wr)
  case atStart => exact ⟨0, by omega, ⟨World.ownsRow_nil _ _ _ _, Below.refl _ _⟩, rfl⟩
  case round =>
    obtain ⟨i, hk, hb, rfl⟩ := hrel
    have HK := Lib.hid hk
    clear hk H0
    have c0 := (K.out.on hb.old).c
    by_cases hlt : i < n
    · have HLT := Lib.hid hlt
      have hlt2 : (i : Int) < (n : Int) := by omega
      have HB := Lib.hid hb
      clear hb
      go_wp2_with fail
      rcases htt : (above l i).contains m with _ | _
      · have HP : Hid (toInts (pick (fun k => (above l k).contains m) (i + 1)) = toInts (pick (fun k => (above l k).contains m) i)) := Lib.hid (by rw [pick_no (p := fun k => (above l k).contains m) htt])
        refine (isbelow_is (w := wr) HF.out HN.out (HL.out.on (K.out.on HB.out.old).old) HLT.out htt).mono ?_
        rintro e w3 ⟨rfl, hb⟩
        have HB1 := Lib.hid (HB.out.on hb)
        clear hb htt c0 HB
        go_wp2
        go_roundg (n - (i + 1))
        case measure => have := HK.out; have := HLT.out; omega
        case rel => exact ⟨i + 1, by have := HLT.out; omega, by rw [HP.out]; exact HB1.out, (by refine congrArg _ ?_; have := H6.out; have := HLT.out; first | rfl | (unfold wrap64; omega))⟩
      · have HP : Hid (toInts (pick (fun k => (above l k).contains m) (i + 1)) = toInts (pick (fun k => (above l k).contains m) i) ++ [(i : Int)]) := Lib.hid (by rw [pick_yes (p := fun k => (above l k).contains m) htt, toInts_append]; rfl)
        have hq : (toInts (pick (fun k => (above l k).contains m) i)).length ≤ 1000000 := by rw [toInts_length]; have := pick_len (fun k => (above l k).contains m) i; have := H6.out; omega
        refine (isbelow_is (w := wr) HF.out HN.out (HL.out.on (K.out.on HB.out.old).old) HLT.out htt).mono ?_
        rintro e w3 ⟨rfl, hb⟩
        have HB1 := Lib.hid (HB.out.on hb)
        clear hb htt c0 HB
        obtain ⟨u, hu⟩ : ∃ u, u = toInts (pick (fun k => (above l k).contains m) i) := ⟨_, rfl⟩
        rw [← hu] at HB1 HP hq
        have HB2 := Lib.hid (HB1.out.alloc (.cells #[.int .i64 (i : Int)] 3))
        have HNEW := Lib.hid (one_new w3 i)
        have HSZ : Hid (w2.heap.size ≤ (w3.alloc (.cells #[.int .i64 (i : Int)] 3)).heap.size) := Lib.hid HB2.out.old.size
        obtain ⟨i0, hii, hz0, hz1, hz2⟩ := info3_parts
        have HONE := Lib.hid (one_plain i)
        clear hu HB1
        go_wp2_with (at_builtin; refine wpList_append_own _ rfl _ _ 28 rfl w2.heap.size 3 i0 (.int .i64 0) 1 8 Tryz.underlying28 hii hz0 hz1 hz2 rfl (by decide) _ _ _ rfl HB2.out.own ⟨w3.heap.size, 0, none⟩ 1 1 [.int .i64 i] rfl rfl HNEW.out HONE.out ?c3 ?c4 HSZ.out ?_)
        case c3 => unfold maxLen; omega
        case c4 => omega
        intro v' w4 hown hgrow _
        have HB3 := Lib.hid (HB2.out.more (l' := toInts (pick (fun k => (above l k).contains m) (i + 1))) hgrow (by rw [HP.out, icells_append, List.length_append]; exact hown))
        clear hown hgrow HB2 HNEW HSZ HONE hq
        go_wp2
        go_roundg (n - (i + 1))
        case measure => have := HK.out; have := HLT.out; omega
        case rel => exact ⟨i + 1, by have := HLT.out; omega, HB3.out, (by refine congrArg _ ?_; have := H6.out; have := HLT.out; first | rfl | (unfold wrap64; omega))⟩
    · have hin : i = n := by have := HK.out; omega
      subst hin
      rw [← HE.out] at hb
      have HB := Lib.hid hb
      have hlt2 : ¬ (i : Int) < (i : Int) := by omega
      clear hb hlt
      go_wp2
      go_ret
      exact ⟨_, rfl, ⟨HB.out.own.1, HB.out.own.2.imp id fun ⟨g, c, cur, e, h, r⟩ => ⟨g, c, cur, e, by have := K.out.old.size; omega, r⟩⟩, below_on K.out.old HB.out.old⟩
theorem pbelow_is {A : Option Addr} {n cap : Nat} {l L : List Int} {i : Int} {w : World} (hn : n = l.length) (hn6 : n ≤ 1000000) (hL : IntsAt w w.heap.size A l) (hr : fbelow l i = L) :
    Calls Tryz.prog 142 #[.agg #[.slice A n cap], .int .i64 i] w fun e w' => ListF w w' e L := by
  refine (pbelow_bi hn hn6 hL hr).mono ?_
  rintro e w1 ⟨v, rfl, h⟩
  exact h.listF (below_self w)

/-! ### in order -/
end Go.Proofs.YtkpbfbmkolgmgaaGreat
namespace Go.Proofs.YtkpbfbmkolgmgaaGreat
open Go.RowKit

set_option maxHeartbeats 2000000 in
theorem clone_is {b o n cap : Nat} {l : List Int} {w : World} (hn : n = l.length) (hn6 : n ≤ 1000000) (hc : ∀ k, k < n → w.cell? ⟨b, o + k, none⟩ = some (.int .i64 (fu l k))) (hb : b < w.heap.size) :
    Calls Tryz.prog 206 #[.slice (some ⟨b, o, none⟩) n cap] w fun e w' => ∃ v, e = .returned v ∧ Bi w w' v l := by
  have HN := Lib.hid hn
  have HB0 : Hid (Bi w (w.alloc (.cells #[] 3)) (.slice (some ⟨w.heap.size, 0, none⟩) 0 0) []) :=
    Lib.hid ⟨World.ownsRow_lit w _ 0 (Nat.le_refl _) (Nat.zero_le _) rfl, below_alloc _ _⟩
  have HNEW : Hid (∀ j u, (icells l)[j]? = some u → (w.alloc (.cells #[] 3)).cell? ((⟨b, o, none⟩ : Addr).add j) = some u) := Lib.hid fun j u hu => by
    rw [icells, List.getElem?_map, Option.map_eq_some_iff] at hu
    obtain ⟨x, hx, rfl⟩ := hu
    rw [add_plain', HB0.out.old.cell (p := ⟨b, _, none⟩) hb, hc j (by rw [hn]; exact (List.getElem?_eq_some_iff.1 hx).1), fu_at hx]
  have HSZ : Hid (w.heap.size ≤ (w.alloc (.cells #[] 3)).heap.size) := Lib.hid HB0.out.old.size
  obtain ⟨i0, hii, hz0, hz1, hz2⟩ := info3_parts
  have HONE : Hid (∀ u ∈ icells l, u.oneCell' = true) := Lib.hid fun u hu => by
    obtain ⟨x, _, rfl⟩ := List.mem_map.1 hu
    rfl
  have HLEN : Hid ((icells l).length = n * 1) := Lib.hid (by rw [icells, List.length_map, HN.out, Nat.mul_one])
  have q23 : ∀ (w : World) (a : Option Addr) (n c : Nat), (binOp .eql 28 (.slice a n c) (.slice none 0 0)).run Tryz.prog w = .ok (.bool a.isNone) w := fun w a n c => Lib.run_eql_slice_nil w 28 3 a n c 0 0 Tryz.underlying28
  clear hn hc hb
  go_enter Tryz.func206, Tryz.ntmps206
  go_wp2_with (at_builtin; refine wpList_append_own _ rfl _ _ 28 rfl w.heap.size 3 i0 (.int .i64 0) 1 8 Tryz.underlying28 hii hz0 hz1 hz2 rfl (by decide) _ _ _ rfl HB0.out.own ⟨b, o, none⟩ n cap (icells l) rfl HLEN.out HNEW.out HONE.out ?c3 ?c4 HSZ.out ?_)
  case c3 => unfold maxLen; simp; omega
  case c4 => simp; omega
  intro v5 w5 hown hgrow _
  have hB : Bi w w5 v5 l := HB0.out.more (l' := l) hgrow (by
    rw [HN.out] at hown
    exact hown)
  have HB := Lib.hid hB
  clear hown hgrow HB0 HNEW HSZ HONE HLEN hB
  go_wp2
  go_ret
  exact ⟨_, rfl, HB.out⟩

set_option maxHeartbeats 2000000 in
theorem rehang_is {A : Option Addr} {n cap : Nat} {l : List Int} {i x : Int} {w : World} (h0 : 0 < n) (hn : n = l.length) (hn6 : n ≤ 1000000) (hL : IntsAt w w.heap.size A l) :
    Calls Tryz.prog 195 #[.agg #[.slice A n cap], .int .i64 i, .int .i64 x] w fun e w' => ∃ v, e = .returned v ∧ Bi w w' v (l.map fun y => if y = i then x else y) := by
  have HN := Lib.hid hn
  have HPOS := Lib.hid h0
  have H6 := Lib.hid hn6
  have hK := Pbx.new w (.slice A n cap) 71
  have c0 := hK.c
  obtain ⟨b, o, rfl, hblk, hc⟩ := at_open hL (by omega)
  have HC : Hid (b < w.heap.size ∧ ∀ k, k < n → w.cell? ⟨b, o + k, none⟩ = some (.int .i64 (fu l k))) := Lib.hid ⟨hblk, fun k hk => hc k (by rw [← HN.out]; exact hk)⟩
  clear hL hn hn6 hc hblk h0
  go_enter Tryz.func195, Tryz.ntmps195
  go_wp2_with fail
  generalize w.alloc (.cells #[.slice (some ⟨b, o, none⟩) n cap] 71) = w1 at hK c0 ⊢
  have K := Lib.hid hK
  clear hK
  go_wp2_with fail
  refine (clone_is (w := w1) HN.out H6.out (fun k hk => by rw [K.out.old.cell (p := ⟨b, _, none⟩) HC.out.1]; exact HC.out.2 k hk) (Nat.lt_of_lt_of_le HC.out.1 K.out.old.size)).mono ?_
  rintro e w2 ⟨v, rfl, hB⟩
  obtain ⟨g, cb, rfl, hg1, hg2, _, _⟩ := hB.block (fun e => by have := HPOS.out; have := HN.out; rw [e] at this; simp at this; omega)
  rw [← HN.out] at hB
  rw [← HN.out]
  have HB := Lib.hid hB
  have HG : Hid (w.heap.size ≤ g) := Lib.hid (by have := K.out.old.size; omega)
  clear hB c0 hg1 hg2
  go_wp2_with fail
  go_loopg [15] n (fun k p wr => RChgRel w1 n g cb l i x k p wr)
  case atStart => exact ⟨0, by omega, by rw [chg_zero]; exact HB.out, rfl⟩
  case round =>
    obtain ⟨j, hk, hb, rfl⟩ := hrel
    have HK := Lib.hid hk
    have HB2 := Lib.hid hb
    clear hk hb HB
    have hlen : n = (chg l i x j).length := by rw [chg_length]; exact HN.out
    obtain ⟨g', cb', e, _, _, hgc, hgf⟩ := HB2.out.block (fun e => by have := HPOS.out; rw [e, List.length_nil] at hlen; omega)
    rw [← hlen] at e
    injection e with e1 e2 e3
    injection e1 with e1
    injection e1 with e1
    subst e1
    subst e3
    clear e2
    by_cases hlt : j < n
    · have HLT := Lib.hid hlt
      have hlt2 : (j : Int) < (n : Int) := by omega
      have c1 := hgc j _ (chg_at i x (by rw [← HN.out]; exact hlt))
      have c2 := hgf j
      obtain ⟨y, hy⟩ : ∃ y, fu l j = y := ⟨_, rfl⟩
      rw [hy] at c1
      by_cases hym : y = i
      · have HS : Hid (chg l i x (j + 1) = (chg l i x j).set j x) := Lib.hid (by rw [chg_succ _ _ (by rw [← HN.out]; exact hlt), hy, if_pos hym])
        have HP := Lib.hid (HB2.out.put' hlen j x)
        subst hym
        clear hgc hgf hy hlen
        go_wp2
        go_roundg (n - (j + 1))
        case measure => have := HK.out; have := HLT.out; omega
        case rel => exact ⟨j + 1, by have := HLT.out; omega, by rw [HS.out]; exact HP.out, (by refine congrArg _ ?_; have := H6.out; have := HLT.out; first | rfl | (unfold wrap64; omega))⟩
      · have HS : Hid (chg l i x (j + 1) = chg l i x j) := Lib.hid (chg_same (by rw [← HN.out]; exact hlt) (by rw [hy]; exact hym))
        have h3 : (y == i) = false := by simp [hym]
        clear hgc hgf hy hlen
        go_wp2
        go_roundg (n - (j + 1))
        case measure => have := HK.out; have := HLT.out; omega
        case rel => exact ⟨j + 1, by have := HLT.out; omega, by rw [HS.out]; exact HB2.out, (by refine congrArg _ ?_; have := H6.out; have := HLT.out; first | rfl | (unfold wrap64; omega))⟩
    · have hin : j = n := by have := HK.out; omega
      have hal : chg l i x j = l.map fun y => if y = i then x else y := by rw [hin, HN.out, chg_all]
      have hlt2 : ¬ (j : Int) < (n : Int) := by omega
      have hP := HB2.out
      rw [hal] at hP
      have HP := Lib.hid hP
      clear hgc hgf hlen hlt hal hP HB2
      go_wp2
      go_ret
      exact ⟨_, rfl, ⟨HP.out.own.1, HP.out.own.2.imp id fun ⟨g, c, cur, e, h, r⟩ => ⟨g, c, cur, e, by have := K.out.old.size; omega, r⟩⟩, below_on K.out.old HP.out.old⟩

/-- a forest's box and a result's, the call's own; what was before stands -/
structure Pfr (W w : World) (v r : Value) : Prop where
  c : w.cell? ⟨W.heap.size, 0, none⟩ = some v
  d : w.cell? ⟨W.heap.size + 1, 0, none⟩ = some r
  df : w.frozen? ⟨W.heap.size + 1, 0, none⟩ = false
  old : Below W.heap.size W w
  lt : W.heap.size + 1 < w.heap.size
theorem Pfr.new (w : World) (v r : Value) (s t : TypeId) : Pfr w ((w.alloc (.cells #[v] s)).alloc (.cells #[r] t)) v r := by
  have b1 := below_alloc w (.cells #[v] s)
  have b2 := below_alloc (w.alloc (.cells #[v] s)) (.cells #[r] t)
  have s1 : (w.alloc (.cells #[v] s)).heap.size = w.heap.size + 1 := by simp
  have h1 := heap_alloc_new w (.cells #[v] s)
  have h2 := heap_alloc_new (w.alloc (.cells #[v] s)) (.cells #[r] t)
  have b3 := below_on b1 b2
  rw [s1] at h2 b2
  rw [← b2.block w.heap.size (by omega)] at h1
  refine ⟨?_, ?_, ?_, b3, ?_⟩
  · rw [cell_of_row _ _ 0 _ _ _ h1]; rfl
  · rw [cell_of_row _ _ 0 _ _ _ h2]; rfl
  · exact frozen_of_row _ _ 0 _ _ h2
  · simp
theorem Pfr.on {W w w' : World} {v r : Value} (h : Pfr W w v r) (hb : Below w.heap.size w w') : Pfr W w' v r := by
  have hlt := h.lt
  refine ⟨by rw [hb.cell (p := ⟨W.heap.size, 0, none⟩) (by show W.heap.size < _; omega)]; exact h.c, by rw [hb.cell (p := ⟨W.heap.size + 1, 0, none⟩) hlt]; exact h.d, ?_, below_on h.old hb, Nat.lt_of_lt_of_le hlt hb.size⟩
  rw [World.frozen?_of_block (hb.block _ hlt)]; exact h.df
theorem Pfr.no {W w : World} {v r : Value} (h : Pfr W w v r) : GivesF W (w.setCell ⟨W.heap.size + 1, 0, none⟩ (.slice none 0 0)) (.returned (.tuple #[.agg #[.slice none 0 0], .bool false])) none :=
  ⟨none, 0, rfl, Nat.le_refl _, none_at _, h.old.setCell (by show W.heap.size ≤ W.heap.size + 1; omega) _⟩
theorem Pfr.yes {W w w2 : World} {v r : Value} {B : Option Addr} {n cb : Nat} {l : List Int} (h : Pfr W w v r) (hB : Bi w2 w (.slice B n cb) l) (h2 : W.heap.size + 1 < w2.heap.size) :
    GivesF W (w.setCell ⟨W.heap.size + 1, 0, none⟩ (.slice B n cb)) (.returned (.tuple #[.agg #[.slice B n cb], .bool true])) (some l) := by
  obtain ⟨A, cap, e, hle, hi⟩ := hB.ints'
  injection e with e1 e2 e3
  subst e2
  refine ⟨B, cb, rfl, by rw [e3]; exact hle, fun h0 => ?_, h.old.setCell (by show W.heap.size ≤ W.heap.size + 1; omega) _⟩
  rw [Option.getD_some] at h0
  obtain ⟨g, cap', e, hb, hlt, hc, hf⟩ := hB.block (fun q => by rw [q] at h0; simp at h0)
  injection e with e4 e5 e6
  refine ⟨g, 0, e4, by simpa [World.setCell] using hlt, fun j y hy => ?_⟩
  rw [World.cell?_setCell_other _ _ _ _ (fun q => by injection q with q; omega), Nat.zero_add]
  exact hc j y hy
end Go.Proofs.YtkpbfbmkolgmgaaGreat
namespace Go.Proofs.YtkpbfbmkolgmgaaGreat
open Go.RowKit

/-- a list of the call's own, not empty, by its block -/
theorem Bi.form {W w : World} {v : Value} {l : List Int} {n : Nat} (h : Bi W w v l) (hn : n = l.length) (h0 : 0 < n) : ∃ g cap, v = .slice (some ⟨g, 0, Option.none⟩) n cap ∧ W.heap.size ≤ g ∧ g < w.heap.size ∧
    (∀ k, k < n → w.cell? ⟨g, k, Option.none⟩ = some (.int .i64 (fu l k))) ∧ ∀ j, w.frozen? ⟨g, j, Option.none⟩ = false := by
  obtain ⟨g, cap, e, h1, h2, h3, h4⟩ := h.block (fun e => by rw [e] at hn; simp at hn; omega)
  exact ⟨g, cap, by rw [hn]; exact e, h1, h2, fun k hk => h3 k _ (fu_get (by rw [← hn]; exact hk)), h4⟩

end Go.Proofs.YtkpbfbmkolgmgaaGreat
