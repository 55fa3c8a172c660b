/-
  The walks of package forest's Depth, Kids, isBelow, Below, appendKids and Order. Condition: the places lie in memory, at most a million.
-/
import Derived.Test.YtigljoafmefbnaaCb
import Derived.Test.YtigljoafmefbnaaEg
import Derived.Test.YtigljoafmefbnaaEx
import Derived.Deep.RegionLaw
import Derived.Deep.AppendLies
namespace Go.Proofs.Ytigljoafmefbnaa
open Go.RowKit

/-- what is above something is nothing, or something -/
theorem fo_next {l : List Int} (h : Fo l) {m : Nat} (hm : fu l m ≠ -2) : fu l m = -1 ∨ ∃ j : Nat, fu l m = j ∧ j < l.length ∧ fu l j ≠ -2 := by
  rcases neg_or (fu l m) with h0 | h0
  · have := h.low m
    exact .inl (by omega)
  · obtain ⟨j, hj⟩ : ∃ j : Nat, fu l m = j := ⟨(fu l m).toNat, by omega⟩
    exact .inr ⟨j, hj, h.up m j hj⟩
theorem Bi.ints' {W w : World} {v : Value} {l : List Int} (h : Bi W w v l) : ∃ A cap, v = .slice A l.length cap ∧ l.length ≤ cap ∧ IntsAt w w.heap.size A l := by
  obtain ⟨A, cap, rfl, hi⟩ := h.ints
  refine ⟨A, cap, rfl, ?_, hi⟩
  rcases h.own.2 with ⟨e, h0⟩ | ⟨g, cap', cur, e, hb, hg, h1, h2, h3, h4⟩
  · omega
  · injection e with e1 e2 e3
    omega
theorem Bi.listF {W w w' : World} {v : Value} {l : List Int} (h : Bi W w' v l) (hb : Below w.heap.size w W) : ListF w w' (.returned v) l := by
  obtain ⟨A, cap, rfl, h1, h2⟩ := h.ints'
  exact ⟨A, cap, rfl, h1, h2, below_on hb h.old⟩
theorem nil_listF {w w' : World} (hb : Below w.heap.size w w') : ListF w w' (.returned (.slice none 0 0)) [] := ⟨none, 0, rfl, Nat.le_refl _, none_at _, hb⟩

def PDepRel (W : World) (l : List Int) (A : Option Addr) (n cap g d : Nat) (k : Nat) (p q : Value) (wr : World) : Prop :=
  ∃ (c : Nat) (z : Int), k + c = d ∧ p = .int .i64 c ∧ q = .int .i64 z ∧ (ups l z).length = k ∧ (z = -1 ∨ ∃ j : Nat, z = j ∧ j < l.length ∧ fu l j ≠ -2) ∧ Pbx W wr g (.slice A n cap)
theorem pdepth_is {A : Option Addr} {n cap : Nat} {l : List Int} {i d : Int} {w : World} (hn : n = l.length) (hL : IntsAt w w.heap.size A l) (hd : fdepth l i = d) :
    Calls Try.prog 14 #[.agg #[.slice A n cap], .int .i64 i] w fun e w' => e = .returned (.int .i64 d) ∧ Below w.heap.size w w' := by
  have HN := Lib.hid hn
  have HL := Lib.hid hL
  have HD := Lib.hid hd
  have hK := Pbx.new w (.slice A n cap) 25
  have c0 := hK.c
  clear hn hL hd
  go_enter Try.func14, Try.ntmps14
  go_wp2_with fail
  generalize w.alloc (.cells #[.slice A n cap] 25) = w1 at hK c0 ⊢
  rcases ht : there l i with _ | _
  · refine (holds_is (w := w1) HN.out (HL.out.on hK.old) ht).mono ?_
    rintro e w2 ⟨rfl, hb⟩
    have HO := Lib.hid (hK.on hb).old
    have HF : Hid (d = -1) := Lib.hid (by rw [← HD.out, fdepth, ht]; rfl)
    clear hb ht hK c0
    go_wp2
    go_ret
    exact ⟨by rw [HF.out]; rfl, HO.out⟩
  refine (holds_is (w := w1) HN.out (HL.out.on hK.old) ht).mono ?_
  rintro e w2 ⟨rfl, hb⟩
  have K := Lib.hid (hK.on hb)
  clear hK c0 hb
  have c0 := K.out.c
  obtain ⟨hF, k, rfl, hk, hk2⟩ := there_iff.1 ht
  have HF := Lib.hid hF
  have HE : Hid (d = (dep l k : Int)) := Lib.hid (by rw [← HD.out, fdepth, if_pos ht, Int.toNat_natCast])
  have hkn : (k : Int) < (n : Int) := by rw [HN.out]; omega
  obtain ⟨b, o, rfl, hblk, hc⟩ := at_open HL.out (by omega)
  have HC : Hid (b < w.heap.size ∧ ∀ k, k < l.length → w.cell? ⟨b, o + k, none⟩ = some (.int .i64 (fu l k))) := Lib.hid ⟨hblk, hc⟩
  have c1 : w2.cell? ⟨b, o + k, none⟩ = some (.int .i64 (fu l k)) := by
    rw [K.out.old.cell (p := ⟨b, _, none⟩) hblk]
    exact hc k hk
  have HDL := Lib.hid (hF.dep_lt hk)
  have H96 := Lib.hid hF.few
  have HNX := Lib.hid (fo_next hF hk2)
  clear ht hF hk hk2 hc hblk
  go_wp2_with fail
  clear c1 c0
  go_loopg [5, 6] (dep l k) (fun f p q wr => PDepRel w l (some ⟨b, o, none⟩) n cap w.heap.size (dep l k) f p q wr)
  case atStart => exact ⟨0, fu l k, by omega, rfl, rfl, rfl, HNX.out, K.out⟩
  case round =>
    obtain ⟨c, z, hk, rfl, rfl, hz, hzl, hb⟩ := hrel
    have K2 := Lib.hid hb
    have HI := Lib.hid hk
    have c0 := K2.out.c
    clear hb hk
    rcases hzl with rfl | ⟨m, rfl, hml, hm2⟩
    · rw [ups_neg (by omega), List.length_nil] at hz
      have HCE : Hid (c = dep l k) := Lib.hid (by have := HI.out; omega)
      clear hz
      go_wp2
      go_ret
      exact ⟨by rw [HE.out, HCE.out]; rfl, K2.out.old⟩
    · rw [HF.out.ups_cons hml, List.length_cons] at hz
      have h3 : (((m : Nat) : Int) != -1) = true := by simp
      have hmn : (m : Int) < (n : Int) := by rw [HN.out]; omega
      have c1 : wr.cell? ⟨b, o + m, none⟩ = some (.int .i64 (fu l m)) := by
        rw [K2.out.old.cell (p := ⟨b, _, none⟩) HC.out.1]
        exact HC.out.2 m hml
      have HZ : Hid ((ups l (fu l m)).length + 1 = gk) := Lib.hid hz
      have HU := Lib.hid (fo_next HF.out hm2)
      obtain ⟨y, hy⟩ : ∃ y, fu l m = y := ⟨_, rfl⟩
      rw [hy] at c1 HZ HU
      clear hz hml hy hm2
      go_wp2
      go_roundg (gk - 1)
      case measure => have := HZ.out; omega
      case rel => exact ⟨c + 1, y, by have := HI.out; have := HZ.out; omega, (by refine congrArg _ ?_; have := HI.out; have := HZ.out; have := HDL.out; have := H96.out; first | rfl | (unfold wrap64; omega)), rfl, by have := HZ.out; omega, HU.out, K2.out⟩

def PPickRel (W : World) (n : Nat) (p : Nat → Bool) (k : Nat) (v q : Value) (wr : World) : Prop :=
  ∃ i : Nat, k + i = n ∧ Bi W wr v (toInts (pick p i)) ∧ q = .int .i64 i

set_option maxHeartbeats 2000000 in
theorem pkids_is {A : Option Addr} {n cap : Nat} {l L : List Int} {i : Int} {w : World} (hn : n = l.length) (hn6 : n ≤ 1000000) (hL : IntsAt w w.heap.size A l) (hr : fkids l i = L) :
    Calls Try.prog 19 #[.agg #[.slice A n cap], .int .i64 i] w fun e w' => ListF w w' e L := by
  have HN := Lib.hid hn
  have HL := Lib.hid hL
  have HR := Lib.hid hr
  have H6 := Lib.hid hn6
  have hK := Pbx.new w (.slice A n cap) 25
  have c0 := hK.c
  clear hn hL hr hn6
  go_enter Try.func19, Try.ntmps19
  go_wp2_with fail
  generalize w.alloc (.cells #[.slice A n cap] 25) = w1 at hK c0 ⊢
  rcases ht : there l i with _ | _
  · refine (holds_is (w := w1) HN.out (HL.out.on hK.old) ht).mono ?_
    rintro e w2 ⟨rfl, hb⟩
    have HO := Lib.hid (hK.on hb).old
    have HE : Hid (L = []) := Lib.hid (by rw [← HR.out, fkids, ht]; rfl)
    clear hb ht hK c0
    go_wp2
    go_ret
    rw [HE.out]
    exact nil_listF HO.out
  obtain ⟨_, m, rfl, hm, _⟩ := there_iff.1 ht
  refine (holds_is (w := w1) HN.out (HL.out.on hK.old) ht).mono ?_
  rintro e w2 ⟨rfl, hb⟩
  have K := Lib.hid (hK.on hb)
  have HE : Hid (L = toInts (pick (fun k => decide (fu l k = (m : Int))) n)) := Lib.hid (by rw [← HR.out, fkids, if_pos ht, Int.toNat_natCast, kidsN, pick, HN.out])
  have H0 : Hid (Bi w2 w2 (.slice none 0 0) []) := Lib.hid ⟨World.ownsRow_nil _ _ _ _, Below.refl _ _⟩
  have HM := Lib.hid hm
  clear hK c0 hb hm ht
  have c0 := K.out.c
  go_wp2_with fail
  clear c0
  go_loopg [5, 15] n (fun k p q wr => PPickRel w2 n (fun k => decide (fu l k = (m : Int))) k p q wr)
  case atStart => exact ⟨0, by omega, H0.out, rfl⟩
  case round =>
    obtain ⟨i, hk, hb, rfl⟩ := hrel
    have HK := Lib.hid hk
    clear hk H0
    have c0 := (K.out.on hb.old).c
    by_cases hlt : i < n
    · have HLT := Lib.hid hlt
      have hlt2 : (i : Int) < (n : Int) := by omega
      have HB1 := Lib.hid hb
      clear hb
      obtain ⟨b, o, rfl, hblk, hc⟩ := at_open HL.out (by rw [← HN.out]; omega)
      have c1 : wr.cell? ⟨b, o + i, none⟩ = some (.int .i64 (fu l i)) := by
        rw [(K.out.on HB1.out.old).old.cell (p := ⟨b, _, none⟩) hblk]
        exact hc i (by rw [← HN.out]; exact hlt)
      obtain ⟨x, hx⟩ : ∃ x, fu l i = x := ⟨_, rfl⟩
      rw [hx] at c1
      by_cases hxm : x = (m : Int)
      · have HP : Hid (toInts (pick (fun k => decide (fu l k = (m : Int))) (i + 1)) = toInts (pick (fun k => decide (fu l k = (m : Int))) i) ++ [(i : Int)]) := Lib.hid (by rw [pick_yes (by simp [hx, hxm]), toInts_append]; rfl)
        have hq : (toInts (pick (fun k => decide (fu l k = (m : Int))) i)).length ≤ 1000000 := by rw [toInts_length]; have := pick_len (fun k => decide (fu l k = (m : Int))) i; have := H6.out; omega
        obtain ⟨u, hu⟩ : ∃ u, u = toInts (pick (fun k => decide (fu l k = (m : Int))) i) := ⟨_, rfl⟩
        rw [← hu] at HB1 HP hq
        subst hxm
        have HB2 := Lib.hid (HB1.out.alloc (.cells #[.int .i64 (i : Int)] 3))
        have HNEW := Lib.hid (one_new wr i)
        have HSZ : Hid (w2.heap.size ≤ (wr.alloc (.cells #[.int .i64 (i : Int)] 3)).heap.size) := Lib.hid HB2.out.old.size
        obtain ⟨i0, hii, hz0, hz1, hz2⟩ := info3_parts
        have HONE := Lib.hid (one_plain i)
        clear hu hc hblk hx HB1
        go_wp2_with (at_builtin; refine wpList_append_own _ rfl _ _ 23 rfl w2.heap.size 3 i0 (.int .i64 0) 1 8 Try.underlying23 hii hz0 hz1 hz2 rfl (by decide) _ _ _ rfl HB2.out.own ⟨wr.heap.size, 0, none⟩ 1 1 [.int .i64 i] rfl rfl HNEW.out HONE.out ?c3 ?c4 HSZ.out ?_)
        case c3 => unfold maxLen; omega
        case c4 => omega
        intro v' w4 hown hgrow _
        have HB3 := Lib.hid (HB2.out.more (l' := toInts (pick (fun k => decide (fu l k = (m : Int))) (i + 1))) hgrow (by rw [HP.out, icells_append, List.length_append]; exact hown))
        clear hown hgrow HB2 HNEW HSZ HONE hq
        go_wp2
        go_roundg (n - (i + 1))
        case measure => have := HK.out; have := HLT.out; omega
        case rel => exact ⟨i + 1, by have := HLT.out; omega, HB3.out, (by refine congrArg _ ?_; have := H6.out; have := HLT.out; first | rfl | (unfold wrap64; omega))⟩
      · have HP : Hid (toInts (pick (fun k => decide (fu l k = (m : Int))) (i + 1)) = toInts (pick (fun k => decide (fu l k = (m : Int))) i)) := Lib.hid (by rw [pick_no (by simp [hx, hxm])])
        have h3 : (x == (m : Int)) = false := by simp [hxm]
        clear hc hblk hx
        go_wp2
        go_roundg (n - (i + 1))
        case measure => have := HK.out; have := HLT.out; omega
        case rel => exact ⟨i + 1, by have := HLT.out; omega, by rw [HP.out]; exact HB1.out, (by refine congrArg _ ?_; have := H6.out; have := HLT.out; first | rfl | (unfold wrap64; omega))⟩
    · have hin : i = n := by have := HK.out; omega
      subst hin
      rw [← HE.out] at hb
      have HB := Lib.hid hb
      have hlt2 : ¬ (i : Int) < (i : Int) := by omega
      clear hb hlt
      go_wp2
      go_ret
      exact HB.out.listF K.out.old

def PIsBRel (W : World) (l : List Int) (A : Option Addr) (n cap g i m : Nat) (k : Nat) (q : Value) (wr : World) : Prop :=
  ∃ (z : Int), q = .int .i64 z ∧ (ups l z).length = k ∧ z < l.length ∧ (above l i).contains m = (ups l z).contains m ∧ Pbx W wr g (.slice A n cap)
theorem isbelow_is {A : Option Addr} {n cap : Nat} {l : List Int} {i m : Nat} {t : Bool} {w : World} (hF : Fo l) (hn : n = l.length) (hL : IntsAt w w.heap.size A l) (hi : i < n) (ht : (above l i).contains m = t) :
    Calls Try.prog 36 #[.agg #[.slice A n cap], .int .i64 (i : Int), .int .i64 (m : Int)] w fun e w' => e = .returned (.bool t) ∧ Below w.heap.size w w' := by
  have HN := Lib.hid hn
  have HL := Lib.hid hL
  have HT := Lib.hid ht
  have HF := Lib.hid hF
  have hin : (i : Int) < (n : Int) := by omega
  have hK := Pbx.new w (.slice A n cap) 25
  have c0 := hK.c
  obtain ⟨b, o, rfl, hblk, hc⟩ := at_open HL.out (by omega)
  have HC : Hid (b < w.heap.size ∧ ∀ k, k < l.length → w.cell? ⟨b, o + k, none⟩ = some (.int .i64 (fu l k))) := Lib.hid ⟨hblk, hc⟩
  have c1 : (w.alloc (.cells #[.slice (some ⟨b, o, none⟩) n cap] 25)).cell? ⟨b, o + i, none⟩ = some (.int .i64 (fu l i)) := by
    rw [hK.old.cell (p := ⟨b, _, none⟩) hblk]
    exact hc i (by omega)
  have K := Lib.hid hK
  clear hn hL ht hF hK hblk hc hi
  go_enter Try.func36, Try.ntmps36
  go_wp2_with fail
  clear c0 c1
  go_loopg [7] (above l i).length (fun k q wr => PIsBRel w l (some ⟨b, o, none⟩) n cap w.heap.size i m k q wr)
  case atStart => exact ⟨fu l i, rfl, rfl, fu_top HF.out i, rfl, K.out⟩
  case round =>
    obtain ⟨z, rfl, hz, hzl, hco, hb⟩ := hrel
    have K2 := Lib.hid hb
    have c0 := K2.out.c
    clear hb K
    by_cases h0 : z < 0
    · have HE : Hid (t = false) := Lib.hid (by rw [← HT.out, hco, ups_neg h0]; rfl)
      clear hz hzl hco
      go_wp2
      go_ret
      exact ⟨by rw [HE.out]; rfl, K2.out.old⟩
    · obtain ⟨x, rfl⟩ : ∃ x : Nat, z = x := ⟨z.toNat, by omega⟩
      have hxl : x < l.length := by omega
      have hcons := HF.out.ups_cons hxl
      have h3 : (0 : Int) ≤ (x : Int) := by omega
      have hxn : (x : Int) < (n : Int) := by rw [HN.out]; omega
      by_cases hxm : x = m
      · have HE : Hid (t = true) := Lib.hid (by rw [← HT.out, hco, hcons, hxm]; simp)
        subst hxm
        clear hz hzl hco hcons hxl
        go_wp2
        go_ret
        exact ⟨by rw [HE.out]; rfl, K2.out.old⟩
      · have hmx : ¬ m = x := fun e => hxm e.symm
        have HCO : Hid ((above l i).contains m = (ups l (fu l x)).contains m) := Lib.hid (by
          rw [hco, hcons, List.contains_cons, above, beq_eq_false_iff_ne.2 hmx, Bool.false_or])
        have HZ : Hid ((ups l (fu l x)).length + 1 = gk) := Lib.hid (by rw [← hz, hcons]; rfl)
        have HU := Lib.hid (fu_top HF.out x)
        have hxm' : ¬ (x : Int) = (m : Int) := by omega
        have hxm2 : ((x : Int) == (m : Int)) = false := by simp; omega
        have c2 : wr.cell? ⟨b, o + x, none⟩ = some (.int .i64 (fu l x)) := by
          rw [K2.out.old.cell (p := ⟨b, _, none⟩) HC.out.1]
          exact HC.out.2 x hxl
        clear hz hzl hco hcons hxm h0 hmx hxl
        go_wp2
        go_roundg (gk - 1)
        case measure => have := HZ.out; omega
        case rel => exact ⟨fu l x, rfl, by have := HZ.out; omega, HU.out, HCO.out, K2.out⟩
end Go.Proofs.Ytigljoafmefbnaa
