/-
  The walks of package forest's Below, appendKids and Order. Condition: the places lie in memory, at most a million.
-/
import Derived.Test.YtigljoafmefbnaaCc
namespace Go.Proofs.Ytigljoafmefbnaa
open Go.RowKit

set_option maxHeartbeats 2000000 in
theorem pbelow_bi {A : Option Addr} {n cap : Nat} {l L : List Int} {i : Int} {w : World} (hn : n = l.length) (hn6 : n ≤ 1000000) (hL : IntsAt w w.heap.size A l) (hr : fbelow l i = L) :
    Calls Try.prog 16 #[.agg #[.slice A n cap], .int .i64 i] w fun e w' => ∃ v, e = .returned v ∧ Bi w w' v L := by
  have HN := Lib.hid hn
  have HL := Lib.hid hL
  have HR := Lib.hid hr
  have H6 := Lib.hid hn6
  have hK := Pbx.new w (.slice A n cap) 25
  have c0 := hK.c
  clear hn hL hr hn6
  go_enter Try.func16, Try.ntmps16
  go_wp2_with fail
  generalize w.alloc (.cells #[.slice A n cap] 25) = w1 at hK c0 ⊢
  rcases ht : there l i with _ | _
  · refine (holds_is (w := w1) HN.out (HL.out.on hK.old) ht).mono ?_
    rintro e w2 ⟨rfl, hb⟩
    have HO := Lib.hid (hK.on hb).old
    have HE : Hid (L = []) := Lib.hid (by rw [← HR.out, fbelow, ht]; rfl)
    clear hb ht hK c0
    go_wp2
    go_ret
    rw [HE.out]
    exact ⟨_, rfl, World.ownsRow_nil _ _ _ _, HO.out⟩
  obtain ⟨hF, m, rfl, hm, _⟩ := there_iff.1 ht
  refine (holds_is (w := w1) HN.out (HL.out.on hK.old) ht).mono ?_
  rintro e w2 ⟨rfl, hb⟩
  have HF := Lib.hid hF
  have K := Lib.hid (hK.on hb)
  have HE : Hid (L = toInts (pick (fun k => (above l k).contains m) n)) := Lib.hid (by rw [← HR.out, fbelow, if_pos ht, Int.toNat_natCast, belowN, pick, HN.out])
  have H0 : Hid (Bi w w2 (.slice none 0 0) []) := Lib.hid ⟨World.ownsRow_nil _ _ _ _, K.out.old⟩
  clear hK c0 hb hm ht hF
  have c0 := K.out.c
  have hg : w.heap.size < w2.heap.size := K.out.lt
  go_wp2_with fail
  clear c0
  go_loopg [5, 14] n (fun k p q wr => PPickRel w2 n (fun k => (above l k).contains m) k p q wr)
  case atStart => exact ⟨0, by omega, ⟨World.ownsRow_nil _ _ _ _, Below.refl _ _⟩, rfl⟩
  case round =>
    obtain ⟨i, hk, hb, rfl⟩ := hrel
    have HK := Lib.hid hk
    clear hk H0
    have c0 := (K.out.on hb.old).c
    by_cases hlt : i < n
    · have HLT := Lib.hid hlt
      have hlt2 : (i : Int) < (n : Int) := by omega
      have HB := Lib.hid hb
      clear hb
      go_wp2_with fail
      rcases htt : (above l i).contains m with _ | _
      · have HP : Hid (toInts (pick (fun k => (above l k).contains m) (i + 1)) = toInts (pick (fun k => (above l k).contains m) i)) := Lib.hid (by rw [pick_no (p := fun k => (above l k).contains m) htt])
        refine (isbelow_is (w := wr) HF.out HN.out (HL.out.on (K.out.on HB.out.old).old) HLT.out htt).mono ?_
        rintro e w3 ⟨rfl, hb⟩
        have HB1 := Lib.hid (HB.out.on hb)
        clear hb htt c0 HB
        go_wp2
        go_roundg (n - (i + 1))
        case measure => have := HK.out; have := HLT.out; omega
        case rel => exact ⟨i + 1, by have := HLT.out; omega, by rw [HP.out]; exact HB1.out, (by refine congrArg _ ?_; have := H6.out; have := HLT.out; first | rfl | (unfold wrap64; omega))⟩
      · have HP : Hid (toInts (pick (fun k => (above l k).contains m) (i + 1)) = toInts (pick (fun k => (above l k).contains m) i) ++ [(i : Int)]) := Lib.hid (by rw [pick_yes (p := fun k => (above l k).contains m) htt, toInts_append]; rfl)
        have hq : (toInts (pick (fun k => (above l k).contains m) i)).length ≤ 1000000 := by rw [toInts_length]; have := pick_len (fun k => (above l k).contains m) i; have := H6.out; omega
        refine (isbelow_is (w := wr) HF.out HN.out (HL.out.on (K.out.on HB.out.old).old) HLT.out htt).mono ?_
        rintro e w3 ⟨rfl, hb⟩
        have HB1 := Lib.hid (HB.out.on hb)
        clear hb htt c0 HB
        obtain ⟨u, hu⟩ : ∃ u, u = toInts (pick (fun k => (above l k).contains m) i) := ⟨_, rfl⟩
        rw [← hu] at HB1 HP hq
        have HB2 := Lib.hid (HB1.out.alloc (.cells #[.int .i64 (i : Int)] 3))
        have HNEW := Lib.hid (one_new w3 i)
        have HSZ : Hid (w2.heap.size ≤ (w3.alloc (.cells #[.int .i64 (i : Int)] 3)).heap.size) := Lib.hid HB2.out.old.size
        obtain ⟨i0, hii, hz0, hz1, hz2⟩ := info3_parts
        have HONE := Lib.hid (one_plain i)
        clear hu HB1
        go_wp2_with (at_builtin; refine wpList_append_own _ rfl _ _ 23 rfl w2.heap.size 3 i0 (.int .i64 0) 1 8 Try.underlying23 hii hz0 hz1 hz2 rfl (by decide) _ _ _ rfl HB2.out.own ⟨w3.heap.size, 0, none⟩ 1 1 [.int .i64 i] rfl rfl HNEW.out HONE.out ?c3 ?c4 HSZ.out ?_)
        case c3 => unfold maxLen; omega
        case c4 => omega
        intro v' w4 hown hgrow _
        have HB3 := Lib.hid (HB2.out.more (l' := toInts (pick (fun k => (above l k).contains m) (i + 1))) hgrow (by rw [HP.out, icells_append, List.length_append]; exact hown))
        clear hown hgrow HB2 HNEW HSZ HONE hq
        go_wp2
        go_roundg (n - (i + 1))
        case measure => have := HK.out; have := HLT.out; omega
        case rel => exact ⟨i + 1, by have := HLT.out; omega, HB3.out, (by refine congrArg _ ?_; have := H6.out; have := HLT.out; first | rfl | (unfold wrap64; omega))⟩
    · have hin : i = n := by have := HK.out; omega
      subst hin
      rw [← HE.out] at hb
      have HB := Lib.hid hb
      have hlt2 : ¬ (i : Int) < (i : Int) := by omega
      clear hb hlt
      go_wp2
      go_ret
      exact ⟨_, rfl, ⟨HB.out.own.1, HB.out.own.2.imp id fun ⟨g, c, cur, e, h, r⟩ => ⟨g, c, cur, e, by have := K.out.old.size; omega, r⟩⟩, below_on K.out.old HB.out.old⟩
theorem pbelow_is {A : Option Addr} {n cap : Nat} {l L : List Int} {i : Int} {w : World} (hn : n = l.length) (hn6 : n ≤ 1000000) (hL : IntsAt w w.heap.size A l) (hr : fbelow l i = L) :
    Calls Try.prog 16 #[.agg #[.slice A n cap], .int .i64 i] w fun e w' => ListF w w' e L := by
  refine (pbelow_bi hn hn6 hL hr).mono ?_
  rintro e w1 ⟨v, rfl, h⟩
  exact h.listF (below_self w)

/-! ### in order -/
/-- from one world to a later one: what lies in blocks other than v's own is as it was, and the later list is none of these -/
def Apart (w : World) (v : Value) (w' : World) (v' : Value) : Prop :=
  w.heap.size ≤ w'.heap.size ∧ ∀ g, g < w.heap.size → v.ownBlock ≠ some g → v'.ownBlock ≠ some g ∧ w'.cell? ⟨g, 0, none⟩ = w.cell? ⟨g, 0, none⟩
theorem Apart.refl (w : World) (v : Value) : Apart w v w v := ⟨Nat.le_refl _, fun _ _ h => ⟨h, rfl⟩⟩
theorem Apart.trans {a b c : World} {u v x : Value} (h : Apart a u b v) (k : Apart b v c x) : Apart a u c x :=
  ⟨Nat.le_trans h.1 k.1, fun g hg hn => by
    obtain ⟨h1, h2⟩ := h.2 g hg hn
    obtain ⟨k1, k2⟩ := k.2 g (Nat.lt_of_lt_of_le hg h.1) h1
    exact ⟨k1, k2.trans h2⟩⟩
theorem Apart.below {w w' : World} {v : Value} (hb : Below w.heap.size w w') : Apart w v w' v := ⟨hb.size, fun g hg hn => ⟨hn, hb.cell (p := ⟨g, 0, none⟩) hg⟩⟩
theorem Apart.grown {w w' : World} {v : Value} {g' n cap : Nat} (hg : w.grownBy w' v.ownBlock) (hat : v.ownBlock = some g' ∨ g' = w.heap.size) : Apart w v w' (.slice (some ⟨g', 0, none⟩) n cap) :=
  ⟨hg.size, fun g hlt hn => ⟨fun e => by
    have e' : g' = g := by simpa [Value.ownBlock] using e
    subst e'
    rcases hat with h | h
    · exact hn h
    · omega, World.cell?_of_block (hg.block g hlt (fun e => hn e.symm))⟩⟩

def PDownRel (W : World) (n : Nat) (l : List Int) (f : Nat) (of : Int) (A : Option Addr) (cap : Nat) (w : World) (v0 : Value) (pre : List Int) (k : Nat) (v q : Value) (wr : World) : Prop :=
  ∃ j : Nat, k + j = n ∧ Bi W wr v (pre ++ toInts ((pick (fun k => decide (fu l k = of)) j).flatMap (down l f))) ∧ q = .int .i64 j ∧ wr.cell? ⟨w.heap.size, 0, none⟩ = some (.slice A n cap) ∧ w.heap.size < wr.heap.size ∧ v.ownBlock ≠ some w.heap.size ∧ Apart w v0 wr v

set_option maxHeartbeats 4000000 in
theorem pdown_any {A : Option Addr} {n cap : Nat} {l : List Int} {W : World} (hF : Fo l) (hn : n = l.length) (hL : IntsAt W W.heap.size A l) : ∀ (f : Nat) (of : Int), (∀ j : Nat, fu l j = of → j < l.length → l.length ≤ dep l j + f) → ∀ (pre : List Int) (v : Value) (w : World), Bi W w v pre → pre.length + ((pick (fun k => decide (fu l k = of)) n).flatMap (down l f)).length ≤ 1000000 →
    Calls Try.prog 35 #[v, .agg #[.slice A n cap], .int .i64 of] w fun e w' => ∃ v', e = .returned v' ∧ Bi W w' v' (pre ++ toInts ((pick (fun k => decide (fu l k = of)) n).flatMap (down l f))) ∧ Apart w v w' v' := by
  intro f
  induction f using Nat.strongRecOn with
  | _ f ih =>
    intro of hd pre v w hB hb
    have HN := Lib.hid hn
    have HL := Lib.hid hL
    have HF := Lib.hid hF
    have HD := Lib.hid hd
    have HBD := Lib.hid hb
    have IH := Lib.hid ih
    have H96 := Lib.hid hF.few
    have hK := Pbx.new w (.slice A n cap) 25
    have HB1 := Lib.hid (hB.alloc (.cells #[.slice A n cap] 25))
    have HV : Hid (v.ownBlock ≠ some w.heap.size) := Lib.hid (fun e => by have := (hB.own.lt _ e).2; omega)
    have c0 := hK.c
    clear hn hL hF hd hb ih hB
    go_enter Try.func35, Try.ntmps35
    go_wp2_with fail
    generalize w.alloc (.cells #[.slice A n cap] 25) = w1 at hK c0 HB1 ⊢
    have K := Lib.hid hK
    clear hK
    go_wp2_with fail
    clear c0
    go_loopg [0, 12] n (fun k p q wr => PDownRel W n l f of A cap w v pre k p q wr)
    case atStart => exact ⟨0, by omega, by simpa [pick, toInts] using HB1.out, rfl, K.out.c, K.out.lt, HV.out, Apart.below K.out.old⟩
    case round =>
      obtain ⟨j, hk, hb, rfl, c0, hg, hv, ha⟩ := hrel
      have HK := Lib.hid hk
      have HB := Lib.hid hb
      have HG := Lib.hid hg
      have HV2 := Lib.hid hv
      have HA := Lib.hid ha
      clear hk hb HB1 K hv ha
      by_cases hlt : j < n
      · have HLT := Lib.hid hlt
        have hlt2 : (j : Int) < (n : Int) := by omega
        obtain ⟨b, o, rfl, hblk, hc⟩ := at_open HL.out (by rw [← HN.out]; omega)
        have c1 : wr.cell? ⟨b, o + j, none⟩ = some (.int .i64 (fu l j)) := by
          rw [HB.out.old.cell (p := ⟨b, _, none⟩) hblk]
          exact hc j (by rw [← HN.out]; exact hlt)
        obtain ⟨x, hx⟩ : ∃ x, fu l j = x := ⟨_, rfl⟩
        rw [hx] at c1
        by_cases hxi : x = of
        · rw [hxi] at c1 hx
          clear hxi x
          obtain ⟨cur, hcur⟩ : ∃ cur, cur = pre ++ toInts ((pick (fun k => decide (fu l k = of)) j).flatMap (down l f)) := ⟨_, rfl⟩
          have hjl : j < l.length := by rw [← HN.out]; exact hlt
          obtain ⟨f', rfl⟩ : ∃ f', f = f' + 1 := ⟨f - 1, by have := HD.out j hx hjl; have := HF.out.dep_lt hjl; omega⟩
          have hpk : pick (fun k => decide (fu l k = of)) (j + 1) = pick (fun k => decide (fu l k = of)) j ++ [j] := pick_yes (by simp [hx])
          have hdn : down l (f' + 1) j = j :: (pick (fun k => decide (fu l k = (j : Int))) n).flatMap (down l f') := by rw [down, kidsN, pick, HN.out]
          have hlen : cur.length + (1 + ((pick (fun k => decide (fu l k = (j : Int))) n).flatMap (down l f')).length) ≤ 1000000 := by
            have h1 := HBD.out
            have h2 := flat_more (g := down l (f' + 1)) (p := fun k => decide (fu l k = of)) (show j + 1 ≤ n by omega)
            rw [hpk, List.flatMap_append, List.flatMap_singleton, List.length_append, hdn, List.length_cons] at h2
            rw [hcur, List.length_append, toInts_length]
            omega
          have HP : Hid ((cur ++ [(j : Int)]) ++ toInts ((pick (fun k => decide (fu l k = (j : Int))) n).flatMap (down l f')) = pre ++ toInts ((pick (fun k => decide (fu l k = of)) (j + 1)).flatMap (down l (f' + 1)))) := Lib.hid (by
            rw [hpk, List.flatMap_append, List.flatMap_singleton, hdn, toInts_append, ← List.append_assoc, ← hcur, List.append_assoc]
            rfl)
          have hcall := IH.out f' (by omega) (j : Int) (fun k hk hkl => by
            have := HD.out j hx hjl
            have := HF.out.dep_succ hk
            omega) (cur ++ [(j : Int)])
          have HCALL : Hid (∀ (v2 : Value) (w2 : World), Bi W w2 v2 (cur ++ [(j : Int)]) → Calls Try.prog 35 #[v2, .agg #[.slice (some ⟨b, o, none⟩) n cap], .int .i64 (j : Int)] w2 fun e w' => ∃ v', e = .returned v' ∧ Bi W w' v' (pre ++ toInts ((pick (fun k => decide (fu l k = of)) (j + 1)).flatMap (down l (f' + 1)))) ∧ Apart w2 v2 w' v') := Lib.hid (fun v2 w2 h => by
            have := hcall v2 w2 h (by rw [List.length_append, List.length_singleton]; omega)
            rw [HP.out] at this
            exact this)
          have hb2 := HB.out
          rw [← hcur] at hb2
          have HB2 : Hid (Bi W (wr.alloc (.cells #[.int .i64 (j : Int)] 3)).drew _ cur) := Lib.hid (hb2.alloc (.cells #[.int .i64 (j : Int)] 3)).drew
          have HNEW : Hid (∀ t u, [Value.int .i64 (j : Int)][t]? = some u → (wr.alloc (.cells #[.int .i64 (j : Int)] 3)).drew.cell? ((⟨wr.heap.size, 0, none⟩ : Addr).add t) = some u) := Lib.hid (one_new wr j)
          have HS : Hid (W.heap.size ≤ (wr.alloc (.cells #[.int .i64 (j : Int)] 3)).drew.heap.size) := Lib.hid HB2.out.old.size
          have hbd : Below wr.heap.size wr (wr.alloc (.cells #[.int .i64 (j : Int)] 3)).drew := (below_alloc wr _).drew
          have c3 : (wr.alloc (.cells #[.int .i64 (j : Int)] 3)).drew.cell? ⟨w.heap.size, 0, none⟩ = some (.slice (some ⟨b, o, none⟩) n cap) := by
            rw [hbd.cell (p := ⟨w.heap.size, 0, none⟩) HG.out]; exact c0
          have HC3' := Lib.hid c3
          have HAP : Hid (Apart w v (wr.alloc (.cells #[.int .i64 (j : Int)] 3)).drew u0) := Lib.hid (HA.out.trans (Apart.below hbd))
          have HAS : Hid (w.heap.size < (wr.alloc (.cells #[.int .i64 (j : Int)] 3)).drew.heap.size) := Lib.hid (Nat.lt_of_lt_of_le HG.out hbd.size)
          obtain ⟨i0, hii, hz0, hz1, hz2⟩ := info3_parts
          have HONE := Lib.hid (one_plain j)
          have HC3 : Hid (cur.length + 1 ≤ maxLen) := Lib.hid (by unfold maxLen; omega)
          have HC4 : Hid ((cur.length + 1) * 8 ≤ 140737488355328) := Lib.hid (by omega)
          clear hc hblk hx hpk hdn hlen hb2 hbd hcur hcall HB HBD IH hjl HP
          go_wp2_with fail
          go_region_law (first
            | (refine step_append_lies _ (by rfl) _ _ 23 (by rfl) W.heap.size 3 i0 (.int .i64 0) 1 8 Try.underlying23 hii hz0 hz1 hz2 (by rfl) (by decide) _ cur.length (icells cur) (by rfl) HB2.out.own ⟨wr.heap.size, 0, none⟩ 1 1 [.int .i64 (j : Int)] (by rfl) (by rfl) HNEW.out HONE.out (by decide) HC3.out HC4.out HS.out _ (by rfl) ?_; intro g5 gcap w4 hown hgrow hat hlt5; have HB4 := Lib.hid (HB2.out.more (l' := cur ++ [(j : Int)]) hgrow (by rw [icells_append, List.length_append]; exact hown)); have HA4 := Lib.hid (Apart.grown (n := cur.length + 1) (cap := gcap) hgrow hat); have c4 := (HA4.out.2 w.heap.size HAS.out HV2.out).2.trans HC3'.out; clear hown hgrow hat hlt5)
            | (go_simp; go_at_call 35; refine (HCALL.out _ _ HB4.out).mono ?_; rintro e w5 ⟨v5, rfl, hb5, ha5⟩; have HB5 := Lib.hid hb5; have HA5 := Lib.hid (HA4.out.trans ha5); clear hb5 ha5))
          all_goals
            have HBX : Hid (v5.ownBlock ≠ some w.heap.size ∧ w5.cell? ⟨w.heap.size, 0, none⟩ = some (.slice (some ⟨b, o, none⟩) n cap) ∧ w.heap.size < w5.heap.size ∧ Apart w v w5 v5) := Lib.hid (by
              obtain ⟨h1, h2⟩ := HA5.out.2 w.heap.size HAS.out HV2.out
              exact ⟨h1, h2.trans HC3'.out, Nat.lt_of_lt_of_le HAS.out HA5.out.1, HAP.out.trans HA5.out⟩)
            clear HA5 HA4 HB4 HCALL
            go_wp2
            go_roundg (n - (j + 1))
            case measure => have := HK.out; have := HLT.out; omega
            case rel => exact ⟨j + 1, by have := HLT.out; omega, HB5.out, (by refine congrArg _ ?_; have := H96.out; have := HN.out; have := HLT.out; first | rfl | (unfold wrap64; omega)), HBX.out.2.1, HBX.out.2.2.1, HBX.out.1, HBX.out.2.2.2⟩
        · have HP : Hid (pick (fun k => decide (fu l k = of)) (j + 1) = pick (fun k => decide (fu l k = of)) j) := Lib.hid (pick_no (by simp [hx, hxi]))
          have h3 : (x == of) = false := by simp [hxi]
          have HC0 := Lib.hid c0
          clear hc hblk hx
          go_wp2
          go_roundg (n - (j + 1))
          case measure => have := HK.out; have := HLT.out; omega
          case rel => exact ⟨j + 1, by have := HLT.out; omega, by rw [HP.out]; exact HB.out, (by refine congrArg _ ?_; have := H96.out; have := HN.out; have := HLT.out; first | rfl | (unfold wrap64; omega)), HC0.out, HG.out, HV2.out, HA.out⟩
      · have hin : j = n := by have := HK.out; omega
        subst hin
        have hlt2 : ¬ (j : Int) < (j : Int) := by omega
        go_wp2
        go_ret
        first | exact ⟨u0, rfl, HB.out, HA.out⟩ | exact ⟨_, rfl, HB.out, HA.out⟩ | exact ⟨HB.out, HA.out⟩

set_option maxHeartbeats 2000000 in
theorem porder_is {A : Option Addr} {n cap : Nat} {l L : List Int} {w : World} (hn : n = l.length) (hL : IntsAt w w.heap.size A l) (hr : forder l = L) :
    Calls Try.prog 15 #[.agg #[.slice A n cap]] w fun e w' => ListF w w' e L := by
  have HN := Lib.hid hn
  have HL := Lib.hid hL
  have HR := Lib.hid hr
  have hK := Pbx.new w (.slice A n cap) 25
  have c0 := hK.c
  clear hn hL hr
  go_enter Try.func15, Try.ntmps15
  go_wp2_with fail
  generalize w.alloc (.cells #[.slice A n cap] 25) = w1 at hK c0 ⊢
  rcases hg : fgood l with _ | _
  · have HE : Hid (L = []) := Lib.hid (by rw [← HR.out, forder, hg]; rfl)
    refine (pgood_is (w := w1) HN.out (HL.out.on hK.old) hg).mono ?_
    rintro e w2 ⟨rfl, hb⟩
    have HO := Lib.hid (hK.on hb).old
    clear hb hg hK c0
    go_wp2
    go_ret
    rw [HE.out]
    exact nil_listF HO.out
  have hF := fo_iff.1 hg
  have HE : Hid (L = toInts ((pick (fun k => decide (fu l k = -1)) n).flatMap (down l n))) := Lib.hid (by rw [← HR.out, forder, if_pos hg, orderN, rootsN, pick, HN.out])
  have HFEW : Hid (((pick (fun k => decide (fu l k = -1)) n).flatMap (down l n)).length ≤ 96) := Lib.hid (by
    have := orderN_few hF
    have := hF.few
    rw [orderN, rootsN] at *
    rw [pick, HN.out]
    omega)
  refine (pgood_is (w := w1) HN.out (HL.out.on hK.old) hg).mono ?_
  rintro e w2 ⟨rfl, hb⟩
  have K := Lib.hid (hK.on hb)
  have HCALL := Lib.hid (pdown_any (cap := cap) hF HN.out (HL.out.on K.out.old) n (-1) (fun j _ hj => by rw [HN.out]; omega) [] (.slice none 0 0) w2 ⟨World.ownsRow_nil _ _ _ _, Below.refl _ _⟩ (by have := HFEW.out; rw [List.length_nil]; omega))
  clear hb hg hF hK c0
  have c0 := K.out.c
  go_wp2_with fail
  refine HCALL.out.mono ?_
  rintro e w3 ⟨v, rfl, hB, _⟩
  rw [List.nil_append, ← HE.out] at hB
  have HB := Lib.hid hB
  clear hB HCALL c0
  go_wp2
  go_ret
  exact HB.out.listF K.out.old
end Go.Proofs.Ytigljoafmefbnaa
