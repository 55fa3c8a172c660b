/-
  The walks of the reference's Below, down and Order. Condition: the places lie in memory.
-/
import Derived.Test.YtigljoafmefbnaaEf
namespace Go.Proofs.Ytigljoafmefbnaa
open Go.RowKit

/-- the places before k that are picked, and k if it has been met -/
def withK (u : List Nat) (k : Nat) (b : Bool) : List Int := toInts (if b = true then u ++ [k] else u)
def RB2 (W : World) (l : List Int) (u : List Nat) (k m : Nat) (f : Nat) (v q : Value) (wr : World) : Prop :=
  ∃ (z : Int) (b : Bool), (ups l z).length = f ∧ q = .int .i64 z ∧ z < l.length ∧ Bi W wr v (withK u k b) ∧ (above l k).contains m = (b || (ups l z).contains m) ∧ (b = true → m ∉ ups l z)
theorem fu_top {l : List Int} (h : Fo l) (k : Nat) : fu l k < l.length := by
  rcases neg_or (fu l k) with h0 | h0
  · omega
  · have := h.up k (fu l k).toNat (by omega)
    omega

set_option maxHeartbeats 2000000 in
theorem rbelow_is {A : Option Addr} {n cap : Nat} {l L : List Int} {i : Int} {w : World} (hn : n = l.length) (hn6 : n ≤ 1000000) (hL : IntsAt w w.heap.size A l) (hr : fbelow l i = L) :
    Calls Try.prog 27 #[.slice A n cap, .int .i64 i] w fun e w' => ∃ v, e = .returned v ∧ Bi w w' v L := by
  have HN := Lib.hid hn
  have HL := Lib.hid hL
  have HR := Lib.hid hr
  have H6 := Lib.hid hn6
  have H0 : Hid (Bi w w (.slice none 0 0) []) := Lib.hid ⟨World.ownsRow_nil _ _ _ _, Below.refl _ _⟩
  clear hn hL hr hn6
  rcases ht : there l i with _ | _
  · have HE : Hid (L = []) := Lib.hid (by rw [← HR.out, fbelow, ht]; rfl)
    have HT := Lib.hid ht
    clear ht
    go_enter Try.func27, Try.ntmps27
    go_wp2_with fail
    by_cases h0 : 0 < n
    · have h0' : (0 : Int) < (n : Int) := by omega
      go_loopg [5, 6] 1 (fun (k : Nat) (p q : Value) (wr : World) => p = .slice none 0 0 ∧ q = .int .i64 0 ∧ wr = w)
      case atStart => exact ⟨rfl, rfl, rfl⟩
      case round =>
        obtain ⟨rfl, rfl, rfl⟩ := hrel
        go_wp2_with fail
        refine (rthere_is HN.out HL.out HT.out).mono ?_
        rintro e w1 ⟨rfl, hb⟩
        have HB := Lib.hid hb
        clear hb
        go_wp2
        go_ret
        rw [HE.out]
        exact ⟨_, rfl, World.ownsRow_nil _ _ _ _, HB.out⟩
    · have h0' : ¬ (0 : Int) < (n : Int) := by omega
      go_loopg [5, 6] 1 (fun (k : Nat) (p q : Value) (wr : World) => p = .slice none 0 0 ∧ q = .int .i64 0 ∧ wr = w)
      case atStart => exact ⟨rfl, rfl, rfl⟩
      case round =>
        obtain ⟨rfl, rfl, rfl⟩ := hrel
        go_wp2
        go_ret
        rw [HE.out]
        exact ⟨_, rfl, World.ownsRow_nil _ _ _ _, below_self _⟩
  · obtain ⟨hF, m, rfl, hm, _⟩ := there_iff.1 ht
    have HF := Lib.hid hF
    have HE : Hid (L = toInts (pick (fun k => (above l k).contains m) n)) := Lib.hid (by rw [← HR.out, fbelow, if_pos ht, Int.toNat_natCast, belowN, pick, HN.out])
    have HT := Lib.hid ht
    clear ht hm hF
    go_enter Try.func27, Try.ntmps27
    go_wp2_with fail
    go_loopg [5, 6] n (fun k p q wr => RPickRel w n (fun k => (above l k).contains m) k p q wr)
    case atStart => exact ⟨0, by omega, H0.out, rfl⟩
    case round =>
      obtain ⟨i, hk, hb, rfl⟩ := hrel
      have HK := Lib.hid hk
      clear hk H0
      by_cases hlt : i < n
      · have HLT := Lib.hid hlt
        have hlt2 : (i : Int) < (n : Int) := by omega
        have HB := Lib.hid hb
        clear hb
        go_wp2_with fail
        refine (rthere_is HN.out (HL.out.on HB.out.old) HT.out).mono ?_
        rintro e w1 ⟨rfl, hb⟩
        have HB1 := Lib.hid (HB.out.on hb)
        clear hb HB
        obtain ⟨b, o, rfl, hblk, hc⟩ := at_open HL.out (by rw [← HN.out]; omega)
        have HC : Hid (b < w.heap.size ∧ ∀ k, k < l.length → w.cell? ⟨b, o + k, none⟩ = some (.int .i64 (fu l k))) := Lib.hid ⟨hblk, hc⟩
        have c1 : w1.cell? ⟨b, o + i, none⟩ = some (.int .i64 (fu l i)) := by
          rw [HB1.out.old.cell (p := ⟨b, _, none⟩) hblk]
          exact hc i (by rw [← HN.out]; exact hlt)
        clear hc hblk
        go_wp2_with fail
        clear c1
        go_loopg [5, 7] (above l i).length (fun f v q wr => RB2 w l (pick (fun k => (above l k).contains m) i) i m f v q wr)
        case atStart => exact ⟨fu l i, false, rfl, rfl, fu_top HF.out i, HB1.out, by rw [Bool.false_or]; rfl, fun h => by cases h⟩
        case round =>
          obtain ⟨z, bb, hz, rfl, hzl, hb, hco, hno⟩ := hrel
          have HB2 := Lib.hid hb
          clear hb HB1
          by_cases h0 : z < 0
          · have HP : Hid (toInts (pick (fun k => (above l k).contains m) (i + 1)) = withK (pick (fun k => (above l k).contains m) i) i bb) := Lib.hid (by
              rw [ups_neg h0] at hco
              cases bb
              · rw [pick_no (p := fun k => (above l k).contains m) (by simpa using hco)]; rfl
              · rw [pick_yes (p := fun k => (above l k).contains m) (by simpa using hco)]; rfl)
            clear hz hzl hco hno
            go_wp2
            go_roundg (n - (i + 1))
            case measure => have := HK.out; have := HLT.out; omega
            case rel => exact ⟨i + 1, by have := HLT.out; omega, by rw [HP.out]; exact HB2.out, (by refine congrArg _ ?_; have := H6.out; have := HLT.out; first | rfl | (unfold wrap64; omega))⟩
          · obtain ⟨x, rfl⟩ : ∃ x : Nat, z = x := ⟨z.toNat, by omega⟩
            have hxl : x < l.length := by omega
            have hcons := HF.out.ups_cons hxl
            have h3 : (0 : Int) ≤ (x : Int) := by omega
            have hxn : (x : Int) < (n : Int) := by rw [HN.out]; omega
            have HZ : Hid ((ups l (fu l x)).length + 1 = gk) := Lib.hid (by rw [← hz, hcons]; rfl)
            have HU := Lib.hid (fu_top HF.out x)
            by_cases hxm : x = m
            · subst hxm
              have hbb : bb = false := by
                cases bb
                · rfl
                · exact absurd (by rw [hcons]; exact List.mem_cons_self ..) (hno rfl)
              subst hbb
              have HCO : Hid ((above l i).contains x = (true || (ups l (fu l x)).contains x)) := Lib.hid (by rw [hco, hcons]; simp)
              have HNO : Hid (x ∉ ups l (fu l x)) := Lib.hid (HF.out.self_above x)
              obtain ⟨u, hu⟩ : ∃ u, u = withK (pick (fun k => (above l k).contains x) i) i false := ⟨_, rfl⟩
              have HW : Hid (withK (pick (fun k => (above l k).contains x) i) i true = u ++ [(i : Int)]) := Lib.hid (by rw [hu, withK, withK, if_pos rfl, if_neg (by decide), toInts_append]; rfl)
              have hq : u.length ≤ 1000000 := by rw [hu, withK, if_neg (by decide), toInts_length]; have := pick_len (fun k => (above l k).contains x) i; have := H6.out; omega
              rw [← hu] at HB2
              have HB3 := Lib.hid (HB2.out.alloc (.cells #[.int .i64 (i : Int)] 3))
              have HNEW := Lib.hid (one_new wr i)
              have HSZ : Hid (w.heap.size ≤ (wr.alloc (.cells #[.int .i64 (i : Int)] 3)).heap.size) := Lib.hid HB3.out.old.size
              obtain ⟨i0, hii, hz0, hz1, hz2⟩ := info3_parts
              have HONE := Lib.hid (one_plain i)
              clear hu HB2 hz hzl hco hno hcons h0
              go_wp2_with (at_builtin; refine wpList_append_own _ rfl _ _ 23 rfl w.heap.size 3 i0 (.int .i64 0) 1 8 Try.underlying23 hii hz0 hz1 hz2 rfl (by decide) _ _ _ rfl HB3.out.own ⟨wr.heap.size, 0, none⟩ 1 1 [.int .i64 i] rfl rfl HNEW.out HONE.out ?c3 ?c4 HSZ.out ?_)
              case c3 => unfold maxLen; omega
              case c4 => omega
              intro v' w4 hown hgrow _
              have HB4 := Lib.hid (HB3.out.more (l' := withK (pick (fun k => (above l k).contains x) i) i true) hgrow (by rw [HW.out, icells_append, List.length_append]; exact hown))
              have c2 : w4.cell? ⟨b, o + x, none⟩ = some (.int .i64 (fu l x)) := by
                rw [HB4.out.old.cell (p := ⟨b, _, none⟩) HC.out.1]
                exact HC.out.2 x hxl
              clear hown hgrow HB3 HNEW HSZ HONE hq hxl
              go_wp2
              go_roundg (gk - 1)
              case measure => have := HZ.out; omega
              case rel => exact ⟨fu l x, true, by have := HZ.out; omega, rfl, HU.out, HB4.out, HCO.out, fun _ => HNO.out⟩
            · have hmx : ¬ m = x := fun e => hxm e.symm
              have HCO : Hid ((above l i).contains m = (bb || (ups l (fu l x)).contains m)) := Lib.hid (by
                rw [hco, hcons, List.contains_cons, above, beq_eq_false_iff_ne.2 hmx, Bool.false_or])
              have HNO : Hid (bb = true → m ∉ ups l (fu l x)) := Lib.hid fun q r => hno q (by rw [hcons]; exact List.mem_cons_of_mem _ r)
              have hxm' : ¬ (x : Int) = (m : Int) := by omega
              have hxm2 : ((x : Int) == (m : Int)) = false := by simp; omega
              have c2 : wr.cell? ⟨b, o + x, none⟩ = some (.int .i64 (fu l x)) := by
                rw [HB2.out.old.cell (p := ⟨b, _, none⟩) HC.out.1]
                exact HC.out.2 x hxl
              clear hz hzl hco hno hcons hxm h0 hmx hxl
              go_wp2
              go_roundg (gk - 1)
              case measure => have := HZ.out; omega
              case rel => exact ⟨fu l x, bb, by have := HZ.out; omega, rfl, HU.out, HB2.out, HCO.out, HNO.out⟩
      · have hin : i = n := by have := HK.out; omega
        subst hin
        rw [← HE.out] at hb
        have HB := Lib.hid hb
        have hlt2 : ¬ (i : Int) < (i : Int) := by omega
        clear hb hlt
        go_wp2
        go_ret
        first | exact ⟨_, rfl, HB.out⟩ | exact HB.out

theorem pick_more (p : Nat → Bool) {i n : Nat} (h : i ≤ n) : ∃ r, pick p n = pick p i ++ r := by
  induction h with
  | refl => exact ⟨[], by simp⟩
  | @step m _ ih =>
    obtain ⟨r, hr⟩ := ih
    cases hm : p m with
    | true => exact ⟨r ++ [m], by rw [pick_yes hm, hr, List.append_assoc]⟩
    | false => exact ⟨r, by rw [pick_no hm, hr]⟩
theorem flat_more {g : Nat → List Nat} {p : Nat → Bool} {i n : Nat} (h : i ≤ n) : ((pick p i).flatMap g).length ≤ ((pick p n).flatMap g).length := by
  obtain ⟨r, hr⟩ := pick_more p h
  rw [hr, List.flatMap_append, List.length_append]
  omega
def RDownRel (W : World) (n : Nat) (l : List Int) (f i : Nat) (pre : List Int) (k : Nat) (v q : Value) (wr : World) : Prop :=
  ∃ j : Nat, k + j = n ∧ Bi W wr v (pre ++ toInts (i :: (pick (fun k => decide (fu l k = (i : Int))) j).flatMap (down l f))) ∧ q = .int .i64 j

set_option maxHeartbeats 4000000 in
theorem rdown_any {A : Option Addr} {n cap : Nat} {l : List Int} {W : World} (hF : Fo l) (hn : n = l.length) (hL : IntsAt W W.heap.size A l) : ∀ (f i : Nat), i < l.length → l.length ≤ dep l i + f → ∀ (pre : List Int) (v : Value) (w : World), Bi W w v pre → pre.length + (down l f i).length ≤ 1000000 →
    Calls Try.prog 38 #[.slice A n cap, .int .i64 (i : Int), v] w fun e w' => ∃ v', e = .returned v' ∧ Bi W w' v' (pre ++ toInts (down l f i)) := by
  intro f
  induction f with
  | zero =>
    intro i hi hd
    have := hF.dep_lt hi
    omega
  | succ f ih =>
    intro i hi hd pre v w hB hb
    have HN := Lib.hid hn
    have HL := Lib.hid hL
    have HF := Lib.hid hF
    have HI := Lib.hid hi
    have HD := Lib.hid hd
    have HBD : Hid (pre.length + (1 + ((pick (fun k => decide (fu l k = (i : Int))) n).flatMap (down l f)).length) ≤ 1000000) := Lib.hid (by
      rw [down, List.length_cons, kidsN] at hb
      rw [pick, HN.out]
      omega)
    have hq : pre.length ≤ 1000000 := by omega
    have IH := Lib.hid ih
    have H96 := Lib.hid hF.few
    have HB1 := Lib.hid (hB.alloc (.cells #[.int .i64 (i : Int)] 3))
    have HNEW := Lib.hid (one_new w i)
    have HSZ : Hid (W.heap.size ≤ (w.alloc (.cells #[.int .i64 (i : Int)] 3)).heap.size) := Lib.hid HB1.out.old.size
    obtain ⟨i0, hii, hz0, hz1, hz2⟩ := info3_parts
    have HONE := Lib.hid (one_plain i)
    clear hn hL hF hi hd hB hb ih
    go_enter Try.func38, Try.ntmps38
    go_wp2_with (at_builtin; refine wpList_append_own _ rfl _ _ 23 rfl W.heap.size 3 i0 (.int .i64 0) 1 8 Try.underlying23 hii hz0 hz1 hz2 rfl (by decide) _ _ _ rfl HB1.out.own ⟨w.heap.size, 0, none⟩ 1 1 [.int .i64 i] rfl rfl HNEW.out HONE.out ?c3 ?c4 HSZ.out ?_)
    case c3 => unfold maxLen; omega
    case c4 => omega
    intro v' w4 hown hgrow _
    have HB2 := Lib.hid (HB1.out.more (l' := pre ++ [(i : Int)]) hgrow (by rw [icells_append, List.length_append]; exact hown))
    clear hown hgrow HB1 HNEW HSZ HONE hq
    go_wp2_with fail
    go_loopg [2, 7] n (fun k p q wr => RDownRel W n l f i pre k p q wr)
    case atStart => exact ⟨0, by omega, HB2.out, rfl⟩
    case round =>
      obtain ⟨j, hk, hb, rfl⟩ := hrel
      have HK := Lib.hid hk
      have HB := Lib.hid hb
      clear hk hb HB2
      by_cases hlt : j < n
      · have HLT := Lib.hid hlt
        have hlt2 : (j : Int) < (n : Int) := by omega
        obtain ⟨b, o, rfl, hblk, hc⟩ := at_open HL.out (by rw [← HN.out]; omega)
        have c1 : wr.cell? ⟨b, o + j, none⟩ = some (.int .i64 (fu l j)) := by
          rw [HB.out.old.cell (p := ⟨b, _, none⟩) hblk]
          exact hc j (by rw [← HN.out]; exact hlt)
        obtain ⟨x, hx⟩ : ∃ x, fu l j = x := ⟨_, rfl⟩
        rw [hx] at c1
        by_cases hxi : x = (i : Int)
        · subst hxi
          have hds := HF.out.dep_succ hx
          have hpk : pick (fun k => decide (fu l k = (i : Int))) (j + 1) = pick (fun k => decide (fu l k = (i : Int))) j ++ [j] := pick_yes (by simp [hx])
          have HP : Hid (pre ++ toInts (i :: (pick (fun k => decide (fu l k = (i : Int))) (j + 1)).flatMap (down l f)) = (pre ++ toInts (i :: (pick (fun k => decide (fu l k = (i : Int))) j).flatMap (down l f))) ++ toInts (down l f j)) := Lib.hid (by
            rw [hpk, List.flatMap_append, List.flatMap_singleton, ← List.cons_append, toInts_append, List.append_assoc])
          have HCALL := Lib.hid (IH.out j (by rw [← HN.out]; exact hlt) (by have := HD.out; omega) (pre ++ toInts (i :: (pick (fun k => decide (fu l k = (i : Int))) j).flatMap (down l f))) u2 wr HB.out (by
            have h1 := HBD.out
            have h2 := flat_more (g := down l f) (p := fun k => decide (fu l k = (i : Int))) (show j + 1 ≤ n by omega)
            rw [hpk, List.flatMap_append, List.flatMap_singleton, List.length_append] at h2
            rw [List.length_append, toInts_length, List.length_cons]
            omega))
          clear hc hblk hx hds hpk
          go_wp2_with fail
          refine HCALL.out.mono ?_
          rintro e w5 ⟨v5, rfl, hb5⟩
          rw [← HP.out] at hb5
          have HB5 := Lib.hid hb5
          clear hb5 c1 HCALL HP
          go_wp2
          go_roundg (n - (j + 1))
          case measure => have := HK.out; have := HLT.out; omega
          case rel => exact ⟨j + 1, by have := HLT.out; omega, HB5.out, (by refine congrArg _ ?_; have := H96.out; have := HN.out; have := HLT.out; first | rfl | (unfold wrap64; omega))⟩
        · have HP : Hid (pick (fun k => decide (fu l k = (i : Int))) (j + 1) = pick (fun k => decide (fu l k = (i : Int))) j) := Lib.hid (pick_no (by simp [hx, hxi]))
          have h3 : (x == (i : Int)) = false := by simp [hxi]
          clear hc hblk hx
          go_wp2
          go_roundg (n - (j + 1))
          case measure => have := HK.out; have := HLT.out; omega
          case rel => exact ⟨j + 1, by have := HLT.out; omega, by rw [HP.out]; exact HB.out, (by refine congrArg _ ?_; have := H96.out; have := HN.out; have := HLT.out; first | rfl | (unfold wrap64; omega))⟩
      · have hin : j = n := by have := HK.out; omega
        subst hin
        have hlt2 : ¬ (j : Int) < (j : Int) := by omega
        have HE : Hid (i :: (pick (fun k => decide (fu l k = (i : Int))) j).flatMap (down l f) = down l (f + 1) i) := Lib.hid (by rw [down, kidsN, pick, HN.out])
        go_wp2
        go_ret
        rw [← HE.out]
        first | exact ⟨u2, rfl, HB.out⟩ | exact HB.out

def ROrdRel (W : World) (n : Nat) (l : List Int) (k : Nat) (v q : Value) (wr : World) : Prop :=
  ∃ j : Nat, k + j = n ∧ Bi W wr v (toInts ((pick (fun k => decide (fu l k = -1)) j).flatMap (down l n))) ∧ q = .int .i64 j
set_option maxHeartbeats 2000000 in
theorem rorder_is {A : Option Addr} {n cap : Nat} {l L : List Int} {w : World} (hn : n = l.length) (hL : IntsAt w w.heap.size A l) (hr : forder l = L) :
    Calls Try.prog 28 #[.slice A n cap] w fun e w' => ∃ B cb, e = .returned (.slice B L.length cb) ∧ IntsAt w' w'.heap.size B L ∧ Below w.heap.size w w' := by
  have HN := Lib.hid hn
  have HL := Lib.hid hL
  have HR := Lib.hid hr
  clear hn hL hr
  go_enter Try.func28, Try.ntmps28
  go_wp2_with fail
  rcases hg : fgood l with _ | _
  · have HE : Hid (L = []) := Lib.hid (by rw [← HR.out, forder, hg]; rfl)
    refine (rgoodf_is HN.out HL.out hg).mono ?_
    rintro e w1 ⟨rfl, hb⟩
    have HB := Lib.hid hb
    clear hb hg
    go_wp2
    go_ret
    rw [HE.out]
    first | exact ⟨none, 0, rfl, none_at _, HB.out⟩ | exact ⟨none, ⟨0, rfl⟩, none_at _, HB.out⟩
  have hF := fo_iff.1 hg
  have HF := Lib.hid hF
  have HE : Hid (L = toInts ((pick (fun k => decide (fu l k = -1)) n).flatMap (down l n))) := Lib.hid (by rw [← HR.out, forder, if_pos hg, orderN, rootsN, pick, HN.out])
  have HFEW : Hid (((pick (fun k => decide (fu l k = -1)) n).flatMap (down l n)).length ≤ 96) := Lib.hid (by
    have := orderN_few hF
    have := hF.few
    rw [orderN, rootsN] at *
    rw [pick, HN.out]
    omega)
  refine (rgoodf_is HN.out HL.out hg).mono ?_
  rintro e w1 ⟨rfl, hb⟩
  have H0 : Hid (Bi w w1 (.slice none 0 0) []) := Lib.hid ⟨World.ownsRow_nil _ _ _ _, hb⟩
  clear hb hg hF
  go_wp2_with fail
  go_loopg [3, 4] n (fun k p q wr => ROrdRel w n l k p q wr)
  case atStart => exact ⟨0, by omega, H0.out, rfl⟩
  case round =>
    obtain ⟨j, hk, hb, rfl⟩ := hrel
    have HK := Lib.hid hk
    have HB := Lib.hid hb
    clear hk H0
    by_cases hlt : j < n
    · have HLT := Lib.hid hlt
      have hlt2 : (j : Int) < (n : Int) := by omega
      obtain ⟨b, o, rfl, hblk, hc⟩ := at_open HL.out (by rw [← HN.out]; omega)
      have c1 : wr.cell? ⟨b, o + j, none⟩ = some (.int .i64 (fu l j)) := by
        rw [HB.out.old.cell (p := ⟨b, _, none⟩) hblk]
        exact hc j (by rw [← HN.out]; exact hlt)
      obtain ⟨x, hx⟩ : ∃ x, fu l j = x := ⟨_, rfl⟩
      rw [hx] at c1
      by_cases hxi : x = -1
      · subst hxi
        have hpk : pick (fun k => decide (fu l k = -1)) (j + 1) = pick (fun k => decide (fu l k = -1)) j ++ [j] := pick_yes (by simp [hx])
        have HP : Hid (toInts ((pick (fun k => decide (fu l k = -1)) (j + 1)).flatMap (down l n)) = toInts ((pick (fun k => decide (fu l k = -1)) j).flatMap (down l n)) ++ toInts (down l n j)) := Lib.hid (by
          rw [hpk, List.flatMap_append, List.flatMap_singleton, toInts_append])
        have HCALL := Lib.hid (rdown_any (cap := cap) HF.out HN.out HL.out n j (by rw [← HN.out]; exact hlt) (by rw [← HN.out]; omega) _ _ wr HB.out (by
          have h1 := HFEW.out
          have h2 := flat_more (g := down l n) (p := fun k => decide (fu l k = -1)) (show j + 1 ≤ n by omega)
          rw [hpk, List.flatMap_append, List.flatMap_singleton, List.length_append] at h2
          rw [toInts_length]
          omega))
        clear hc hblk hx hpk hb
        go_wp2_with fail
        refine HCALL.out.mono ?_
        rintro e w5 ⟨v5, rfl, hb5⟩
        rw [← HP.out] at hb5
        have HB5 := Lib.hid hb5
        clear hb5 c1 HCALL HP
        go_wp2
        go_roundg (n - (j + 1))
        case measure => have := HK.out; have := HLT.out; omega
        case rel => exact ⟨j + 1, by have := HLT.out; omega, HB5.out, (by refine congrArg _ ?_; have := HF.out.few; have := HN.out; have := HLT.out; first | rfl | (unfold wrap64; omega))⟩
      · have HP : Hid (pick (fun k => decide (fu l k = -1)) (j + 1) = pick (fun k => decide (fu l k = -1)) j) := Lib.hid (pick_no (by simp [hx, hxi]))
        have h3 : (x == -1) = false := by simp [hxi]
        clear hc hblk hx hb
        go_wp2
        go_roundg (n - (j + 1))
        case measure => have := HK.out; have := HLT.out; omega
        case rel => exact ⟨j + 1, by have := HLT.out; omega, by rw [HP.out]; exact HB.out, (by refine congrArg _ ?_; have := HF.out.few; have := HN.out; have := HLT.out; first | rfl | (unfold wrap64; omega))⟩
    · have hin : j = n := by have := HK.out; omega
      subst hin
      rw [← HE.out] at hb
      obtain ⟨B, cb, rfl, hi⟩ := hb.ints
      have ho := hb.old
      have HI := Lib.hid hi
      have HO := Lib.hid ho
      have hlt2 : ¬ (j : Int) < (j : Int) := by omega
      clear hb hi ho hlt
      go_wp2
      go_ret
      first | exact ⟨B, cb, rfl, HI.out, HO.out⟩ | exact ⟨B, ⟨cb, rfl⟩, HI.out, HO.out⟩
end Go.Proofs.Ytigljoafmefbnaa
