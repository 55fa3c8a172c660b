/-
  The walks of the reference's Fence, Fuse, Words, Out. Conditions: fewer counted than 2 to the 62; lists shorter than a million.
-/
import Derived.Test.YtehfkibpcdcddaaNr
import Derived.Laws.AppendOwnNone
namespace Go.Proofs.Ytehfkibpcdcddaa
open Go.RowKit

def RTurnRel (W : World) (b rb F : Nat) (m : Mm) (g : Nat → Ln → Ln) (k : Nat) (p : Value) (wr : World) : Prop :=
  ∃ i : Nat, k + i = m.rows.length ∧ p = .int .i64 i ∧ RAt wr b rb F { m with rows := part g m.rows i } ∧ Own b rb W wr

set_option maxHeartbeats 1000000 in
theorem rmfence_any (b rb F : Nat) (m : Mm) (w : World) (h : RAt w b rb F m) (n0 : 0 ≤ m.n) (n1 : m.n < 4611686018427387904) :
    Calls Try.prog 30 #[.pointer (some ⟨b, 0, none⟩)] w fun e w' => e = .returned (.int .i64 m.fence.1) ∧ RAt w' b rb F m.fence.2 ∧ Own b rb w w' := by
  have HM := Lib.hid h
  have N0 := Lib.hid n0
  have N1 := Lib.hid n1
  have c1 := h.c1
  obtain ⟨of, ho⟩ : ∃ of, m.off = of := ⟨_, rfl⟩
  rw [ho] at c1
  cases of
  · have hx : m.may true = 0 := by unfold Mm.may; rw [if_neg (by rw [ho]; simp)]; rfl
    have hb : m.begin true = ((if m.tick.1 = true then 0 else 12), m.tick.2) := by rw [begin_tick, if_pos hx]
    rcases htk : m.tick with ⟨t, m2⟩
    rw [htk] at hb
    have HTK := Lib.hid htk
    have HOF := Lib.hid ho
    cases t
    · have hl : m.fence = (12, m2) := by unfold Mm.fence; rw [hb]; rfl
      rw [hl]
      clear h hx hl n0 n1 hb htk ho
      go_enter Try.func30, Try.ntmps30
      go_wp2_with (go_at_call 49; refine (rcount_any b rb F m _ HM.out HOF.out N0.out N1.out).mono ?_; rw [HTK.out]; rintro e w' ⟨rfl, hm, ho⟩; have HM2 := Lib.hid hm; have HO := Lib.hid ho; clear hm ho)
      go_ret
      exact ⟨rfl, HM2.out, HO.out⟩
    · have hl : m.fence = (0, m2.fences) := by unfold Mm.fence; rw [hb]; rfl
      rw [hl]
      clear h hx hl n0 n1 hb htk ho
      go_enter Try.func30, Try.ntmps30
      go_wp2_with fail
      refine (rcount_any b rb F m _ HM.out HOF.out N0.out N1.out).mono ?_
      rw [HTK.out]
      rintro e w1 ⟨rfl, hm, ho⟩
      have hf := hm.few
      have HM2 := Lib.hid hm
      have HO := Lib.hid ho
      clear hm ho HTK HM N0 N1 c1 HOF
      obtain ⟨n, hn⟩ : ∃ n, n = m2.rows.length := ⟨_, rfl⟩
      rw [← hn] at hf
      have HN := Lib.hid hn
      clear hn
      go_wp2_with fail
      go_loopg [3] n (fun k p wr => RTurnRel w b rb F m2 (fun _ r => r.fence) k p wr)
      case atStart => exact ⟨0, HN.out, rfl, by rw [part_zero]; exact HM2.out, HO.out⟩
      case round =>
        obtain ⟨i, hk, rfl, hm, ho⟩ := hrel
        have HG := Lib.hid hk
        have HMW := Lib.hid hm
        have HO2 := Lib.hid ho
        have c0 := hm.c0
        simp only [part_length] at c0
        rw [← HN.out] at c0
        clear hk hm ho
        by_cases hlt : i < n
        · have HLT := Lib.hid hlt
          have hlt2 : (i : Int) < (n : Int) := by omega
          obtain ⟨r, hr⟩ : ∃ r, m2.rows[i]? = some r := ⟨m2.rows[i]'(by rw [← HN.out]; exact hlt), List.getElem?_eq_getElem _⟩
          have HR := Lib.hid hr
          have HA := Lib.hid (HMW.out.rows i r (by rw [part_get]; exact hr))
          clear hr
          go_wp2_with (go_at_call 53; refine (rfence_any rb (i * 18) r _ HA.out).mono ?_; rintro e w' ⟨rfl, ht⟩; have HT := Lib.hid ht; clear ht)
          go_roundg (n - (i + 1))
          case measure => have := HG.out; have := HN.out; have := HLT.out; omega
          case rel =>
            have hrow := HMW.out.row HT.out
            simp only at hrow
            rw [part_succ (fun _ r => r.fence) _ _ _ HR.out] at hrow
            exact ⟨i + 1, by have := HN.out; have := HLT.out; omega, by go_num, hrow, HO2.out.trans (Own.fr2 HT.out.fr)⟩
        · have hi : i = n := by have := HG.out; have := HN.out; omega
          subst hi
          go_wp2
          go_ret
          refine ⟨rfl, ?_, HO2.out⟩
          have := HMW.out
          rw [part_all _ _ _ (by rw [← HN.out]; omega)] at this
          exact this
  · have hl : m.fence = (12, m) := by
      have hx : m.may true = 12 := by unfold Mm.may; rw [if_pos ho]
      have hb : m.begin true = (12, m) := by rw [begin_tick, if_neg (by rw [hx]; decide), hx]
      unfold Mm.fence
      rw [hb]; rfl
    rw [hl]
    clear h n0 n1 ho hl
    go_enter Try.func30, Try.ntmps30
    go_wp2
    go_ret
    exact ⟨rfl, HM.out, Own.refl _ _ _⟩

theorem owns_none (w : World) {base : Nat} (h : base ≤ w.heap.size) : (w.alloc (.cells #[] 3)).ownsRow base 3 1 (.slice (some ⟨w.heap.size, 0, none⟩) 0 0) 0 [] :=
  ⟨rfl, .inr ⟨w.heap.size, 0, #[], rfl, h, heap_alloc_new w _, Nat.le_refl _, Nat.zero_le _, rfl, rfl⟩⟩

theorem rlit {w : World} {b rb F : Nat} {m : Mm} (h : RAt w b rb F m) (c : Int) (l : List Int) (x : Value) (hoff : m.off = false) (hc : c ≤ 9223372036854775807) (hl : l.length ≤ 1000000) (hx : Lies w F x .i64 l) :
    RAt ((w.setCell ⟨b, 3, none⟩ (.int .i64 c)).setCell ⟨b, 4, none⟩ x) b rb F (m.light c l) ∧ Own b rb w ((w.setCell ⟨b, 3, none⟩ (.int .i64 c)).setCell ⟨b, 4, none⟩ x) := by
  have f1 : Fr w (w.setCell ⟨b, 3, none⟩ (.int .i64 c)) b 1 4 := Fr.set_ w _ (by omega) (by omega)
  have f2 : Fr (w.setCell ⟨b, 3, none⟩ (.int .i64 c)) ((w.setCell ⟨b, 3, none⟩ (.int .i64 c)).setCell ⟨b, 4, none⟩ x) b 1 4 := Fr.set_ _ _ (by omega) (by omega)
  have f3 := f1.trans f2
  obtain ⟨z, v, h3, h4, _⟩ := h.c34
  have o : ∀ i, i ≠ 3 → i ≠ 4 → ((w.setCell ⟨b, 3, none⟩ (.int .i64 c)).setCell ⟨b, 4, none⟩ x).cell? ⟨b, i, none⟩ = w.cell? ⟨b, i, none⟩ := fun i hi hj => by
    rw [World.cell?_setCell_other _ _ _ _ (fun e => by injection e with _ e; omega), World.cell?_setCell_other _ _ _ _ (fun e => by injection e with _ e; omega)]
  have e3 : ((w.setCell ⟨b, 3, none⟩ (.int .i64 c)).setCell ⟨b, 4, none⟩ x).cell? ⟨b, 3, none⟩ = some (.int .i64 c) := by
    rw [World.cell?_setCell_other _ _ _ _ (fun e => by injection e with _ e; omega), World.cell?_setCell_same _ _ _ h3]
  have e4 : ((w.setCell ⟨b, 3, none⟩ (.int .i64 c)).setCell ⟨b, 4, none⟩ x).cell? ⟨b, 4, none⟩ = some x := by
    rw [World.cell?_setCell_same _ _ _ ((World.cell?_setCell_other _ _ _ _ (fun e => by injection e with _ e; omega)).trans h4)]
  have hlo : (m.light c l).off = m.off := by unfold Mm.light; rw [if_neg (by rw [hoff]; simp)]; split <;> rfl
  have hln : (m.light c l).n = m.n := by unfold Mm.light; rw [if_neg (by rw [hoff]; simp)]; split <;> rfl
  have hlr : (m.light c l).rows = m.rows := by unfold Mm.light; rw [if_neg (by rw [hoff]; simp)]; split <;> rfl
  refine ⟨h.cells_ f3 hlr (Nat.le_refl _) (by rw [o 1 (by omega) (by omega), hlo]; exact h.c1) (by rw [o 2 (by omega) (by omega), hln]; exact h.c2) ⟨c, x, e3, e4, hc, ?_⟩, Own.fr f3⟩
  unfold Mm.light
  rw [if_neg (by rw [hoff]; simp)]
  by_cases hp : 1 ≤ c
  · rw [if_pos hp]
    exact .inr ⟨by omega, rfl, l, hx, hl, fun i => rfl⟩
  · rw [if_neg hp]
    exact .inl ⟨by omega, rfl⟩

set_option maxHeartbeats 1000000 in
theorem rfuse_any (b rb F B : Nat) (m : Mm) (c : Int) (A : Option Addr) (cap : Nat) (l : List Int) (w : World) (h : RAt w b rb F m) (hc : c ≤ 9223372036854775807) (hl : l.length ≤ 1000000) (hA : A = none → cap = 0) (hL : IntsAt w B A l) (hB : B ≤ w.heap.size) :
    Calls Try.prog 34 #[.pointer (some ⟨b, 0, none⟩), .int .i64 c, .slice A l.length cap] w fun e w' => e = .returned (.tuple #[]) ∧ RAt w' b rb F (m.light c l) ∧ Own b rb w w' := by
  have HM := Lib.hid h
  have HC := Lib.hid hc
  have c1 := h.c1
  obtain ⟨of, ho⟩ : ∃ of, m.off = of := ⟨_, rfl⟩
  rw [ho] at c1
  cases of
  · have HOF := Lib.hid ho
    have hal : Below w.heap.size w (w.alloc (.cells #[] 3)) := (Below.refl _ _).alloc (Nat.le_refl _) _
    obtain ⟨i0, hii, hz0, hz1, hz2⟩ := info3_parts
    have HOW := Lib.hid (owns_none w (Nat.le_refl w.heap.size))
    have HLL := Lib.hid hl
    cases A with
    | none =>
      have hlen : l.length = 0 := by
        by_cases e : l.length = 0
        · exact e
        · obtain ⟨_, _, e2, _⟩ := hL (by omega)
          cases e2
      have hnil : l = [] := List.length_eq_zero_iff.1 hlen
      have hcap := hA rfl
      subst hnil hcap
      have hm1 := h.below hal
      have hli : Lies (w.alloc (.cells #[] 3)) F (.slice (some ⟨w.heap.size, 0, none⟩) 0 0) .i64 [] := ⟨_, _, rfl, fun h0 => absurd h0 (by simp)⟩
      have hr := rlit hm1 c [] _ ho hc hl hli
      have HR := Lib.hid hr
      obtain ⟨z, v, c3, c4, _⟩ := hm1.c34
      have f3 := hm1.free 3 (by omega)
      have f4 := hm1.free 4 (by omega)
      have HAL := Lib.hid hal
      clear h hc hl hA hL ho hlen hal hm1 hli hr
      rw [List.length_nil]
      go_enter Try.func34, Try.ntmps34
      go_wp2_with (at_builtin; refine wpList_append_own_none rfl _ _ 33 rfl w.heap.size 3 i0 1 Try.underlying33 hii _ 0 [] rfl HOW.out rfl ?_)
      go_end0
      exact ⟨rfl, HR.out.1, (Own.of_below HAL.out).trans HR.out.2⟩
    | some ad =>
      have hnew : ∀ j u, (l.map (Value.int .i64))[j]? = some u → (w.alloc (.cells #[] 3)).cell? (ad.add j) = some u := fun j u hu => by
        rw [List.getElem?_map] at hu
        cases hq : l[j]? with
        | none => rw [hq] at hu; cases hu
        | some z =>
          rw [hq] at hu
          injection hu with hu
          obtain ⟨g, o, e, hlt, hcs⟩ := hL (by have := (List.getElem?_eq_some_iff.1 hq).1; omega)
          injection e with e
          rw [e, Addr.add_mid, (hal.cell (p := ⟨g, _, none⟩) (by show g < _; omega)), hcs j z hq, ← hu]
      have HNEW := Lib.hid hnew
      have HONE : Hid (∀ u ∈ l.map (Value.int .i64), u.oneCell' = true) := Lib.hid (fun u hu => by obtain ⟨x, _, rfl⟩ := List.mem_map.1 hu; rfl)
      have HS : Hid (w.heap.size ≤ (w.alloc (.cells #[] 3)).heap.size) := Lib.hid hal.size
      have HAL := Lib.hid hal
      have HLE : Hid ((l.map (Value.int .i64)).length = l.length * 1) := Lib.hid (by simp)
      obtain ⟨q, hq⟩ : ∃ q, q = l.length := ⟨_, rfl⟩
      rw [← hq] at hl HLE ⊢
      have HQ := Lib.hid hq
      clear h hc hA hL ho hal hnew hq
      go_enter Try.func34, Try.ntmps34
      go_wp2_with (at_builtin; refine wpList_append_own _ rfl _ _ 33 rfl w.heap.size 3 i0 (.int .i64 0) 1 8 Try.underlying33 hii hz0 hz1 hz2 rfl (by decide) _ 0 [] rfl HOW.out ad q cap (l.map (Value.int .i64)) rfl HLE.out HNEW.out HONE.out ?c3 ?c4 HS.out ?_)
      case c3 => unfold maxLen; omega
      case c4 => omega
      intro v' w4 hown hgrow _
      have hb4 : Below w.heap.size w w4 := HAL.out.grown hgrow HS.out (fun k hk => by simp [Value.ownBlock] at hk; omega)
      have hli : Lies w4 w.heap.size v' .i64 l := lies_of_owns (by rw [← HQ.out]; exact hown)
      obtain ⟨A', cap', rfl, hcc⟩ := hli
      have hm4 := HM.out.below hb4
      have hli2 : Lies w4 F (.slice A' l.length cap') .i64 l := ⟨A', cap', rfl, fun h0 => by
        obtain ⟨g, o, e1, g1, g2, g3⟩ := hcc h0
        exact ⟨g, o, e1, Nat.le_trans HM.out.sz g1, g2, g3⟩⟩
      have hr := rlit hm4 c l _ HOF.out HC.out HLL.out hli2
      rw [← HQ.out] at hr ⊢
      have HR := Lib.hid hr
      have HB4 := Lib.hid hb4
      obtain ⟨z, v, c3, c4, _⟩ := hm4.c34
      have f3 := hm4.free 3 (by omega)
      have f4 := hm4.free 4 (by omega)
      clear hown hgrow hcc hm4 hli2 hr hb4
      go_wp2
      go_end0
      exact ⟨rfl, HR.out.1, (Own.of_below HB4.out).trans HR.out.2⟩
  · have hlt : m.light c l = m := by unfold Mm.light; rw [if_pos ho]
    rw [hlt]
    clear h hc hl hA hL ho hlt
    go_enter Try.func34, Try.ntmps34
    go_wp2
    go_end0
    exact ⟨rfl, HM.out, Own.refl _ _ _⟩
def ROutRel (W : World) (m : Mm) (k : Nat) (p3 p4 : Value) (wr : World) : Prop :=
  ∃ i : Nat, k + i = m.rows.length ∧ p4 = .int .i64 i ∧ Bld W wr 3 p3 (outsOf m.rows i).length ((outsOf m.rows i).map (Value.int .i64))

set_option maxHeartbeats 2000000 in
theorem rout_any (b rb F : Nat) (m : Mm) (w : World) (h : RAt w b rb F m) :
    Calls Try.prog 37 #[.pointer (some ⟨b, 0, none⟩)] w fun e w' => ∃ v, e = .returned v ∧ Lies w' w.heap.size v .i64 m.outs ∧ Below w.heap.size w w' := by
  have HM := Lib.hid h
  have hf := h.few
  clear h
  obtain ⟨n, hn⟩ : ∃ n, n = m.rows.length := ⟨_, rfl⟩
  rw [← hn] at hf
  have HN := Lib.hid hn
  clear hn
  have H0 : Hid (Bld w w 3 (.slice none 0 0) 0 []) := Lib.hid ⟨World.ownsRow_nil _ _ _ _, Below.refl _ _⟩
  go_enter Try.func37, Try.ntmps37
  go_wp2_with fail
  go_loopg [3, 4] n (fun k p q wr => ROutRel w m k p q wr)
  case atStart => exact ⟨0, HN.out, rfl, by simpa [outsOf] using H0.out⟩
  case round =>
    obtain ⟨i, hk, rfl, hb⟩ := hrel
    have HK := Lib.hid hk
    have HB := Lib.hid hb
    have HMW := Lib.hid (HM.out.below hb.old)
    have c0 := HMW.out.c0
    rw [← HN.out] at c0
    clear hk hb H0
    by_cases hlt : i < n
    · have HLT := Lib.hid hlt
      have hlt2 : (i : Int) < (n : Int) := by omega
      obtain ⟨r, hr⟩ : ∃ r, m.rows[i]? = some r := ⟨m.rows[i]'(by rw [← HN.out]; exact hlt), List.getElem?_eq_getElem _⟩
      have HR := Lib.hid hr
      have ha := HMW.out.rows i r hr
      have c1 := ha.out
      obtain ⟨ou, ho⟩ : ∃ ou, r.out = ou := ⟨_, rfl⟩
      have HO := Lib.hid ho
      rw [ho] at c1
      clear hr ha ho
      cases ou
      · go_wp2_with fail
        go_roundg (n - (i + 1))
        case measure => have := HK.out; have := HN.out; have := HLT.out; omega
        case rel =>
          exact ⟨i + 1, by have := HN.out; have := HLT.out; omega, by go_num, by rw [outsOf_no HR.out HO.out]; exact HB.out⟩
      · obtain ⟨q, hq⟩ : ∃ q, q = (outsOf m.rows i).length := ⟨_, rfl⟩
        have HQ := Lib.hid hq
        have hq2 : q ≤ 4096 := by have := outsOf_length m.rows i; omega
        have hb2 := HB.out.alloc (.cells #[.int .i64 i] 3)
        rw [← hq] at hb2
        have HB1 := Lib.hid hb2
        have hnew : ∀ j u, [Value.int .i64 (i : Int)][j]? = some u → (wr.alloc (.cells #[.int .i64 i] 3)).cell? ((⟨wr.heap.size, 0, none⟩ : Addr).add j) = some u := fun j u hu => by
          rw [Addr.add_mid, Nat.zero_add, cell_of_row _ _ j _ _ _ (heap_alloc_new wr _), ← hu]; simp
        have HNEW := Lib.hid hnew
        have HS : Hid (w.heap.size ≤ (wr.alloc (.cells #[.int .i64 i] 3)).heap.size) := Lib.hid HB1.out.old.size
        obtain ⟨i0, hii, hz0, hz1, hz2⟩ := info3_parts
        have HONE : Hid (∀ u ∈ [Value.int .i64 (i : Int)], u.oneCell' = true) := Lib.hid (by intro u hu; simp at hu; subst hu; rfl)
        clear hnew hb2 hq
        go_wp2_with (at_builtin; refine wpList_append_own _ rfl _ _ 33 rfl w.heap.size 3 i0 (.int .i64 0) 1 8 Try.underlying33 hii hz0 hz1 hz2 rfl (by decide) _ q ((outsOf m.rows i).map (Value.int .i64)) rfl HB1.out.own ⟨wr.heap.size, 0, none⟩ 1 1 [.int .i64 i] rfl rfl HNEW.out HONE.out ?c3 ?c4 HS.out ?_)
        case c3 => unfold maxLen; omega
        case c4 => omega
        intro v' w4 hown hgrow _
        have HB2 := Lib.hid (HB1.out.more hgrow hown)
        clear hown hgrow
        go_wp2
        go_roundg (n - (i + 1))
        case measure => have := HK.out; have := HN.out; have := HLT.out; omega
        case rel =>
          have hb2 := HB2.out
          refine ⟨i + 1, by have := HN.out; have := HLT.out; omega, by go_num, ?_⟩
          rw [outsOf_yes HR.out HO.out, List.length_append, List.map_append, ← HQ.out]
          exact hb2
    · go_wp2
      go_ret
      refine ⟨_, rfl, ?_, HB.out.old⟩
      have hi : i = m.rows.length := by have := HK.out; have := HN.out; omega
      subst hi
      exact lies_of_owns HB.out.own

def RWordRel (W : World) (m : Mm) (k : Nat) (p3 p4 : Value) (wr : World) : Prop :=
  ∃ i : Nat, k + i = m.rows.length ∧ p4 = .int .i64 i ∧ Bld W wr 28 p3 (i * 8) (wcells (wordsOf (m.rows.take i)))
def RWordRel2 (W : World) (m : Mm) (i : Nat) (N : List Int) (k : Nat) (p3 p5 : Value) (wr : World) : Prop :=
  ∃ j : Nat, k + j = 8 ∧ p5 = .int .i64 j ∧ Bld W wr 28 p3 (i * 8 + j) (wcells (wordsOf (m.rows.take i) ++ N.take j))

set_option maxHeartbeats 4000000 in
theorem rwords_any (b rb F : Nat) (m : Mm) (w : World) (h : RAt w b rb F m) :
    Calls Try.prog 36 #[.pointer (some ⟨b, 0, none⟩)] w fun e w' => ∃ v, e = .returned v ∧ Lies w' w.heap.size v .u64 m.words ∧ Below w.heap.size w w' := by
  have HM := Lib.hid h
  have hf := h.few
  have HOK := Lib.hid h.oks
  clear h
  obtain ⟨n, hn⟩ : ∃ n, n = m.rows.length := ⟨_, rfl⟩
  rw [← hn] at hf
  have HN := Lib.hid hn
  clear hn
  have H0 : Hid (Bld w w 28 (.slice none 0 0) 0 []) := Lib.hid ⟨World.ownsRow_nil _ _ _ _, Below.refl _ _⟩
  go_enter Try.func36, Try.ntmps36
  go_wp2_with fail
  go_loopg [3, 4] n (fun k p q wr => RWordRel w m k p q wr)
  case atStart => exact ⟨0, HN.out, rfl, by simpa [wordsOf, wcells] using H0.out⟩
  case round =>
    obtain ⟨i, hk, rfl, hb⟩ := hrel
    have HK := Lib.hid hk
    have HB := Lib.hid hb
    have c0 := (HM.out.below hb.old).c0
    rw [← HN.out] at c0
    clear hk hb H0
    by_cases hlt : i < n
    · have HLT := Lib.hid hlt
      have hlt2 : (i : Int) < (n : Int) := by omega
      obtain ⟨r, hr⟩ : ∃ r, m.rows[i]? = some r := ⟨m.rows[i]'(by rw [← HN.out]; exact hlt), List.getElem?_eq_getElem _⟩
      have HR := Lib.hid hr
      clear hr
      go_wp2_with fail
      go_loopg [3, 5] 8 (fun k p q wr => RWordRel2 w m i r.N k p q wr)
      case atStart => exact ⟨0, by omega, rfl, by simpa using HB.out⟩
      case round =>
        obtain ⟨j, hk, rfl, hb⟩ := hrel
        have HKJ := Lib.hid hk
        have HBJ := Lib.hid hb
        have HMW := Lib.hid (HM.out.below hb.old)
        have ha := HMW.out.rows i r HR.out
        have c0 := HMW.out.c0
        rw [← HN.out] at c0
        clear hk hb HB
        by_cases hlt : j < 8
        · have HLJ := Lib.hid hlt
          have hlt3 : (j : Int) < 8 := by omega
          have c1 := ha.N hlt
          obtain ⟨z, hz⟩ : ∃ z, r.N.getD j 0 = z := ⟨_, rfl⟩
          rw [hz] at c1
          have hzj : r.N[j]? = some z := by
            have : j < r.N.length := by rw [ha.ok.2]; exact hlt
            rw [List.getD, List.getElem?_eq_getElem this] at hz
            rw [List.getElem?_eq_getElem this]
            exact congrArg some hz
          have HZ := Lib.hid hzj
          have hb2 := HBJ.out.alloc (.cells #[.int .u64 z] 28)
          have HB1 := Lib.hid hb2
          have hnew : ∀ k u, [Value.int .u64 z][k]? = some u → (wr.alloc (.cells #[.int .u64 z] 28)).cell? ((⟨wr.heap.size, 0, none⟩ : Addr).add k) = some u := fun k u hu => by
            rw [Addr.add_mid, Nat.zero_add, cell_of_row _ _ k _ _ _ (heap_alloc_new wr _), ← hu]; simp
          have HNEW := Lib.hid hnew
          have HS : Hid (w.heap.size ≤ (wr.alloc (.cells #[.int .u64 z] 28)).heap.size) := Lib.hid HB1.out.old.size
          obtain ⟨i0, hii, hz0, hz1, hz2⟩ := info28_parts
          have HONE : Hid (∀ u ∈ [Value.int .u64 z], u.oneCell' = true) := Lib.hid (by intro u hu; simp at hu; subst hu; rfl)
          clear hnew hb2 hz ha hzj
          go_wp2_with (at_builtin; refine wpList_append_own _ rfl _ _ 36 rfl w.heap.size 28 i0 (.int .u64 0) 1 8 Try.underlying36 hii hz0 hz1 hz2 rfl (by decide) _ (i * 8 + j) (wcells (wordsOf (m.rows.take i) ++ r.N.take j)) rfl HB1.out.own ⟨wr.heap.size, 0, none⟩ 1 1 [.int .u64 z] rfl rfl HNEW.out HONE.out ?c3 ?c4 HS.out ?_)
          case c3 => unfold maxLen; omega
          case c4 => omega
          intro v' w4 hown hgrow _
          have HB2 := Lib.hid (HB1.out.more hgrow hown)
          clear hown hgrow
          go_wp2
          go_roundg (8 - (j + 1))
          case measure => have := HKJ.out; have := HLJ.out; omega
          case rel =>
            have hb2 := HB2.out
            refine ⟨j + 1, by have := HLJ.out; omega, by go_num, ?_⟩
            rw [List.take_add_one, HZ.out, ← List.append_assoc, ← wcells_append]
            exact hb2
        · have hj : j = 8 := by have := HKJ.out; omega
          subst hj
          have hb2 := HBJ.out
          rw [List.take_of_length_le (l := r.N) (by rw [ha.ok.2]; omega), ← wordsOf_succ HR.out, show i * 8 + 8 = (i + 1) * 8 by omega] at hb2
          have HB2 := Lib.hid hb2
          clear hb2 ha
          go_wp2
          go_roundg (n - (i + 1))
          case measure => have := HK.out; have := HN.out; have := HLT.out; omega
          case rel => exact ⟨i + 1, by have := HN.out; have := HLT.out; omega, by go_num, HB2.out⟩
    · go_wp2
      go_ret
      refine ⟨_, rfl, ?_, HB.out.old⟩
      have hown := HB.out.own
      have hi : i = m.rows.length := by have := HK.out; have := HN.out; omega
      rw [List.take_of_length_le (by omega), hi, ← wordsOf_length HOK.out] at hown
      exact lies_of_owns hown
end Go.Proofs.Ytehfkibpcdcddaa
