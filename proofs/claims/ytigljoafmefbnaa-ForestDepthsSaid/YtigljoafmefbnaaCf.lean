/-
  The walks of package forest's Add, Drop, Move and Prune. Condition: the places lie in memory, at most a million.
-/
import Derived.Test.YtigljoafmefbnaaCe
import Derived.StillTailTactics
namespace Go.Proofs.Ytigljoafmefbnaa
open Go.RowKit

/-- a list of the call's own, not empty, by its block -/
theorem Bi.form {W w : World} {v : Value} {l : List Int} {n : Nat} (h : Bi W w v l) (hn : n = l.length) (h0 : 0 < n) : ∃ g cap, v = .slice (some ⟨g, 0, none⟩) n cap ∧ W.heap.size ≤ g ∧ g < w.heap.size ∧
    (∀ k, k < n → w.cell? ⟨g, k, none⟩ = some (.int .i64 (fu l k))) ∧ ∀ j, w.frozen? ⟨g, j, none⟩ = false := by
  obtain ⟨g, cap, e, h1, h2, h3, h4⟩ := h.block (fun e => by rw [e] at hn; simp at hn; omega)
  exact ⟨g, cap, by rw [hn]; exact e, h1, h2, fun k hk => h3 k _ (fu_get (by rw [← hn]; exact hk)), h4⟩

set_option maxHeartbeats 4000000 in
theorem padd_is {A : Option Addr} {n cap : Nat} {l : List Int} {i k : Int} {r : Option (List Int)} {w : World} (hn : n = l.length) (hn6 : n ≤ 1000000) (hL : IntsAt w w.heap.size A l) (hr : fadd l i k = r) :
    Calls Try.prog 10 #[.agg #[.slice A n cap], .int .i64 i, .int .i64 k] w fun e w' => GivesF w w' e r := by
  have HN := Lib.hid hn
  have HL := Lib.hid hL
  have H6 := Lib.hid hn6
  have hK := Pfr.new w (.slice A n cap) (.slice none 0 0) 25 25
  have c0 := hK.c
  rw [fadd_eq] at hr
  clear hn hL hn6
  go_enter Try.func10, Try.ntmps10
  go_wp2_with fail
  generalize (w.alloc (.cells #[.slice A n cap] 25)).alloc (.cells #[.slice none 0 0] 25) = w1 at hK c0 ⊢
  rcases hg : fgood l with _ | _
  · have HE : Hid (r = none) := Lib.hid (by rw [← hr, hg]; rfl)
    refine (pgood_is (w := w1) HN.out (HL.out.on hK.old) hg).mono ?_
    rintro e w2 ⟨rfl, hb⟩
    have HK := Lib.hid (hK.on hb)
    have c1 := HK.out.d
    have c2 := HK.out.df
    clear hb hg hK c0 hr
    go_wp2
    have e0 := World.cell?_setCell_same w2 ⟨w.heap.size + 1, 0, none⟩ (.slice none 0 0) c1
    refine bodyPost_ret (by simp [results, Try.results10, go_sem, e0]; rfl) rfl ?_
    rw [HE.out]
    exact HK.out.no
  refine (pgood_is (w := w1) HN.out (HL.out.on hK.old) hg).mono ?_
  rintro e w2 ⟨rfl, hb⟩
  have HK := Lib.hid (hK.on hb)
  rw [hg, Bool.true_and] at hr
  clear hb hg hK c0
  have c0 := HK.out.c
  rcases hv : vacantB l i with _ | _
  · have HE : Hid (r = none) := Lib.hid (by rw [← hr, hv]; rfl)
    have HV := Lib.hid hv
    clear hv hr
    go_wp2_with fail
    refine (vacant_is (w := w2) HN.out (HL.out.on HK.out.old) HV.out).mono ?_
    rintro e w3 ⟨rfl, hb⟩
    have HK2 := Lib.hid (HK.out.on hb)
    have c1 := HK2.out.d
    have c2 := HK2.out.df
    clear hb c0
    go_wp2
    have e0 := World.cell?_setCell_same w3 ⟨w.heap.size + 1, 0, none⟩ (.slice none 0 0) c1
    refine bodyPost_ret (by simp [results, Try.results10, go_sem, e0]; rfl) rfl ?_
    rw [HE.out]
    exact HK2.out.no
  rw [hv, Bool.true_and] at hr
  have HV := Lib.hid hv
  obtain ⟨m, rfl, hml, _⟩ := vacantB_iff.1 hv
  clear hv
  go_wp2_with fail
  refine (vacant_is (w := w2) HN.out (HL.out.on HK.out.old) HV.out).mono ?_
  rintro e w3 ⟨rfl, hb⟩
  have HK2 := Lib.hid (HK.out.on hb)
  clear hb c0 HK
  have c0 := HK2.out.c
  rcases hbr : bearB l k with _ | _
  · have HE : Hid (r = none) := Lib.hid (by rw [← hr, hbr]; rfl)
    have HB := Lib.hid hbr
    clear hbr hr
    go_wp2_with fail
    refine (maybear_is (w := w3) HN.out (HL.out.on HK2.out.old) HB.out).mono ?_
    rintro e w4 ⟨rfl, hb⟩
    have HK3 := Lib.hid (HK2.out.on hb)
    have c1 := HK3.out.d
    have c2 := HK3.out.df
    clear hb c0
    go_wp2
    have e0 := World.cell?_setCell_same w4 ⟨w.heap.size + 1, 0, none⟩ (.slice none 0 0) c1
    refine bodyPost_ret (by simp [results, Try.results10, go_sem, e0]; rfl) rfl ?_
    rw [HE.out]
    exact HK3.out.no
  have HE : Hid (r = some (l.set m k)) := Lib.hid (by rw [← hr, hbr, if_pos rfl, Int.toNat_natCast])
  have HB := Lib.hid hbr
  have HML := Lib.hid hml
  have hmn : (m : Int) < (n : Int) := by rw [HN.out]; omega
  clear hbr hr hml
  go_wp2_with fail
  refine (maybear_is (w := w3) HN.out (HL.out.on HK2.out.old) HB.out).mono ?_
  rintro e w4 ⟨rfl, hb⟩
  have HK3 := Lib.hid (HK2.out.on hb)
  clear hb c0 HK2
  have c0 := HK3.out.c
  obtain ⟨b, o, rfl, hblk, hc⟩ := at_open HL.out (by have := HML.out; omega)
  have HC : Hid (b < w.heap.size ∧ ∀ k, k < n → w.cell? ⟨b, o + k, none⟩ = some (.int .i64 (fu l k))) := Lib.hid ⟨hblk, fun k hk => hc k (by rw [← HN.out]; exact hk)⟩
  clear hblk hc
  go_wp2_with fail
  refine (clone_is (w := w4) HN.out H6.out (fun k hk => by rw [HK3.out.old.cell (p := ⟨b, _, none⟩) HC.out.1]; exact HC.out.2 k hk) (Nat.lt_of_lt_of_le HC.out.1 HK3.out.old.size)).mono ?_
  rintro e w5 ⟨v, rfl, hB⟩
  obtain ⟨g, cb, rfl, hg1, hg2, hgc, hgf⟩ := hB.form HN.out (by omega)
  have HK4 := Lib.hid (HK3.out.on hB.old)
  have hP := hB.put' HN.out m k
  have c1 := hgc m (by omega)
  have c2 := hgf m
  have hKP : Pfr w (w5.setCell ⟨g, m, none⟩ (.int .i64 k)) (.slice (some ⟨b, o, none⟩) n cap) (.slice none 0 0) := HK3.out.on hP.old
  have c3 := hKP.d
  have c4 := hKP.df
  have HP := Lib.hid hP
  have HKP := Lib.hid hKP
  have HLT := Lib.hid HK3.out.lt
  clear hB hgc hgf hP hKP c0 hg1 hg2 HK3
  go_wp2
  have e0 := World.cell?_setCell_same _ ⟨w.heap.size + 1, 0, none⟩ (.slice (some ⟨g, 0, none⟩) n cb) c3
  refine bodyPost_ret (by simp [results, Try.results10, go_sem, e0]; rfl) rfl ?_
  rw [HE.out]
  exact HKP.out.yes HP.out HLT.out

set_option maxHeartbeats 4000000 in
theorem pmove_is {A : Option Addr} {n cap : Nat} {l : List Int} {i k : Int} {r : Option (List Int)} {w : World} (hn : n = l.length) (hn6 : n ≤ 1000000) (hL : IntsAt w w.heap.size A l) (hr : fmove l i k = r) :
    Calls Try.prog 17 #[.agg #[.slice A n cap], .int .i64 i, .int .i64 k] w fun e w' => GivesF w w' e r := by
  have HN := Lib.hid hn
  have HL := Lib.hid hL
  have H6 := Lib.hid hn6
  have hK := Pfr.new w (.slice A n cap) (.slice none 0 0) 25 25
  have c0 := hK.c
  rw [fmove_eq] at hr
  clear hn hL hn6
  go_enter Try.func17, Try.ntmps17
  go_wp2_with fail
  generalize (w.alloc (.cells #[.slice A n cap] 25)).alloc (.cells #[.slice none 0 0] 25) = w1 at hK c0 ⊢
  rcases ht : there l i with _ | _
  · have HE : Hid (r = none) := Lib.hid (by rw [← hr, ht]; rfl)
    refine (holds_is (w := w1) HN.out (HL.out.on hK.old) ht).mono ?_
    rintro e w2 ⟨rfl, hb⟩
    have HK := Lib.hid (hK.on hb)
    have c1 := HK.out.d
    have c2 := HK.out.df
    clear hb ht hK c0 hr
    go_wp2
    have e0 := World.cell?_setCell_same w2 ⟨w.heap.size + 1, 0, none⟩ (.slice none 0 0) c1
    refine bodyPost_ret (by simp [results, Try.results17, go_sem, e0]; rfl) rfl ?_
    rw [HE.out]
    exact HK.out.no
  refine (holds_is (w := w1) HN.out (HL.out.on hK.old) ht).mono ?_
  rintro e w2 ⟨rfl, hb⟩
  have HK := Lib.hid (hK.on hb)
  rw [ht, Bool.true_and] at hr
  obtain ⟨_, m, rfl, hml, hm2⟩ := there_iff.1 ht
  clear hb ht hK c0
  have c0 := HK.out.c
  rcases hv : vacantB l k with _ | _
  · have HE : Hid (r = none) := Lib.hid (by rw [← hr, hv]; rfl)
    have HV := Lib.hid hv
    clear hv hr hml hm2
    go_wp2_with fail
    refine (vacant_is (w := w2) HN.out (HL.out.on HK.out.old) HV.out).mono ?_
    rintro e w3 ⟨rfl, hb⟩
    have HK2 := Lib.hid (HK.out.on hb)
    have c1 := HK2.out.d
    have c2 := HK2.out.df
    clear hb c0
    go_wp2
    have e0 := World.cell?_setCell_same w3 ⟨w.heap.size + 1, 0, none⟩ (.slice none 0 0) c1
    refine bodyPost_ret (by simp [results, Try.results17, go_sem, e0]; rfl) rfl ?_
    rw [HE.out]
    exact HK2.out.no
  have HV := Lib.hid hv
  obtain ⟨q, rfl, hql, hq2⟩ := vacantB_iff.1 hv
  have HE : Hid (r = some (moveL l m q)) := Lib.hid (by rw [← hr, hv, if_pos rfl, Int.toNat_natCast, Int.toNat_natCast])
  have HQM : Hid (m ≠ q) := Lib.hid (fun e => hm2 (e ▸ hq2))
  have HML := Lib.hid hml
  have HQL := Lib.hid hql
  have hmn : (m : Int) < (n : Int) := by rw [HN.out]; omega
  have hqn : (q : Int) < (n : Int) := by rw [HN.out]; omega
  clear hv hr hml hm2 hql hq2
  go_wp2_with fail
  refine (vacant_is (w := w2) HN.out (HL.out.on HK.out.old) HV.out).mono ?_
  rintro e w3 ⟨rfl, hb⟩
  have HK2 := Lib.hid (HK.out.on hb)
  clear hb c0 HK
  have c0 := HK2.out.c
  go_wp2_with fail
  refine (rehang_is (w := w3) (by omega) HN.out H6.out (HL.out.on HK2.out.old)).mono ?_
  rintro e w4 ⟨v, rfl, hB⟩
  have HK3 := Lib.hid (HK2.out.on hB.old)
  have HLT := Lib.hid HK2.out.lt
  obtain ⟨b, o, rfl, hblk, hc⟩ := at_open HL.out (by have := HML.out; omega)
  have hlen : n = (l.map fun y => if y = (m : Int) then (q : Int) else y).length := by rw [List.length_map, HN.out]
  have c1 : w4.cell? ⟨b, o + m, none⟩ = some (.int .i64 (fu l m)) := by rw [HK3.out.old.cell (p := ⟨b, _, none⟩) hblk]; exact hc m HML.out
  obtain ⟨x, hx⟩ : ∃ x, fu l m = x := ⟨_, rfl⟩
  rw [hx] at c1
  have HX := Lib.hid hx
  obtain ⟨g, cb, rfl, hg1, hg2, hgc, hgf⟩ := hB.form hlen (by omega)
  have hP := hB.put' hlen m (-2)
  have hP2 := hP.put' (by rw [List.length_set]; exact hlen) q x
  have c2 := hgc m (by omega)
  have c3 := hgf m
  have c4 : (w4.setCell ⟨g, m, none⟩ (.int .i64 (-2))).cell? ⟨g, q, none⟩ = some (.int .i64 (fu (l.map fun y => if y = (m : Int) then (q : Int) else y) q)) := by
    rw [World.cell?_setCell_other _ _ _ _ (fun e => HQM.out (by injection e with _ e))]
    exact hgc q (by omega)
  have c5 : (w4.setCell ⟨g, m, none⟩ (.int .i64 (-2))).frozen? ⟨g, q, none⟩ = false := by rw [World.frozen?_setCell]; exact hgf q
  have hKP : Pfr w ((w4.setCell ⟨g, m, none⟩ (.int .i64 (-2))).setCell ⟨g, q, none⟩ (.int .i64 x)) (.slice (some ⟨b, o, none⟩) n cap) (.slice none 0 0) := HK2.out.on hP2.old
  have c6 := hKP.d
  have c7 := hKP.df
  have c8 := HK3.out.c
  have hset : ((l.map fun y => if y = (m : Int) then (q : Int) else y).set m (-2)).set q x = moveL l m q := by
    rw [moveL, List.set_comm _ _ (fun e => HQM.out e), HX.out]
  rw [hset] at hP2
  have HP := Lib.hid hP2
  have HKP := Lib.hid hKP
  clear hB hgc hgf hP hP2 hKP c0 hg1 hg2 hc hblk hx hset hlen HK2
  go_wp2
  have e0 := World.cell?_setCell_same _ ⟨w.heap.size + 1, 0, none⟩ (.slice (some ⟨g, 0, none⟩) n cb) c6
  refine bodyPost_ret (by simp [results, Try.results17, go_sem, e0]; rfl) rfl ?_
  rw [HE.out]
  exact HKP.out.yes HP.out HLT.out

def PCutRel (W : World) (n g cb q : Nat) (l : List Int) (bs : List Nat) (D : Option Addr) (k : Nat) (p : Value) (wr : World) : Prop :=
  ∃ j : Nat, k + j = q ∧ Bi W wr (.slice (some ⟨g, 0, none⟩) n cb) (cut l (bs.take j)) ∧ p = .int .i64 j ∧ CellsOf D (toInts bs) wr
set_option maxHeartbeats 4000000 in
theorem pprune_is {A : Option Addr} {n cap : Nat} {l : List Int} {i : Int} {r : Option (List Int)} {w : World} (hn : n = l.length) (hn6 : n ≤ 1000000) (hL : IntsAt w w.heap.size A l) (hr : fprune l i = r) :
    Calls Try.prog 12 #[.agg #[.slice A n cap], .int .i64 i] w fun e w' => GivesF w w' e r := by
  have HN := Lib.hid hn
  have HL := Lib.hid hL
  have H6 := Lib.hid hn6
  have HR := Lib.hid hr
  have hK := Pfr.new w (.slice A n cap) (.slice none 0 0) 25 25
  have c0 := hK.c
  clear hn hL hn6 hr
  go_enter Try.func12, Try.ntmps12
  go_wp2_with fail
  generalize (w.alloc (.cells #[.slice A n cap] 25)).alloc (.cells #[.slice none 0 0] 25) = w1 at hK c0 ⊢
  rcases ht : there l i with _ | _
  · have HE : Hid (r = none) := Lib.hid (by rw [← HR.out, fprune, ht]; first | rfl | simp [ht])
    refine (holds_is (w := w1) HN.out (HL.out.on hK.old) ht).mono ?_
    rintro e w2 ⟨rfl, hb⟩
    have HK := Lib.hid (hK.on hb)
    have c1 := HK.out.d
    have c2 := HK.out.df
    clear hb ht hK c0
    go_wp2
    have e0 := World.cell?_setCell_same w2 ⟨w.heap.size + 1, 0, none⟩ (.slice none 0 0) c1
    refine bodyPost_ret (by simp [results, Try.results12, go_sem, e0]; rfl) rfl ?_
    rw [HE.out]
    exact HK.out.no
  refine (holds_is (w := w1) HN.out (HL.out.on hK.old) ht).mono ?_
  rintro e w2 ⟨rfl, hb⟩
  have HK := Lib.hid (hK.on hb)
  obtain ⟨hF, m, rfl, hml, hm2⟩ := there_iff.1 ht
  have HF := Lib.hid hF
  have HE : Hid (r = some (pruneL l m)) := Lib.hid (by rw [← HR.out, fprune, if_pos ht, Int.toNat_natCast])
  obtain ⟨bs, hbs⟩ : ∃ bs, bs = belowN l m := ⟨_, rfl⟩
  have HBL : Hid (fbelow l (m : Int) = toInts bs) := Lib.hid (by rw [fbelow, if_pos ht, Int.toNat_natCast, hbs])
  have HBS : Hid (∀ b ∈ bs, b < l.length) := Lib.hid (fun b hb => (hF.below_dep (hbs ▸ hb)).1)
  have HBE := Lib.hid hbs
  have HPOS : Hid (0 < n) := Lib.hid (by rw [HN.out]; omega)
  obtain ⟨b, o, rfl, hblk, hc⟩ := at_open HL.out (by omega)
  have HC : Hid (b < w.heap.size ∧ ∀ k, k < n → w.cell? ⟨b, o + k, none⟩ = some (.int .i64 (fu l k))) := Lib.hid ⟨hblk, fun k hk => hc k (by rw [← HN.out]; exact hk)⟩
  clear hb ht hK c0 hF hml hm2 hbs hblk hc
  have c0 := HK.out.c
  go_wp2_with fail
  refine (clone_is (w := w2) HN.out H6.out (fun k hk => by rw [HK.out.old.cell (p := ⟨b, _, none⟩) HC.out.1]; exact HC.out.2 k hk) (Nat.lt_of_lt_of_le HC.out.1 HK.out.old.size)).mono ?_
  rintro e w3 ⟨v, rfl, hB⟩
  obtain ⟨g, cb, rfl, hg1, hg2, _, _⟩ := hB.form HN.out HPOS.out
  have HB := Lib.hid hB
  have HG : Hid (w2.heap.size ≤ g ∧ g < w3.heap.size) := Lib.hid ⟨hg1, hg2⟩
  have HK2 := Lib.hid (HK.out.on hB.old)
  clear hB hg1 hg2 c0
  have c0 := HK2.out.c
  go_wp2_with fail
  refine (pbelow_bi (w := w3) HN.out H6.out (HL.out.on HK2.out.old) HBL.out).mono ?_
  rintro e w4 ⟨vb, rfl, hbb⟩
  have hb := hbb.old
  obtain ⟨D, cd, rfl, hi⟩ := hbb.ints
  have HOWN : Hid (∀ gd, D = some ⟨gd, 0, none⟩ → w3.heap.size ≤ gd) := Lib.hid (fun gd e => (hbb.own.lt gd (by rw [e]; rfl)).1)
  have HSP : Hid (0 < (toInts bs).length → ∃ gd, D = some ⟨gd, 0, none⟩) := Lib.hid (fun h => by
    obtain ⟨gd, c', e, _⟩ := hbb.block (fun e => by rw [e] at h; simp at h)
    injection e with e1 e2 e3
    exact ⟨gd, e1⟩)
  have HCD : Hid (CellsOf D (toInts bs) w4) := Lib.hid (fun gd e j x hx => by
    obtain ⟨gd', c', e', _, _, hcc, _⟩ := hbb.block (fun e => by rw [e] at hx; simp at hx)
    injection e' with e1 e2 e3
    rw [e] at e1
    injection e1 with e1
    injection e1 with e1
    rw [e1]
    exact hcc j x hx)
  obtain ⟨q, hq⟩ : ∃ q, q = (toInts bs).length := ⟨_, rfl⟩
  rw [← hq]
  have HQ := Lib.hid hq
  have HB6 := Lib.hid (HB.out.on hb)
  have HBIG : Hid (q ≤ 96) := Lib.hid (by
    rw [hq, toInts_length, HBE.out, belowN]
    have := List.length_filter_le (fun k => (above l k).contains m) (List.range l.length)
    rw [List.length_range] at this
    have := HF.out.few
    omega)
  clear hb hbb HB hq hi c0
  go_wp2_with fail
  go_loopg [21] q (fun k p wr => PCutRel w2 n g cb q l bs D k p wr)
  case atStart => exact ⟨0, by omega, by rw [List.take_zero]; exact HB6.out, rfl, HCD.out⟩
  case round =>
    obtain ⟨j, hk, hb, rfl, hcd⟩ := hrel
    have HK5 := Lib.hid hk
    have HB2 := Lib.hid hb
    have HCD2 := Lib.hid hcd
    clear hk hb hcd HB6 HCD
    have hlen : n = (cut l (bs.take j)).length := by rw [cut_length]; exact HN.out
    obtain ⟨g', cb', e, _, _, hgc, hgf⟩ := HB2.out.form hlen HPOS.out
    injection e with e1 e2 e3
    injection e1 with e1
    injection e1 with e1
    subst e1
    subst e3
    clear e2
    by_cases hlt : j < q
    · have HLT := Lib.hid hlt
      have hlt2 : (j : Int) < (q : Int) := by omega
      obtain ⟨gd, rfl⟩ := HSP.out (by rw [← HQ.out]; omega)
      obtain ⟨x, hx⟩ : ∃ x, bs[j]? = some x := ⟨bs[j]'(by have := HQ.out; rw [toInts_length] at this; omega), List.getElem?_eq_getElem _⟩
      have hxl := HBS.out x (List.mem_of_getElem? hx)
      have c1 := HCD2.out gd rfl j (x : Int) (by rw [toInts, List.getElem?_map, hx]; rfl)
      have hxnn : x < n := by rw [HN.out]; exact hxl
      have c2 := hgc x hxnn
      have c3 := hgf x
      have hxn : (x : Int) < (n : Int) := by omega
      have HS : Hid (cut l (bs.take (j + 1)) = (cut l (bs.take j)).set x (-2)) := Lib.hid (by rw [List.take_add_one, hx, Option.toList_some, cut_snoc])
      have HP := Lib.hid (HB2.out.put' hlen x (-2))
      have HCD3 : Hid (CellsOf (some ⟨gd, 0, none⟩) (toInts bs) (wr.setCell ⟨g, x, none⟩ (.int .i64 (-2)))) := Lib.hid (fun gd' e k y hy => by
        have h1 := HOWN.out gd' e
        have h2 := HG.out.2
        rw [World.cell?_setCell_other _ _ _ _ (fun q => by injection q with q; omega)]
        exact HCD2.out gd' e k y hy)
      clear hgc hgf hx hxl hlen
      go_wp2
      go_roundg (q - (j + 1))
      case measure => have := HK5.out; have := HLT.out; omega
      case rel => exact ⟨j + 1, by have := HLT.out; omega, by rw [HS.out]; exact HP.out, (by refine congrArg _ ?_; have := HBIG.out; have := HLT.out; first | rfl | (unfold wrap64; omega)), HCD3.out⟩
    · have hin : j = q := by have := HK5.out; omega
      have hal : cut l (bs.take j) = pruneL l m := by
        have : bs.length = q := by rw [HQ.out, toInts_length]
        rw [hin, ← this, List.take_length, HBE.out, cut_below]
      have hlt2 : ¬ (j : Int) < (q : Int) := by omega
      have hP := HB2.out
      rw [hal] at hP
      have HP := Lib.hid hP
      have HKP := Lib.hid (HK.out.on hP.old)
      have HLT := Lib.hid HK.out.lt
      have c6 := HKP.out.d
      have c7 := HKP.out.df
      clear hlen hlt hal HB2 hP hgc hgf
      go_wp2
      have e0 := World.cell?_setCell_same _ ⟨w.heap.size + 1, 0, none⟩ (.slice (some ⟨g, 0, none⟩) n cb) c6
      refine bodyPost_ret (by simp [results, Try.results12, go_sem, e0]; rfl) rfl ?_
      rw [HE.out]
      exact HKP.out.yes HP.out HLT.out
end Go.Proofs.Ytigljoafmefbnaa
