/-
  The walk of give's move. Condition: the state lies in memory.
-/
import Derived.Test.YtkpbfbmkolgmgaaGreatTDc
namespace Go.Proofs.YtkpbfbmkolgmgaaGreat
open Go.RowKit
set_option linter.unusedSimpArgs false
set_option linter.unusedVariables false

/-- a list that a call has made, in a block of its own -/
def GivesN (w w' : World) (e : Ending) (l : List Int) : Prop := ∃ g cb, e = .returned (.tuple #[.agg #[.slice (some ⟨g, 0, none⟩) l.length cb], .bool true]) ∧ w.heap.size ≤ g ∧ g < w'.heap.size ∧ (∀ k, k < l.length → w'.cell? ⟨g, k, none⟩ = some (.int .i64 (fu l k))) ∧ Below w.heap.size w w'
theorem Pfr.yesN {W w w2 : World} {v r : Value} {g n cb : Nat} {l : List Int} (h : Pfr W w v r) (hB : Bi w2 w (.slice (some ⟨g, 0, none⟩) n cb) l) (h2 : W.heap.size + 1 < w2.heap.size) (h0 : l ≠ []) :
    GivesN W (w.setCell ⟨W.heap.size + 1, 0, none⟩ (.slice (some ⟨g, 0, none⟩) n cb)) (.returned (.tuple #[.agg #[.slice (some ⟨g, 0, none⟩) n cb], .bool true])) l := by
  obtain ⟨g', cap', e, hb, hlt, hc, hf⟩ := hB.block h0
  injection e with e4 e5 e6
  injection e4 with e4
  injection e4 with e4
  subst e4
  refine ⟨g, cb, by rw [e5], by omega, by simpa [World.setCell] using hlt, fun k hk => ?_, h.old.setCell (by show W.heap.size ≤ W.heap.size + 1; omega) _⟩
  rw [World.cell?_setCell_other _ _ _ _ (fun q => by injection q with q; omega)]
  exact hc k _ (fu_get hk)
set_option maxHeartbeats 4000000 in
theorem pmove_new {A : Option Addr} {n cap : Nat} {l : List Int} {i k : Int} {r : List Int} {w : World} (hn : n = l.length) (hn6 : n ≤ 1000000) (hL : IntsAt w w.heap.size A l) (hr : fmove l i k = some r) :
    Calls Tryz.prog 169 #[.agg #[.slice A n cap], .int .i64 i, .int .i64 k] w fun e w' => GivesN w w' e r := by
  have HN := Lib.hid hn
  have HL := Lib.hid hL
  have H6 := Lib.hid hn6
  have hK := Pfr.new w (.slice A n cap) (.slice none 0 0) 71 71
  have c0 := hK.c
  rw [fmove_eq] at hr
  clear hn hL hn6
  go_enter Tryz.func169, Tryz.ntmps169
  go_wp2_with fail
  generalize (w.alloc (.cells #[.slice A n cap] 71)).alloc (.cells #[.slice none 0 0] 71) = w1 at hK c0 ⊢
  rcases ht : there l i with _ | _
  · exact absurd (hr.symm.trans (by rw [ht])) (by simp)
  refine (holds_is (w := w1) HN.out (HL.out.on hK.old) ht).mono ?_
  rintro e w2 ⟨rfl, hb⟩
  have HK := Lib.hid (hK.on hb)
  rw [ht, Bool.true_and] at hr
  obtain ⟨_, m, rfl, hml, hm2⟩ := there_iff.1 ht
  clear hb ht hK c0
  have c0 := HK.out.c
  rcases hv : vacantB l k with _ | _
  · exact absurd (hr.symm.trans (by rw [hv])) (by simp)
  have HV := Lib.hid hv
  obtain ⟨q, rfl, hql, hq2⟩ := vacantB_iff.1 hv
  have HE0 : some r = some (moveL l m q) := by rw [← hr, hv, if_pos rfl, Int.toNat_natCast, Int.toNat_natCast]
  have HE := Lib.hid (Option.some.inj HE0)
  clear HE0
  have HQM : Hid (m ≠ q) := Lib.hid (fun e => hm2 (e ▸ hq2))
  have HML := Lib.hid hml
  have HQL := Lib.hid hql
  have hmn : (m : Int) < (n : Int) := by rw [HN.out]; omega
  have hqn : (q : Int) < (n : Int) := by rw [HN.out]; omega
  clear hv hr hml hm2 hql hq2
  go_wp2_with fail
  refine (vacant_is (w := w2) HN.out (HL.out.on HK.out.old) HV.out).mono ?_
  rintro e w3 ⟨rfl, hb⟩
  have HK2 := Lib.hid (HK.out.on hb)
  clear hb c0 HK
  have c0 := HK2.out.c
  go_wp2_with fail
  refine (rehang_is (w := w3) (by omega) HN.out H6.out (HL.out.on HK2.out.old)).mono ?_
  rintro e w4 ⟨v, rfl, hB⟩
  have HK3 := Lib.hid (HK2.out.on hB.old)
  have HLT := Lib.hid HK2.out.lt
  obtain ⟨b, o, rfl, hblk, hc⟩ := at_open HL.out (by have := HML.out; omega)
  have hlen : n = (l.map fun y => if y = (m : Int) then (q : Int) else y).length := by rw [List.length_map, HN.out]
  have c1 : w4.cell? ⟨b, o + m, none⟩ = some (.int .i64 (fu l m)) := by rw [HK3.out.old.cell (p := ⟨b, _, none⟩) hblk]; exact hc m HML.out
  obtain ⟨x, hx⟩ : ∃ x, fu l m = x := ⟨_, rfl⟩
  rw [hx] at c1
  have HX := Lib.hid hx
  obtain ⟨g, cb, rfl, hg1, hg2, hgc, hgf⟩ := hB.form hlen (by omega)
  have hP := hB.put' hlen m (-2)
  have hP2 := hP.put' (by rw [List.length_set]; exact hlen) q x
  have c2 := hgc m (by omega)
  have c3 := hgf m
  have c4 : (w4.setCell ⟨g, m, none⟩ (.int .i64 (-2))).cell? ⟨g, q, none⟩ = some (.int .i64 (fu (l.map fun y => if y = (m : Int) then (q : Int) else y) q)) := by
    rw [World.cell?_setCell_other _ _ _ _ (fun e => HQM.out (by injection e with _ e))]
    exact hgc q (by omega)
  have c5 : (w4.setCell ⟨g, m, none⟩ (.int .i64 (-2))).frozen? ⟨g, q, none⟩ = false := by rw [World.frozen?_setCell]; exact hgf q
  have hKP : Pfr w ((w4.setCell ⟨g, m, none⟩ (.int .i64 (-2))).setCell ⟨g, q, none⟩ (.int .i64 x)) (.slice (some ⟨b, o, none⟩) n cap) (.slice none 0 0) := HK2.out.on hP2.old
  have c6 := hKP.d
  have c7 := hKP.df
  have c8 := HK3.out.c
  have hset : ((l.map fun y => if y = (m : Int) then (q : Int) else y).set m (-2)).set q x = moveL l m q := by
    rw [moveL, List.set_comm _ _ (fun e => HQM.out e), HX.out]
  rw [hset] at hP2
  have HP := Lib.hid hP2
  have HKP := Lib.hid hKP
  clear hB hgc hgf hP hP2 hKP c0 hg1 hg2 hc hblk hx hset hlen HK2
  go_wp2
  have e0 := World.cell?_setCell_same _ ⟨w.heap.size + 1, 0, none⟩ (.slice (some ⟨g, 0, none⟩) n cb) c6
  refine bodyPost_ret (by simp [results, Tryz.results169, go_sem, e0]; rfl) rfl ?_
  rw [HE.out]
  exact HKP.out.yesN HP.out HLT.out (fun q => by have h1 := congrArg List.length q; rw [move_length] at h1; have h2 := HML.out; simp only [List.length_nil] at h1; omega)

/-! ### the state on its way -/
def mvCap (s : St) (f t k : Nat) : Cp := if k = t then (slAt s.sl f).c else if k = f then .none else (slAt s.sl k).c
def midSl (s : St) (f t i : Nat) : List Sl := (List.range s.sl.length).map fun k => ⟨mvCap s f t k, if k < i then (mvSl s f t k).up else (slAt s.sl k).up⟩
def midTh (s : St) (f t i : Nat) : List Tng := (List.range s.th.length).map fun k => if k < i then mvTh f t (thAt s.th k) else thAt s.th k
theorem midSl_len (s : St) (f t i : Nat) : (midSl s f t i).length = s.sl.length := by simp [midSl]
theorem midTh_len (s : St) (f t i : Nat) : (midTh s f t i).length = s.th.length := by simp [midTh]
theorem midSl_at {s : St} {f t i k : Nat} (h : k < s.sl.length) : slAt (midSl s f t i) k = ⟨mvCap s f t k, if k < i then (mvSl s f t k).up else (slAt s.sl k).up⟩ := slAt_range _ h
theorem midTh_at {s : St} {f t i k : Nat} (h : k < s.th.length) : thAt (midTh s f t i) k = if k < i then mvTh f t (thAt s.th k) else thAt s.th k := thAt_range _ h
theorem mid_start {s : St} {f t : Nat} (hf : f < s.sl.length) (ht : t < s.sl.length) (hne : f ≠ t) : (s.sl.set f ⟨.none, (slAt s.sl f).up⟩).set t ⟨(slAt s.sl f).c, (slAt s.sl t).up⟩ = midSl s f t 0 :=
  sl_ext (by rw [midSl_len]; simp) fun k hk => by
    simp only [List.length_set] at hk
    rw [midSl_at hk, if_neg (by omega), slAt_set (by rw [List.length_set]; exact ht), slAt_set hf, mvCap]
    by_cases e1 : k = t
    · rw [if_pos e1, if_pos e1, e1]
    · rw [if_neg e1, if_neg e1]
      by_cases e2 : k = f
      · rw [if_pos e2, if_pos e2, e2]
      · rw [if_neg e2, if_neg e2]
theorem mid_succ {s : St} {f t i : Nat} (hi : i < s.sl.length) : (midSl s f t i).set i ⟨mvCap s f t i, (mvSl s f t i).up⟩ = midSl s f t (i + 1) :=
  sl_ext (by rw [List.length_set, midSl_len, midSl_len]) fun k hk => by
    rw [List.length_set, midSl_len] at hk
    rw [slAt_set (by rw [midSl_len]; exact hi), midSl_at hk, midSl_at hk]
    by_cases e : k = i
    · rw [if_pos e, e, if_pos (by omega)]
    · rw [if_neg e]
      by_cases e2 : k < i
      · rw [if_pos e2, if_pos (by omega)]
      · rw [if_neg e2, if_neg (by omega)]
theorem mvSl_c (s : St) (f t k : Nat) : (mvSl s f t k).c = mvCap s f t k := by
  unfold mvSl mvCap
  split
  · rfl
  · split <;> rfl
theorem mid_end (s : St) (f t : Nat) : midSl s f t s.sl.length = (gmvS s f t).sl := by
  refine sl_ext (by rw [midSl_len, gmv_sl]) fun k hk => ?_
  rw [midSl_len] at hk
  rw [midSl_at hk, if_pos hk, gmv_slAt hk, ← mvSl_c]
theorem midT_start (s : St) (f t : Nat) : s.th = midTh s f t 0 := by
  refine th_ext (by rw [midTh_len]) fun k hk => ?_
  rw [midTh_at hk, if_neg (by omega)]
theorem midT_succ {s : St} {f t i : Nat} (hi : i < s.th.length) : (midTh s f t i).set i (mvTh f t (thAt s.th i)) = midTh s f t (i + 1) :=
  th_ext (by rw [List.length_set, midTh_len, midTh_len]) fun k hk => by
    rw [List.length_set, midTh_len] at hk
    rw [thAt_set (by rw [midTh_len]; exact hi), midTh_at hk, midTh_at hk]
    by_cases e : k = i
    · rw [if_pos e, e, if_pos (by omega)]
    · rw [if_neg e]
      by_cases e2 : k < i
      · rw [if_pos e2, if_pos (by omega)]
      · rw [if_neg e2, if_neg (by omega)]
theorem midT_same {s : St} {f t i : Nat} (hi : i < s.th.length) (h : (thAt s.th i).frm ≠ (f : Int) + 1) : midTh s f t i = midTh s f t (i + 1) := by
  rw [← midT_succ hi, mvTh, if_neg h]
  refine th_ext (by rw [List.length_set]) fun k hk => ?_
  rw [thAt_set (by rw [midTh_len]; exact hi)]
  split
  · rename_i e
    rw [e, midTh_at hi, if_neg (by omega)]
  · rfl
theorem midT_end (s : St) (f t : Nat) : midTh s f t s.th.length = (gmvS s f t).th := by
  refine th_ext (by rw [midTh_len, gmv_th]) fun k hk => ?_
  rw [midTh_len] at hk
  rw [midTh_at hk, if_pos hk, gmv_thAt]
theorem Ost.thereC {W w : World} {s : St} {P Q : Nat} (h : Ost W w s P Q) {i : Nat} (hi : i < s.sl.length) : w.there P (i * 5) 4 := fun j hj => h.thereS hi j (by omega)
/-- a slot's capability -/
theorem Ost.putC {W w : World} {s : St} {P Q : Nat} (h : Ost W w s P Q) {i : Nat} (hi : i < s.sl.length) (d : Cp) : Ost W (w.setCells P (i * 5) [.int .i64 d.ty, .int .i64 d.th, .int .i64 d.ri, .int .i64 d.ba]) ⟨s.g, s.sl.set i ⟨d, (slAt s.sl i).up⟩, s.th⟩ P Q := by
  obtain ⟨x, hx⟩ : ∃ x, slAt s.sl i = x := ⟨_, rfl⟩
  obtain ⟨⟨t0, t1, t2, t3⟩, u⟩ := x
  have hl : ∀ y, i < (s.sl.set i y).length := fun y => by rw [List.length_set]; exact hi
  have h1 := h.putS1 hi 0 (by decide) (.int .i64 d.ty) ⟨⟨d.ty, t1, t2, t3⟩, u⟩ (by rw [hx]; rfl)
  have h2 := h1.putS1 (hl _) 1 (by decide) (.int .i64 d.th) ⟨⟨d.ty, d.th, t2, t3⟩, u⟩ (by simp only [slAt_set hi, if_pos]; rfl)
  simp only [List.set_set] at h2
  have h3 := h2.putS1 (hl _) 2 (by decide) (.int .i64 d.ri) ⟨⟨d.ty, d.th, d.ri, t3⟩, u⟩ (by simp only [slAt_set hi, if_pos]; rfl)
  simp only [List.set_set] at h3
  have h4 := h3.putS1 (hl _) 3 (by decide) (.int .i64 d.ba) ⟨⟨d.ty, d.th, d.ri, d.ba⟩, u⟩ (by simp only [slAt_set hi, if_pos]; rfl)
  simp only [List.set_set] at h4
  rw [hx]
  exact h4
theorem hands_is {k : Nat} (hk : k < 1000) (w : World) : Calls Tryz.prog 170 #[.int .i64 (k : Int)] w fun e w' => e = .returned (.int .i64 ((k : Int) + 1)) ∧ w' = w := by
  have e1 : wrap64 ((k : Int) + 1) = (k : Int) + 1 := w64_in (by omega) (by omega)
  have e2 : IntKind.i64.wrap ((k : Int) + 1) = (k : Int) + 1 := wrap_in (by omega) (by omega)
  go_enter Tryz.func170, Tryz.ntmps170
  go_wp2
  go_ret
  exact ⟨by simp [e1], rfl⟩
def gmove (s : St) (f t : Nat) : Option St × Int := if sinside s (slAt s.sl f).c.th t = true then (none, 1) else (some (gmvS s f t), 0)
/-- loop 1 -/
def Mv1Rel (W : World) (g g1 q G n m cb : Nat) (PQ : List Value) (SB : List Value) (s : St) (P Q f t : Nat) (d : Nat) (p : Value) (wr : World) : Prop :=
  ∃ i : Nat, d + i = n ∧ p = .int .i64 i ∧ Ost W wr ⟨s.g, midSl s f t i, s.th⟩ P Q ∧ Bxs W wr q PQ ∧ Wbs W wr g1 SB ∧ (∀ k, k < n → wr.cell? ⟨G, k, none⟩ = some (.int .i64 (fu (moveL (upsOf s.sl) f t) k))) ∧ G < wr.heap.size
def Mv2Rel (W : World) (g1 q m : Nat) (PQ : List Value) (SB : List Value) (s : St) (P Q f t : Nat) (d : Nat) (p : Value) (wr : World) : Prop :=
  ∃ i : Nat, d + i = m ∧ p = .int .i64 i ∧ Ost W wr ⟨s.g, (gmvS s f t).sl, midTh s f t i⟩ P Q ∧ Bxs W wr q PQ ∧ Wbs W wr g1 SB
set_option maxRecDepth 100000 in
set_option maxHeartbeats 16000000 in
theorem gmove_is {s : St} {a b c : Int} {A C : Option Addr} {n ca m cc : Nat} {f t : Nat} {r : Option St × Int} {w : World} (hS : StH w s a b c A n ca C m cc) (hG : Gst s) (hf : f < s.sl.length) (hfu : (slAt s.sl f).c.non = false) (ht : t < s.sl.length) (hem : (slAt s.sl t).c.non = true) (hown : (ownerN s.th (t : Int)).isSome = true) (hr : gmove s f t = r) : Calls Tryz.prog 129 #[.agg #[.int .i64 a, .int .i64 b, .int .i64 c, .slice A n ca, .slice C m cc], .int .i64 (f : Int), .int .i64 (t : Int)] w fun e w' => AnsF w w' e a b c A n ca C m cc r := by
  obtain ⟨k1, k2⟩ := boxes2 w [.int .i64 a, .int .i64 b, .int .i64 c, .slice A n ca, .slice C m cc] [.int .i64 0, .int .i64 0, .int .i64 0, .slice none 0 0, .slice none 0 0] 27 27
  obtain ⟨g1, hg1⟩ : ∃ g1, g1 = w.heap.size + 1 := ⟨_, rfl⟩
  have HNE : Hid (w.heap.size ≠ g1) := Lib.hid (by omega)
  have hFT : f ≠ t := fun e => by rw [e, hem] at hfu; cases hfu
  have HFT := Lib.hid hFT
  clear hFT
  have HTL : Hid (0 < s.th.length) := Lib.hid (by have := (hG.fsl hf (hG.fullTy hf hfu)).th; omega)
  have HFW := Lib.hid hG.few
  have HN := Lib.hid hS.hn
  have HM := Lib.hid hS.hm
  have HS := Lib.hid hS
  have HR := Lib.hid hr
  have HGG := Lib.hid hG
  have HFL := Lib.hid hf
  have HFU := Lib.hid hfu
  have HDL := Lib.hid ht
  have HEM := Lib.hid hem
  have HOWN := Lib.hid hown
  clear hS hr hG hf hfu ht hem hown
  go_enter Tryz.func129, Tryz.ntmps129
  go_upto_region 1 with fail
  rw [← hg1] at k2 ⊢
  clear hg1
  generalize (w.alloc _).alloc _ = w2 at k1 k2 ⊢
  have K1 := Lib.hid k1
  have K2 := Lib.hid k2
  clear k1 k2
  obtain ⟨sb, sp, rfl, hsb, hc⟩ := HS.out.lies.sl (Nat.lt_of_le_of_lt (Nat.zero_le _) HFL.out)
  obtain ⟨⟨⟨hy, hh, hri, hba⟩, hup⟩, hsl⟩ : ∃ x, slAt s.sl f = x := ⟨_, rfl⟩
  have HSL := Lib.hid hsl
  have hX := hc f HFL.out
  rw [hsl] at hX
  replace hX := hX.same (w' := w2) fun k => K1.out.bx.old.cell (p := ⟨sb, k, none⟩) hsb
  obtain ⟨y0, y1, y2, y3, -⟩ := hX
  simp only at y0 y1 y2 y3
  have hFn : (f : Int) < (n : Int) := by have := HFL.out; have := HN.out; omega
  have t3 := K1.out.bx.c 3 _ rfl
  clear hsl hc hsb
  go_upto_region 2 with fail
  have N := Wbs.more K1.out.bx.old [.int .i64 hy, .int .i64 hh, .int .i64 hri, .int .i64 hba] 62
  have hal := below_alloc w2 (.cells #[.int .i64 hy, .int .i64 hh, .int .i64 hri, .int .i64 hba] 62)
  replace K1 := Lib.hid (K1.out.on hal)
  replace K2 := Lib.hid (K2.out.on hal)
  clear y0 y1 y2 y3 t3 hal hFn
  obtain ⟨g8, hg8⟩ : ∃ g8, g8 = w2.heap.size := ⟨_, rfl⟩
  rw [← hg8] at N ⊢
  clear hg8
  generalize w2.alloc _ = w3 at N K1 K2 ⊢
  have N8 := Lib.hid N
  clear N
  have t0 := K1.out.bx.c 0 _ rfl
  have t1 := K1.out.bx.c 1 _ rfl
  have t2 := K1.out.bx.c 2 _ rfl
  have t3 := K1.out.bx.c 3 _ rfl
  have t4 := K1.out.bx.c 4 _ rfl
  have n0 := N8.out.bx.c 0 _ rfl
  have n1 := N8.out.bx.c 1 _ rfl
  have n2 := N8.out.bx.c 2 _ rfl
  have n3 := N8.out.bx.c 3 _ rfl
  obtain ⟨z0, hz0⟩ : ∃ z0, sinside s hh t = z0 := ⟨_, rfl⟩
  have HZ0 := Lib.hid hz0
  go_wp2_with fail
  refine (rings_is (HS.out.on K1.out.bx.old) hz0).mono ?_
  rintro e w4 ⟨rfl, hb⟩
  replace K1 := Lib.hid (K1.out.on hb)
  replace K2 := Lib.hid (K2.out.on hb)
  replace N8 := Lib.hid (N8.out.on hb)
  clear hb hz0 t0 t1 t2 t3 t4 n0 n1 n2 n3
  cases z0 with
  | true =>
    have HX : Hid (r = (none, 1)) := Lib.hid (by rw [← HR.out, gmove, HSL.out, if_pos HZ0.out])
    have t0 := K1.out.bx.c 0 _ rfl
    have t1 := K1.out.bx.c 1 _ rfl
    have t2 := K1.out.bx.c 2 _ rfl
    have t3 := K1.out.bx.c 3 _ rfl
    have t4 := K1.out.bx.c 4 _ rfl
    have HT : Hid (w4.there g1 0 (#[.int .i64 a, .int .i64 b, .int .i64 c, .slice (some ⟨sb, sp, none⟩) n ca, .slice C m cc] : Array Value).size) := Lib.hid (K2.out.there (n := 5) rfl)
    have HO := Lib.hid (state_one a b c (some ⟨sb, sp, none⟩) n ca C m cc)
    have kq := K2.out.setCells (vs := [.int .i64 a, .int .i64 b, .int .i64 c, .slice (some ⟨sb, sp, none⟩) n ca, .slice C m cc]) rfl
    go_wp2_with ((with_reducible change wpList _ _ _ _ _ _); refine wpList_store_mid (by rfl) 27 (.tmp 6) (.tmp 25) (by rfl) g1 0 #[.int .i64 a, .int .i64 b, .int .i64 c, .slice (some ⟨sb, sp, none⟩) n ca, .slice C m cc] (by rfl) (by rfl) HT.out info_state HO.out ?_; change wpList _ _ _ _ _ (w4.setCells g1 0 [.int .i64 a, .int .i64 b, .int .i64 c, .slice (some ⟨sb, sp, none⟩) n ca, .slice C m cc]); generalize w4.setCells g1 0 _ = w5 at kq ⊢)
    refine bodyPost_ret (results_ct rfl _ _ _ (b := g1) (by rfl) kq.bx.range Tryz.underlying27 rfl info_state) rfl ?_
    rw [HX.out]
    exact ⟨some ⟨sb, sp, none⟩, ca, C, cc, rfl, kq.bx.old, rfl, rfl, rfl, rfl⟩
  | false =>
    have HX : Hid (r = (some (gmvS s f t), 0)) := Lib.hid (by rw [← HR.out, gmove, HSL.out, if_neg (by rw [HZ0.out]; decide)])
    clear HR
    have HINS : Hid (insideN s (slAt s.sl f).c.th t = false) := Lib.hid (by have := HZ0.out; rw [sinside, sgood_iff.2 HGG.out, Bool.true_and] at this; rw [HSL.out]; exact this)
    have t0 := K1.out.bx.c 0 _ rfl
    have t1 := K1.out.bx.c 1 _ rfl
    have t2 := K1.out.bx.c 2 _ rfl
    have t3 := K1.out.bx.c 3 _ rfl
    have t4 := K1.out.bx.c 4 _ rfl
    go_wp2_with fail
    refine (pclone_is (HS.out.on K1.out.bx.old)).mono ?_
    rintro e w5 ⟨A2, ca2, C2, cc2, rfl, hca, hcc, hF, hb⟩
    obtain ⟨P, Q, rfl, rfl, hO⟩ := hF.ost (by have := HFL.out; omega) HTL.out hb
    have HCA := Lib.hid hca
    have HCC := Lib.hid hcc
    have NE : Hid (w.heap.size ≠ P ∧ w.heap.size ≠ Q ∧ g1 ≠ P ∧ g1 ≠ Q ∧ g8 ≠ P ∧ g8 ≠ Q) := Lib.hid (by
      have e1 := K1.out.bx.lt
      have e2 := K2.out.bx.lt
      have e3 := N8.out.bx.lt
      have e4 := hO.oP
      have e5 := hO.oQ
      omega)
    replace hO := hO.base K1.out.bx.old
    replace K1 := Lib.hid (K1.out.on hb)
    replace K2 := Lib.hid (K2.out.on hb)
    replace N8 := Lib.hid (N8.out.on hb)
    clear hb hca hcc hF t0 t1 t2 t3 t4
    go_upto_region 5 with fail
    have N := Wbs.more K1.out.bx.old [.int .i64 a, .int .i64 b, .int .i64 c, .slice (some ⟨P, 0, none⟩) n ca2, .slice (some ⟨Q, 0, none⟩) m cc2] 27
    have hal := below_alloc w5 (.cells #[.int .i64 a, .int .i64 b, .int .i64 c, .slice (some ⟨P, 0, none⟩) n ca2, .slice (some ⟨Q, 0, none⟩) m cc2] 27)
    have NQ : Hid (w5.heap.size ≠ P ∧ w5.heap.size ≠ Q ∧ g1 ≠ w5.heap.size ∧ g8 ≠ w5.heap.size) := Lib.hid ⟨by have := hO.lP; omega, by have := hO.lQ; omega, by have := K2.out.bx.lt; omega, by have := N8.out.bx.lt; omega⟩
    replace K1 := Lib.hid (K1.out.on hal)
    replace K2 := Lib.hid (K2.out.on hal)
    replace N8 := Lib.hid (N8.out.on hal)
    replace hO := hO.on hal
    clear hal
    obtain ⟨q, hq⟩ : ∃ q, q = w5.heap.size := ⟨_, rfl⟩
    rw [← hq] at N NQ ⊢
    clear hq
    generalize w5.alloc _ = w6 at N K1 K2 N8 hO ⊢
    have N9 := Lib.hid N
    have O6 := Lib.hid hO
    clear N hO
    have hFn : (f : Int) < (n : Int) := by have := HFL.out; have := HN.out; omega
    have hYn : (t : Int) < (n : Int) := by have := HDL.out; have := HN.out; omega
    have HFn := Lib.hid hFn
    have HYn := Lib.hid hYn
    clear hFn hYn
    go_wp2_with fail
    refine wp_region_held_drew (S := fun w' => Bxs w w' q [.int .i64 a, .int .i64 b, .int .i64 c, .slice (some ⟨P, 0, none⟩) n ca2, .slice (some ⟨Q, 0, none⟩) m cc2] ∧ Bxs w w' g8 [.int .i64 hy, .int .i64 hh, .int .i64 hri, .int .i64 hba]) (by kernel_rfl) ⟨N9.out.bx.drew, N8.out.bx.drew⟩ (fun hHeld => ?_)
    have K1_v := Lib.hid (K1.out.on (below_self w6).drew)
    have K2_v := Lib.hid (K2.out.on (below_self w6).drew)
    have N8_v := Lib.hid (N8.out.on (below_self w6).drew)
    have N9_v := Lib.hid (N9.out.on (below_self w6).drew)
    have O_v := Lib.hid (O6.out.on (below_self w6).drew)
    clear K1 K2 N8 N9 O6
    generalize w6.drew = v at K1_v K2_v N8_v N9_v O_v hHeld ⊢
    refine wpAnyH_take (i := 0) (v := ?_) rfl (by kernel_rfl) (by kernel_rfl) (by kernel_rfl) (fun _ _ _ h => h) (Or.inl ⟨by rfl, ?_⟩) (by assumption) ?_
    rotate_left
    · intro w hSw; go_simp; try with_reducible rfl
    try simp only [Act.put, List.setIfInBounds_toArray, List.set_cons_zero, List.set_cons_succ, List.getElem_toArray, List.getElem_cons_zero, List.getElem_cons_succ]
    refine wpAnyH_take (i := 1) (v := ?_) rfl (by kernel_rfl) (by kernel_rfl) (by kernel_rfl) (fun _ _ _ h => h) (Or.inl ⟨by rfl, ?_⟩) (by assumption) ?_
    rotate_left
    · intro w hSw; have h3 := hSw.1.c 3 _ rfl; go_simp; try with_reducible rfl
    try simp only [Act.put, List.setIfInBounds_toArray, List.set_cons_zero, List.set_cons_succ, List.getElem_toArray, List.getElem_cons_zero, List.getElem_cons_succ]
    refine wpAnyH_take (i := 2) (v := ?_) rfl (by kernel_rfl) (by kernel_rfl) (by kernel_rfl) (fun _ _ _ h => h) (Or.inl ⟨by rfl, ?_⟩) (by assumption) ?_
    rotate_left
    · intro w hSw; go_simp; try with_reducible rfl
    try simp only [Act.put, List.setIfInBounds_toArray, List.set_cons_zero, List.set_cons_succ, List.getElem_toArray, List.getElem_cons_zero, List.getElem_cons_succ]
    refine wpAnyH_take (i := 3) (v := ?_) rfl (by kernel_rfl) (by kernel_rfl) (by kernel_rfl) (fun _ _ _ h => h) (Or.inl ⟨by rfl, ?_⟩) (by assumption) ?_
    rotate_left
    · intro w hSw; go_simp; try with_reducible rfl
    try simp only [Act.put, List.setIfInBounds_toArray, List.set_cons_zero, List.set_cons_succ, List.getElem_toArray, List.getElem_cons_zero, List.getElem_cons_succ]
    refine wpAnyH_take (i := 4) (v := ?_) rfl (by kernel_rfl) (by kernel_rfl) (by kernel_rfl) (fun _ _ _ h => h) (Or.inl ⟨by rfl, ?_⟩) (by assumption) ?_
    rotate_left
    · intro w hSw; have h3 := hSw.1.c 3 _ rfl; go_simp; try with_reducible rfl
    try simp only [Act.put, List.setIfInBounds_toArray, List.set_cons_zero, List.set_cons_succ, List.getElem_toArray, List.getElem_cons_zero, List.getElem_cons_succ]
    refine wpAnyH_take (i := 5) (v := ?_) rfl (by kernel_rfl) (by kernel_rfl) (by kernel_rfl) (fun _ _ _ h => h) (Or.inl ⟨by rfl, ?_⟩) (by assumption) ?_
    rotate_left
    · intro w hSw; go_simp; try with_reducible rfl
    try simp only [Act.put, List.setIfInBounds_toArray, List.set_cons_zero, List.set_cons_succ, List.getElem_toArray, List.getElem_cons_zero, List.getElem_cons_succ]
    refine wpAnyH_take (i := 6) (v := ?_) rfl (by kernel_rfl) (by kernel_rfl) (by kernel_rfl) (fun _ _ _ h => h) (Or.inl ⟨by rfl, ?_⟩) (by assumption) ?_
    rotate_left
    · intro w hSw; go_simp; try with_reducible rfl
    try simp only [Act.put, List.setIfInBounds_toArray, List.set_cons_zero, List.set_cons_succ, List.getElem_toArray, List.getElem_cons_zero, List.getElem_cons_succ]
    refine wpAnyH_take (i := 7) (v := .agg #[.int .i64 hy, .int .i64 hh, .int .i64 hri, .int .i64 hba]) rfl (by kernel_rfl) (by kernel_rfl) (by kernel_rfl) (fun _ _ _ h => h) (yieldsIf_load_mid (by rfl) 62 (.tmp 8) (by rfl) g8 0 (by rfl) [.int .i64 hy, .int .i64 hh, .int .i64 hri, .int .i64 hba] _ (fun w hS => hS.2.range) Tryz.underlying62 rfl info_cap) (by assumption) ?_
    try simp only [Act.put, List.setIfInBounds_toArray, List.set_cons_zero, List.set_cons_succ, List.getElem_toArray, List.getElem_cons_zero, List.getElem_cons_succ]
    refine wpAnyH_take (i := 8) (v := ?_) rfl (by kernel_rfl) (by kernel_rfl) (by kernel_rfl) (fun _ _ _ h => h) (Or.inl ⟨by rfl, ?_⟩) (by assumption) ?_
    rotate_left
    · intro w hSw; have hx := HFn.out; go_simp; try with_reducible rfl
    try simp only [Act.put, List.setIfInBounds_toArray, List.set_cons_zero, List.set_cons_succ, List.getElem_toArray, List.getElem_cons_zero, List.getElem_cons_succ]
    refine wpAnyH_take (i := 9) (v := ?_) rfl (by kernel_rfl) (by kernel_rfl) (by kernel_rfl) (fun _ _ _ h => h) (Or.inl ⟨by rfl, ?_⟩) (by assumption) ?_
    rotate_left
    · intro w hSw; go_simp; try with_reducible rfl
    try simp only [Act.put, List.setIfInBounds_toArray, List.set_cons_zero, List.set_cons_succ, List.getElem_toArray, List.getElem_cons_zero, List.getElem_cons_succ]
    refine wpAnyH_ready (rs := [10]) (by kernel_rfl) (by simp) ?_
    refine AllReadyH.cons rfl (fun K hK => ?_) AllReadyH.nil
    have HT : Hid (v.there P (f * 5) (#[.int .i64 0, .int .i64 0, .int .i64 0, .int .i64 0] : Array Value).size) := Lib.hid (O_v.out.thereC HFL.out)
    have HO := Lib.hid (cap_one 0 0 0 0)
    have o2 := O_v.out.putC HFL.out ⟨0, 0, 0, 0⟩
    have fq := Fnd.setCells P [.int .i64 0, .int .i64 0, .int .i64 0, .int .i64 0] (f * 5) v
    have k1 := K1_v.out.fnd fq NE.out.1 o2.old
    have k2 := K2_v.out.fnd fq NE.out.2.2.1 o2.old
    have k8 := N8_v.out.fnd fq NE.out.2.2.2.2.1 o2.old
    have k9 := N9_v.out.fnd fq NQ.out.1 o2.old
    clear fq K1_v K2_v N8_v N9_v
    refine step_store_mid (by rfl) 62 (.tmp 37) (.tmp 34) (by rfl) P (f * 5) #[.int .i64 0, .int .i64 0, .int .i64 0, .int .i64 0] (by rfl) (by rfl) HT.out info_cap HO.out ?_
    change K _ (v.setCells P (f * 5) [.int .i64 0, .int .i64 0, .int .i64 0, .int .i64 0])
    clear HT
    generalize v.setCells P (f * 5) [.int .i64 0, .int .i64 0, .int .i64 0, .int .i64 0] = v1 at o2 k1 k2 k8 k9 ⊢
    have K1_v := Lib.hid k1
    have K2_v := Lib.hid k2
    have N8_v := Lib.hid k8
    have N9_v := Lib.hid k9
    have O_v1 := Lib.hid o2
    clear o2 k1 k2 k8 k9
    refine hK.out _ _ ⟨N9_v.out.bx, N8_v.out.bx⟩ (fun hHeld => ?_)
    clear hK K
    try simp only [Act.put, List.setIfInBounds_toArray, List.set_cons_zero, List.set_cons_succ, List.getElem_toArray, List.getElem_cons_zero, List.getElem_cons_succ]
    have HDL2 : Hid (t < (s.sl.set f ⟨⟨0, 0, 0, 0⟩, (slAt s.sl f).up⟩).length) := Lib.hid (by rw [List.length_set]; exact HDL.out)
    refine wpAnyH_take (i := 11) (v := ?_) rfl (by kernel_rfl) (by kernel_rfl) (by kernel_rfl) (fun _ _ _ h => h) (Or.inl ⟨by rfl, ?_⟩) (by assumption) ?_
    rotate_left
    · intro w hSw; have hx := HYn.out; go_simp; try with_reducible rfl
    try simp only [Act.put, List.setIfInBounds_toArray, List.set_cons_zero, List.set_cons_succ, List.getElem_toArray, List.getElem_cons_zero, List.getElem_cons_succ]
    refine wpAnyH_take (i := 12) (v := ?_) rfl (by kernel_rfl) (by kernel_rfl) (by kernel_rfl) (fun _ _ _ h => h) (Or.inl ⟨by rfl, ?_⟩) (by assumption) ?_
    rotate_left
    · intro w hSw; go_simp; try with_reducible rfl
    try simp only [Act.put, List.setIfInBounds_toArray, List.set_cons_zero, List.set_cons_succ, List.getElem_toArray, List.getElem_cons_zero, List.getElem_cons_succ]
    refine wpAnyH_ready (rs := [13]) (by kernel_rfl) (by simp) ?_
    refine AllReadyH.cons rfl (fun K hK => ?_) AllReadyH.nil
    have HT : Hid (v1.there P (t * 5) (#[.int .i64 hy, .int .i64 hh, .int .i64 hri, .int .i64 hba] : Array Value).size) := Lib.hid (O_v1.out.thereC HDL2.out)
    have HO := Lib.hid (cap_one hy hh hri hba)
    have o2 := O_v1.out.putC HDL2.out ⟨hy, hh, hri, hba⟩
    have fq := Fnd.setCells P [.int .i64 hy, .int .i64 hh, .int .i64 hri, .int .i64 hba] (t * 5) v1
    have k1 := K1_v.out.fnd fq NE.out.1 o2.old
    have k2 := K2_v.out.fnd fq NE.out.2.2.1 o2.old
    have k8 := N8_v.out.fnd fq NE.out.2.2.2.2.1 o2.old
    have k9 := N9_v.out.fnd fq NQ.out.1 o2.old
    clear fq K1_v K2_v N8_v N9_v
    refine step_store_mid (by rfl) 62 (.tmp 39) (.tmp 35) (by rfl) P (t * 5) #[.int .i64 hy, .int .i64 hh, .int .i64 hri, .int .i64 hba] (by rfl) (by rfl) HT.out info_cap HO.out ?_
    change K _ (v1.setCells P (t * 5) [.int .i64 hy, .int .i64 hh, .int .i64 hri, .int .i64 hba])
    clear HT
    generalize v1.setCells P (t * 5) [.int .i64 hy, .int .i64 hh, .int .i64 hri, .int .i64 hba] = v2 at o2 k1 k2 k8 k9 ⊢
    have K1_v := Lib.hid k1
    have K2_v := Lib.hid k2
    have N8_v := Lib.hid k8
    have N9_v := Lib.hid k9
    have O_v2 := Lib.hid o2
    clear o2 k1 k2 k8 k9
    refine hK.out _ _ ⟨N9_v.out.bx, N8_v.out.bx⟩ (fun hHeld => ?_)
    clear hK K
    try simp only [Act.put, List.setIfInBounds_toArray, List.set_cons_zero, List.set_cons_succ, List.getElem_toArray, List.getElem_cons_zero, List.getElem_cons_succ]
    refine wpAnyH_done (by kernel_rfl) ?_ _
    clear hHeld O_v O_v1
    have hmid : (s.sl.set f ⟨⟨0, 0, 0, 0⟩, (slAt s.sl f).up⟩).set t ⟨⟨hy, hh, hri, hba⟩, (slAt (s.sl.set f ⟨⟨0, 0, 0, 0⟩, (slAt s.sl f).up⟩) t).up⟩ = midSl s f t 0 := by
      rw [slAt_set HFL.out, if_neg HFT.out.symm, ← mid_start HFL.out HDL.out HFT.out, HSL.out]
      rfl
    have o2 := O_v2.out
    simp only [hmid] at o2
    have O2 := Lib.hid o2
    clear o2 O_v2 hmid
    have t0 := K1_v.out.bx.c 0 _ rfl
    have t1 := K1_v.out.bx.c 1 _ rfl
    have t2 := K1_v.out.bx.c 2 _ rfl
    have t3 := K1_v.out.bx.c 3 _ rfl
    have t4 := K1_v.out.bx.c 4 _ rfl
    go_wp2_with fail
    refine (pforest_is (HS.out.on K1_v.out.bx.old) rfl).mono ?_
    rintro e v3 ⟨B, cb, rfl, hcb, hI, hb⟩
    have hl : (upsOf s.sl).length = n := by rw [upsOf_length, HN.out]
    rw [hl] at hcb ⊢
    have HI := Lib.hid hI
    have HL := Lib.hid hl
    replace K1_v := Lib.hid (K1_v.out.on hb)
    replace K2_v := Lib.hid (K2_v.out.on hb)
    replace N8_v := Lib.hid (N8_v.out.on hb)
    replace N9_v := Lib.hid (N9_v.out.on hb)
    replace O2 := Lib.hid (O2.out.on hb)
    clear hb hI hcb hl t0 t1 t2 t3 t4
    go_wp2_with fail
    have HMV : Hid (fmove (upsOf s.sl) f t = some (moveL (upsOf s.sl) f t)) := Lib.hid (by
      have hf : fu (upsOf s.sl) f ≠ -2 := by rw [HGG.out.fuFull HFL.out HFU.out]; have := HGG.out.upLow HFL.out; omega
      have ht : fu (upsOf s.sl) t = -2 := by rw [fu_ups HDL.out, HGG.out.empAt HDL.out HEM.out]; rfl
      rw [fmove, if_pos ⟨(there_at (fo_iff.1 HGG.out.k5) f).2 hf, by omega, by rw [HL.out]; have := HDL.out; have := HN.out; omega, by rw [Int.toNat_natCast]; exact ht⟩, Int.toNat_natCast, Int.toNat_natCast])
    refine (pmove_new HL.out.symm (by have := HFW.out; have := HN.out; omega) HI.out HMV.out).mono ?_
    rintro e v4 ⟨G, cb2, rfl, hG1, hG2, hGc, hb⟩
    have hl : (moveL (upsOf s.sl) f t).length = n := by rw [move_length, HL.out]
    rw [hl] at hGc ⊢
    have HGC := Lib.hid hGc
    have HG2 := Lib.hid hG2
    have HGN : Hid (G ≠ P ∧ G ≠ Q ∧ G ≠ g1 ∧ G ≠ q) := Lib.hid ⟨by have := O2.out.lP; omega, by have := O2.out.lQ; omega, by have := K2_v.out.bx.lt; omega, by have := N9_v.out.bx.lt; omega⟩
    replace K1_v := Lib.hid (K1_v.out.on hb)
    replace K2_v := Lib.hid (K2_v.out.on hb)
    replace N8_v := Lib.hid (N8_v.out.on hb)
    replace N9_v := Lib.hid (N9_v.out.on hb)
    replace O2 := Lib.hid (O2.out.on hb)
    clear hb hGc hG1 hG2 hl HI HMV
    go_upto_region 7 with fail
    have N := Wbs.more K1_v.out.bx.old [.slice (some ⟨G, 0, none⟩) n cb2] 71
    have hal := below_alloc v4 (.cells #[.slice (some ⟨G, 0, none⟩) n cb2] 71)
    replace K2_v := Lib.hid (K2_v.out.on hal)
    replace N9_v := Lib.hid (N9_v.out.on hal)
    replace O2 := Lib.hid (O2.out.on hal)
    replace HGC : Hid (∀ k, k < n → (v4.alloc (.cells #[.slice (some ⟨G, 0, none⟩) n cb2] 71)).cell? ⟨G, k, none⟩ = some (.int .i64 (fu (moveL (upsOf s.sl) f t) k))) := Lib.hid fun k hk => (hal.cell (p := ⟨G, k, none⟩) HG2.out).trans (HGC.out k hk)
    replace HG2 : Hid (G < (v4.alloc (.cells #[.slice (some ⟨G, 0, none⟩) n cb2] 71)).heap.size) := Lib.hid (Nat.lt_of_lt_of_le HG2.out hal.size)
    clear hal K1_v N8_v
    obtain ⟨g10, hg10⟩ : ∃ g10, g10 = v4.heap.size := ⟨_, rfl⟩
    rw [← hg10] at N ⊢
    clear hg10
    generalize v4.alloc _ = v5 at N K2_v N9_v O2 HGC HG2 ⊢
    have h0 := N.bx.c 0 _ rfl
    go_wp2_with fail
    clear h0 N
    go_loopg [51] n (fun d p wr => Mv1Rel w w.heap.size g1 q G n m cb2 [.int .i64 a, .int .i64 b, .int .i64 c, .slice (some ⟨P, 0, none⟩) n ca2, .slice (some ⟨Q, 0, none⟩) m cc2] [.int .i64 0, .int .i64 0, .int .i64 0, .slice none 0 0, .slice none 0 0] s P Q f t d p wr)
    case atStart => exact ⟨0, by omega, rfl, O2.out, N9_v.out.bx, K2_v.out, HGC.out, HG2.out⟩
    case round =>
      clear O2 N9_v K2_v HGC HG2
      obtain ⟨i, hk, rfl, hO, hQ, hZ, hGc, hGl⟩ := hrel
      have HK := Lib.hid hk
      have HO := Lib.hid hO
      have HQ := Lib.hid hQ
      have HZ := Lib.hid hZ
      have HGC := Lib.hid hGc
      have HGL := Lib.hid hGl
      clear hk hO hQ hZ hGc hGl
      by_cases hlt : i < n
      case neg =>
        have hlt2 : ¬ (i : Int) < (n : Int) := by omega
        have hin : i = s.sl.length := by rw [← HN.out]; have := HK.out; omega
        have ho := HO.out
        rw [hin, mid_end] at ho
        have O3 : Hid (Ost w wr ⟨s.g, (gmvS s f t).sl, midTh s f t 0⟩ P Q) := Lib.hid (by rw [← midT_start]; exact ho)
        have Q3 := Lib.hid HQ.out
        have Z3 := Lib.hid HZ.out
        clear ho hin HO HQ HZ HGC HGL HK
        have n4 := Q3.out.c 4 _ rfl
        obtain ⟨wt, hwt⟩ : ∃ x, x = wr := ⟨_, rfl⟩
        rw [← hwt] at O3 Q3 Z3 n4 ⊢
        clear hwt hlt
        go_wp2_with fail
        clear n4
        go_loopg [67] m (fun d p wr => Mv2Rel w g1 q m [.int .i64 a, .int .i64 b, .int .i64 c, .slice (some ⟨P, 0, none⟩) n ca2, .slice (some ⟨Q, 0, none⟩) m cc2] [.int .i64 0, .int .i64 0, .int .i64 0, .slice none 0 0, .slice none 0 0] s P Q f t d p wr)
        case atStart => exact ⟨0, by omega, rfl, O3.out, Q3.out, Z3.out⟩
        case round =>
          clear O3 Q3 Z3
          obtain ⟨j, hk, rfl, hO, hQ, hZ⟩ := hrel
          have HK := Lib.hid hk
          have HO := Lib.hid hO
          have HQ := Lib.hid hQ
          have HZ := Lib.hid hZ
          clear hk hO hQ hZ
          by_cases hlt : j < m
          case neg =>
            have hlt2 : ¬ (j : Int) < (m : Int) := by omega
            have hjm : j = s.th.length := by rw [← HM.out]; have := HK.out; omega
            have ho := HO.out
            rw [hjm, midT_end] at ho
            have HT : Hid (wr.there g1 0 (#[.int .i64 a, .int .i64 b, .int .i64 c, .slice (some ⟨P, 0, none⟩) n ca2, .slice (some ⟨Q, 0, none⟩) m cc2] : Array Value).size) := Lib.hid (HZ.out.there (n := 5) rfl)
            have HO2 := Lib.hid (state_one a b c (some ⟨P, 0, none⟩) n ca2 (some ⟨Q, 0, none⟩) m cc2)
            have R8 := Lib.hid (HZ.out.setCells (vs := [.int .i64 a, .int .i64 b, .int .i64 c, .slice (some ⟨P, 0, none⟩) n ca2, .slice (some ⟨Q, 0, none⟩) m cc2]) rfl)
            have O8 := Lib.hid (ho.step (Fnd.setCells g1 [.int .i64 a, .int .i64 b, .int .i64 c, .slice (some ⟨P, 0, none⟩) n ca2, .slice (some ⟨Q, 0, none⟩) m cc2] 0 wr) NE.out.2.2.1.symm NE.out.2.2.2.1.symm R8.out.bx.old)
            clear ho hjm HO HZ
            have n0 := HQ.out.c 0 _ rfl
            have n1 := HQ.out.c 1 _ rfl
            have n2 := HQ.out.c 2 _ rfl
            have n3 := HQ.out.c 3 _ rfl
            have n4 := HQ.out.c 4 _ rfl
            go_wp2_with ((with_reducible change wpList _ _ _ _ _ _); refine wpList_store_mid (by rfl) 27 (.tmp 6) (.tmp 87) (by rfl) g1 0 #[.int .i64 a, .int .i64 b, .int .i64 c, .slice (some ⟨P, 0, none⟩) n ca2, .slice (some ⟨Q, 0, none⟩) m cc2] (by rfl) (by rfl) HT.out info_state HO2.out ?_; change wpList _ _ _ _ _ (wr.setCells g1 0 [.int .i64 a, .int .i64 b, .int .i64 c, .slice (some ⟨P, 0, none⟩) n ca2, .slice (some ⟨Q, 0, none⟩) m cc2]); generalize wr.setCells g1 0 _ = w9 at R8 O8 ⊢)
            refine bodyPost_ret (results_ct rfl _ _ _ (b := g1) (by rfl) R8.out.bx.range Tryz.underlying27 rfl info_state) rfl ?_
            rw [HX.out]
            exact ⟨_, _, _, _, rfl, R8.out.bx.old, HCA.out, HCC.out, O8.out.fsh⟩
          case pos =>
            have HLT := Lib.hid hlt
            have hlt2 : (j : Int) < (m : Int) := by omega
            have HLT2 := Lib.hid hlt2
            have HJL : Hid (j < s.th.length) := Lib.hid (by rw [← HM.out]; exact hlt)
            have HW : Hid (wrap64 ((j : Int) + 1) = ((j + 1 : Nat) : Int)) := Lib.hid (by rw [w64_in (by omega) (by have := HFW.out; have := HM.out; omega)]; omega)
            obtain ⟨x, hx⟩ : ∃ x, (thAt s.th j).frm = x := ⟨_, rfl⟩
            have HXX := Lib.hid hx
            have O_d := Lib.hid (HO.out.on (below_self wr).drew)
            have Q_d := Lib.hid HQ.out.drew
            have Z_d := Lib.hid (HZ.out.on (below_self wr).drew)
            have c5 := O_d.out.th j (by rw [midTh_len]; exact HJL.out) 5 _ rfl
            rw [midTh_at HJL.out, if_neg (by omega), hx] at c5
            clear hx hlt HO HQ HZ
            go_wp2_with fail
            refine wp_region_held_drew (S := fun w' => Bxs w w' q [.int .i64 a, .int .i64 b, .int .i64 c, .slice (some ⟨P, 0, none⟩) n ca2, .slice (some ⟨Q, 0, none⟩) m cc2] ∧ w'.cell? ⟨Q, j * 13 + 5, none⟩ = some (.int .i64 x)) (by kernel_rfl) ⟨Q_d.out, c5⟩ (fun hHeld => ?_)
            clear c5 hlt2
            generalize wr.drew = v at O_d Q_d Z_d hHeld ⊢
            refine wpAnyH_take (i := 0) (v := ?_) rfl (by kernel_rfl) (by kernel_rfl) (by kernel_rfl) (fun _ _ _ h => h) (Or.inl ⟨by rfl, ?_⟩) (by assumption) ?_
            rotate_left
            · intro w hSw; go_simp; try with_reducible rfl
            try simp only [Act.put, List.setIfInBounds_toArray, List.set_cons_zero, List.set_cons_succ, List.getElem_toArray, List.getElem_cons_zero, List.getElem_cons_succ]
            refine wpAnyH_take (i := 1) (v := ?_) rfl (by kernel_rfl) (by kernel_rfl) (by kernel_rfl) (fun _ _ _ h => h) (Or.inl ⟨by rfl, ?_⟩) (by assumption) ?_
            rotate_left
            · intro w hSw; have h4 := hSw.1.c 4 _ rfl; go_simp; try with_reducible rfl
            try simp only [Act.put, List.setIfInBounds_toArray, List.set_cons_zero, List.set_cons_succ, List.getElem_toArray, List.getElem_cons_zero, List.getElem_cons_succ]
            refine wpAnyH_take (i := 2) (v := ?_) rfl (by kernel_rfl) (by kernel_rfl) (by kernel_rfl) (fun _ _ _ h => h) (Or.inl ⟨by rfl, ?_⟩) (by assumption) ?_
            rotate_left
            · intro w hSw; go_simp; try with_reducible rfl
            try simp only [Act.put, List.setIfInBounds_toArray, List.set_cons_zero, List.set_cons_succ, List.getElem_toArray, List.getElem_cons_zero, List.getElem_cons_succ]
            refine wpAnyH_take (i := 3) (v := ?_) rfl (by kernel_rfl) (by kernel_rfl) (by kernel_rfl) (fun _ _ _ h => h) (Or.inl ⟨by rfl, ?_⟩) (by assumption) ?_
            rotate_left
            · intro w hSw; have hx := HLT2.out; go_simp; try with_reducible rfl
            try simp only [Act.put, List.setIfInBounds_toArray, List.set_cons_zero, List.set_cons_succ, List.getElem_toArray, List.getElem_cons_zero, List.getElem_cons_succ]
            refine wpAnyH_take (i := 4) (v := ?_) rfl (by kernel_rfl) (by kernel_rfl) (by kernel_rfl) (fun _ _ _ h => h) (Or.inl ⟨by rfl, ?_⟩) (by assumption) ?_
            rotate_left
            · intro w hSw; go_simp; try with_reducible rfl
            try simp only [Act.put, List.setIfInBounds_toArray, List.set_cons_zero, List.set_cons_succ, List.getElem_toArray, List.getElem_cons_zero, List.getElem_cons_succ]
            refine wpAnyH_take (i := 5) (v := ?_) rfl (by kernel_rfl) (by kernel_rfl) (by kernel_rfl) (fun _ _ _ h => h) (Or.inl ⟨by rfl, ?_⟩) (by assumption) ?_
            rotate_left
            · intro w hSw; have hx := hSw.2; go_simp; try with_reducible rfl
            try simp only [Act.put, List.setIfInBounds_toArray, List.set_cons_zero, List.set_cons_succ, List.getElem_toArray, List.getElem_cons_zero, List.getElem_cons_succ]
            refine wpAnyH_take (i := 6) (v := ?_) rfl (by kernel_rfl) (by kernel_rfl) (by kernel_rfl) (fun _ _ _ h => h) (Or.inl ⟨by rfl, ?_⟩) (by assumption) ?_
            rotate_left
            · intro w hSw; go_simp; try with_reducible rfl
            try simp only [Act.put, List.setIfInBounds_toArray, List.set_cons_zero, List.set_cons_succ, List.getElem_toArray, List.getElem_cons_zero, List.getElem_cons_succ]
            refine wpAnyH_ready (rs := [7]) (by kernel_rfl) (by simp) ?_
            refine AllReadyH.cons rfl (fun K hK => ?_) AllReadyH.nil
            go_simp
            refine (hands_is (by have := HFL.out; have := HFW.out; omega) v).mono ?_
            rintro e v1 ⟨rfl, rfl⟩
            refine hK.out _ _ hHeld (fun hHeld => ?_)
            clear hK K
            try simp only [Act.put, List.setIfInBounds_toArray, List.set_cons_zero, List.set_cons_succ, List.getElem_toArray, List.getElem_cons_zero, List.getElem_cons_succ]
            refine wpAnyH_take (i := 8) (v := ?_) rfl (by kernel_rfl) (by kernel_rfl) (by kernel_rfl) (fun _ _ _ h => h) (Or.inl ⟨by rfl, ?_⟩) (by assumption) ?_
            rotate_left
            · intro w hSw; go_simp; try with_reducible rfl
            try simp only [Act.put, List.setIfInBounds_toArray, List.set_cons_zero, List.set_cons_succ, List.getElem_toArray, List.getElem_cons_zero, List.getElem_cons_succ]
            refine wpAnyH_done (by kernel_rfl) ?_ _
            clear hHeld
            by_cases hx : x = (f : Int) + 1
            case neg =>
              have hx' : (x == (f : Int) + 1) = false := by rw [beq_eq_false_iff_ne]; exact hx
              have HNX := Lib.hid hx
              clear hx
              go_wp2
              go_roundg (m - (j + 1))
              case measure => have := HK.out; have := HLT.out; omega
              case rel => exact ⟨j + 1, by have := HLT.out; omega, by first | go_num | exact congrArg _ HW.out, by rw [← midT_same HJL.out (by rw [HXX.out]; exact HNX.out)]; exact O_d.out, Q_d.out, Z_d.out⟩
            case pos =>
              have hx' : (x == (f : Int) + 1) = true := by rw [beq_iff_eq]; exact hx
              have HPX := Lib.hid hx
              clear hx
              go_wp2_with fail
              have O_e := Lib.hid (O_d.out.on (below_self v1).drew)
              have Q_e := Lib.hid Q_d.out.drew
              have Z_e := Lib.hid (Z_d.out.on (below_self v1).drew)
              clear O_d Q_d Z_d
              refine wp_region_held_drew (S := fun w' => Bxs w w' q [.int .i64 a, .int .i64 b, .int .i64 c, .slice (some ⟨P, 0, none⟩) n ca2, .slice (some ⟨Q, 0, none⟩) m cc2]) (by kernel_rfl) Q_e.out (fun hHeld => ?_)
              generalize v1.drew = v2 at O_e Q_e Z_e hHeld ⊢
              refine wpAnyH_take (i := 0) (v := ?_) rfl (by kernel_rfl) (by kernel_rfl) (by kernel_rfl) (fun _ _ _ h => h) (Or.inl ⟨by rfl, ?_⟩) (by assumption) ?_
              rotate_left
              · intro w hSw; go_simp; try with_reducible rfl
              try simp only [Act.put, List.setIfInBounds_toArray, List.set_cons_zero, List.set_cons_succ, List.getElem_toArray, List.getElem_cons_zero, List.getElem_cons_succ]
              refine wpAnyH_take (i := 1) (v := ?_) rfl (by kernel_rfl) (by kernel_rfl) (by kernel_rfl) (fun _ _ _ h => h) (Or.inl ⟨by rfl, ?_⟩) (by assumption) ?_
              rotate_left
              · intro w hSw; have h4 := hSw.c 4 _ rfl; go_simp; try with_reducible rfl
              try simp only [Act.put, List.setIfInBounds_toArray, List.set_cons_zero, List.set_cons_succ, List.getElem_toArray, List.getElem_cons_zero, List.getElem_cons_succ]
              refine wpAnyH_take (i := 2) (v := ?_) rfl (by kernel_rfl) (by kernel_rfl) (by kernel_rfl) (fun _ _ _ h => h) (Or.inl ⟨by rfl, ?_⟩) (by assumption) ?_
              rotate_left
              · intro w hSw; go_simp; try with_reducible rfl
              try simp only [Act.put, List.setIfInBounds_toArray, List.set_cons_zero, List.set_cons_succ, List.getElem_toArray, List.getElem_cons_zero, List.getElem_cons_succ]
              refine wpAnyH_take (i := 3) (v := ?_) rfl (by kernel_rfl) (by kernel_rfl) (by kernel_rfl) (fun _ _ _ h => h) (Or.inl ⟨by rfl, ?_⟩) (by assumption) ?_
              rotate_left
              · intro w hSw; go_simp; try with_reducible rfl
              try simp only [Act.put, List.setIfInBounds_toArray, List.set_cons_zero, List.set_cons_succ, List.getElem_toArray, List.getElem_cons_zero, List.getElem_cons_succ]
              refine wpAnyH_ready (rs := [4]) (by kernel_rfl) (by simp) ?_
              refine AllReadyH.cons rfl (fun K hK => ?_) AllReadyH.nil
              go_simp
              refine (hands_is (by have := HDL.out; have := HFW.out; omega) v2).mono ?_
              rintro e v3 ⟨rfl, rfl⟩
              refine hK.out _ _ hHeld (fun hHeld => ?_)
              clear hK K
              try simp only [Act.put, List.setIfInBounds_toArray, List.set_cons_zero, List.set_cons_succ, List.getElem_toArray, List.getElem_cons_zero, List.getElem_cons_succ]
              refine wpAnyH_take (i := 5) (v := ?_) rfl (by kernel_rfl) (by kernel_rfl) (by kernel_rfl) (fun _ _ _ h => h) (Or.inl ⟨by rfl, ?_⟩) (by assumption) ?_
              rotate_left
              · intro w hSw; have hx := HLT2.out; go_simp; try with_reducible rfl
              try simp only [Act.put, List.setIfInBounds_toArray, List.set_cons_zero, List.set_cons_succ, List.getElem_toArray, List.getElem_cons_zero, List.getElem_cons_succ]
              refine wpAnyH_take (i := 6) (v := ?_) rfl (by kernel_rfl) (by kernel_rfl) (by kernel_rfl) (fun _ _ _ h => h) (Or.inl ⟨by rfl, ?_⟩) (by assumption) ?_
              rotate_left
              · intro w hSw; go_simp; try with_reducible rfl
              try simp only [Act.put, List.setIfInBounds_toArray, List.set_cons_zero, List.set_cons_succ, List.getElem_toArray, List.getElem_cons_zero, List.getElem_cons_succ]
              have c5 := O_e.out.th j (by rw [midTh_len]; exact HJL.out) 5 _ rfl
              have f5 := O_e.out.Qf (j * 13 + 5)
              have o6 := O_e.out.putT1 (by rw [midTh_len]; exact HJL.out) 5 (by decide) (.int .i64 ((t : Int) + 1)) (mvTh f t (thAt s.th j)) (by rw [midTh_at HJL.out, if_neg (by omega), mvTh, if_pos (by rw [HXX.out]; exact HPX.out)]; rfl)
              simp only [midT_succ HJL.out] at o6
              have fq := Fnd.mark v3 Q (j * 13 + 5) (.int .i64 ((t : Int) + 1))
              have q6 := Q_e.out.fnd fq NQ.out.2.1 o6.old
              have z6 := Z_e.out.fnd fq NE.out.2.2.2.1 o6.old
              clear fq Q_e Z_e O_e
              refine wpAnyH_ready (rs := [7]) (by kernel_rfl) (by simp) ?_
              refine AllReadyH.cons rfl (fun K hK => ?_) AllReadyH.nil
              go_simp
              clear c5 f5
              generalize v3.setCell _ _ = v4 at o6 q6 z6 ⊢
              have O6 := Lib.hid o6
              have Q6 := Lib.hid q6
              have Z6 := Lib.hid z6
              clear o6 q6 z6
              refine hK.out _ _ Q6.out (fun hHeld => ?_)
              clear hK K
              try simp only [Act.put, List.setIfInBounds_toArray, List.set_cons_zero, List.set_cons_succ, List.getElem_toArray, List.getElem_cons_zero, List.getElem_cons_succ]
              refine wpAnyH_done (by kernel_rfl) ?_ _
              clear hHeld
              go_wp2
              go_roundg (m - (j + 1))
              case measure => have := HK.out; have := HLT.out; omega
              case rel => exact ⟨j + 1, by have := HLT.out; omega, by first | go_num | exact congrArg _ HW.out, O6.out, Q6.out, Z6.out⟩
      case pos =>
        have HLT := Lib.hid hlt
        have hlt2 : (i : Int) < (n : Int) := by omega
        have HIL : Hid (i < s.sl.length) := Lib.hid (by rw [← HN.out]; exact hlt)
        obtain ⟨u, hu⟩ : ∃ u, fu (moveL (upsOf s.sl) f t) i = u := ⟨_, rfl⟩
        have c1 := HGC.out i hlt
        rw [hu] at c1
        have HU := Lib.hid hu
        have n3 := HQ.out.c 3 _ rfl
        have HW : Hid (wrap64 ((i : Int) + 1) = ((i + 1 : Nat) : Int)) := Lib.hid (by rw [w64_in (by omega) (by have := HFW.out; have := HN.out; omega)]; omega)
        have HM0 : Hid (max u (-1) = (mvSl s f t i).up) := Lib.hid (by rw [← Mvs.newUp HGG.out ⟨HFL.out, HFU.out, HDL.out, HEM.out, HOWN.out, HINS.out⟩ HIL.out, hu])
        clear hu hlt
        have c4 := HO.out.sl i (by rw [midSl_len]; exact HIL.out) 4 _ rfl
        have f4 := HO.out.Pf (i * 5 + 4)
        by_cases hu : u < -1
        case pos =>
          have HXX : Hid ((mvSl s f t i).up = (-1)) := Lib.hid (by rw [← HM0.out]; omega)
          have o5 := HO.out.putS1 (by rw [midSl_len]; exact HIL.out) 4 (by decide) (.int .i64 (-1)) ⟨mvCap s f t i, (-1)⟩ (by rw [midSl_at HIL.out]; rfl)
          rw [show (⟨mvCap s f t i, (-1)⟩ : Sl) = ⟨mvCap s f t i, (mvSl s f t i).up⟩ by rw [HXX.out]] at o5
          simp only [mid_succ HIL.out] at o5
          have fq := Fnd.mark wr P (i * 5 + 4) (.int .i64 (-1))
          have q5 := HQ.out.fnd fq NQ.out.1 o5.old
          have z5 := HZ.out.fnd fq NE.out.2.2.1 o5.old
          have G5 : Hid (∀ k, k < n → (wr.setCell ⟨P, i * 5 + 4, none⟩ (.int .i64 (-1))).cell? ⟨G, k, none⟩ = some (.int .i64 (fu (moveL (upsOf s.sl) f t) k))) := Lib.hid fun k hk => (fq.cell HGL.out HGN.out.1).trans (HGC.out k hk)
          have GL5 : Hid (G < (wr.setCell ⟨P, i * 5 + 4, none⟩ (.int .i64 (-1))).heap.size) := Lib.hid (Nat.lt_of_lt_of_le HGL.out fq.size)
          have O5 := Lib.hid o5
          have Q5 := Lib.hid q5
          have Z5 := Lib.hid z5
          clear fq o5 q5 z5
          have hu1 : u ≤ -1 := by omega
          go_wp2
          go_roundg (n - (i + 1))
          case measure => have := HK.out; have := HLT.out; omega
          case rel => exact ⟨i + 1, by have := HLT.out; omega, by first | go_num | exact congrArg _ HW.out, O5.out, Q5.out, Z5.out, G5.out, GL5.out⟩
        case neg =>
          have HXX : Hid ((mvSl s f t i).up = u) := Lib.hid (by rw [← HM0.out]; omega)
          have o5 := HO.out.putS1 (by rw [midSl_len]; exact HIL.out) 4 (by decide) (.int .i64 u) ⟨mvCap s f t i, u⟩ (by rw [midSl_at HIL.out]; rfl)
          rw [show (⟨mvCap s f t i, u⟩ : Sl) = ⟨mvCap s f t i, (mvSl s f t i).up⟩ by rw [HXX.out]] at o5
          simp only [mid_succ HIL.out] at o5
          have fq := Fnd.mark wr P (i * 5 + 4) (.int .i64 u)
          have q5 := HQ.out.fnd fq NQ.out.1 o5.old
          have z5 := HZ.out.fnd fq NE.out.2.2.1 o5.old
          have G5 : Hid (∀ k, k < n → (wr.setCell ⟨P, i * 5 + 4, none⟩ (.int .i64 u)).cell? ⟨G, k, none⟩ = some (.int .i64 (fu (moveL (upsOf s.sl) f t) k))) := Lib.hid fun k hk => (fq.cell HGL.out HGN.out.1).trans (HGC.out k hk)
          have GL5 : Hid (G < (wr.setCell ⟨P, i * 5 + 4, none⟩ (.int .i64 u)).heap.size) := Lib.hid (Nat.lt_of_lt_of_le HGL.out fq.size)
          have O5 := Lib.hid o5
          have Q5 := Lib.hid q5
          have Z5 := Lib.hid z5
          clear fq o5 q5 z5
          have hu1 : -1 ≤ u := by omega
          go_wp2
          go_roundg (n - (i + 1))
          case measure => have := HK.out; have := HLT.out; omega
          case rel => exact ⟨i + 1, by have := HLT.out; omega, by first | go_num | exact congrArg _ HW.out, O5.out, Q5.out, Z5.out, G5.out, GL5.out⟩
end Go.Proofs.YtkpbfbmkolgmgaaGreat
