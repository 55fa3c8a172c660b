/-
  The law's own awake: what two copies leave when the second is revoked. Condition: none.
-/
import Derived.Test.YtjnohbahjlidoaaGreatTUg
import Derived.Test.YtjnohbahjlidoaaGreatTUi0
import Derived.Test.YtjnohbahjlidoaaGreatTDt
namespace Go.Proofs.YtjnohbahjlidoaaGreat
open Go.RowKit
set_option linter.unusedSimpArgs false
set_option linter.unusedVariables false

/-! ### a region that loads from a box of its own, and stores the call's answer there -/
theorem st_load {P : Program} {ops : Array Oper} {o : Oper} {a : Act} {w : World} {K : Act → World → Prop} {Q : Exit → Act → World → Prop} (hw : Region.wanted o (yielded ops a.tmps) = true) (ty : TypeId) (x : Operand) (ho : o.op = .load ty x)
    (b off : Nat) (hx : a.eval x = .pointer (some ⟨b, off, none⟩)) (cs : List Value) (d : TypeDesc) (hr : w.rangeAt b off cs) (hu : P.underlying ty = some d) (hd : d.isRow = true) (hi : (P.info? ty).map (·.size) = some cs.length) (hk : K (a.put o.dst (.agg cs.toArray)) w) : OpW P ops o a w K Q := by
  rcases yieldsIf_load_mid (S := fun w' => w' = w) hw ty x ho b off hx cs d (fun w' e => e ▸ hr) hu hd hi with ⟨_, h⟩ | ⟨h, _⟩
  · exact st_run hw (h w rfl) hk
  · rw [hw] at h; cases h
structure P7 (U : World) (g : Nat) (l1 l2 : List Int) (a b c : Int) (A : Option Addr) (n ca : Nat) (C : Option Addr) (m cc : Nat) (r : Option St) (R : Value) (mk : Value → Value → Value) (CQ : Value) (fld fb1 fw1 fb2 fw2 fbd fdo fmv fe1 fe2 fs : Bool) (vld vb1 vw1 vb2 vw2 vbd vdo vmv ve1 ve2 : Value) (w : World) : Prop where
  ld : fld = true → vld = CQ
  h : fs = false → PHI U l1 l2 a b c A n ca C m cc r R [] false true mk fb1 fw1 fb2 fw2 fbd fdo fmv fe1 fe2 false false false vb1 vw1 vb2 vw2 vbd vdo vmv ve1 ve2 undef undef w
  s : fs = true → (fld && fb1 && fw1 && fb2 && fw2 && fbd && fdo && fmv && fe1) = true ∧ ∃ w0 A' ca' C' cc', vdo = .tuple #[.agg #[.int .i64 a, .int .i64 b, .int .i64 c, .slice A' n ca', .slice C' m cc'], R] ∧
    w = w0.setCells g 0 [.int .i64 a, .int .i64 b, .int .i64 c, .slice A' n ca', .slice C' m cc'] ∧ PHI U l1 l2 a b c A n ca C m cc r R [] false true mk fb1 fw1 fb2 fw2 fbd fdo fmv fe1 fe2 false false false vb1 vw1 vb2 vw2 vbd vdo vmv ve1 ve2 undef undef w0
section
variable {U : World} {g : Nat} {l1 l2 : List Int} {a b c : Int} {A : Option Addr} {n ca : Nat} {C : Option Addr} {m cc : Nat} {r : Option St} {R : Value} {CY : List Value} {mk : Value → Value → Value} {CQ : Value} {fld fb1 fw1 fb2 fw2 fbd fdo fmv fe1 fe2 fq fy fs nb ny : Bool} {vld vb1 vw1 vb2 vw2 vbd vdo vmv ve1 ve2 vq vy : Value} {w : World}
theorem P7.early (h : P7 U g l1 l2 a b c A n ca C m cc r R mk CQ fld fb1 fw1 fb2 fw2 fbd fdo fmv fe1 fe2 fs vld vb1 vw1 vb2 vw2 vbd vdo vmv ve1 ve2 w) (hf : (fld && fb1 && fw1 && fb2 && fw2 && fbd && fdo && fmv && fe1) = false) : fs = false := by
  rw [Bool.eq_false_iff]
  intro e
  have := (h.s e).1
  rw [hf] at this
  cases this
theorem PHI.e1v (h : PHI U l1 l2 a b c A n ca C m cc r R CY nb ny mk fb1 fw1 fb2 fw2 fbd fdo fmv fe1 fe2 fq fy fs vb1 vw1 vb2 vw2 vbd vdo vmv ve1 ve2 vq vy w) (h1 : fmv = true) (h2 : fe1 = true) : ∃ A' ca' C' cc', ve1 = .agg #[.int .i64 a, .int .i64 b, .int .i64 c, .slice A' n ca', .slice C' m cc'] ∧ vdo = .tuple #[.agg #[.int .i64 a, .int .i64 b, .int .i64 c, .slice A' n ca', .slice C' m cc'], R] := by
  obtain ⟨A', ca', C', cc', h3, h4⟩ := h.tup h1
  obtain ⟨-, y, h5⟩ := h.e9 h2
  refine ⟨A', ca', C', cc', ?_, h4.trans h3⟩
  rw [h3] at h5
  injection h5 with h5
  injection h5 with h5
  injection h5 with h5
  exact h5.symm
theorem P7.fin (h : P7 U g l1 l2 a b c A n ca C m cc r R mk CQ fld fb1 fw1 fb2 fw2 fbd fdo fmv fe1 fe2 fs vld vb1 vw1 vb2 vw2 vbd vdo vmv ve1 ve2 w) (k1 : fs = true) : ∃ w0 A' ca' C' cc', w = w0.setCells g 0 [.int .i64 a, .int .i64 b, .int .i64 c, .slice A' n ca', .slice C' m cc'] ∧
    Below U.heap.size U w0 ∧ (match r with | none => A' = A ∧ ca' = ca ∧ C' = C ∧ cc' = cc | some s' => n ≤ ca' ∧ m ≤ cc' ∧ Fsh U w0 s' A' C') := by
  obtain ⟨hf, w0, A', ca', C', cc', eD, ew, hP⟩ := h.s k1
  simp only [Bool.and_eq_true] at hf
  obtain ⟨⟨⟨-, f7⟩, -⟩, -⟩ := hf
  have k := hP.rg rfl
  obtain ⟨A1, ca1, C1, cc1, h3, h4⟩ := k.d f7
  refine ⟨w0, A', ca', C', cc', ew, hP.bb, ?_⟩
  rw [eD] at h3
  injection h3 with h3
  injection h3 with h3
  injection h3 with h3 _
  injection h3 with h3
  injection h3 with h3
  injection h3 with _ h3
  injection h3 with _ h3
  injection h3 with _ h3
  injection h3 with h3 h5
  injection h5 with h5 _
  injection h3 with h3 _ h6
  injection h5 with h5 _ h7
  subst h3 h5 h6 h7
  exact h4
end
theorem lis_two (w : World) (x y : Int) : LisAt (w.alloc (.cells #[.int .i64 x, .int .i64 y] 3)) (.slice (some ⟨w.heap.size, 0, none⟩) 2 2) [x, y] :=
  ⟨_, 2, 2, rfl, rfl, Nat.le_refl _, fun _ => ⟨w.heap.size, 0, rfl, (Bxs.new w [.int .i64 x, .int .i64 y] 3).lt, fun j z hz => by
    have h := (Bxs.new w [.int .i64 x, .int .i64 y] 3).c j (.int .i64 z)
    rw [Nat.zero_add]
    refine h ?_
    rcases j with _ | _ | j
    · cases hz; rfl
    · cases hz; rfl
    · cases hz⟩⟩

set_option maxRecDepth 100000 in
set_option maxHeartbeats 16000000 in
theorem awake17_is (w : World) : Calls Tryz.prog 8 #[] w fun e w' => e = .returned (.bool true) ∧ Below w.heap.size w w' := by
  go_enter Tryz.func8, Tryz.ntmps8
  go_wp2_with fail
  refine (first17_is w).mono ?_
  rintro e w2 ⟨A, ca, C, cc, rfl, hS, -, hb⟩
  have HS := Lib.hid hS
  have HB2 := Lib.hid hb
  clear hS hb
  have hL := one_at w2 1
  have hb := below_alloc w2 (.cells #[.int .i64 1] 3)
  go_wp2_with fail
  generalize w2.alloc _ = w3 at hL hb ⊢
  have HL := Lib.hid hL
  have HB3 := Lib.hid hb
  clear hL hb
  refine (way17_is w3).mono ?_
  rintro e w4 ⟨rfl, hb⟩
  replace HL := Lib.hid (HL.out.on hb)
  have HB4 := Lib.hid (below_on HB3.out hb)
  clear hb HB3
  have hM := one_at w4 2
  have hb := below_alloc w4 (.cells #[.int .i64 2] 3)
  go_wp2_with fail
  generalize w4.alloc _ = w5 at hM hb ⊢
  have HM := Lib.hid hM
  replace HL := Lib.hid (HL.out.on hb)
  have HB5 := Lib.hid (below_on HB4.out hb)
  clear hM hb HB4
  refine (way17_is w5).mono ?_
  rintro e w6 ⟨rfl, hb⟩
  replace HM := Lib.hid (HM.out.on hb)
  replace HL := Lib.hid (HL.out.on hb)
  have HB6 := Lib.hid (below_on HB5.out hb)
  clear hb HB5
  go_wp2_with fail
  refine (gdo_is (z := 0) (HS.out.on HB6.out) rfl (by simp) HL.out rfl (by simp) HM.out tw_a).mono ?_
  rintro e w7 ⟨A2, ca1, C2, cc1, rfl, hb, hca, hcc, hF⟩
  obtain ⟨P1, Q1, rfl, rfl, hO⟩ := hF.ost (by rw [tw1_len.1]; decide) (by rw [tw1_len.2]; decide) hb
  have HB7 := Lib.hid (below_on (below_on HB2.out HB6.out) hb)
  simp only [Rep.val]
  clear hF hb HS HB2 HB6 HL HM
  have HC1 := Lib.hid (⟨hca, hcc⟩ : 32 ≤ ca1 ∧ 16 ≤ cc1)
  clear hca hcc
  obtain ⟨n2, n3⟩ := boxes2 w7 [.int .i64 2, .int .i64 32, .int .i64 16, .slice (some ⟨P1, 0, none⟩) 32 ca1, .slice (some ⟨Q1, 0, none⟩) 16 cc1] [.int .i64 0, .int .u64 0, .int .i64 0] 28 33
  have o2 := (hO.on (below_alloc w7 (.cells #[.int .i64 2, .int .i64 32, .int .i64 16, .slice (some ⟨P1, 0, none⟩) 32 ca1, .slice (some ⟨Q1, 0, none⟩) 16 cc1] 28))).on (below_alloc _ (.cells #[.int .i64 0, .int .u64 0, .int .i64 0] 33))
  clear hO n3
  go_upto_region 2 with fail
  obtain ⟨j1, hj1⟩ : ∃ j1, j1 = w7.heap.size + 1 := ⟨_, rfl⟩
  try rw [← hj1]
  clear hj1
  obtain ⟨j0, hj0⟩ : ∃ j0, j0 = w7.heap.size := ⟨_, rfl⟩
  rw [← hj0] at n2 ⊢
  clear hj0
  generalize (w7.alloc _).alloc _ = v2 at n2 o2 ⊢
  have K := Lib.hid n2
  have O_tw1 := Lib.hid o2
  clear n2 o2
  have HS1 : Hid (StH v2 tw1 2 32 16 (some ⟨P1, 0, none⟩) 32 ca1 (some ⟨Q1, 0, none⟩) 16 cc1) := Lib.hid ⟨O_tw1.out.lies, tw_g.1, tw1_len.1.symm, tw1_len.2.symm, by decide, by decide, HC1.out.1, HC1.out.2⟩
  have HP : Hid (∀ s', some tw2s = some s' → 0 < s'.sl.length ∧ 0 < s'.th.length) := Lib.hid fun s' e => by
    injection e with e
    rw [← e, tw2_len.1, tw2_len.2]
    decide
  have hb0 := (below_self v2).drew
  refine wp_region_held_drew (S := fun _ => True) (by kernel_rfl) trivial (fun _ => ?_)
  refine wpAnyH_inv (f0 := 0) [0, 1, 2, 3, 4, 5, 6, 7, 8, 9, 10] [16, 17, 18, 19, 20, 21, 22, 15, 23, 24] (fun l tm w => P7 v2 j0 [2] [3] 2 32 16 (some ⟨P1, 0, none⟩) 32 ca1 (some ⟨Q1, 0, none⟩) 16 cc1 (some tw2s) (.agg #[.int .i64 0, .int .u64 0, .int .i64 0]) (fun p q => .agg #[.int .i64 2, flat1 p, flat1 q, .int .i64 7, .int .i64 0, .int .u64 0]) (.agg #[.int .i64 2, .int .i64 32, .int .i64 16, .slice (some ⟨P1, 0, none⟩) 32 ca1, .slice (some ⟨Q1, 0, none⟩) 16 cc1]) (l 0) (l 1) (l 2) (l 3) (l 4) (l 5) (l 6) (l 7) (l 8) (l 9) (l 10) (tm 16) (tm 17) (tm 18) (tm 19) (tm 20) (tm 21) (tm 22) (tm 15) (tm 23) (tm 24) w) (by kernel_rfl) (by kernel_rfl) rfl (by decide) (fun _ _ _ _ => trivial) ?start (AllSteps.cons rfl ?o0 (AllSteps.cons rfl ?o1 (AllSteps.cons rfl ?o2 (AllSteps.cons rfl ?o3 (AllSteps.cons rfl ?o4 (AllSteps.cons rfl ?o5 (AllSteps.cons rfl ?o6 (AllSteps.cons rfl ?o7 (AllSteps.cons rfl ?o8 (AllSteps.cons rfl ?o9 (AllSteps.cons rfl ?o10 AllSteps.nil))))))))))) ?fin
  case o0 =>
    intro l tm w h hl hd K0 hK
    try dsimp only at h
    rw [hl] at h
    have hs6 := h.early (by simp)
    have hP := h.h hs6
    refine st_load (by rfl) 28 (.tmp 1) (by rfl) j0 0 (by kernel_rfl) [.int .i64 2, .int .i64 32, .int .i64 16, .slice (some ⟨P1, 0, none⟩) 32 ca1, .slice (some ⟨Q1, 0, none⟩) 16 cc1] _ (K.out.on hP.bb).bx.range Tryz.underlying28 rfl info_state ?_
    exact hK.out _ _ ⟨fun _ => rfl, fun _ => hP, fun e => ff hs6 e⟩
  case o1 =>
    intro l tm w h hl hd K0 hK
    try dsimp only at h
    rw [hl] at h
    have hs6 := h.early (by simp)
    have hv6 := h.ld
    replace h := h.h hs6
    have hh := h.addB1 (below_alloc w (.cells #[.int .i64 2] 3)) (lis_one w 2)
    exact st_run (v := .slice (some ⟨w.heap.size, 0, none⟩) 1 1) (by rfl) (by kernel_rfl) (hK.out _ _ ⟨hv6, fun _ => hh, fun e => ff hs6 e⟩)
  case o2 =>
    intro l tm w h hl hd K0 hK
    try dsimp only at h
    rw [hl] at h
    have hs6 := h.early (by simp)
    have hv6 := h.ld
    replace h := h.h hs6
    have h0 := h
    obtain ⟨⟨B, nB, cB, eB, -⟩, -⟩ := h0.way1 (hd 1 (by kernel_rfl))
    have hc := way17_is (A := B) (n := nB) (cap := cB) w
    rw [← eB] at hc
    refine st_call (f := 11) (args := #[(tm 17)]) (w' := w) (by rfl) (by kernel_rfl) (hc.mono ?_)
    rintro e w1 ⟨rfl, hb⟩
    exact ⟨_, rfl, hK.out _ _ ⟨hv6, fun _ => (h.addW1 (hd 1 (by kernel_rfl)) hb rfl), fun e => ff hs6 e⟩⟩
  case o3 =>
    intro l tm w h hl hd K0 hK
    try dsimp only at h
    rw [hl] at h
    have hs6 := h.early (by simp)
    have hv6 := h.ld
    replace h := h.h hs6
    have hh := h.addB2 (below_alloc w (.cells #[.int .i64 3] 3)) (lis_one w 3)
    exact st_run (v := .slice (some ⟨w.heap.size, 0, none⟩) 1 1) (by rfl) (by kernel_rfl) (hK.out _ _ ⟨hv6, fun _ => hh, fun e => ff hs6 e⟩)
  case o4 =>
    intro l tm w h hl hd K0 hK
    try dsimp only at h
    rw [hl] at h
    have hs6 := h.early (by simp)
    have hv6 := h.ld
    replace h := h.h hs6
    have h0 := h
    obtain ⟨⟨B, nB, cB, eB, -⟩, -⟩ := h0.way2 (hd 3 (by kernel_rfl))
    have hc := way17_is (A := B) (n := nB) (cap := cB) w
    rw [← eB] at hc
    refine st_call (f := 11) (args := #[(tm 19)]) (w' := w) (by rfl) (by kernel_rfl) (hc.mono ?_)
    rintro e w1 ⟨rfl, hb⟩
    exact ⟨_, rfl, hK.out _ _ ⟨hv6, fun _ => (h.addW2 (hd 3 (by kernel_rfl)) hb rfl), fun e => ff hs6 e⟩⟩
  case o5 =>
    intro l tm w h hl hd K0 hK
    try dsimp only at h
    rw [hl] at h
    have hs6 := h.early (by simp)
    have hv6 := h.ld
    replace h := h.h hs6
    have d1 := hd 2 (by kernel_rfl)
    have d2 := hd 4 (by kernel_rfl)
    have h0 := h
    obtain ⟨⟨B1, n1, k1, eB1, eN1, eK1, eI1⟩, eW1⟩ := h0.way1 ((h0.rg rfl).w1 d1).1
    obtain ⟨⟨B2, n2, k2, eB2, eN2, eK2, eI2⟩, eW2⟩ := h0.way2 ((h0.rg rfl).w2 d2).1
    have hW1 := (eW1 d1).trans (by rw [eB1])
    have hW2 := (eW2 d2).trans (by rw [eB2])
    refine st_run (v := (fun p q => .agg #[.int .i64 2, flat1 p, flat1 q, .int .i64 7, .int .i64 0, .int .u64 0]) (tm 18) (tm 20)) (w' := w) (by rfl) ?_ (hK.out _ _ ⟨hv6, fun _ => (h.addBd d1 d2 rfl), fun e => ff hs6 e⟩)
    simp only [List.getElem_toArray, List.getElem_cons_zero, List.getElem_cons_succ, pmA, List.foldl_cons, List.foldl_nil, Act.put, List.setIfInBounds_toArray, List.set_cons_zero, List.set_cons_succ]
    rw [hW1, hW2]
    kernel_rfl
  case o6 =>
    intro l tm w h hl hd K0 hK
    try dsimp only at h
    rw [hl] at h
    have hs6 := h.early (by simp)
    have hv6 := h.ld
    replace h := h.h hs6
    have d0 := hd 5 (by kernel_rfl)
    obtain ⟨d1, d2, eBD⟩ := h.e6 d0
    have h0 := h
    obtain ⟨⟨B1, n1, k1, eB1, eN1, eK1, eI1⟩, eW1⟩ := h0.way1 ((h0.rg rfl).w1 d1).1
    obtain ⟨⟨B2, n2, k2, eB2, eN2, eK2, eI2⟩, eW2⟩ := h0.way2 ((h0.rg rfl).w2 d2).1
    have hW1 := (eW1 d1).trans (by rw [eB1])
    have hW2 := (eW2 d2).trans (by rw [eB2])
    rw [hW1, hW2] at eBD
    have hA : #[(tm 16), .int .i64 0, (tm 21)] = #[.agg #[.int .i64 2, .int .i64 32, .int .i64 16, .slice (some ⟨P1, 0, none⟩) 32 ca1, .slice (some ⟨Q1, 0, none⟩) 16 cc1], .int .i64 0, .agg #[.int .i64 2, .slice B1 n1 k1, .slice B2 n2 k2, .int .i64 7, .int .i64 0, .int .u64 0]] := by rw [hv6 (hd 0 (by kernel_rfl)), eBD]; rfl
    refine st_call (f := 18) (args := #[(tm 16), .int .i64 0, (tm 21)]) (w' := w) (by rfl) (by kernel_rfl) ?_
    rw [hA]
    refine (gdo_is (z := 0) (HS1.out.on h.bb) eN1 eK1 eI1 eN2 eK2 eI2 tw_b).mono ?_
    rintro e w1 ⟨A', ca', C', cc', rfl, hb, hm⟩
    obtain ⟨q1, q2⟩ := resD_of (a := 2) (b := 32) (c := 16) (R := (.agg #[.int .i64 0, .int .u64 0, .int .i64 0])) h.bb.size hm HP.out
    exact ⟨_, rfl, hK.out _ _ ⟨hv6, fun _ => (h.addD hb q1 q2), fun e => ff hs6 e⟩⟩
  case o7 =>
    intro l tm w h hl hd K0 hK
    try dsimp only at h
    rw [hl] at h
    have hs6 := h.early (by simp)
    have hv6 := h.ld
    replace h := h.h hs6
    exact st_run (v := tm 22) (w' := w) (by rfl) (by kernel_rfl) (hK.out _ _ ⟨hv6, fun _ => (h.addMv (hd 6 (by kernel_rfl)) rfl), fun e => ff hs6 e⟩)
  case o8 =>
    intro l tm w h hl hd K0 hK
    try dsimp only at h
    rw [hl] at h
    have hs6 := h.early (by simp)
    have hv6 := h.ld
    replace h := h.h hs6
    obtain ⟨A', ca', C', cc', eT, -⟩ := h.tup (hd 7 (by kernel_rfl))
    refine st_run (v := .agg #[.int .i64 2, .int .i64 32, .int .i64 16, .slice A' 32 ca', .slice C' 16 cc']) (w' := w) (by rfl) ?_ (hK.out _ _ ⟨hv6, fun _ => (h.addE1 (hd 7 (by kernel_rfl)) eT), fun e => ff hs6 e⟩)
    simp only [List.getElem_toArray, List.getElem_cons_zero, List.getElem_cons_succ, pmA, List.foldl_cons, List.foldl_nil, Act.put, List.setIfInBounds_toArray, List.set_cons_zero, List.set_cons_succ]
    rw [eT]
    kernel_rfl
  case o9 =>
    intro l tm w h hl hd K0 hK
    try dsimp only at h
    rw [hl] at h
    rcases hs : l 10 with _ | _
    · have hv6 := h.ld
      replace h := h.h hs
      obtain ⟨A', ca', C', cc', eT, -⟩ := h.tup (hd 7 (by kernel_rfl))
      refine st_run (v := (.agg #[.int .i64 0, .int .u64 0, .int .i64 0])) (w' := w) (by rfl) ?_ (hK.out _ _ ⟨hv6, fun _ => h.addE2 (hd 7 (by kernel_rfl)) eT, fun e => ff hs e⟩)
      simp only [List.getElem_toArray, List.getElem_cons_zero, List.getElem_cons_succ, pmA, List.foldl_cons, List.foldl_nil, Act.put, List.setIfInBounds_toArray, List.set_cons_zero, List.set_cons_succ]
      rw [eT]
      kernel_rfl
    · obtain ⟨hfl, w0, A1, ca1, C1, cc1, eD, ew, hP⟩ := h.s hs
      obtain ⟨A', ca', C', cc', eT, -⟩ := hP.tup (hd 7 (by kernel_rfl))
      refine st_run (v := (.agg #[.int .i64 0, .int .u64 0, .int .i64 0])) (w' := w) (by rfl) ?_ (hK.out _ _ ⟨h.ld, fun e => ff e hs, fun _ => ⟨hfl, w0, A1, ca1, C1, cc1, eD, ew, hP.addE2 (hd 7 (by kernel_rfl)) eT⟩⟩)
      simp only [List.getElem_toArray, List.getElem_cons_zero, List.getElem_cons_succ, pmA, List.foldl_cons, List.foldl_nil, Act.put, List.setIfInBounds_toArray, List.set_cons_zero, List.set_cons_succ]
      rw [eT]
      kernel_rfl
  case o10 =>
    intro l tm w h hl hd K0 hK
    try dsimp only at h
    rw [hl] at h
    have hP := h.h rfl
    obtain ⟨A', ca', C', cc', e1, eD⟩ := hP.e1v (hd 7 (by kernel_rfl)) (hd 8 (by kernel_rfl))
    have HT : Hid (w.there j0 0 (#[.int .i64 2, .int .i64 32, .int .i64 16, .slice A' 32 ca', .slice C' 16 cc'] : Array Value).size) := Lib.hid ((K.out.on hP.bb).there (n := 5) rfl)
    have HO := Lib.hid (state_one 2 32 16 A' 32 ca' C' 16 cc')
    refine st_store (by rfl) 28 (.tmp 1) (.tmp 23) (by rfl) j0 0 #[.int .i64 2, .int .i64 32, .int .i64 16, .slice A' 32 ca', .slice C' 16 cc'] (by kernel_rfl) ((by kernel_rfl : _ = tm 23).trans e1) HT.out info_state HO.out ?_
    have hfl : (l 0 && l 1 && l 2 && l 3 && l 4 && l 5 && l 6 && l 7 && l 8) = true := by simp only [hd 0 (by kernel_rfl), hd 1 (by kernel_rfl), hd 2 (by kernel_rfl), hd 3 (by kernel_rfl), hd 4 (by kernel_rfl), hd 5 (by kernel_rfl), hd 6 (by kernel_rfl), hd 7 (by kernel_rfl), hd 8 (by kernel_rfl), Bool.and_self]
    exact hK.out undef (w.setCells j0 0 [.int .i64 2, .int .i64 32, .int .i64 16, .slice A' 32 ca', .slice C' 16 cc']) ⟨h.ld, fun e => ff e rfl, fun _ => ⟨hfl, w, A', ca', C', cc', eD, rfl, hP⟩⟩
  case start => exact ⟨fun e => ff rfl e, fun _ => ⟨hb0, fun _ => ⟨hb0, fun e => ff rfl e, fun e => ff rfl e, fun e => ff rfl e, fun e => ff rfl e, fun e => ff rfl e, fun e => ff rfl e, fun e => ff rfl e, fun e => ff rfl e, fun e => ff rfl e, fun e => ff rfl e⟩, fun e => ff rfl e, fun e => ff rfl e, fun e => ff rfl e, fun e => ff rfl e, fun e => ff rfl e, fun e => ff rfl e⟩, fun e => ff rfl e⟩
  case fin =>
    clear hb0
    intro tm u6 h
    try dsimp only at h
    obtain ⟨w0, Az, ca2, Cz, cc2, eu, hbz, hm⟩ := h.fin (by kernel_rfl)
    subst eu
    obtain ⟨hca, hcc, hF⟩ := hm
    obtain ⟨P2, Q2, rfl, rfl, hO⟩ := hF.ost (by rw [tw2_len.1]; decide) (by rw [tw2_len.2]; decide) hbz
    have HC_tw2s := Lib.hid (⟨hca, hcc⟩ : 32 ≤ ca2 ∧ 16 ≤ cc2)
    clear h hca hcc hF HP
    have hlt := K.out.bx.lt
    have hl1 := hO.oP
    have hl2 := hO.oQ
    have f := Fnd.setCells j0 [.int .i64 2, .int .i64 32, .int .i64 16, .slice (some ⟨P2, 0, none⟩) 32 ca2, .slice (some ⟨Q2, 0, none⟩) 16 cc2] 0 w0
    have k7 := (K.out.on hbz).setCells (vs := [.int .i64 2, .int .i64 32, .int .i64 16, .slice (some ⟨P2, 0, none⟩) 32 ca2, .slice (some ⟨Q2, 0, none⟩) 16 cc2]) rfl
    have o6 := (hO.base K.out.bx.old).step f (by omega) (by omega) k7.bx.old
    clear f hO hlt hl1 hl2 hbz
    simp only [pmA, List.foldl_cons, List.foldl_nil, Act.put, List.setIfInBounds_toArray, List.set_cons_zero, List.set_cons_succ]
    generalize w0.setCells j0 0 _ = v3 at k7 o6  ⊢
    clear K
    have K := Lib.hid k7
    have O_tw2s := Lib.hid o6
    clear k7 o6
    refine wpAnyH_done (by kernel_rfl) ?_ _
    go_upto_region 3 with fail
    clear HS1 O_tw1 HC1
    have HS2 : Hid (StH v3 tw2s 2 32 16 (some ⟨P2, 0, none⟩) 32 ca2 (some ⟨Q2, 0, none⟩) 16 cc2) := Lib.hid ⟨O_tw2s.out.lies, tw_g.2.1, tw2_len.1.symm, tw2_len.2.symm, by decide, by decide, HC_tw2s.out.1, HC_tw2s.out.2⟩
    have HP : Hid (∀ s', some tw3 = some s' → 0 < s'.sl.length ∧ 0 < s'.th.length) := Lib.hid fun s' e => by
      injection e with e
      rw [← e, tw3_len.1, tw3_len.2]
      decide
    refine wp_region_held_drew (S := fun w' => Below v3.heap.size v3 w') (by kernel_rfl) (below_self v3).drew (fun hH => ?_)
    refine wpAnyH_take (i := 0) (v := .agg #[.int .i64 2, .int .i64 32, .int .i64 16, .slice (some ⟨P2, 0, none⟩) 32 ca2, .slice (some ⟨Q2, 0, none⟩) 16 cc2]) rfl (by kernel_rfl) (by kernel_rfl) (by kernel_rfl) (fun _ _ _ h => h) (yieldsIf_load_mid (by rfl) 28 (.tmp 1) (by rfl) j0 0 (by rfl) [.int .i64 2, .int .i64 32, .int .i64 16, .slice (some ⟨P2, 0, none⟩) 32 ca2, .slice (some ⟨Q2, 0, none⟩) 16 cc2] _ (fun w hS => ((K.out.bx.on hS).range)) Tryz.underlying28 rfl info_state) (by assumption) ?_
    try simp only [Act.put, List.setIfInBounds_toArray, List.set_cons_zero, List.set_cons_succ, List.getElem_toArray, List.getElem_cons_zero, List.getElem_cons_succ]
    refine wpAnyH_inv (f0 := 1) [1, 2, 3, 4, 5, 6, 7, 8, 9, 10] [27, 28, 29, 30, 25, 31, 32, 3, 4] (fun l tm w => PHI v3 [2] [] 2 32 16 (some ⟨P2, 0, none⟩) 32 ca2 (some ⟨Q2, 0, none⟩) 16 cc2 (some tw3) (.agg #[.int .i64 0, .int .u64 0, .int .i64 1]) [.int .i64 0, .int .u64 0, .int .i64 0] false false (fun p q => .agg #[.int .i64 6, flat1 p, flat1 q, .int .i64 0, .int .i64 0, .int .u64 0]) (l 1) (l 2) true true (l 3) (l 4) (l 5) (l 6) (l 7) (l 8) (l 9) (l 10) (tm 27) (tm 28) (.slice none 0 0) (.agg #[(.slice none 0 0)]) (tm 29) (tm 30) (tm 25) (tm 31) (tm 32) (tm 3) (tm 4) w) (by kernel_rfl) (by kernel_rfl) rfl (by decide) (fun l tm w h => h.bb) ?start (AllSteps.cons rfl ?o1 (AllSteps.cons rfl ?o2 (AllSteps.cons rfl ?o3 (AllSteps.cons rfl ?o4 (AllSteps.cons rfl ?o5 (AllSteps.cons rfl ?o6 (AllSteps.cons rfl ?o7 (AllSteps.cons rfl ?o8 (AllSteps.cons rfl ?o9 (AllSteps.cons rfl ?o10 AllSteps.nil)))))))))) ?fin
    case o1 =>
      intro l tm w h hl hd K0 hK
      try dsimp only at h
      rw [hl] at h
      have hh := h.addB1 (below_alloc w (.cells #[.int .i64 2] 3)) (lis_one w 2)
      exact st_run (v := .slice (some ⟨w.heap.size, 0, none⟩) 1 1) (by rfl) (by kernel_rfl) (hK.out _ _ hh)
    case o2 =>
      intro l tm w h hl hd K0 hK
      try dsimp only at h
      rw [hl] at h
      have hs := h.early1.1
      have h0 := h
      rw [hs] at h0
      obtain ⟨⟨B, nB, cB, eB, -⟩, -⟩ := h0.way1 (hd 1 (by kernel_rfl))
      have hc := way17_is (A := B) (n := nB) (cap := cB) w
      rw [← eB] at hc
      refine st_call (f := 11) (args := #[(tm 27)]) (w' := w) (by rfl) (by kernel_rfl) (hc.mono ?_)
      rintro e w1 ⟨rfl, hb⟩
      exact ⟨_, rfl, hK.out _ _ (h.addW1 (hd 1 (by kernel_rfl)) hb rfl)⟩
    case o3 =>
      intro l tm w h hl hd K0 hK
      try dsimp only at h
      rw [hl] at h
      have d1 := hd 2 (by kernel_rfl)
      have d2 : true = true := rfl
      have hs : l 10 = false := by rw [Bool.eq_false_iff]; exact fun e => absurd ((h.o e).2.2.2.2.1 rfl) (by decide)
      have h0 := h
      rw [hs] at h0
      obtain ⟨⟨B1, n1, k1, eB1, eN1, eK1, eI1⟩, eW1⟩ := h0.way1 ((h0.rg rfl).w1 d1).1
      obtain ⟨⟨B2, n2, k2, eB2, eN2, eK2, eI2⟩, eW2⟩ := h0.way2 rfl
      have hW1 := (eW1 d1).trans (by rw [eB1])
      have hW2 := (eW2 d2).trans (by rw [eB2])
      refine st_run (v := (fun p q => .agg #[.int .i64 6, flat1 p, flat1 q, .int .i64 0, .int .i64 0, .int .u64 0]) (tm 28) (.agg #[(.slice none 0 0)])) (w' := w) (by rfl) ?_ (hK.out _ _ (h.addBd d1 d2 rfl))
      simp only [List.getElem_toArray, List.getElem_cons_zero, List.getElem_cons_succ, pmA, List.foldl_cons, List.foldl_nil, Act.put, List.setIfInBounds_toArray, List.set_cons_zero, List.set_cons_succ]
      rw [hW1]
      kernel_rfl
    case o4 =>
      intro l tm w h hl hd K0 hK
      try dsimp only at h
      rw [hl] at h
      have d0 := hd 3 (by kernel_rfl)
      obtain ⟨d1, d2, eBD⟩ := h.e6 d0
      have hs : l 10 = false := h.notS.1
      have h0 := h
      rw [hs] at h0
      obtain ⟨⟨B1, n1, k1, eB1, eN1, eK1, eI1⟩, eW1⟩ := h0.way1 ((h0.rg rfl).w1 d1).1
      obtain ⟨⟨B2, n2, k2, eB2, eN2, eK2, eI2⟩, eW2⟩ := h0.way2 rfl
      have hW1 := (eW1 d1).trans (by rw [eB1])
      have hW2 := (eW2 d2).trans (by rw [eB2])
      rw [hW1, hW2] at eBD
      have hA : #[.agg #[.int .i64 2, .int .i64 32, .int .i64 16, .slice (some ⟨P2, 0, none⟩) 32 ca2, .slice (some ⟨Q2, 0, none⟩) 16 cc2], .int .i64 0, (tm 29)] = #[.agg #[.int .i64 2, .int .i64 32, .int .i64 16, .slice (some ⟨P2, 0, none⟩) 32 ca2, .slice (some ⟨Q2, 0, none⟩) 16 cc2], .int .i64 0, .agg #[.int .i64 6, .slice B1 n1 k1, .slice B2 n2 k2, .int .i64 0, .int .i64 0, .int .u64 0]] := by rw [eBD]; rfl
      refine st_call (f := 10) (args := #[.agg #[.int .i64 2, .int .i64 32, .int .i64 16, .slice (some ⟨P2, 0, none⟩) 32 ca2, .slice (some ⟨Q2, 0, none⟩) 16 cc2], .int .i64 0, (tm 29)]) (w' := w) (by rfl) (by kernel_rfl) ?_
      rw [hA]
      refine (tdo_is (z := 0) (HS2.out.on h.bb) eN1 eK1 eI1 eN2 eK2 eI2 tw_c).mono ?_
      rintro e w1 ⟨A', ca', C', cc', rfl, hb, hm⟩
      obtain ⟨q1, q2⟩ := resD_of (a := 2) (b := 32) (c := 16) (R := (.agg #[.int .i64 0, .int .u64 0, .int .i64 1])) h.bb.size hm HP.out
      exact ⟨_, rfl, hK.out _ _ (h.addD hb q1 q2)⟩
    case o5 =>
      intro l tm w h hl hd K0 hK
      try dsimp only at h
      rw [hl] at h
      exact st_run (v := tm 30) (w' := w) (by rfl) (by kernel_rfl) (hK.out _ _ (h.addMv (hd 4 (by kernel_rfl)) rfl))
    case o6 =>
      intro l tm w h hl hd K0 hK
      try dsimp only at h
      rw [hl] at h
      obtain ⟨A', ca', C', cc', eT, -⟩ := h.tup (hd 5 (by kernel_rfl))
      refine st_run (v := .agg #[.int .i64 2, .int .i64 32, .int .i64 16, .slice A' 32 ca', .slice C' 16 cc']) (w' := w) (by rfl) ?_ (hK.out _ _ (h.addE1 (hd 5 (by kernel_rfl)) eT))
      simp only [List.getElem_toArray, List.getElem_cons_zero, List.getElem_cons_succ, pmA, List.foldl_cons, List.foldl_nil, Act.put, List.setIfInBounds_toArray, List.set_cons_zero, List.set_cons_succ]
      rw [eT]
      kernel_rfl
    case o7 =>
      intro l tm w h hl hd K0 hK
      try dsimp only at h
      rw [hl] at h
      obtain ⟨A', ca', C', cc', eT, -⟩ := h.tup (hd 5 (by kernel_rfl))
      refine st_run (v := (.agg #[.int .i64 0, .int .u64 0, .int .i64 1])) (w' := w) (by rfl) ?_ (hK.out _ _ (h.addE2 (hd 5 (by kernel_rfl)) eT))
      simp only [List.getElem_toArray, List.getElem_cons_zero, List.getElem_cons_succ, pmA, List.foldl_cons, List.foldl_nil, Act.put, List.setIfInBounds_toArray, List.set_cons_zero, List.set_cons_succ]
      rw [eT]
      kernel_rfl
    case o8 =>
      intro l tm w h hl hd K0 hK
      try dsimp only at h
      rw [hl] at h
      have hh := h.addQ HP.out 28
      exact st_run (v := ptr w.heap.size) (by rfl) (by kernel_rfl) (hK.out _ _ hh)
    case o9 =>
      intro l tm w h hl hd K0 hK
      try dsimp only at h
      rw [hl] at h
      have hh := h.addY HP.out 33
      exact st_run (v := ptr w.heap.size) (by rfl) (by kernel_rfl) (hK.out _ _ hh)
    case o10 =>
      intro l tm w h hl hd K0 hK
      try dsimp only at h
      rw [hl] at h
      obtain ⟨x, A', ca', C', cc', ex, e1, ed, hw⟩ := h.atS' (hd 4 (by kernel_rfl)) (hd 5 (by kernel_rfl)) (hd 6 (by kernel_rfl)) (hd 8 (by kernel_rfl))
      have HT : Hid (w.there x 0 (#[.int .i64 2, .int .i64 32, .int .i64 16, .slice A' 32 ca', .slice C' 16 cc'] : Array Value).size) := Lib.hid (hw.there (n := 5) rfl)
      have HO := Lib.hid (state_one 2 32 16 A' 32 ca' C' 16 cc')
      refine st_store (by rfl) 28 (.tmp 3) (.tmp 31) (by rfl) x 0 #[.int .i64 2, .int .i64 32, .int .i64 16, .slice A' 32 ca', .slice C' 16 cc'] ((by kernel_rfl : _ = tm 3).trans ex) ((by kernel_rfl : _ = tm 31).trans e1) HT.out info_state HO.out ?_
      refine hK.out undef (w.setCells x 0 [.int .i64 2, .int .i64 32, .int .i64 16, .slice A' 32 ca', .slice C' 16 cc']) ?_
      exact h.addS' (hd 1 (by kernel_rfl)) (hd 2 (by kernel_rfl)) rfl rfl (fun _ => (hd 3 (by kernel_rfl))) (hd 4 (by kernel_rfl)) (hd 5 (by kernel_rfl)) (hd 6 (by kernel_rfl)) (hd 8 (by kernel_rfl)) (fun _ => (hd 9 (by kernel_rfl))) ex ed
    case start => exact ⟨hH, fun _ => ⟨hH, fun e => ff rfl e, fun e => ff rfl e, fun _ => ⟨none, 0, 0, rfl, rfl, Nat.le_refl _, none_at _⟩, fun _ => ⟨rfl, rfl⟩, fun e => ff rfl e, fun e => ff rfl e, fun e => ff rfl e, fun e => ff rfl e, fun e => ff rfl e, fun e => ff rfl e⟩, fun e => ff rfl e, fun e => ff rfl e, fun e => ff rfl e, fun e => ff rfl e, fun e => ff rfl e, fun e => ff rfl e⟩
    case fin =>
      intro tm u7 h
      try dsimp only at h
      obtain ⟨hbb, hR, hP⟩ := h.fin (by kernel_rfl) (by kernel_rfl)
      obtain ⟨g3, Az, ca3, Cz, cc3, ed, ex, hx, hm, hy⟩ := hP
      obtain ⟨g4, ey, hne, hY, haw⟩ := hy rfl
      obtain ⟨hca, hcc, hF⟩ := hm
      simp only [ptr] at ex ey
      obtain ⟨P3, Q3, rfl, rfl, hO⟩ := hF.ost (by rw [tw3_len.1]; decide) (by rw [tw3_len.2]; decide) hbb
      have hfar := haw _ rfl
      have f1 : P3 ≠ g4 := hfar.1 P3 rfl
      have f2 : Q3 ≠ g4 := hfar.2 Q3 rfl
      clear h ed hy hF haw hfar hca hcc
      simp only [pmA, List.foldl_cons, List.foldl_nil, Act.put, List.setIfInBounds_toArray, List.set_cons_zero, List.set_cons_succ]
      rw [ex, ey, hR]
      clear ex ey hR
      refine wpAnyH_ready (rs := [11]) (by kernel_rfl) (by simp) ?_
      refine AllReadyH.cons rfl (fun K0 hK => ?_) AllReadyH.nil
      have HT : Hid (u7.there g4 0 (#[.int .i64 0, .int .u64 0, .int .i64 1] : Array Value).size) := Lib.hid (hY.there (n := 3) rfl)
      have HO := Lib.hid (reply_one 0 0 1)
      have kY := hY.setCells (vs := [.int .i64 0, .int .u64 0, .int .i64 1]) rfl
      have fY := Fnd.setCells g4 [.int .i64 0, .int .u64 0, .int .i64 1] 0 u7
      have kX := hx.fnd fY hne.symm kY.bx.old
      have oX := hO.step fY f1 f2 kY.bx.old
      refine step_store_mid (by rfl) 33 (.tmp 4) (.tmp 32) (by rfl) g4 0 #[.int .i64 0, .int .u64 0, .int .i64 1] (by rfl) (by rfl) HT.out info_reply HO.out ?_
      change K0 _ (u7.setCells g4 0 [.int .i64 0, .int .u64 0, .int .i64 1])
      clear fY HT f1 f2 hne hY hx hO
      generalize u7.setCells g4 0 [.int .i64 0, .int .u64 0, .int .i64 1] = v4 at kX kY oX ⊢
      have hb := kY.bx.old
      have KX := Lib.hid kX
      have KY := Lib.hid kY
      have OX := Lib.hid oX
      clear kX kY oX
      refine hK.out _ _ hb (fun hH => ?_)
      clear hK K0
      try simp only [Act.put, List.setIfInBounds_toArray, List.set_cons_zero, List.set_cons_succ, List.getElem_toArray, List.getElem_cons_zero, List.getElem_cons_succ]
      refine wpAnyH_done (by kernel_rfl) ?_ _
      have HE := Lib.hid (below_on (below_on HB7.out (by first | exact (below_on (below_self _) K.out.bx.old) | exact K.out.bx.old)) hb)
      clear hb hH hbb
      have y0 := KY.out.bx.c 0 _ rfl
      have y1 := KY.out.bx.c 1 _ rfl
      have y2 := KY.out.bx.c 2 _ rfl
      have x3 := KX.out.bx.c 3 _ rfl
      have h3 := OX.out.slC (j := 3) (by rw [tw3_len.1]; decide)
      rw [tw_s3] at h3
      have h2 := OX.out.slC (j := 2) (by rw [tw3_len.1]; decide)
      rw [tw_s2] at h2
      obtain ⟨s0, s1, s2, s3, s4⟩ := h3
      obtain ⟨r0, r1, r2, r3, r4⟩ := h2
      simp only [Nat.reduceMul, Nat.reduceAdd, Cp.none] at s0 s1 s2 s3 r0 r1 r2 r3
      have heq1 : ∀ w, (Op.equalIn 10000 33 (.agg #[.int .i64 0, .int .u64 0, .int .i64 1]) (.agg #[.int .i64 0, .int .u64 0, .int .i64 1])).run Tryz.prog w = .ok true w := fun w => eq_reply 0 0 1 1 0 0 w
      clear s4 r4
      go_wp2_with fail
      refine (non_at (z := true) (by decide) v4).mono ?_
      rintro e v5 ⟨rfl, hb⟩
      replace HE := Lib.hid (below_on HE.out hb)
      replace r0 := (hb.cell (p := ⟨P3, 10, none⟩) OX.out.lP).trans r0
      replace r1 := (hb.cell (p := ⟨P3, 11, none⟩) OX.out.lP).trans r1
      replace r2 := (hb.cell (p := ⟨P3, 12, none⟩) OX.out.lP).trans r2
      replace r3 := (hb.cell (p := ⟨P3, 13, none⟩) OX.out.lP).trans r3
      have x3 := (KX.out.on hb).bx.c 3 _ rfl
      clear hb s0 s1 s2 s3 y0 y1 y2
      go_wp2_with fail
      refine (non_at (z := false) (by decide) v5).mono ?_
      rintro e v6 ⟨rfl, hb⟩
      replace HE := Lib.hid (below_on HE.out hb)
      clear hb x3 r0 r1 r2 r3
      go_wp2
      go_ret
      exact ⟨rfl, HE.out⟩
end Go.Proofs.YtjnohbahjlidoaaGreat
