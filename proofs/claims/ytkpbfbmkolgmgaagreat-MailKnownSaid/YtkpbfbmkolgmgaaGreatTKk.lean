/-
  The program's Good, Owner, Free, Gap, Holders, Inside. Condition: the state lies in memory, at most a thousand slots and things.
  The program's Owner, Free, Gap, Holders, Inside. Condition: the state lies in memory, at most a thousand slots and things.
-/
import Derived.Test.YtkpbfbmkolgmgaaGreatTKe
import Derived.Test.YtkpbfbmkolgmgaaGreatTKi
namespace Go.Proofs.YtkpbfbmkolgmgaaGreat
open Go.RowKit

theorem Pst.parts {s : St} (h : Pst s) : partsB s = true := by rw [partsB, all_yes h.p2, all_yes h.p3]; rfl
theorem Pst.all5 {s : St} (h : Pst s) {T : Nat} (hT : s.g.t = T) : (List.range T).all s.k3 = true := all_yes fun t ht => h.p5 t (by omega)
theorem Pst.owned {s : St} (h : Pst s) : allOwnedB s = true := by rw [allOwnedB, ownsOk_iff.2 h.own, all_yes h.p6]; rfl
theorem Pst.no_ring {s : St} (h : Pst s) : (List.range s.th.length).all (fun i => !ringN s i) = true := all_yes fun i hi => by rw [h.p7 i hi]; rfl
theorem of_all {N : Nat} {P : Nat → Bool} (h : (List.range N).all P = true) : ∀ i, i < N → P i = true := fun i hi => by
  rw [List.all_eq_true] at h
  exact h i (List.mem_range.2 hi)
theorem pst_ndin {s : St} (h3 : ∀ i, i < s.sl.length → s.fitS (slAt s.sl i) = true) : NdIn s := fun i hi h2 => by
  have hf := h3 i hi
  have hn : ¬ (slAt s.sl i).c.non = true := fun q => by rw [non_eq q] at h2; exact absurd h2 (by decide)
  have := fitS_full hf hn
  exact ⟨this.1, this.2.1⟩
theorem k1_few {s : St} (h : s.k1 = true) : s.sl.length ≤ 96 ∧ s.th.length ≤ 48 := by
  rw [St.k1, Bool.and_eq_true, Bool.and_eq_true, decide_eq_true_eq, decide_eq_true_eq] at h
  have := Gd.ok_iff.1 h.1
  omega
/-- what the queries use of a state that may be -/
structure Gpk (s : St) (n m : Nat) : Prop where
  few : n ≤ 96
  fewm : m ≤ 48
  thok : ThOk s.th
  own : ∀ i, i < s.th.length → ownOk s.th n i = true
  ndin : NdIn s
theorem Pst.pk {s : St} (h : Pst s) {n m : Nat} (hn : n = s.sl.length) (hm : m = s.th.length) : Gpk s n m := by
  have := k1_few h.k1
  exact ⟨by omega, by omega, h.p2, by rw [hn]; exact h.own, pst_ndin h.p3⟩

/-! ### Good -/
set_option maxRecDepth 100000 in
set_option maxHeartbeats 8000000 in
theorem sgood_is {s : St} {a b c : Int} {A C : Option Addr} {n ca m cc : Nat} {r : Bool} {w : World} (hS : StH w s a b c A n ca C m cc) (hr : sgood s = r) :
    Calls Tryz.prog 10 #[.agg #[.int .i64 a, .int .i64 b, .int .i64 c, .slice A n ca, .slice C m cc]] w fun e w' => e = .returned (.bool r) ∧ Below w.heap.size w w' := by
  have HR := Lib.hid hr
  obtain ⟨z, hz⟩ : ∃ z, s.k1 = z := ⟨_, rfl⟩
  have HV := Lib.hid hz
  have k1 := Sbx.new w a b c A n ca C m cc 27
  have HS := Lib.hid hS
  clear hr hz hS
  go_enter Tryz.func10, Tryz.ntmps10
  go_wp2_with fail
  obtain ⟨g, hg⟩ : ∃ g, g = w.heap.size := ⟨_, rfl⟩
  rw [← hg] at k1 ⊢
  clear hg
  generalize w.alloc _ = w0 at k1 ⊢
  have HB0 := Lib.hid k1
  clear k1
  refine (counted_at HS.out.hg HS.out.hn HS.out.hm HV.out w0).mono ?_
  rintro e w1 ⟨rfl, hb⟩
  have HB1 := Lib.hid (HB0.out.on hb)
  clear hb HB0
  rcases z with _ | _
  · have HF : Hid (r = false) := Lib.hid (by rw [← HR.out]; exact sgood_no fun p => by have h := HV.out; rw [p.k1] at h; cases h)
    go_wp2
    go_ret
    exact ⟨by rw [HF.out]; rfl, HB1.out.old⟩
  have H1 := HV
  have HFW : Hid (n ≤ 96 ∧ m ≤ 48) := Lib.hid (by have := k1_few H1.out; have := HS.out.hn; have := HS.out.hm; omega)
  obtain ⟨T, rfl⟩ : ∃ T : Nat, a = T := ⟨a.toNat, by
    have h := H1.out
    rw [St.k1, HS.out.hg, Bool.and_eq_true] at h
    have := Gd.ok_iff.1 h.1
    simp only at this
    omega⟩
  have HTT : Hid (s.g.t = T) := Lib.hid (by rw [HS.out.hg])
  obtain ⟨b0, b1, b2, c3, c4, -, -, lt⟩ := HB1.out
  clear HV
  obtain ⟨z, hz⟩ : ∃ z, partsB s = z := ⟨_, rfl⟩
  have HV := Lib.hid hz
  clear hz
  go_wp2_with fail
  refine (parts_is (HS.out.on HB1.out.old) HV.out).mono ?_
  rintro e w2 ⟨rfl, hb⟩
  have HB2 := Lib.hid (HB1.out.on hb)
  clear hb b0 b1 b2 c3 c4 lt
  rcases z with _ | _
  · have HF : Hid (r = false) := Lib.hid (by rw [← HR.out]; exact sgood_no fun p => by have h := HV.out; rw [p.parts] at h; cases h)
    go_wp2
    go_ret
    exact ⟨by rw [HF.out]; rfl, HB2.out.old⟩
  obtain ⟨b0, b1, b2, c3, c4, -, -, lt⟩ := HB2.out
  have H2 : Hid (ThOk s.th) := Lib.hid (of_all (by have h := HV.out; rw [partsB, Bool.and_eq_true] at h; exact h.1))
  have H3 : Hid (∀ i, i < s.sl.length → s.fitS (slAt s.sl i) = true) := Lib.hid (of_all (P := fun i => s.fitS (slAt s.sl i)) (by have h := HV.out; rw [partsB, Bool.and_eq_true] at h; exact h.2))
  have HND := Lib.hid (pst_ndin H3.out)
  clear HV HB1
  obtain ⟨z, hz⟩ : ∃ z, s.k5 = z := ⟨_, rfl⟩
  have HV := Lib.hid hz
  clear hz
  go_wp2_with fail
  refine (pforest_is (HS.out.on HB2.out.old) rfl).mono ?_
  rintro e wf ⟨B, cb, rfl, hcb, hi, hb⟩
  have HBF := Lib.hid (HB2.out.on hb)
  have HI := Lib.hid hi
  clear hb hi hcb b0 b1 b2 c3 c4 lt
  go_wp2_with fail
  refine (pgood_is rfl HI.out HV.out).mono ?_
  rintro e w3 ⟨rfl, hb⟩
  have HB3 := Lib.hid (HBF.out.on hb)
  clear hb HBF HI
  rcases z with _ | _
  · have HF : Hid (r = false) := Lib.hid (by rw [← HR.out]; exact sgood_no fun p => by have h := HV.out; rw [p.k5] at h; cases h)
    go_wp2
    go_ret
    exact ⟨by rw [HF.out]; rfl, HB3.out.old⟩
  obtain ⟨b0, b1, b2, c3, c4, -, -, lt⟩ := HB3.out
  have H5 := HV
  clear HV HB2
  obtain ⟨z, hz⟩ : ∃ z, (List.range s.sl.length).all s.p4 = z := ⟨_, rfl⟩
  have HV := Lib.hid hz
  clear hz
  go_wp2_with fail
  refine (camer_is (HS.out.on HB3.out.old) H3.out H5.out HV.out).mono ?_
  rintro e w4 ⟨rfl, hb⟩
  have HB4 := Lib.hid (HB3.out.on hb)
  clear hb b0 b1 b2 c3 c4 lt
  rcases z with _ | _
  · have HF : Hid (r = false) := Lib.hid (by rw [← HR.out]; exact sgood_no fun p => by have h := HV.out; rw [(all_yes p.p4)] at h; cases h)
    go_wp2
    go_ret
    exact ⟨by rw [HF.out]; rfl, HB4.out.old⟩
  obtain ⟨b0, b1, b2, c3, c4, -, -, lt⟩ := HB4.out
  have H4 := Lib.hid (of_all HV.out)
  clear HV HB3
  obtain ⟨z, hz⟩ : ∃ z, (List.range T).all s.k3 = z := ⟨_, rfl⟩
  have HV := Lib.hid hz
  clear hz
  go_wp2_with fail
  refine (roots_is (HS.out.on HB4.out.old) H1.out HV.out).mono ?_
  rintro e w5 ⟨rfl, hb⟩
  have HB5 := Lib.hid (HB4.out.on hb)
  clear hb b0 b1 b2 c3 c4 lt
  rcases z with _ | _
  · have HF : Hid (r = false) := Lib.hid (by rw [← HR.out]; exact sgood_no fun p => by have h := HV.out; rw [(p.all5 HTT.out)] at h; cases h)
    go_wp2
    go_ret
    exact ⟨by rw [HF.out]; rfl, HB5.out.old⟩
  obtain ⟨b0, b1, b2, c3, c4, -, -, lt⟩ := HB5.out
  have H55 : Hid (∀ t : Nat, (t : Int) < s.g.t → s.k3 t = true) := Lib.hid fun t ht => of_all HV.out t (by have := HTT.out; omega)
  clear HV HB4
  obtain ⟨z, hz⟩ : ∃ z, allOwnedB s = z := ⟨_, rfl⟩
  have HV := Lib.hid hz
  clear hz
  go_wp2_with fail
  refine (allowned_is (HS.out.on HB5.out.old) H2.out HV.out).mono ?_
  rintro e w6 ⟨rfl, hb⟩
  have HB6 := Lib.hid (HB5.out.on hb)
  clear hb b0 b1 b2 c3 c4 lt
  rcases z with _ | _
  · have HF : Hid (r = false) := Lib.hid (by rw [← HR.out]; exact sgood_no fun p => by have h := HV.out; rw [p.owned] at h; cases h)
    go_wp2
    go_ret
    exact ⟨by rw [HF.out]; rfl, HB6.out.old⟩
  obtain ⟨b0, b1, b2, c3, c4, -, -, lt⟩ := HB6.out
  have HO : Hid (∀ i, i < s.th.length → ownOk s.th n i = true) := Lib.hid (ownsOk_iff.1 (by have h := HV.out; rw [allOwnedB, Bool.and_eq_true] at h; rw [HS.out.hn]; exact h.1))
  have H6 : Hid (∀ i, i < s.sl.length → s.p6 i = true) := Lib.hid (of_all (by have h := HV.out; rw [allOwnedB, Bool.and_eq_true] at h; exact h.2))
  clear HV HB5
  obtain ⟨z, hz⟩ : ∃ z, (List.range s.th.length).all (fun i => !ringN s i) = z := ⟨_, rfl⟩
  have HV := Lib.hid hz
  clear hz
  go_wp2_with fail
  refine (ringless_is (HS.out.on HB6.out.old) HFW.out.1 HFW.out.2 H2.out HO.out HND.out HV.out).mono ?_
  rintro e w7 ⟨rfl, hb⟩
  have HB7 := Lib.hid (HB6.out.on hb)
  clear hb b0 b1 b2 c3 c4 lt
  rcases z with _ | _
  · have HF : Hid (r = false) := Lib.hid (by rw [← HR.out]; exact sgood_no fun p => by have h := HV.out; rw [p.no_ring] at h; cases h)
    go_wp2
    go_ret
    exact ⟨by rw [HF.out]; rfl, HB7.out.old⟩
  obtain ⟨b0, b1, b2, c3, c4, -, -, lt⟩ := HB7.out
  have H7 : Hid (∀ i, i < s.th.length → ringN s i = false) := Lib.hid fun i hi => by have h := of_all HV.out i hi; simpa using h
  clear HV HB6
  obtain ⟨z, hz⟩ : ∃ z, (List.range s.th.length).all s.p8 = z := ⟨_, rfl⟩
  have HV := Lib.hid hz
  clear hz
  go_wp2_with fail
  refine (allheld_is (HS.out.on HB7.out.old) H1.out H3.out HV.out).mono ?_
  rintro e w8 ⟨rfl, hb⟩
  have HB8 := Lib.hid (HB7.out.on hb)
  clear hb b0 b1 b2 c3 c4 lt
  rcases z with _ | _
  · have HF : Hid (r = false) := Lib.hid (by rw [← HR.out]; exact sgood_no fun p => by have h := HV.out; rw [(all_yes p.p8)] at h; cases h)
    go_wp2
    go_ret
    exact ⟨by rw [HF.out]; rfl, HB8.out.old⟩
  obtain ⟨b0, b1, b2, c3, c4, -, -, lt⟩ := HB8.out
  have H8 := Lib.hid (of_all HV.out)
  clear HV HB7
  obtain ⟨z, hz⟩ : ∃ z, (List.range s.th.length).all s.p9 = z := ⟨_, rfl⟩
  have HV := Lib.hid hz
  clear hz
  go_wp2_with fail
  refine (ways_is (HS.out.on HB8.out.old) H2.out HV.out).mono ?_
  rintro e w9 ⟨rfl, hb⟩
  have HB9 := Lib.hid (HB8.out.on hb)
  clear hb b0 b1 b2 c3 c4 lt
  rcases z with _ | _
  · have HF : Hid (r = false) := Lib.hid (by rw [← HR.out]; exact sgood_no fun p => by have h := HV.out; rw [(all_yes p.p9)] at h; cases h)
    go_wp2
    go_ret
    exact ⟨by rw [HF.out]; rfl, HB9.out.old⟩
  have HF : Hid (r = true) := Lib.hid (by rw [← HR.out]; exact Pst.yes ⟨H1.out, H2.out, H3.out, H5.out, H4.out, H55.out, by have h := HO.out; rw [HS.out.hn] at h; exact h, H6.out, H7.out, H8.out, of_all HV.out⟩)
  go_wp2
  go_ret
  exact ⟨by rw [HF.out]; rfl, HB9.out.old⟩
end Go.Proofs.YtkpbfbmkolgmgaaGreat
namespace Go.Proofs.YtkpbfbmkolgmgaaGreat
open Go.RowKit

theorem sgood_pk {s : St} {w : World} {a b c : Int} {A C : Option Addr} {n ca m cc : Nat} (hS : StH w s a b c A n ca C m cc) (h : sgood s = true) : Gpk s n m := (sgood_pst.1 h).pk hS.hn hS.hm
theorem Gpk.owns {s : St} {n m : Nat} (h : Gpk s n m) : ownsOk s.th n = true := ownsOk_iff.2 h.own
theorem owner_in {s : St} {n m : Nat} (h : Gpk s n m) {k : Int} {o : Nat} (ho : ownerN s.th k = some o) : 0 ≤ k ∧ k < n := by
  obtain ⟨h1, h2, _⟩ := ownerN_some.1 ho
  obtain ⟨e1, e2, e3⟩ := Tng.hasS_iff.1 h2
  have hb := (h.thok.small h1).base
  have := h.own o h1
  rw [ownOk, Bool.and_eq_true, Bool.not_eq_true', Bool.and_eq_false_iff, decide_eq_false_iff_not] at this
  rcases this.1 with q | q
  · rw [e1] at q; simp at q
  · omega
theorem sowner_out {s : St} {n m : Nat} (h : sgood s = true → Gpk s n m) {k : Int} (hk : ¬ (0 ≤ k ∧ k < n)) : sowner s k = none := by
  rw [sowner]
  split
  · rename_i hg
    rcases ho : ownerN s.th k with _ | o
    · rfl
    · exact absurd (owner_in (h hg) ho) hk
  · rfl
/-! ### Owner -/
set_option maxHeartbeats 4000000 in
theorem pown_is {s : St} {a b c : Int} {A C : Option Addr} {n ca m cc : Nat} {k r : Int} {w : World} (hS : StH w s a b c A n ca C m cc) (hr : optI (sowner s k) = r) :
    Calls Tryz.prog 196 #[.agg #[.int .i64 a, .int .i64 b, .int .i64 c, .slice A n ca, .slice C m cc], .int .i64 k] w fun e w' => e = .returned (.int .i64 r) ∧ Below w.heap.size w w' := by
  have HR := Lib.hid hr
  have k1 := Sbx.new w a b c A n ca C m cc 27
  have HS := Lib.hid hS
  have HPK : Hid (sgood s = true → Gpk s n m) := Lib.hid (sgood_pk hS)
  clear hr hS
  obtain ⟨x, hx⟩ : ∃ x, (decide (0 ≤ k) && decide (k < (n : Int))) = x := ⟨_, rfl⟩
  have HX := Lib.hid hx
  clear hx
  go_enter Tryz.func196, Tryz.ntmps196
  go_wp2_with fail
  obtain ⟨g, hg⟩ : ∃ g, g = w.heap.size := ⟨_, rfl⟩
  rw [← hg] at k1 ⊢
  clear hg
  generalize w.alloc _ = w0 at k1 ⊢
  have HB0 := Lib.hid k1
  clear k1
  refine (isslot_at HX.out w0).mono ?_
  rintro e w1 ⟨rfl, hb⟩
  have HB1 := Lib.hid (HB0.out.on hb)
  clear hb HB0
  rcases x with _ | _
  · have HF : Hid (r = -1) := Lib.hid (by rw [← HR.out, sowner_out HPK.out (by have h := HX.out; rw [Bool.and_eq_false_iff, decide_eq_false_iff_not, decide_eq_false_iff_not] at h; omega)]; rfl)
    go_wp2
    go_ret
    exact ⟨by rw [HF.out]; rfl, HB1.out.old⟩
  obtain ⟨b0, b1, b2, c3, c4, -, -, lt⟩ := HB1.out
  obtain ⟨z, hz⟩ : ∃ z, sgood s = z := ⟨_, rfl⟩
  have HZ := Lib.hid hz
  clear hz
  go_wp2_with fail
  refine (sgood_is (HS.out.on HB1.out.old) HZ.out).mono ?_
  rintro e w2 ⟨rfl, hb⟩
  have HB2 := Lib.hid (HB1.out.on hb)
  clear hb b0 b1 b2 c3 c4 lt HB1
  rcases z with _ | _
  · have HF : Hid (r = -1) := Lib.hid (by rw [← HR.out, sowner, if_neg (by rw [HZ.out]; decide)]; rfl)
    go_wp2
    go_ret
    exact ⟨by rw [HF.out]; rfl, HB2.out.old⟩
  · have HP := Lib.hid (HPK.out HZ.out)
    obtain ⟨b0, b1, b2, c3, c4, -, -, lt⟩ := HB2.out
    have hk := HX.out
    rw [Bool.and_eq_true, decide_eq_true_eq, decide_eq_true_eq] at hk
    obtain ⟨j, rfl⟩ : ∃ j : Nat, k = j := ⟨k.toNat, by omega⟩
    have hj2 : (j : Int) < (n : Int) := hk.2
    have HJ : Hid (j < n) := Lib.hid (by omega)
    have HF : Hid (r = optI (ownerN s.th j)) := Lib.hid (by rw [← HR.out, sowner, if_pos HZ.out])
    clear hk
    go_wp2_with fail
    refine (ownersof_is (HS.out.on HB2.out.old) HP.out.thok HP.out.owns).mono ?_
    rintro e w3 ⟨G, rfl, hcell, hGl, hb⟩
    have hcj : w3.cell? ⟨G, j, none⟩ = some (.int .i64 r) := by rw [HF.out]; exact hcell j HJ.out
    have HB3 := Lib.hid (HB2.out.on hb)
    clear hb hcell b0 b1 b2 c3 c4 lt HB2
    go_wp2
    go_ret
    exact ⟨rfl, HB3.out.old⟩

/-! ### Free -/
/-! ### Holders -/
/-! ### Gap -/
/-! ### Inside -/
theorem inside_no {s : St} {x y : Int} (h : insideN s x y = false) : sinside s x y = false := by rw [sinside, h, Bool.and_false]
set_option maxRecDepth 100000 in
set_option maxHeartbeats 4000000 in
theorem pins_is {s : St} {a b c : Int} {A C : Option Addr} {n ca m cc : Nat} {x y : Int} {r : Bool} {w : World} (hS : StH w s a b c A n ca C m cc) (hr : sinside s x y = r) :
    Calls Tryz.prog 193 #[.agg #[.int .i64 a, .int .i64 b, .int .i64 c, .slice A n ca, .slice C m cc], .int .i64 x, .int .i64 y] w fun e w' => e = .returned (.bool r) ∧ Below w.heap.size w w' := by
  have HR := Lib.hid hr
  have k1 := Sbx.new w a b c A n ca C m cc 27
  have HS := Lib.hid hS
  have HPK : Hid (sgood s = true → Gpk s n m) := Lib.hid (sgood_pk hS)
  clear hr hS
  obtain ⟨o, ho⟩ : ∃ o, sowner s y = o := ⟨_, rfl⟩
  have HO := Lib.hid ho
  clear ho
  go_enter Tryz.func193, Tryz.ntmps193
  go_wp2_with fail
  obtain ⟨g, hg⟩ : ∃ g, g = w.heap.size := ⟨_, rfl⟩
  rw [← hg] at k1 ⊢
  clear hg
  generalize w.alloc _ = w0 at k1 ⊢
  have HB0 := Lib.hid k1
  clear k1
  refine (pown_is (r := optI o) (HS.out.on HB0.out.old) (by rw [HO.out])).mono ?_
  rintro e w1 ⟨rfl, hb⟩
  have HB1 := Lib.hid (HB0.out.on hb)
  clear hb HB0
  obtain ⟨b0, b1, b2, c3, c4, -, -, lt⟩ := HB1.out
  rcases o with _ | o
  · have HF : Hid (r = false) := Lib.hid (by
      rw [← HR.out, sinside]
      rcases hz : sgood s with _ | _
      · rfl
      · have h := HO.out
        rw [sowner, if_pos hz] at h
        rw [insideN, h]
        simp)
    simp only [optI]
    go_wp2
    go_ret
    exact ⟨by rw [HF.out]; rfl, HB1.out.old⟩
  · have HGD : Hid (sgood s = true) := Lib.hid (by
      rcases hz : sgood s with _ | _
      · have h := HO.out
        rw [sowner, hz, if_neg (by decide)] at h
        cases h
      · rfl)
    have HOW : Hid (ownerN s.th y = some o) := Lib.hid (by have h := HO.out; rw [sowner, if_pos HGD.out] at h; exact h)
    have HP := Lib.hid (HPK.out HGD.out)
    have hne : ((o : Int) == -1) = false := beq_eq_false_iff_ne.2 (by omega)
    have hne2 : ¬ (o : Int) = -1 := by omega
    obtain ⟨x1, hx1⟩ : ∃ x1, (decide (0 ≤ x) && decide (x < (m : Int))) = x1 := ⟨_, rfl⟩
    have HX1 := Lib.hid hx1
    clear hx1
    simp only [optI]
    go_wp2_with fail
    refine (isthing_at HX1.out w1).mono ?_
    rintro e w2 ⟨rfl, hb⟩
    have HB2 := Lib.hid (HB1.out.on hb)
    clear hb b0 b1 b2 c3 c4 lt HB1
    obtain ⟨b0, b1, b2, c3, c4, -, -, lt⟩ := HB2.out
    rcases x1 with _ | _
    · have HF : Hid (r = false) := Lib.hid (by
        rw [← HR.out]
        have h := HX1.out
        rw [Bool.and_eq_false_iff, decide_eq_false_iff_not, decide_eq_false_iff_not] at h
        refine inside_no ?_
        rw [insideN, Bool.and_eq_false_iff, Bool.and_eq_false_iff, decide_eq_false_iff_not, decide_eq_false_iff_not, ← HS.out.hm]
        omega)
      go_wp2
      go_ret
      exact ⟨by rw [HF.out]; rfl, HB2.out.old⟩
    · have hin := HX1.out
      rw [Bool.and_eq_true, decide_eq_true_eq, decide_eq_true_eq] at hin
      obtain ⟨t, rfl⟩ : ∃ t : Nat, x = t := ⟨x.toNat, by omega⟩
      have HT : Hid (t < m) := Lib.hid (by omega)
      have HRR : Hid (r = (decide ((thAt s.th t).ty = 2) && underN s t o)) := Lib.hid (by
        rw [← HR.out, sinside, HGD.out, insideN, decide_eq_true hin.1, decide_eq_true (by rw [← HS.out.hm]; exact hin.2), Int.toNat_natCast, HOW.out]
        rfl)
      have HRCH : Hid (underN s t o = true ↔ Rch (edgesN s.th s.sl) t o) := Lib.hid (under_rch HP.out.ndin (by rw [← HS.out.hm]; exact HT.out) o)
      have HOM : Hid (o < m) := Lib.hid (by rw [HS.out.hm]; exact ownerN_lt HOW.out)
      have HTY : Hid ((thAt s.th o).ty = 2) := Lib.hid (Tng.hasS_iff.1 (ownerN_some.1 HOW.out).2.1).1
      clear hin
      by_cases hot : o = t
      · subst hot
        have HF : Hid (r = true) := Lib.hid (by rw [HRR.out, decide_eq_true HTY.out, HRCH.out.2 .self]; rfl)
        go_wp2
        go_ret
        exact ⟨by rw [HF.out]; rfl, HB2.out.old⟩
      · have h1 : ((o : Int) == (t : Int)) = false := beq_eq_false_iff_ne.2 (by omega)
        have HOT := Lib.hid hot
        have ho48 : o < 48 := by have := HOM.out; have := HP.out.fewm; omega
        clear hot
        go_wp2_with fail
        refine (nodesin_is (HS.out.on HB2.out.old) HP.out.few HP.out.fewm HP.out.thok HP.out.own HP.out.ndin HT.out).mono ?_
        rintro e w3 ⟨v, hv, rfl, hb⟩
        have HB3 := Lib.hid (HB2.out.on hb)
        have HF : Hid (r = v o) := Lib.hid (by
          rw [HRR.out]
          refine Bool.eq_iff_iff.2 ?_
          rw [Bool.and_eq_true, decide_eq_true_eq, hv o, HRCH.out]
          constructor
          · rintro ⟨_, h⟩
            exact (rch_rp h).resolve_left fun e => HOT.out e.symm
          · intro h
            refine ⟨?_, rp_rch h⟩
            obtain ⟨y', h2, _⟩ := h
            obtain ⟨j, _, _, h3, _⟩ := of_edge h2
            exact (Tng.hasS_iff.1 h3).1)
        have hidx : ∀ w, (Instr.index 119 (.agg (bl v).toArray) (.int .i64 (o : Int))).run Tryz.prog w = .ok (.bool r) w := fun w => by rw [HF.out]; exact index_bl v ho48 w
        generalize bl v = L at hidx ⊢
        clear hb hv b0 b1 b2 c3 c4 lt HB2
        rcases r with _ | _
        · go_wp2
          go_ret
          exact ⟨rfl, HB3.out.old⟩
        · go_wp2
          go_ret
          exact ⟨rfl, HB3.out.old⟩
end Go.Proofs.YtkpbfbmkolgmgaaGreat
