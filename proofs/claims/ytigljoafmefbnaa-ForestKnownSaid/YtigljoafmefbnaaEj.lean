/-
  The walk of the law ForestKnown. Condition: what the program's calls answer is as Con tells.
-/
import Derived.Test.YtigljoafmefbnaaEy
namespace Go.Proofs.Ytigljoafmefbnaa
open Go.RowKit

set_option maxRecDepth 4000 in
set_option maxHeartbeats 4000000 in
theorem known_walk (K : Con) (w : World) : Calls Try.prog 3 #[] w fun e w' => e = .returned (.bool true) ∧ Below w.heap.size w w' := by
  go_enter Try.func3, Try.ntmps3
  go_wp2_with fail
  refine (awake_any K w).mono ?_
  rintro e w1 ⟨rfl, hb1⟩
  have HO := Lib.hid hb1
  clear hb1
  have hl := lit_ints w1 [0] 3 #[.int .i64 0] rfl
  have hk := below_alloc w1 (.cells #[.int .i64 0] 3)
  go_wp2_with fail
  obtain ⟨B0P, hP⟩ : ∃ P, P = w1.heap.size := ⟨_, rfl⟩
  rw [← hP] at hl ⊢
  clear hP
  generalize w1.alloc (.cells #[.int .i64 0] 3) = v1 at hl hk ⊢
  have B0 := Lib.hid hl
  clear hl
  replace HO := Lib.hid (below_on HO.out hk)
  clear hk
  refine (up_is _ _ _ v1).mono ?_
  rintro e v2 ⟨rfl, hb⟩
  replace HO := Lib.hid (below_on HO.out hb)
  replace B0 := Lib.hid (B0.out.on hb)
  clear hb
  have hl := lit_ints v2 [1, 0] 3 #[.int .i64 1, .int .i64 0] rfl
  have hk := below_alloc v2 (.cells #[.int .i64 1, .int .i64 0] 3)
  go_wp2_with fail
  obtain ⟨B1P, hP⟩ : ∃ P, P = v2.heap.size := ⟨_, rfl⟩
  rw [← hP] at hl ⊢
  clear hP
  generalize v2.alloc (.cells #[.int .i64 1, .int .i64 0] 3) = v3 at hl hk ⊢
  have B1 := Lib.hid hl
  clear hl
  replace HO := Lib.hid (below_on HO.out hk)
  replace B0 := Lib.hid (B0.out.on hk)
  clear hk
  refine (up_is _ _ _ v3).mono ?_
  rintro e v4 ⟨rfl, hb⟩
  replace HO := Lib.hid (below_on HO.out hb)
  replace B0 := Lib.hid (B0.out.on hb)
  replace B1 := Lib.hid (B1.out.on hb)
  clear hb
  have hl := lit_ints v4 [-3] 3 #[.int .i64 (-3)] rfl
  have hk := below_alloc v4 (.cells #[.int .i64 (-3)] 3)
  go_wp2_with fail
  obtain ⟨B2P, hP⟩ : ∃ P, P = v4.heap.size := ⟨_, rfl⟩
  rw [← hP] at hl ⊢
  clear hP
  generalize v4.alloc (.cells #[.int .i64 (-3)] 3) = v5 at hl hk ⊢
  have B2 := Lib.hid hl
  clear hl
  replace HO := Lib.hid (below_on HO.out hk)
  replace B0 := Lib.hid (B0.out.on hk)
  replace B1 := Lib.hid (B1.out.on hk)
  clear hk
  refine (up_is _ _ _ v5).mono ?_
  rintro e v6 ⟨rfl, hb⟩
  replace HO := Lib.hid (below_on HO.out hb)
  replace B0 := Lib.hid (B0.out.on hb)
  replace B1 := Lib.hid (B1.out.on hb)
  replace B2 := Lib.hid (B2.out.on hb)
  clear hb
  have hl := lit_ints v6 [2, -1] 3 #[.int .i64 2, .int .i64 (-1)] rfl
  have hk := below_alloc v6 (.cells #[.int .i64 2, .int .i64 (-1)] 3)
  go_wp2_with fail
  obtain ⟨B3P, hP⟩ : ∃ P, P = v6.heap.size := ⟨_, rfl⟩
  rw [← hP] at hl ⊢
  clear hP
  generalize v6.alloc (.cells #[.int .i64 2, .int .i64 (-1)] 3) = v7 at hl hk ⊢
  have B3 := Lib.hid hl
  clear hl
  replace HO := Lib.hid (below_on HO.out hk)
  replace B0 := Lib.hid (B0.out.on hk)
  replace B1 := Lib.hid (B1.out.on hk)
  replace B2 := Lib.hid (B2.out.on hk)
  clear hk
  refine (up_is _ _ _ v7).mono ?_
  rintro e v8 ⟨rfl, hb⟩
  replace HO := Lib.hid (below_on HO.out hb)
  replace B0 := Lib.hid (B0.out.on hb)
  replace B1 := Lib.hid (B1.out.on hb)
  replace B2 := Lib.hid (B2.out.on hb)
  replace B3 := Lib.hid (B3.out.on hb)
  clear hb
  have hl := lit_ints v8 [-2, 0] 3 #[.int .i64 (-2), .int .i64 0] rfl
  have hk := below_alloc v8 (.cells #[.int .i64 (-2), .int .i64 0] 3)
  go_wp2_with fail
  obtain ⟨B4P, hP⟩ : ∃ P, P = v8.heap.size := ⟨_, rfl⟩
  rw [← hP] at hl ⊢
  clear hP
  generalize v8.alloc (.cells #[.int .i64 (-2), .int .i64 0] 3) = v9 at hl hk ⊢
  have B4 := Lib.hid hl
  clear hl
  replace HO := Lib.hid (below_on HO.out hk)
  replace B0 := Lib.hid (B0.out.on hk)
  replace B1 := Lib.hid (B1.out.on hk)
  replace B2 := Lib.hid (B2.out.on hk)
  replace B3 := Lib.hid (B3.out.on hk)
  clear hk
  refine (up_is _ _ _ v9).mono ?_
  rintro e v10 ⟨rfl, hb⟩
  replace HO := Lib.hid (below_on HO.out hb)
  replace B0 := Lib.hid (B0.out.on hb)
  replace B1 := Lib.hid (B1.out.on hb)
  replace B2 := Lib.hid (B2.out.on hb)
  replace B3 := Lib.hid (B3.out.on hb)
  replace B4 := Lib.hid (B4.out.on hb)
  clear hb
  have hr := row5_new (w := v10) B0.out B1.out B2.out B3.out B4.out 25
  have hk := below_alloc v10 (.cells #[.slice (some ⟨B0P, 0, none⟩) 1 1, .slice (some ⟨B1P, 0, none⟩) 2 2, .slice (some ⟨B2P, 0, none⟩) 1 1, .slice (some ⟨B3P, 0, none⟩) 2 2, .slice (some ⟨B4P, 0, none⟩) 2 2] 25)
  go_wp2_with fail
  obtain ⟨P, hP⟩ : ∃ P, P = v10.heap.size := ⟨_, rfl⟩
  rw [← hP] at hr ⊢
  clear hP
  generalize v10.alloc (.cells #[.slice (some ⟨B0P, 0, none⟩) 1 1, .slice (some ⟨B1P, 0, none⟩) 2 2, .slice (some ⟨B2P, 0, none⟩) 1 1, .slice (some ⟨B3P, 0, none⟩) 2 2, .slice (some ⟨B4P, 0, none⟩) 2 2] 25) = v11 at hr hk ⊢
  clear B0 B1 B2 B3 B4
  replace HO := Lib.hid (below_on HO.out hk)
  clear hk
  have HR := Lib.hid hr
  clear hr
  go_loopg [2] 5 (fun k p wr => KRel v11 5 k p wr)
  case atStart => exact ⟨0, by omega, rfl, below_self _⟩
  case round =>
    obtain ⟨i, hk, rfl, hb⟩ := hrel
    have HK := Lib.hid hk
    have HB := Lib.hid hb
    clear hk hb
    by_cases hlt : i < 5
    · have HLT := Lib.hid hlt
      have hlt2 : (i : Int) < 5 := by omega
      obtain ⟨A, n, l, h1, h2, h3, h4⟩ := (HR.out.on HB.out).2 i hlt
      have HX : Hid (El wr P i A n l) := Lib.hid ⟨Nat.lt_of_lt_of_le HR.out.1 HB.out.size, h1, h3⟩
      have HN := Lib.hid h2
      have HBD := Lib.hid h4
      have H6 : Hid (n ≤ 1000000) := Lib.hid (by have := h4.few; omega)
      clear h1 h2 h3 h4
      have c_HX := HX.out.c
      go_wp2_with fail
      refine (K.add (w := wr) (l := l) HN.out (Nat.le_refl _) H6.out HX.out.ints (r := none) HBD.out.add).mono ?_
      intro e v12 hg
      obtain ⟨B, cb, rfl, hb⟩ := hg.no
      replace HB := Lib.hid (below_on HB.out hb)
      replace HX := Lib.hid (HX.out.on hb)
      clear hb
      clear c_HX
      have hx := (Fbx.new v12 (.slice B 0 cb) 25).c
      have hk := below_alloc v12 (.cells #[.slice B 0 cb] 25)
      have c_HX := (HX.out.on hk).c
      go_wp2_with fail
      clear c_HX
      clear hx
      obtain ⟨PP, hP⟩ : ∃ P, P = v12.heap.size := ⟨_, rfl⟩
      clear hP
      generalize v12.alloc (.cells #[.slice B 0 cb] 25) = v13 at hk ⊢
      replace HB := Lib.hid (below_on HB.out hk)
      replace HX := Lib.hid (HX.out.on hk)
      clear hk
      refine (K.drop (w := v13) (l := l) HN.out (Nat.le_refl _) H6.out HX.out.ints (r := none) HBD.out.drop).mono ?_
      intro e v14 hg
      obtain ⟨B, cb, rfl, hb⟩ := hg.no
      replace HB := Lib.hid (below_on HB.out hb)
      replace HX := Lib.hid (HX.out.on hb)
      clear hb
      have hx := (Fbx.new v14 (.slice B 0 cb) 25).c
      have hk := below_alloc v14 (.cells #[.slice B 0 cb] 25)
      have c_HX := (HX.out.on hk).c
      go_wp2_with fail
      clear c_HX
      clear hx
      obtain ⟨PP, hP⟩ : ∃ P, P = v14.heap.size := ⟨_, rfl⟩
      clear hP
      generalize v14.alloc (.cells #[.slice B 0 cb] 25) = v15 at hk ⊢
      replace HB := Lib.hid (below_on HB.out hk)
      replace HX := Lib.hid (HX.out.on hk)
      clear hk
      refine (K.prune (w := v15) (l := l) HN.out (Nat.le_refl _) H6.out HX.out.ints (r := none) HBD.out.prune).mono ?_
      intro e v16 hg
      obtain ⟨B, cb, rfl, hb⟩ := hg.no
      replace HB := Lib.hid (below_on HB.out hb)
      replace HX := Lib.hid (HX.out.on hb)
      clear hb
      have hx := (Fbx.new v16 (.slice B 0 cb) 25).c
      have hk := below_alloc v16 (.cells #[.slice B 0 cb] 25)
      have c_HX := (HX.out.on hk).c
      go_wp2_with fail
      clear c_HX
      clear hx
      obtain ⟨PP, hP⟩ : ∃ P, P = v16.heap.size := ⟨_, rfl⟩
      clear hP
      generalize v16.alloc (.cells #[.slice B 0 cb] 25) = v17 at hk ⊢
      replace HB := Lib.hid (below_on HB.out hk)
      replace HX := Lib.hid (HX.out.on hk)
      clear hk
      refine (K.good (w := v17) (l := l) HN.out (Nat.le_refl _) H6.out HX.out.ints HBD.out.good).mono ?_
      rintro e v18 ⟨rfl, hb⟩
      replace HB := Lib.hid (below_on HB.out hb)
      replace HX := Lib.hid (HX.out.on hb)
      clear hb
      have c_HX := HX.out.c
      go_wp2_with fail
      clear c_HX
      refine (K.depth (w := v18) (l := l) HN.out (Nat.le_refl _) H6.out HX.out.ints HBD.out.depth).mono ?_
      rintro e v19 ⟨rfl, hb⟩
      replace HB := Lib.hid (below_on HB.out hb)
      replace HX := Lib.hid (HX.out.on hb)
      clear hb
      have c_HX := HX.out.c
      go_wp2_with fail
      clear c_HX
      refine (K.order (w := v19) (l := l) HN.out (Nat.le_refl _) H6.out HX.out.ints HBD.out.order).mono ?_
      intro e v20 hg
      obtain ⟨C, cc, rfl, hcb, hi, hb⟩ := hg.to (n := 0) rfl
      replace HB := Lib.hid (below_on HB.out hb)
      replace HX := Lib.hid (HX.out.on hb)
      clear hb hi
      have c_HX := HX.out.c
      go_wp2_with fail
      clear c_HX
      refine (K.below (w := v20) (l := l) HN.out (Nat.le_refl _) H6.out HX.out.ints HBD.out.below).mono ?_
      intro e v21 hg
      obtain ⟨C, cc, rfl, hcb, hi, hb⟩ := hg.to (n := 0) rfl
      replace HB := Lib.hid (below_on HB.out hb)
      replace HX := Lib.hid (HX.out.on hb)
      clear hb hi
      go_wp2
      go_roundg (5 - (i + 1))
      case measure => have := HK.out; have := HLT.out; omega
      case rel => exact ⟨i + 1, by have := HLT.out; omega, by go_num, HB.out⟩
    · have hlt2 : ¬ (i : Int) < 5 := by omega
      replace HO := Lib.hid (below_on HO.out HB.out)
      clear HK HB HR hlt
      have hl := lit_ints wr [-1, 3, -2, 0, 0, -1, 5] 3 #[.int .i64 (-1), .int .i64 3, .int .i64 (-2), .int .i64 0, .int .i64 0, .int .i64 (-1), .int .i64 5] rfl
      have hk := below_alloc wr (.cells #[.int .i64 (-1), .int .i64 3, .int .i64 (-2), .int .i64 0, .int .i64 0, .int .i64 (-1), .int .i64 5] 3)
      go_wp2_with fail
      obtain ⟨FP, hP⟩ : ∃ P, P = wr.heap.size := ⟨_, rfl⟩
      rw [← hP] at hl ⊢
      clear hP
      generalize wr.alloc (.cells #[.int .i64 (-1), .int .i64 3, .int .i64 (-2), .int .i64 0, .int .i64 0, .int .i64 (-1), .int .i64 5] 3) = v22 at hl hk ⊢
      have F := Lib.hid hl
      clear hl
      replace HO := Lib.hid (below_on HO.out hk)
      clear hk
      refine (up_is _ _ _ v22).mono ?_
      rintro e v23 ⟨rfl, hb⟩
      replace HO := Lib.hid (below_on HO.out hb)
      replace F := Lib.hid (F.out.on hb)
      clear hb
      have hx := Fbx.new v23 (.slice (some ⟨FP, 0, none⟩) 7 7) 25
      have hk := below_alloc v23 (.cells #[.slice (some ⟨FP, 0, none⟩) 7 7] 25)
      have c_F := hx.c
      go_wp2_with fail
      clear c_F
      obtain ⟨FXP, hP⟩ : ∃ P, P = v23.heap.size := ⟨_, rfl⟩
      rw [← hP] at hx ⊢
      clear hP
      generalize v23.alloc (.cells #[.slice (some ⟨FP, 0, none⟩) 7 7] 25) = v24 at hx hk ⊢
      replace HO := Lib.hid (below_on HO.out hk)
      replace F := Lib.hid (F.out.on hk)
      clear hk
      have FX := Lib.hid hx
      clear hx
      refine (K.add (w := v24) (l := [-1, 3, -2, 0, 0, -1, 5]) rfl (by decide) (by decide) F.out (r := some [-1, 3, 1, 0, 0, -1, 5]) (by decide +kernel)).mono ?_
      intro e v25 hg
      obtain ⟨Ab, Ac, rfl, hcb, hi, hb⟩ := hg.yes (n := 7) rfl
      have AI := Lib.hid hi
      clear hi hcb
      replace HO := Lib.hid (below_on HO.out hb)
      replace F := Lib.hid (F.out.on hb)
      replace FX := Lib.hid (FX.out.on hb)
      clear hb
      have hx := Fbx.new v25 (.slice Ab 7 Ac) 25
      have hk := below_alloc v25 (.cells #[.slice Ab 7 Ac] 25)
      have c_FX := (FX.out.on hk).c
      go_wp2_with fail
      clear c_FX
      obtain ⟨AP, hP⟩ : ∃ P, P = v25.heap.size := ⟨_, rfl⟩
      rw [← hP] at hx ⊢
      clear hP
      generalize v25.alloc (.cells #[.slice Ab 7 Ac] 25) = v26 at hx hk ⊢
      replace HO := Lib.hid (below_on HO.out hk)
      replace F := Lib.hid (F.out.on hk)
      replace FX := Lib.hid (FX.out.on hk)
      replace AI := Lib.hid (AI.out.on hk)
      clear hk
      have AX := Lib.hid hx
      clear hx
      refine (K.add (w := v26) (l := [-1, 3, -2, 0, 0, -1, 5]) rfl (by decide) (by decide) F.out (r := none) (by decide +kernel)).mono ?_
      intro e v27 hg
      obtain ⟨B, cb, rfl, hb⟩ := hg.no
      replace HO := Lib.hid (below_on HO.out hb)
      replace F := Lib.hid (F.out.on hb)
      replace FX := Lib.hid (FX.out.on hb)
      replace AI := Lib.hid (AI.out.on hb)
      replace AX := Lib.hid (AX.out.on hb)
      clear hb
      have hx := (Fbx.new v27 (.slice B 0 cb) 25).c
      have hk := below_alloc v27 (.cells #[.slice B 0 cb] 25)
      have c_FX := (FX.out.on hk).c
      go_wp2_with fail
      clear c_FX
      clear hx
      obtain ⟨PP, hP⟩ : ∃ P, P = v27.heap.size := ⟨_, rfl⟩
      clear hP
      generalize v27.alloc (.cells #[.slice B 0 cb] 25) = v28 at hk ⊢
      replace HO := Lib.hid (below_on HO.out hk)
      replace F := Lib.hid (F.out.on hk)
      replace FX := Lib.hid (FX.out.on hk)
      replace AI := Lib.hid (AI.out.on hk)
      replace AX := Lib.hid (AX.out.on hk)
      clear hk
      refine (K.add (w := v28) (l := [-1, 3, -2, 0, 0, -1, 5]) rfl (by decide) (by decide) F.out (r := none) (by decide +kernel)).mono ?_
      intro e v29 hg
      obtain ⟨B, cb, rfl, hb⟩ := hg.no
      replace HO := Lib.hid (below_on HO.out hb)
      replace F := Lib.hid (F.out.on hb)
      replace FX := Lib.hid (FX.out.on hb)
      replace AI := Lib.hid (AI.out.on hb)
      replace AX := Lib.hid (AX.out.on hb)
      clear hb
      have hx := (Fbx.new v29 (.slice B 0 cb) 25).c
      have hk := below_alloc v29 (.cells #[.slice B 0 cb] 25)
      have c_FX := (FX.out.on hk).c
      go_wp2_with fail
      clear c_FX
      clear hx
      obtain ⟨PP, hP⟩ : ∃ P, P = v29.heap.size := ⟨_, rfl⟩
      clear hP
      generalize v29.alloc (.cells #[.slice B 0 cb] 25) = v30 at hk ⊢
      replace HO := Lib.hid (below_on HO.out hk)
      replace F := Lib.hid (F.out.on hk)
      replace FX := Lib.hid (FX.out.on hk)
      replace AI := Lib.hid (AI.out.on hk)
      replace AX := Lib.hid (AX.out.on hk)
      clear hk
      refine (K.add (w := v30) (l := [-1, 3, -2, 0, 0, -1, 5]) rfl (by decide) (by decide) F.out (r := none) (by decide +kernel)).mono ?_
      intro e v31 hg
      obtain ⟨B, cb, rfl, hb⟩ := hg.no
      replace HO := Lib.hid (below_on HO.out hb)
      replace F := Lib.hid (F.out.on hb)
      replace FX := Lib.hid (FX.out.on hb)
      replace AI := Lib.hid (AI.out.on hb)
      replace AX := Lib.hid (AX.out.on hb)
      clear hb
      have hx := (Fbx.new v31 (.slice B 0 cb) 25).c
      have hk := below_alloc v31 (.cells #[.slice B 0 cb] 25)
      have c_FX := (FX.out.on hk).c
      go_wp2_with fail
      clear c_FX
      clear hx
      obtain ⟨PP, hP⟩ : ∃ P, P = v31.heap.size := ⟨_, rfl⟩
      clear hP
      generalize v31.alloc (.cells #[.slice B 0 cb] 25) = v32 at hk ⊢
      replace HO := Lib.hid (below_on HO.out hk)
      replace F := Lib.hid (F.out.on hk)
      replace FX := Lib.hid (FX.out.on hk)
      replace AI := Lib.hid (AI.out.on hk)
      replace AX := Lib.hid (AX.out.on hk)
      clear hk
      refine (K.drop (w := v32) (l := [-1, 3, -2, 0, 0, -1, 5]) rfl (by decide) (by decide) F.out (r := some [-1, 0, -2, -2, 0, -1, 5]) (by decide +kernel)).mono ?_
      intro e v33 hg
      obtain ⟨Gb, Gc, rfl, hcb, hi, hb⟩ := hg.yes (n := 7) rfl
      have GI := Lib.hid hi
      clear hi hcb
      replace HO := Lib.hid (below_on HO.out hb)
      replace F := Lib.hid (F.out.on hb)
      replace FX := Lib.hid (FX.out.on hb)
      replace AI := Lib.hid (AI.out.on hb)
      replace AX := Lib.hid (AX.out.on hb)
      clear hb
      have hx := Fbx.new v33 (.slice Gb 7 Gc) 25
      have hk := below_alloc v33 (.cells #[.slice Gb 7 Gc] 25)
      have c_FX := (FX.out.on hk).c
      go_wp2_with fail
      clear c_FX
      obtain ⟨GP, hP⟩ : ∃ P, P = v33.heap.size := ⟨_, rfl⟩
      rw [← hP] at hx ⊢
      clear hP
      generalize v33.alloc (.cells #[.slice Gb 7 Gc] 25) = v34 at hx hk ⊢
      replace HO := Lib.hid (below_on HO.out hk)
      replace F := Lib.hid (F.out.on hk)
      replace FX := Lib.hid (FX.out.on hk)
      replace AI := Lib.hid (AI.out.on hk)
      replace AX := Lib.hid (AX.out.on hk)
      replace GI := Lib.hid (GI.out.on hk)
      clear hk
      have GX := Lib.hid hx
      clear hx
      refine (K.move (w := v34) (l := [-1, 3, -2, 0, 0, -1, 5]) rfl (by decide) (by decide) F.out (r := some [-2, 3, -1, 2, 2, -1, 5]) (by decide +kernel)).mono ?_
      intro e v35 hg
      obtain ⟨Ib, Ic, rfl, hcb, hi, hb⟩ := hg.yes (n := 7) rfl
      have II := Lib.hid hi
      clear hi hcb
      replace HO := Lib.hid (below_on HO.out hb)
      replace F := Lib.hid (F.out.on hb)
      replace FX := Lib.hid (FX.out.on hb)
      replace AI := Lib.hid (AI.out.on hb)
      replace AX := Lib.hid (AX.out.on hb)
      replace GI := Lib.hid (GI.out.on hb)
      replace GX := Lib.hid (GX.out.on hb)
      clear hb
      have hx := Fbx.new v35 (.slice Ib 7 Ic) 25
      have hk := below_alloc v35 (.cells #[.slice Ib 7 Ic] 25)
      have c_FX := (FX.out.on hk).c
      go_wp2_with fail
      clear c_FX
      obtain ⟨IP, hP⟩ : ∃ P, P = v35.heap.size := ⟨_, rfl⟩
      rw [← hP] at hx ⊢
      clear hP
      generalize v35.alloc (.cells #[.slice Ib 7 Ic] 25) = v36 at hx hk ⊢
      replace HO := Lib.hid (below_on HO.out hk)
      replace F := Lib.hid (F.out.on hk)
      replace FX := Lib.hid (FX.out.on hk)
      replace AI := Lib.hid (AI.out.on hk)
      replace AX := Lib.hid (AX.out.on hk)
      replace GI := Lib.hid (GI.out.on hk)
      replace GX := Lib.hid (GX.out.on hk)
      replace II := Lib.hid (II.out.on hk)
      clear hk
      have IX := Lib.hid hx
      clear hx
      refine (K.move (w := v36) (l := [-1, 3, -2, 0, 0, -1, 5]) rfl (by decide) (by decide) F.out (r := none) (by decide +kernel)).mono ?_
      intro e v37 hg
      obtain ⟨B, cb, rfl, hb⟩ := hg.no
      replace HO := Lib.hid (below_on HO.out hb)
      replace F := Lib.hid (F.out.on hb)
      replace FX := Lib.hid (FX.out.on hb)
      replace AI := Lib.hid (AI.out.on hb)
      replace AX := Lib.hid (AX.out.on hb)
      replace GI := Lib.hid (GI.out.on hb)
      replace GX := Lib.hid (GX.out.on hb)
      replace II := Lib.hid (II.out.on hb)
      replace IX := Lib.hid (IX.out.on hb)
      clear hb
      have hx := (Fbx.new v37 (.slice B 0 cb) 25).c
      have hk := below_alloc v37 (.cells #[.slice B 0 cb] 25)
      have c_FX := (FX.out.on hk).c
      go_wp2_with fail
      clear c_FX
      clear hx
      obtain ⟨PP, hP⟩ : ∃ P, P = v37.heap.size := ⟨_, rfl⟩
      clear hP
      generalize v37.alloc (.cells #[.slice B 0 cb] 25) = v38 at hk ⊢
      replace HO := Lib.hid (below_on HO.out hk)
      replace F := Lib.hid (F.out.on hk)
      replace FX := Lib.hid (FX.out.on hk)
      replace AI := Lib.hid (AI.out.on hk)
      replace AX := Lib.hid (AX.out.on hk)
      replace GI := Lib.hid (GI.out.on hk)
      replace GX := Lib.hid (GX.out.on hk)
      replace II := Lib.hid (II.out.on hk)
      replace IX := Lib.hid (IX.out.on hk)
      clear hk
      refine (K.move (w := v38) (l := [-1, 3, -2, 0, 0, -1, 5]) rfl (by decide) (by decide) F.out (r := none) (by decide +kernel)).mono ?_
      intro e v39 hg
      obtain ⟨B, cb, rfl, hb⟩ := hg.no
      replace HO := Lib.hid (below_on HO.out hb)
      replace F := Lib.hid (F.out.on hb)
      replace FX := Lib.hid (FX.out.on hb)
      replace AI := Lib.hid (AI.out.on hb)
      replace AX := Lib.hid (AX.out.on hb)
      replace GI := Lib.hid (GI.out.on hb)
      replace GX := Lib.hid (GX.out.on hb)
      replace II := Lib.hid (II.out.on hb)
      replace IX := Lib.hid (IX.out.on hb)
      clear hb
      have hx := (Fbx.new v39 (.slice B 0 cb) 25).c
      have hk := below_alloc v39 (.cells #[.slice B 0 cb] 25)
      have c_FX := (FX.out.on hk).c
      go_wp2_with fail
      clear c_FX
      clear hx
      obtain ⟨PP, hP⟩ : ∃ P, P = v39.heap.size := ⟨_, rfl⟩
      clear hP
      generalize v39.alloc (.cells #[.slice B 0 cb] 25) = v40 at hk ⊢
      replace HO := Lib.hid (below_on HO.out hk)
      replace F := Lib.hid (F.out.on hk)
      replace FX := Lib.hid (FX.out.on hk)
      replace AI := Lib.hid (AI.out.on hk)
      replace AX := Lib.hid (AX.out.on hk)
      replace GI := Lib.hid (GI.out.on hk)
      replace GX := Lib.hid (GX.out.on hk)
      replace II := Lib.hid (II.out.on hk)
      replace IX := Lib.hid (IX.out.on hk)
      clear hk
      refine (K.prune (w := v40) (l := [-1, 3, -2, 0, 0, -1, 5]) rfl (by decide) (by decide) F.out (r := some [-1, -2, -2, -2, -2, -1, 5]) (by decide +kernel)).mono ?_
      intro e v41 hg
      obtain ⟨Mb, Mc, rfl, hcb, hi, hb⟩ := hg.yes (n := 7) rfl
      have MI := Lib.hid hi
      clear hi hcb
      replace HO := Lib.hid (below_on HO.out hb)
      replace F := Lib.hid (F.out.on hb)
      replace FX := Lib.hid (FX.out.on hb)
      replace AI := Lib.hid (AI.out.on hb)
      replace AX := Lib.hid (AX.out.on hb)
      replace GI := Lib.hid (GI.out.on hb)
      replace GX := Lib.hid (GX.out.on hb)
      replace II := Lib.hid (II.out.on hb)
      replace IX := Lib.hid (IX.out.on hb)
      clear hb
      have hx := Fbx.new v41 (.slice Mb 7 Mc) 25
      have hk := below_alloc v41 (.cells #[.slice Mb 7 Mc] 25)
      have c_FX := (FX.out.on hk).c
      go_wp2_with fail
      clear c_FX
      obtain ⟨MP, hP⟩ : ∃ P, P = v41.heap.size := ⟨_, rfl⟩
      rw [← hP] at hx ⊢
      clear hP
      generalize v41.alloc (.cells #[.slice Mb 7 Mc] 25) = v42 at hx hk ⊢
      replace HO := Lib.hid (below_on HO.out hk)
      replace F := Lib.hid (F.out.on hk)
      replace FX := Lib.hid (FX.out.on hk)
      replace AI := Lib.hid (AI.out.on hk)
      replace AX := Lib.hid (AX.out.on hk)
      replace GI := Lib.hid (GI.out.on hk)
      replace GX := Lib.hid (GX.out.on hk)
      replace II := Lib.hid (II.out.on hk)
      replace IX := Lib.hid (IX.out.on hk)
      replace MI := Lib.hid (MI.out.on hk)
      clear hk
      have MX := Lib.hid hx
      clear hx
      refine (K.order (w := v42) (l := [-1, 3, -2, 0, 0, -1, 5]) rfl (by decide) (by decide) F.out (L := [0, 3, 1, 4, 5, 6]) (by decide +kernel)).mono ?_
      intro e v43 hg
      obtain ⟨C, cc, rfl, hcb, hi, hb⟩ := hg.to (n := 6) rfl
      have HC := Lib.hid hi
      clear hi hcb
      replace HO := Lib.hid (below_on HO.out hb)
      replace F := Lib.hid (F.out.on hb)
      replace FX := Lib.hid (FX.out.on hb)
      replace AI := Lib.hid (AI.out.on hb)
      replace AX := Lib.hid (AX.out.on hb)
      replace GI := Lib.hid (GI.out.on hb)
      replace GX := Lib.hid (GX.out.on hb)
      replace II := Lib.hid (II.out.on hb)
      replace IX := Lib.hid (IX.out.on hb)
      replace MI := Lib.hid (MI.out.on hb)
      replace MX := Lib.hid (MX.out.on hb)
      clear hb
      have hl := lit_ints v43 [0, 3, 1, 4, 5, 6] 3 #[.int .i64 0, .int .i64 3, .int .i64 1, .int .i64 4, .int .i64 5, .int .i64 6] rfl
      have hk := below_alloc v43 (.cells #[.int .i64 0, .int .i64 3, .int .i64 1, .int .i64 4, .int .i64 5, .int .i64 6] 3)
      go_wp2_with fail
      obtain ⟨LLP, hP⟩ : ∃ P, P = v43.heap.size := ⟨_, rfl⟩
      rw [← hP] at hl ⊢
      clear hP
      generalize v43.alloc (.cells #[.int .i64 0, .int .i64 3, .int .i64 1, .int .i64 4, .int .i64 5, .int .i64 6] 3) = v44 at hl hk ⊢
      have LL := Lib.hid hl
      clear hl
      replace HO := Lib.hid (below_on HO.out hk)
      replace F := Lib.hid (F.out.on hk)
      replace FX := Lib.hid (FX.out.on hk)
      replace AI := Lib.hid (AI.out.on hk)
      replace AX := Lib.hid (AX.out.on hk)
      replace GI := Lib.hid (GI.out.on hk)
      replace GX := Lib.hid (GX.out.on hk)
      replace II := Lib.hid (II.out.on hk)
      replace IX := Lib.hid (IX.out.on hk)
      replace MI := Lib.hid (MI.out.on hk)
      replace MX := Lib.hid (MX.out.on hk)
      replace HC := Lib.hid (HC.out.on hk)
      clear hk
      refine (ints_is (w := v44) (l := [0, 3, 1, 4, 5, 6]) (m := [0, 3, 1, 4, 5, 6]) rfl rfl (by decide) HC.out LL.out (same_ints _)).mono ?_
      rintro e v45 ⟨rfl, hb⟩
      clear LL HC
      replace HO := Lib.hid (below_on HO.out hb)
      replace F := Lib.hid (F.out.on hb)
      replace FX := Lib.hid (FX.out.on hb)
      replace AI := Lib.hid (AI.out.on hb)
      replace AX := Lib.hid (AX.out.on hb)
      replace GI := Lib.hid (GI.out.on hb)
      replace GX := Lib.hid (GX.out.on hb)
      replace II := Lib.hid (II.out.on hb)
      replace IX := Lib.hid (IX.out.on hb)
      replace MI := Lib.hid (MI.out.on hb)
      replace MX := Lib.hid (MX.out.on hb)
      clear hb
      have c_FX := FX.out.c
      go_wp2_with fail
      clear c_FX
      refine (K.kids (w := v45) (l := [-1, 3, -2, 0, 0, -1, 5]) rfl (by decide) (by decide) F.out (L := [3, 4]) (by decide +kernel)).mono ?_
      intro e v46 hg
      obtain ⟨C, cc, rfl, hcb, hi, hb⟩ := hg.to (n := 2) rfl
      have HC := Lib.hid hi
      clear hi hcb
      replace HO := Lib.hid (below_on HO.out hb)
      replace F := Lib.hid (F.out.on hb)
      replace FX := Lib.hid (FX.out.on hb)
      replace AI := Lib.hid (AI.out.on hb)
      replace AX := Lib.hid (AX.out.on hb)
      replace GI := Lib.hid (GI.out.on hb)
      replace GX := Lib.hid (GX.out.on hb)
      replace II := Lib.hid (II.out.on hb)
      replace IX := Lib.hid (IX.out.on hb)
      replace MI := Lib.hid (MI.out.on hb)
      replace MX := Lib.hid (MX.out.on hb)
      clear hb
      have hl := lit_ints v46 [3, 4] 3 #[.int .i64 3, .int .i64 4] rfl
      have hk := below_alloc v46 (.cells #[.int .i64 3, .int .i64 4] 3)
      go_wp2_with fail
      obtain ⟨LLP, hP⟩ : ∃ P, P = v46.heap.size := ⟨_, rfl⟩
      rw [← hP] at hl ⊢
      clear hP
      generalize v46.alloc (.cells #[.int .i64 3, .int .i64 4] 3) = v47 at hl hk ⊢
      have LL := Lib.hid hl
      clear hl
      replace HO := Lib.hid (below_on HO.out hk)
      replace F := Lib.hid (F.out.on hk)
      replace FX := Lib.hid (FX.out.on hk)
      replace AI := Lib.hid (AI.out.on hk)
      replace AX := Lib.hid (AX.out.on hk)
      replace GI := Lib.hid (GI.out.on hk)
      replace GX := Lib.hid (GX.out.on hk)
      replace II := Lib.hid (II.out.on hk)
      replace IX := Lib.hid (IX.out.on hk)
      replace MI := Lib.hid (MI.out.on hk)
      replace MX := Lib.hid (MX.out.on hk)
      replace HC := Lib.hid (HC.out.on hk)
      clear hk
      refine (ints_is (w := v47) (l := [3, 4]) (m := [3, 4]) rfl rfl (by decide) HC.out LL.out (same_ints _)).mono ?_
      rintro e v48 ⟨rfl, hb⟩
      clear LL HC
      replace HO := Lib.hid (below_on HO.out hb)
      replace F := Lib.hid (F.out.on hb)
      replace FX := Lib.hid (FX.out.on hb)
      replace AI := Lib.hid (AI.out.on hb)
      replace AX := Lib.hid (AX.out.on hb)
      replace GI := Lib.hid (GI.out.on hb)
      replace GX := Lib.hid (GX.out.on hb)
      replace II := Lib.hid (II.out.on hb)
      replace IX := Lib.hid (IX.out.on hb)
      replace MI := Lib.hid (MI.out.on hb)
      replace MX := Lib.hid (MX.out.on hb)
      clear hb
      have c_FX := FX.out.c
      go_wp2_with fail
      clear c_FX
      refine (K.below (w := v48) (l := [-1, 3, -2, 0, 0, -1, 5]) rfl (by decide) (by decide) F.out (L := [1, 3, 4]) (by decide +kernel)).mono ?_
      intro e v49 hg
      obtain ⟨C, cc, rfl, hcb, hi, hb⟩ := hg.to (n := 3) rfl
      have HC := Lib.hid hi
      clear hi hcb
      replace HO := Lib.hid (below_on HO.out hb)
      replace F := Lib.hid (F.out.on hb)
      replace FX := Lib.hid (FX.out.on hb)
      replace AI := Lib.hid (AI.out.on hb)
      replace AX := Lib.hid (AX.out.on hb)
      replace GI := Lib.hid (GI.out.on hb)
      replace GX := Lib.hid (GX.out.on hb)
      replace II := Lib.hid (II.out.on hb)
      replace IX := Lib.hid (IX.out.on hb)
      replace MI := Lib.hid (MI.out.on hb)
      replace MX := Lib.hid (MX.out.on hb)
      clear hb
      have hl := lit_ints v49 [1, 3, 4] 3 #[.int .i64 1, .int .i64 3, .int .i64 4] rfl
      have hk := below_alloc v49 (.cells #[.int .i64 1, .int .i64 3, .int .i64 4] 3)
      go_wp2_with fail
      obtain ⟨LLP, hP⟩ : ∃ P, P = v49.heap.size := ⟨_, rfl⟩
      rw [← hP] at hl ⊢
      clear hP
      generalize v49.alloc (.cells #[.int .i64 1, .int .i64 3, .int .i64 4] 3) = v50 at hl hk ⊢
      have LL := Lib.hid hl
      clear hl
      replace HO := Lib.hid (below_on HO.out hk)
      replace F := Lib.hid (F.out.on hk)
      replace FX := Lib.hid (FX.out.on hk)
      replace AI := Lib.hid (AI.out.on hk)
      replace AX := Lib.hid (AX.out.on hk)
      replace GI := Lib.hid (GI.out.on hk)
      replace GX := Lib.hid (GX.out.on hk)
      replace II := Lib.hid (II.out.on hk)
      replace IX := Lib.hid (IX.out.on hk)
      replace MI := Lib.hid (MI.out.on hk)
      replace MX := Lib.hid (MX.out.on hk)
      replace HC := Lib.hid (HC.out.on hk)
      clear hk
      refine (ints_is (w := v50) (l := [1, 3, 4]) (m := [1, 3, 4]) rfl rfl (by decide) HC.out LL.out (same_ints _)).mono ?_
      rintro e v51 ⟨rfl, hb⟩
      clear LL HC
      replace HO := Lib.hid (below_on HO.out hb)
      replace F := Lib.hid (F.out.on hb)
      replace FX := Lib.hid (FX.out.on hb)
      replace AI := Lib.hid (AI.out.on hb)
      replace AX := Lib.hid (AX.out.on hb)
      replace GI := Lib.hid (GI.out.on hb)
      replace GX := Lib.hid (GX.out.on hb)
      replace II := Lib.hid (II.out.on hb)
      replace IX := Lib.hid (IX.out.on hb)
      replace MI := Lib.hid (MI.out.on hb)
      replace MX := Lib.hid (MX.out.on hb)
      clear hb
      have c_FX := FX.out.c
      go_wp2_with fail
      clear c_FX
      refine (K.depth (w := v51) (l := [-1, 3, -2, 0, 0, -1, 5]) rfl (by decide) (by decide) F.out (i := 2) (d := -1) (by decide +kernel)).mono ?_
      rintro e v52 ⟨rfl, hb⟩
      replace HO := Lib.hid (below_on HO.out hb)
      replace F := Lib.hid (F.out.on hb)
      replace FX := Lib.hid (FX.out.on hb)
      replace AI := Lib.hid (AI.out.on hb)
      replace AX := Lib.hid (AX.out.on hb)
      replace GI := Lib.hid (GI.out.on hb)
      replace GX := Lib.hid (GX.out.on hb)
      replace II := Lib.hid (II.out.on hb)
      replace IX := Lib.hid (IX.out.on hb)
      replace MI := Lib.hid (MI.out.on hb)
      replace MX := Lib.hid (MX.out.on hb)
      clear hb
      have c_FX := FX.out.c
      go_wp2_with fail
      clear c_FX
      refine (K.depth (w := v52) (l := [-1, 3, -2, 0, 0, -1, 5]) rfl (by decide) (by decide) F.out (i := 7) (d := -1) (by decide +kernel)).mono ?_
      rintro e v53 ⟨rfl, hb⟩
      replace HO := Lib.hid (below_on HO.out hb)
      replace F := Lib.hid (F.out.on hb)
      replace FX := Lib.hid (FX.out.on hb)
      replace AI := Lib.hid (AI.out.on hb)
      replace AX := Lib.hid (AX.out.on hb)
      replace GI := Lib.hid (GI.out.on hb)
      replace GX := Lib.hid (GX.out.on hb)
      replace II := Lib.hid (II.out.on hb)
      replace IX := Lib.hid (IX.out.on hb)
      replace MI := Lib.hid (MI.out.on hb)
      replace MX := Lib.hid (MX.out.on hb)
      clear hb
      have c_AX := AX.out.c
      have hl := lit_ints v53 [-1, 3, 1, 0, 0, -1, 5] 3 #[.int .i64 (-1), .int .i64 3, .int .i64 1, .int .i64 0, .int .i64 0, .int .i64 (-1), .int .i64 5] rfl
      have hk := below_alloc v53 (.cells #[.int .i64 (-1), .int .i64 3, .int .i64 1, .int .i64 0, .int .i64 0, .int .i64 (-1), .int .i64 5] 3)
      go_wp2_with fail
      clear c_AX
      obtain ⟨LLP, hP⟩ : ∃ P, P = v53.heap.size := ⟨_, rfl⟩
      rw [← hP] at hl ⊢
      clear hP
      generalize v53.alloc (.cells #[.int .i64 (-1), .int .i64 3, .int .i64 1, .int .i64 0, .int .i64 0, .int .i64 (-1), .int .i64 5] 3) = v54 at hl hk ⊢
      have LL := Lib.hid hl
      clear hl
      replace HO := Lib.hid (below_on HO.out hk)
      replace F := Lib.hid (F.out.on hk)
      replace FX := Lib.hid (FX.out.on hk)
      replace AI := Lib.hid (AI.out.on hk)
      replace AX := Lib.hid (AX.out.on hk)
      replace GI := Lib.hid (GI.out.on hk)
      replace GX := Lib.hid (GX.out.on hk)
      replace II := Lib.hid (II.out.on hk)
      replace IX := Lib.hid (IX.out.on hk)
      replace MI := Lib.hid (MI.out.on hk)
      replace MX := Lib.hid (MX.out.on hk)
      clear hk
      refine (ints_is (w := v54) (l := [-1, 3, 1, 0, 0, -1, 5]) (m := [-1, 3, 1, 0, 0, -1, 5]) rfl rfl (by decide) AI.out LL.out (same_ints _)).mono ?_
      rintro e v55 ⟨rfl, hb⟩
      clear LL
      replace HO := Lib.hid (below_on HO.out hb)
      replace F := Lib.hid (F.out.on hb)
      replace FX := Lib.hid (FX.out.on hb)
      replace AI := Lib.hid (AI.out.on hb)
      replace AX := Lib.hid (AX.out.on hb)
      replace GI := Lib.hid (GI.out.on hb)
      replace GX := Lib.hid (GX.out.on hb)
      replace II := Lib.hid (II.out.on hb)
      replace IX := Lib.hid (IX.out.on hb)
      replace MI := Lib.hid (MI.out.on hb)
      replace MX := Lib.hid (MX.out.on hb)
      clear hb
      have c_GX := GX.out.c
      have hl := lit_ints v55 [-1, 0, -2, -2, 0, -1, 5] 3 #[.int .i64 (-1), .int .i64 0, .int .i64 (-2), .int .i64 (-2), .int .i64 0, .int .i64 (-1), .int .i64 5] rfl
      have hk := below_alloc v55 (.cells #[.int .i64 (-1), .int .i64 0, .int .i64 (-2), .int .i64 (-2), .int .i64 0, .int .i64 (-1), .int .i64 5] 3)
      go_wp2_with fail
      clear c_GX
      obtain ⟨LLP, hP⟩ : ∃ P, P = v55.heap.size := ⟨_, rfl⟩
      rw [← hP] at hl ⊢
      clear hP
      generalize v55.alloc (.cells #[.int .i64 (-1), .int .i64 0, .int .i64 (-2), .int .i64 (-2), .int .i64 0, .int .i64 (-1), .int .i64 5] 3) = v56 at hl hk ⊢
      have LL := Lib.hid hl
      clear hl
      replace HO := Lib.hid (below_on HO.out hk)
      replace F := Lib.hid (F.out.on hk)
      replace FX := Lib.hid (FX.out.on hk)
      replace AI := Lib.hid (AI.out.on hk)
      replace AX := Lib.hid (AX.out.on hk)
      replace GI := Lib.hid (GI.out.on hk)
      replace GX := Lib.hid (GX.out.on hk)
      replace II := Lib.hid (II.out.on hk)
      replace IX := Lib.hid (IX.out.on hk)
      replace MI := Lib.hid (MI.out.on hk)
      replace MX := Lib.hid (MX.out.on hk)
      clear hk
      refine (ints_is (w := v56) (l := [-1, 0, -2, -2, 0, -1, 5]) (m := [-1, 0, -2, -2, 0, -1, 5]) rfl rfl (by decide) GI.out LL.out (same_ints _)).mono ?_
      rintro e v57 ⟨rfl, hb⟩
      clear LL
      replace HO := Lib.hid (below_on HO.out hb)
      replace F := Lib.hid (F.out.on hb)
      replace FX := Lib.hid (FX.out.on hb)
      replace AI := Lib.hid (AI.out.on hb)
      replace AX := Lib.hid (AX.out.on hb)
      replace GI := Lib.hid (GI.out.on hb)
      replace GX := Lib.hid (GX.out.on hb)
      replace II := Lib.hid (II.out.on hb)
      replace IX := Lib.hid (IX.out.on hb)
      replace MI := Lib.hid (MI.out.on hb)
      replace MX := Lib.hid (MX.out.on hb)
      clear hb
      have c_IX := IX.out.c
      have hl := lit_ints v57 [-2, 3, -1, 2, 2, -1, 5] 3 #[.int .i64 (-2), .int .i64 3, .int .i64 (-1), .int .i64 2, .int .i64 2, .int .i64 (-1), .int .i64 5] rfl
      have hk := below_alloc v57 (.cells #[.int .i64 (-2), .int .i64 3, .int .i64 (-1), .int .i64 2, .int .i64 2, .int .i64 (-1), .int .i64 5] 3)
      go_wp2_with fail
      clear c_IX
      obtain ⟨LLP, hP⟩ : ∃ P, P = v57.heap.size := ⟨_, rfl⟩
      rw [← hP] at hl ⊢
      clear hP
      generalize v57.alloc (.cells #[.int .i64 (-2), .int .i64 3, .int .i64 (-1), .int .i64 2, .int .i64 2, .int .i64 (-1), .int .i64 5] 3) = v58 at hl hk ⊢
      have LL := Lib.hid hl
      clear hl
      replace HO := Lib.hid (below_on HO.out hk)
      replace F := Lib.hid (F.out.on hk)
      replace FX := Lib.hid (FX.out.on hk)
      replace AI := Lib.hid (AI.out.on hk)
      replace AX := Lib.hid (AX.out.on hk)
      replace GI := Lib.hid (GI.out.on hk)
      replace GX := Lib.hid (GX.out.on hk)
      replace II := Lib.hid (II.out.on hk)
      replace IX := Lib.hid (IX.out.on hk)
      replace MI := Lib.hid (MI.out.on hk)
      replace MX := Lib.hid (MX.out.on hk)
      clear hk
      refine (ints_is (w := v58) (l := [-2, 3, -1, 2, 2, -1, 5]) (m := [-2, 3, -1, 2, 2, -1, 5]) rfl rfl (by decide) II.out LL.out (same_ints _)).mono ?_
      rintro e v59 ⟨rfl, hb⟩
      clear LL
      replace HO := Lib.hid (below_on HO.out hb)
      replace F := Lib.hid (F.out.on hb)
      replace FX := Lib.hid (FX.out.on hb)
      replace AI := Lib.hid (AI.out.on hb)
      replace AX := Lib.hid (AX.out.on hb)
      replace GI := Lib.hid (GI.out.on hb)
      replace GX := Lib.hid (GX.out.on hb)
      replace II := Lib.hid (II.out.on hb)
      replace IX := Lib.hid (IX.out.on hb)
      replace MI := Lib.hid (MI.out.on hb)
      replace MX := Lib.hid (MX.out.on hb)
      clear hb
      have c_MX := MX.out.c
      have hl := lit_ints v59 [-1, -2, -2, -2, -2, -1, 5] 3 #[.int .i64 (-1), .int .i64 (-2), .int .i64 (-2), .int .i64 (-2), .int .i64 (-2), .int .i64 (-1), .int .i64 5] rfl
      have hk := below_alloc v59 (.cells #[.int .i64 (-1), .int .i64 (-2), .int .i64 (-2), .int .i64 (-2), .int .i64 (-2), .int .i64 (-1), .int .i64 5] 3)
      go_wp2_with fail
      clear c_MX
      obtain ⟨LLP, hP⟩ : ∃ P, P = v59.heap.size := ⟨_, rfl⟩
      rw [← hP] at hl ⊢
      clear hP
      generalize v59.alloc (.cells #[.int .i64 (-1), .int .i64 (-2), .int .i64 (-2), .int .i64 (-2), .int .i64 (-2), .int .i64 (-1), .int .i64 5] 3) = v60 at hl hk ⊢
      have LL := Lib.hid hl
      clear hl
      replace HO := Lib.hid (below_on HO.out hk)
      replace F := Lib.hid (F.out.on hk)
      replace FX := Lib.hid (FX.out.on hk)
      replace AI := Lib.hid (AI.out.on hk)
      replace AX := Lib.hid (AX.out.on hk)
      replace GI := Lib.hid (GI.out.on hk)
      replace GX := Lib.hid (GX.out.on hk)
      replace II := Lib.hid (II.out.on hk)
      replace IX := Lib.hid (IX.out.on hk)
      replace MI := Lib.hid (MI.out.on hk)
      replace MX := Lib.hid (MX.out.on hk)
      clear hk
      refine (ints_is (w := v60) (l := [-1, -2, -2, -2, -2, -1, 5]) (m := [-1, -2, -2, -2, -2, -1, 5]) rfl rfl (by decide) MI.out LL.out (same_ints _)).mono ?_
      rintro e v61 ⟨rfl, hb⟩
      clear LL
      replace HO := Lib.hid (below_on HO.out hb)
      replace F := Lib.hid (F.out.on hb)
      replace FX := Lib.hid (FX.out.on hb)
      replace AI := Lib.hid (AI.out.on hb)
      replace AX := Lib.hid (AX.out.on hb)
      replace GI := Lib.hid (GI.out.on hb)
      replace GX := Lib.hid (GX.out.on hb)
      replace II := Lib.hid (II.out.on hb)
      replace IX := Lib.hid (IX.out.on hb)
      replace MI := Lib.hid (MI.out.on hb)
      replace MX := Lib.hid (MX.out.on hb)
      clear hb
      go_wp2
      go_ret
      exact ⟨rfl, HO.out⟩
end Go.Proofs.Ytigljoafmefbnaa
