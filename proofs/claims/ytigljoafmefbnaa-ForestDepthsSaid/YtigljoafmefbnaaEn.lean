/-
  The walk of the law ForestDepths. Conditions: the places lie in memory; what the program's calls answer is as Con tells.
-/
import Derived.Test.YtigljoafmefbnaaEu
import Derived.Test.YtigljoafmefbnaaEs
import Derived.Test.YtigljoafmefbnaaEe
import Derived.Deep.CutRange
import Derived.Deep.RegionHeld3
import Derived.Deep.QuietTactic
import Derived.BigQuiet
import Derived.IntWalk
namespace Go.Proofs.Ytigljoafmefbnaa
open Go.RowKit

theorem u2_use {W1 W w : World} {P N b o : Nat} {u v r : Value} {xs : Array Value} (HP : Fbx W1 W P u) (hb : b < W.heap.size) (hv : W.cell? ⟨b, o, none⟩ = some v) (h : Below W.heap.size W w) (hc : Calls Try.prog N xs w fun e w' => e = .returned r ∧ Below w.heap.size w w') :
    Calls Try.prog N xs w fun e w' => e = .returned r ∧ w'.cell? ⟨P, 0, none⟩ = some u ∧ w'.cell? ⟨b, o, none⟩ = some v ∧ Below W.heap.size W w' := by
  refine hc.mono ?_
  rintro e w' ⟨rfl, hk⟩
  have k := below_on h hk
  exact ⟨rfl, by rw [k.cell (p := ⟨P, 0, none⟩) HP.lt]; exact HP.c, by rw [k.cell (p := ⟨b, o, none⟩) hb]; exact hv, k⟩
theorem list_use {W1 W w : World} {P N n : Nat} {u : Value} {L : List Int} {xs : Array Value} (HP : Fbx W1 W P u) (h : Below W.heap.size W w) (hc : Calls Try.prog N xs w fun e w' => ListF w w' e L) (hn : n = L.length) :
    Calls Try.prog N xs w fun e w' => (∃ B cb, e = .returned (.slice B n cb) ∧ IntsAt w' w'.heap.size B L) ∧ w'.cell? ⟨P, 0, none⟩ = some u ∧ Below W.heap.size W w' ∧ Below w.heap.size w w' := by
  refine hc.mono ?_
  intro e w' hl
  obtain ⟨B, cb, rfl, _, hi, hk⟩ := hl.to hn
  have k := below_on h hk
  exact ⟨⟨B, cb, rfl, hi⟩, by rw [k.cell (p := ⟨P, 0, none⟩) HP.lt]; exact HP.c, k, hk⟩
def RF (W : World) (n : Nat) (l : List Int) (i : Nat) (bs : List Nat) (k : Nat) (p q : Value) (wr : World) : Prop :=
  ∃ t : Nat, k + t = n ∧ p = .int .i64 (kidsOf l i bs t : Nat) ∧ q = .int .i64 t ∧ Below W.heap.size W wr
set_option maxRecDepth 4000 in
set_option maxHeartbeats 40000000 in
theorem depths_walk (K : Con) (A : Option Addr) (cap : Nat) (l : List Int) (w : World) (hc : l.length ≤ cap) (hL : IntsAt w w.heap.size A l) :
    Calls Try.prog 7 #[.slice A l.length cap] w fun e w' => e = .returned (.bool true) ∧ Below w.heap.size w w' := by
  obtain ⟨n, hn⟩ : ∃ n, n = l.length := ⟨_, rfl⟩
  rw [← hn] at hc ⊢
  have HN := Lib.hid hn
  have HL := Lib.hid hL
  have HCP := Lib.hid hc
  clear hn hL hc
  go_enter Try.func7, Try.ntmps7
  go_wp2_with fail
  refine (awake_any K w).mono ?_
  rintro e w1 ⟨rfl, hb1⟩
  have HO := Lib.hid hb1
  have hL1 := HL.out.on hb1
  clear hb1 HL
  have HL := Lib.hid hL1
  clear hL1
  go_wp2_with fail
  refine (up_is _ _ _ w1).mono ?_
  rintro e v1 ⟨rfl, hb⟩
  replace HO := Lib.hid (below_on HO.out hb)
  replace HL := Lib.hid (HL.out.on hb)
  clear hb
  by_cases h96 : 96 < n
  · have h96' : (96 : Int) < (n : Int) := by omega
    have h96d : decide ((96 : Int) < (n : Int)) = true := decide_eq_true h96'
    have hk := below_alloc v1 (.cells #[.slice A n cap] 25)
    go_wp2
    go_ret
    exact ⟨rfl, below_on HO.out hk⟩
  have h96' : ¬ (96 : Int) < (n : Int) := by omega
  have h96d : decide ((96 : Int) < (n : Int)) = false := decide_eq_false h96'
  have H96 : Hid (n ≤ 96) := Lib.hid (by omega)
  have H6 : Hid (n ≤ 1000000) := Lib.hid (by omega)
  clear h96
  have hx := Fbx.new v1 (.slice A n cap) 25
  have hk := below_alloc v1 (.cells #[.slice A n cap] 25)
  have c_FX := hx.c
  go_wp2_with fail
  clear c_FX
  obtain ⟨FXP, hP⟩ : ∃ P, P = v1.heap.size := ⟨_, rfl⟩
  rw [← hP] at hx ⊢
  clear hP
  generalize v1.alloc (.cells #[.slice A n cap] 25) = v2 at hx hk ⊢
  replace HO := Lib.hid (below_on HO.out hk)
  replace HL := Lib.hid (HL.out.on hk)
  clear hk
  have FX := Lib.hid hx
  clear hx
  clear h96' h96d
  rcases hg : fgood l with _ | _
  · refine (K.good (w := v2) HN.out HCP.out H6.out HL.out hg).mono ?_
    rintro e v3 ⟨rfl, hb⟩
    have HB := Lib.hid (below_on HO.out hb)
    clear hb hg
    go_wp2
    go_ret
    exact ⟨rfl, HB.out⟩
  have HF := Lib.hid (fo_iff.1 hg)
  refine (K.good (w := v2) HN.out HCP.out H6.out HL.out hg).mono ?_
  rintro e v3 ⟨rfl, hb⟩
  replace HO := Lib.hid (below_on HO.out hb)
  replace HL := Lib.hid (HL.out.on hb)
  replace FX := Lib.hid (FX.out.on hb)
  clear hb hg
  go_wp2_with fail
  go_loopg [4] n (fun kk p wr => KRel v3 n kk p wr)
  case atStart => exact ⟨0, by omega, rfl, below_self _⟩
  case round =>
    obtain ⟨i, hk, rfl, hb⟩ := hrel
    have HK := Lib.hid hk
    have HB := Lib.hid hb
    clear hk hb
    by_cases hlt : i < n
    · have HLT := Lib.hid hlt
      have hlt2 : (i : Int) < (n : Int) := by omega
      have cF := (FX.out.on HB.out).c
      obtain ⟨d, hd⟩ : ∃ d, fdepth l i = d := ⟨_, rfl⟩
      have HD := Lib.hid hd
      clear hd
      go_wp2_with fail
      refine (K.depth (w := wr) HN.out HCP.out H6.out (HL.out.on HB.out) HD.out).mono ?_
      rintro e x1 ⟨rfl, hb⟩
      have HB1 := Lib.hid (below_on HB.out hb)
      clear hb cF HB
      obtain ⟨b, o, rfl, hblk, hc⟩ := at_open HL.out (by rw [← HN.out]; omega)
      have cF := FX.out.c
      have cL := hc i (by rw [← HN.out]; exact hlt)
      clear hc hlt
      have HBO : Hid (b < v3.heap.size) := Lib.hid hblk
      have HCL := Lib.hid cL
      clear cL cF hblk
      go_upto_region 10 with fail
      go_cut [69] from 23 to 115 (fun c wc => c = .bool false ∧ Below v3.heap.size v3 wc)
      case first =>
        obtain ⟨y, hy⟩ : ∃ y, fu l i = y := ⟨_, rfl⟩
        have cL := HCL.out
        rw [hy] at cL
        have e1 : x1.cell? ⟨b, o + i, none⟩ = some (.int .i64 y) := by rw [HB1.out.cell (p := ⟨b, _, none⟩) HBO.out]; exact cL
        by_cases h2 : y = -2
        · subst h2
          obtain rfl : d = -1 := by rw [← HD.out]; exact deep_none HF.out hy
          clear hy cL
          go_quiet (fail)
          go_wp2_with fail
          go_meet
          exact ⟨rfl, below_draws HB1.out _⟩
        · by_cases h3 : y = -1
          · subst h3
            obtain rfl : d = 0 := by rw [← HD.out]; exact deep_root HF.out hy
            clear hy cL h2
            go_quiet (fail)
            go_wp2_with fail
            go_meet
            exact ⟨rfl, below_draws HB1.out _⟩
          · obtain ⟨j, rfl⟩ : ∃ j : Nat, y = j := ⟨y.toNat, by have := HF.out.low i; rw [hy] at this; omega⟩
            obtain ⟨c, hc1, hc2, hc3⟩ := deep_kid HF.out hy
            rw [HD.out] at hc2
            subst hc2
            have g1 : ((j : Int) == -2) = false := beq_eq_false_iff_ne.2 (by omega)
            have g2 : ((j : Int) == -1) = false := beq_eq_false_iff_ne.2 (by omega)
            have g3 : decide (0 ≤ (j : Int)) = true := decide_eq_true (by omega)
            have g4 : IntKind.i64.wrap ((c : Int) + 1) = ((c + 1 : Nat) : Int) := by rw [IntWalk.i64_in _ (by omega)]; rfl
            have IJ : Hid (∀ w1, Below v3.heap.size v3 w1 → Calls Try.prog 14 #[.agg #[.slice (some ⟨b, o, none⟩) n cap], .int .i64 (j : Int)] w1 fun e w' => e = .returned (.int .i64 (c : Int)) ∧ Below w1.heap.size w1 w') := Lib.hid fun w1 h => K.depth HN.out HCP.out H6.out (HL.out.on h) hc1
            have c0 : x1.drew.cell? ⟨FXP, 0, none⟩ = some (.slice (some ⟨b, o, none⟩) n cap) := (FX.out.on HB1.out.drew).c
            have hT : Below v3.heap.size v3 x1.drew := HB1.out.drew
            have c1 : x1.drew.cell? ⟨b, o + i, none⟩ = some (.int .i64 (j : Int)) := by rw [hT.cell (p := ⟨b, _, none⟩) HBO.out]; exact cL
            have hblk := HBO.out
            have cF := cL
            clear h2 h3 hy hc1 hc3
            refine wp_region_held_drew (S := fun w' => w'.cell? ⟨FXP, 0, none⟩ = some (.slice (some ⟨b, o, none⟩) n cap) ∧ w'.cell? ⟨b, o + i, none⟩ = some (.int .i64 (j : Int)) ∧ Below v3.heap.size v3 w') (by kernel_rfl) ⟨c0, c1, hT⟩ (fun hHeld => ?_)
            refine wpAnyH_take (i := 0) (v := ?_) rfl (by kernel_rfl) (by kernel_rfl) (by kernel_rfl) (fun _ _ _ h => h) (Or.inl ⟨by rfl, ?_⟩) (by assumption) ?_
            rotate_left
            · intro w hSw; go_split_ands; go_simp; try with_reducible rfl
            simp only [Act.put, List.setIfInBounds_toArray, List.set_cons_zero, List.set_cons_succ, List.getElem_toArray, List.getElem_cons_zero]
            refine wpAnyH_take (i := 1) (v := ?_) rfl (by kernel_rfl) (by kernel_rfl) (by kernel_rfl) (fun _ _ _ h => h) (Or.inl ⟨by rfl, ?_⟩) (by assumption) ?_
            rotate_left
            · intro w hSw; go_split_ands; go_simp; try with_reducible rfl
            simp only [Act.put, List.setIfInBounds_toArray, List.set_cons_zero, List.set_cons_succ, List.getElem_toArray, List.getElem_cons_zero, List.getElem_cons_succ]
            refine wpAnyH_take (i := 2) (v := ?_) rfl (by kernel_rfl) (by kernel_rfl) (by kernel_rfl) (fun _ _ _ h => h) (Or.inl ⟨by rfl, ?_⟩) (by assumption) ?_
            rotate_left
            · intro w hSw; go_split_ands; go_simp; try with_reducible rfl
            simp only [Act.put, List.setIfInBounds_toArray, List.set_cons_zero, List.set_cons_succ, List.getElem_toArray, List.getElem_cons_zero, List.getElem_cons_succ]
            refine wpAnyH_take (i := 3) (v := ?_) rfl (by kernel_rfl) (by kernel_rfl) (by kernel_rfl) (fun _ _ _ h => h) (Or.inl ⟨by rfl, ?_⟩) (by assumption) ?_
            rotate_left
            · intro w hSw; go_split_ands; go_simp; try with_reducible rfl
            simp only [Act.put, List.setIfInBounds_toArray, List.set_cons_zero, List.set_cons_succ, List.getElem_toArray, List.getElem_cons_zero, List.getElem_cons_succ]
            refine wpAnyH_take (i := 4) (v := ?_) rfl (by kernel_rfl) (by kernel_rfl) (by kernel_rfl) (fun _ _ _ h => h) (Or.inl ⟨by rfl, ?_⟩) (by assumption) ?_
            rotate_left
            · intro w hSw; go_split_ands; go_simp; try with_reducible rfl
            simp only [Act.put, List.setIfInBounds_toArray, List.set_cons_zero, List.set_cons_succ, List.getElem_toArray, List.getElem_cons_zero, List.getElem_cons_succ]
            refine wpAnyH_take (i := 5) (v := ?_) rfl (by kernel_rfl) (by kernel_rfl) (by kernel_rfl) (fun _ _ _ h => h) (Or.inl ⟨by rfl, ?_⟩) (by assumption) ?_
            rotate_left
            · intro w hSw; go_split_ands; go_simp; try with_reducible rfl
            simp only [Act.put, List.setIfInBounds_toArray, List.set_cons_zero, List.set_cons_succ, List.getElem_toArray, List.getElem_cons_zero, List.getElem_cons_succ]
            refine wpAnyH_take (i := 6) rfl (by kernel_rfl) (by kernel_rfl) (by kernel_rfl) (fun _ _ _ h => h) (Or.inr ⟨by rfl, rfl⟩) (by assumption) ?_
            simp only [Act.put, List.setIfInBounds_toArray, List.set_cons_zero, List.set_cons_succ, List.getElem_toArray, List.getElem_cons_zero, List.getElem_cons_succ]
            refine wpAnyH_take (i := 7) rfl (by kernel_rfl) (by kernel_rfl) (by kernel_rfl) (fun _ _ _ h => h) (Or.inr ⟨by rfl, rfl⟩) (by assumption) ?_
            simp only [Act.put, List.setIfInBounds_toArray, List.set_cons_zero, List.set_cons_succ, List.getElem_toArray, List.getElem_cons_zero, List.getElem_cons_succ]
            refine wpAnyH_take (i := 8) (v := ?_) rfl (by kernel_rfl) (by kernel_rfl) (by kernel_rfl) (fun _ _ _ h => h) (Or.inl ⟨by rfl, ?_⟩) (by assumption) ?_
            rotate_left
            · intro w hSw; go_split_ands; go_simp; try with_reducible rfl
            simp only [Act.put, List.setIfInBounds_toArray, List.set_cons_zero, List.set_cons_succ, List.getElem_toArray, List.getElem_cons_zero, List.getElem_cons_succ]
            refine wpAnyH_take (i := 9) (v := ?_) rfl (by kernel_rfl) (by kernel_rfl) (by kernel_rfl) (fun _ _ _ h => h) (Or.inl ⟨by rfl, ?_⟩) (by assumption) ?_
            rotate_left
            · intro w hSw; go_split_ands; go_simp; try with_reducible rfl
            simp only [Act.put, List.setIfInBounds_toArray, List.set_cons_zero, List.set_cons_succ, List.getElem_toArray, List.getElem_cons_zero, List.getElem_cons_succ]
            refine wpAnyH_take (i := 10) (v := ?_) rfl (by kernel_rfl) (by kernel_rfl) (by kernel_rfl) (fun _ _ _ h => h) (Or.inl ⟨by rfl, ?_⟩) (by assumption) ?_
            rotate_left
            · intro w hSw; go_split_ands; go_simp; try with_reducible rfl
            simp only [Act.put, List.setIfInBounds_toArray, List.set_cons_zero, List.set_cons_succ, List.getElem_toArray, List.getElem_cons_zero, List.getElem_cons_succ]
            refine wpAnyH_take (i := 11) (v := ?_) rfl (by kernel_rfl) (by kernel_rfl) (by kernel_rfl) (fun _ _ _ h => h) (Or.inl ⟨by rfl, ?_⟩) (by assumption) ?_
            rotate_left
            · intro w hSw; go_split_ands; go_simp; try with_reducible rfl
            simp only [Act.put, List.setIfInBounds_toArray, List.set_cons_zero, List.set_cons_succ, List.getElem_toArray, List.getElem_cons_zero, List.getElem_cons_succ]
            refine wpAnyH_take (i := 12) (v := ?_) rfl (by kernel_rfl) (by kernel_rfl) (by kernel_rfl) (fun _ _ _ h => h) (Or.inl ⟨by rfl, ?_⟩) (by assumption) ?_
            rotate_left
            · intro w hSw; go_split_ands; go_simp; try with_reducible rfl
            simp only [Act.put, List.setIfInBounds_toArray, List.set_cons_zero, List.set_cons_succ, List.getElem_toArray, List.getElem_cons_zero, List.getElem_cons_succ]
            refine wpAnyH_take (i := 13) (v := ?_) rfl (by kernel_rfl) (by kernel_rfl) (by kernel_rfl) (fun _ _ _ h => h) (Or.inl ⟨by rfl, ?_⟩) (by assumption) ?_
            rotate_left
            · intro w hSw; go_split_ands; go_simp; try with_reducible rfl
            simp only [Act.put, List.setIfInBounds_toArray, List.set_cons_zero, List.set_cons_succ, List.getElem_toArray, List.getElem_cons_zero, List.getElem_cons_succ]
            refine wpAnyH_take (i := 14) (v := ?_) rfl (by kernel_rfl) (by kernel_rfl) (by kernel_rfl) (fun _ _ _ h => h) (Or.inl ⟨by rfl, ?_⟩) (by assumption) ?_
            rotate_left
            · intro w hSw; go_split_ands; go_simp; try with_reducible rfl
            simp only [Act.put, List.setIfInBounds_toArray, List.set_cons_zero, List.set_cons_succ, List.getElem_toArray, List.getElem_cons_zero, List.getElem_cons_succ]
            refine wpAnyH_take (i := 15) (v := ?_) rfl (by kernel_rfl) (by kernel_rfl) (by kernel_rfl) (fun _ _ _ h => h) (Or.inl ⟨by rfl, ?_⟩) (by assumption) ?_
            rotate_left
            · intro w hSw; go_split_ands; go_simp; try with_reducible rfl
            simp only [Act.put, List.setIfInBounds_toArray, List.set_cons_zero, List.set_cons_succ, List.getElem_toArray, List.getElem_cons_zero, List.getElem_cons_succ]
            refine wpAnyH_take (i := 16) rfl (by kernel_rfl) (by kernel_rfl) (by kernel_rfl) (fun _ _ _ h => h) (Or.inr ⟨by rfl, rfl⟩) (by assumption) ?_
            simp only [Act.put, List.setIfInBounds_toArray, List.set_cons_zero, List.set_cons_succ, List.getElem_toArray, List.getElem_cons_zero, List.getElem_cons_succ]
            refine wpAnyH_take (i := 17) rfl (by kernel_rfl) (by kernel_rfl) (by kernel_rfl) (fun _ _ _ h => h) (Or.inr ⟨by rfl, rfl⟩) (by assumption) ?_
            simp only [Act.put, List.setIfInBounds_toArray, List.set_cons_zero, List.set_cons_succ, List.getElem_toArray, List.getElem_cons_zero, List.getElem_cons_succ]
            refine wpAnyH_take (i := 18) (v := ?_) rfl (by kernel_rfl) (by kernel_rfl) (by kernel_rfl) (fun _ _ _ h => h) (Or.inl ⟨by rfl, ?_⟩) (by assumption) ?_
            rotate_left
            · intro w hSw; go_split_ands; go_simp; try with_reducible rfl
            simp only [Act.put, List.setIfInBounds_toArray, List.set_cons_zero, List.set_cons_succ, List.getElem_toArray, List.getElem_cons_zero, List.getElem_cons_succ]
            refine wpAnyH_take (i := 19) (v := ?_) rfl (by kernel_rfl) (by kernel_rfl) (by kernel_rfl) (fun _ _ _ h => h) (Or.inl ⟨by rfl, ?_⟩) (by assumption) ?_
            rotate_left
            · intro w hSw; go_split_ands; go_simp; try with_reducible rfl
            simp only [Act.put, List.setIfInBounds_toArray, List.set_cons_zero, List.set_cons_succ, List.getElem_toArray, List.getElem_cons_zero, List.getElem_cons_succ]
            refine wpAnyH_take (i := 20) (v := ?_) rfl (by kernel_rfl) (by kernel_rfl) (by kernel_rfl) (fun _ _ _ h => h) (Or.inl ⟨by rfl, ?_⟩) (by assumption) ?_
            rotate_left
            · intro w hSw; go_split_ands; go_simp; try with_reducible rfl
            simp only [Act.put, List.setIfInBounds_toArray, List.set_cons_zero, List.set_cons_succ, List.getElem_toArray, List.getElem_cons_zero, List.getElem_cons_succ]
            refine wpAnyH_take (i := 21) (v := ?_) rfl (by kernel_rfl) (by kernel_rfl) (by kernel_rfl) (fun _ _ _ h => h) (Or.inl ⟨by rfl, ?_⟩) (by assumption) ?_
            rotate_left
            · intro w hSw; go_split_ands; go_simp; try with_reducible rfl
            simp only [Act.put, List.setIfInBounds_toArray, List.set_cons_zero, List.set_cons_succ, List.getElem_toArray, List.getElem_cons_zero, List.getElem_cons_succ]
            refine wpAnyH_take (i := 22) (v := ?_) rfl (by kernel_rfl) (by kernel_rfl) (by kernel_rfl) (fun _ _ _ h => h) (Or.inl ⟨by rfl, ?_⟩) (by assumption) ?_
            rotate_left
            · intro w hSw; go_split_ands; go_simp; try with_reducible rfl
            simp only [Act.put, List.setIfInBounds_toArray, List.set_cons_zero, List.set_cons_succ, List.getElem_toArray, List.getElem_cons_zero, List.getElem_cons_succ]
            refine wpAnyH_take (i := 23) (v := ?_) rfl (by kernel_rfl) (by kernel_rfl) (by kernel_rfl) (fun _ _ _ h => h) (Or.inl ⟨by rfl, ?_⟩) (by assumption) ?_
            rotate_left
            · intro w hSw; go_split_ands; go_simp; try with_reducible rfl
            simp only [Act.put, List.setIfInBounds_toArray, List.set_cons_zero, List.set_cons_succ, List.getElem_toArray, List.getElem_cons_zero, List.getElem_cons_succ]
            refine wpAnyH_take (i := 24) (v := ?_) rfl (by kernel_rfl) (by kernel_rfl) (by kernel_rfl) (fun _ _ _ h => h) (Or.inl ⟨by rfl, ?_⟩) (by assumption) ?_
            rotate_left
            · intro w hSw; go_split_ands; go_simp; try with_reducible rfl
            simp only [Act.put, List.setIfInBounds_toArray, List.set_cons_zero, List.set_cons_succ, List.getElem_toArray, List.getElem_cons_zero, List.getElem_cons_succ]
            refine wpAnyH_take (i := 25) (v := ?_) rfl (by kernel_rfl) (by kernel_rfl) (by kernel_rfl) (fun _ _ _ h => h) (Or.inl ⟨by rfl, ?_⟩) (by assumption) ?_
            rotate_left
            · intro w hSw; go_split_ands; go_simp; try with_reducible rfl
            simp only [Act.put, List.setIfInBounds_toArray, List.set_cons_zero, List.set_cons_succ, List.getElem_toArray, List.getElem_cons_zero, List.getElem_cons_succ]
            refine wpAnyH_take (i := 26) (v := ?_) rfl (by kernel_rfl) (by kernel_rfl) (by kernel_rfl) (fun _ _ _ h => h) (Or.inl ⟨by rfl, ?_⟩) (by assumption) ?_
            rotate_left
            · intro w hSw; go_split_ands; go_simp; try with_reducible rfl
            simp only [Act.put, List.setIfInBounds_toArray, List.set_cons_zero, List.set_cons_succ, List.getElem_toArray, List.getElem_cons_zero, List.getElem_cons_succ]
            refine wpAnyH_take (i := 27) (v := ?_) rfl (by kernel_rfl) (by kernel_rfl) (by kernel_rfl) (fun _ _ _ h => h) (Or.inl ⟨by rfl, ?_⟩) (by assumption) ?_
            rotate_left
            · intro w hSw; go_split_ands; go_simp; try with_reducible rfl
            simp only [Act.put, List.setIfInBounds_toArray, List.set_cons_zero, List.set_cons_succ, List.getElem_toArray, List.getElem_cons_zero, List.getElem_cons_succ]
            refine wpAnyH_take (i := 28) (v := ?_) rfl (by kernel_rfl) (by kernel_rfl) (by kernel_rfl) (fun _ _ _ h => h) (Or.inl ⟨by rfl, ?_⟩) (by assumption) ?_
            rotate_left
            · intro w hSw; go_split_ands; go_simp; try with_reducible rfl
            simp only [Act.put, List.setIfInBounds_toArray, List.set_cons_zero, List.set_cons_succ, List.getElem_toArray, List.getElem_cons_zero, List.getElem_cons_succ]
            refine wpAnyH_take (i := 29) (v := ?_) rfl (by kernel_rfl) (by kernel_rfl) (by kernel_rfl) (fun _ _ _ h => h) (Or.inl ⟨by rfl, ?_⟩) (by assumption) ?_
            rotate_left
            · intro w hSw; go_split_ands; go_simp; try with_reducible rfl
            simp only [Act.put, List.setIfInBounds_toArray, List.set_cons_zero, List.set_cons_succ, List.getElem_toArray, List.getElem_cons_zero, List.getElem_cons_succ]
            refine wpAnyH_take (i := 30) (v := ?_) rfl (by kernel_rfl) (by kernel_rfl) (by kernel_rfl) (fun _ _ _ h => h) (Or.inl ⟨by rfl, ?_⟩) (by assumption) ?_
            rotate_left
            · intro w hSw; go_split_ands; go_simp; try with_reducible rfl
            simp only [Act.put, List.setIfInBounds_toArray, List.set_cons_zero, List.set_cons_succ, List.getElem_toArray, List.getElem_cons_zero, List.getElem_cons_succ]
            refine wpAnyH_take (i := 31) (v := ?_) rfl (by kernel_rfl) (by kernel_rfl) (by kernel_rfl) (fun _ _ _ h => h) (Or.inl ⟨by rfl, ?_⟩) (by assumption) ?_
            rotate_left
            · intro w hSw; go_split_ands; go_simp; try with_reducible rfl
            simp only [Act.put, List.setIfInBounds_toArray, List.set_cons_zero, List.set_cons_succ, List.getElem_toArray, List.getElem_cons_zero, List.getElem_cons_succ]
            refine wpAnyH_take (i := 32) (v := ?_) rfl (by kernel_rfl) (by kernel_rfl) (by kernel_rfl) (fun _ _ _ h => h) (Or.inl ⟨by rfl, ?_⟩) (by assumption) ?_
            rotate_left
            · intro w hSw; go_split_ands; go_simp; try with_reducible rfl
            simp only [Act.put, List.setIfInBounds_toArray, List.set_cons_zero, List.set_cons_succ, List.getElem_toArray, List.getElem_cons_zero, List.getElem_cons_succ]
            refine wpAnyH_ready (rs := [33]) (by kernel_rfl) (by simp) ?_
            refine AllReadyH.cons rfl (fun K hK => ?_) AllReadyH.nil
            go_simp
            refine (u2_use FX.out hblk cF (by assumption) (IJ.out _ (by assumption))).mono ?_
            rintro e w' ⟨rfl, y0, y1, y2⟩
            refine hK.out _ _ ⟨y0, y1, y2⟩ (fun hHeld => ?_)
            clear hK K
            try simp only [Act.put, List.setIfInBounds_toArray, List.set_cons_zero, List.set_cons_succ]
            refine wpAnyH_take (i := 34) (v := ?_) rfl (by kernel_rfl) (by kernel_rfl) (by kernel_rfl) (fun _ _ _ h => h) (Or.inl ⟨by rfl, ?_⟩) (by assumption) ?_
            rotate_left
            · intro w hSw; go_split_ands; go_simp; try with_reducible rfl
            simp only [Act.put, List.setIfInBounds_toArray, List.set_cons_zero, List.set_cons_succ, List.getElem_toArray, List.getElem_cons_zero, List.getElem_cons_succ]
            refine wpAnyH_take (i := 35) (v := ?_) rfl (by kernel_rfl) (by kernel_rfl) (by kernel_rfl) (fun _ _ _ h => h) (Or.inl ⟨by rfl, ?_⟩) (by assumption) ?_
            rotate_left
            · intro w hSw; go_split_ands; go_simp; try with_reducible rfl
            simp only [Act.put, List.setIfInBounds_toArray, List.set_cons_zero, List.set_cons_succ, List.getElem_toArray, List.getElem_cons_zero, List.getElem_cons_succ]
            refine wpAnyH_take (i := 36) (v := ?_) rfl (by kernel_rfl) (by kernel_rfl) (by kernel_rfl) (fun _ _ _ h => h) (Or.inl ⟨by rfl, ?_⟩) (by assumption) ?_
            rotate_left
            · intro w hSw; go_split_ands; go_simp; try with_reducible rfl
            simp only [Act.put, List.setIfInBounds_toArray, List.set_cons_zero, List.set_cons_succ, List.getElem_toArray, List.getElem_cons_zero, List.getElem_cons_succ]
            refine wpAnyH_take (i := 37) (v := ?_) rfl (by kernel_rfl) (by kernel_rfl) (by kernel_rfl) (fun _ _ _ h => h) (Or.inl ⟨by rfl, ?_⟩) (by assumption) ?_
            rotate_left
            · intro w hSw; go_split_ands; go_simp; try with_reducible rfl
            simp only [Act.put, List.setIfInBounds_toArray, List.set_cons_zero, List.set_cons_succ, List.getElem_toArray, List.getElem_cons_zero, List.getElem_cons_succ]
            refine wpAnyH_done (by kernel_rfl) ?_ _
            go_wp2_with fail
            go_meet
            exact ⟨rfl, y2⟩
      case rest =>
        obtain ⟨rfl, hb⟩ := hcut
        replace HB1 := Lib.hid hb
        clear hb HCL
        obtain ⟨bs, hbs⟩ := deeps HF.out i
        have HBS := Lib.hid hbs
        obtain ⟨nk, hnk⟩ : ∃ nk, nk = (fkids l i).length := ⟨_, rfl⟩
        obtain ⟨nb, hnb⟩ : ∃ nb, nb = (fbelow l i).length := ⟨_, rfl⟩
        have HNK := Lib.hid hnk
        have HNB := Lib.hid hnb
        have IK : Hid (∀ w1, Below v3.heap.size v3 w1 → Calls Try.prog 19 #[.agg #[.slice (some ⟨b, o, none⟩) n cap], .int .i64 (i : Int)] w1 fun e w' => (∃ B cb, e = .returned (.slice B nk cb) ∧ IntsAt w' w'.heap.size B (fkids l i)) ∧ w'.cell? ⟨FXP, 0, none⟩ = some (.slice (some ⟨b, o, none⟩) n cap) ∧ Below v3.heap.size v3 w' ∧ Below w1.heap.size w1 w') := Lib.hid fun w1 h =>
          list_use FX.out h (K.kids HN.out HCP.out H6.out (HL.out.on h) rfl) hnk
        have IB : Hid (∀ w1, Below v3.heap.size v3 w1 → Calls Try.prog 16 #[.agg #[.slice (some ⟨b, o, none⟩) n cap], .int .i64 (i : Int)] w1 fun e w' => (∃ B cb, e = .returned (.slice B nb cb) ∧ IntsAt w' w'.heap.size B (fbelow l i)) ∧ w'.cell? ⟨FXP, 0, none⟩ = some (.slice (some ⟨b, o, none⟩) n cap) ∧ Below v3.heap.size v3 w' ∧ Below w1.heap.size w1 w') := Lib.hid fun w1 h =>
          list_use FX.out h (K.below HN.out HCP.out H6.out (HL.out.on h) rfl) hnb
        have hT : Below v3.heap.size v3 wc.drew := HB1.out.drew
        have cF := (FX.out.on hT).c
        clear hnk hnb hbs
        go_wp2_with fail
        go_region_held3 (fun w' => w'.cell? ⟨FXP, 0, none⟩ = some (.slice (some ⟨b, o, none⟩) n cap) ∧ Below v3.heap.size v3 w')
          (first | exact ⟨by with_reducible assumption, by with_reducible assumption⟩ | fail)
          (first
            | (go_at_call 19; ((with_reducible refine (IK.out _ (by with_reducible assumption)).mono ?_); rintro e xk ⟨⟨Kb, Kc, rfl, hki⟩, y0, y1, y2⟩))
            | (go_at_call 16; ((with_reducible refine (IB.out _ (by with_reducible assumption)).mono ?_); rintro e xb ⟨⟨Bb, Bc, rfl, hbi⟩, z0, z1, z2⟩))
            | fail)
        have HKI := Lib.hid (hki.on z2)
        have HBI := Lib.hid hbi
        have HX := Lib.hid z1
        clear hki hbi y0 y1 y2 z0 z1 z2 cF hT IK IB
        go_wp2_with fail
        go_loopg [8, 9] nb (fun kk p q wx => RF xb nb l i bs kk p q wx)
        case atStart => exact ⟨0, by omega, by rw [kidsOf_zero]; rfl, rfl, below_self _⟩
        case round =>
          obtain ⟨t, hk, rfl, rfl, hb⟩ := hrel
          have HK2 := Lib.hid hk
          have HB2 := Lib.hid hb
          clear hk hb
          by_cases hlt : t < nb
          · have HLT2 := Lib.hid hlt
            have hlt3 : (t : Int) < (nb : Int) := by omega
            obtain ⟨x, h1, h2, h3, h4⟩ := kidsOf_step HBS.out (t := t) (by rw [← HNB.out]; exact hlt)
            rw [HD.out] at h2 h3 h4
            obtain ⟨ex, hex⟩ : ∃ ex, fdepth l x = ex := ⟨_, rfl⟩
            rw [hex] at h2 h3 h4
            have HEX := Lib.hid hex
            have HRG : Hid (-1 ≤ d ∧ d < 96) := Lib.hid (by rw [← HD.out]; exact deep_range HF.out i)
            obtain ⟨b4, o4, rfl, hk4, hc4⟩ := HBI.out (by rw [← HNB.out]; omega)
            have hv := hc4 t x h1
            have H3 := Lib.hid h3
            have H4 := Lib.hid h4
            have H2 := Lib.hid h2
            have FX2 := Lib.hid (FX.out.on HX.out)
            have HL2 := Lib.hid (HL.out.on HX.out)
            have HV := Lib.hid hv
            have HK4 := Lib.hid hk4
            have ID : Hid (∀ w1, Below xb.heap.size xb w1 → Calls Try.prog 14 #[.agg #[.slice (some ⟨b, o, none⟩) n cap], .int .i64 (x : Int)] w1 fun e w' => e = .returned (.int .i64 ex) ∧ w'.cell? ⟨FXP, 0, none⟩ = some (.slice (some ⟨b, o, none⟩) n cap) ∧ w'.cell? ⟨b4, o4 + t, none⟩ = some (.int .i64 (x : Int)) ∧ Below xb.heap.size xb w') := Lib.hid fun w1 h =>
              u2_use FX2.out hk4 hv h (K.depth HN.out HCP.out H6.out (HL2.out.on h) hex)
            have hT : Below xb.heap.size xb wr.drew := HB2.out.drew
            have cF : wr.drew.cell? ⟨FXP, 0, none⟩ = some (.slice (some ⟨b, o, none⟩) n cap) := (FX2.out.on hT).c
            have cB : wr.drew.cell? ⟨b4, o4 + t, none⟩ = some (.int .i64 (x : Int)) := by rw [hT.cell (p := ⟨b4, _, none⟩) hk4]; exact hv
            clear h1 h2 h3 h4 hex hv hk4 hc4 hlt
            go_wp2_with fail
            go_region_held3 (fun w' => w'.cell? ⟨FXP, 0, none⟩ = some (.slice (some ⟨b, o, none⟩) n cap) ∧ w'.cell? ⟨b4, o4 + t, none⟩ = some (.int .i64 (x : Int)) ∧ Below xb.heap.size xb w')
              (first | exact ⟨by with_reducible assumption, by with_reducible assumption, by with_reducible assumption⟩ | fail)
              (first
                | (go_at_call 14; ((with_reducible refine (ID.out _ (by with_reducible assumption)).mono ?_); rintro e xd ⟨rfl, y0, y1, y2⟩))
                | fail)
            have HY := Lib.hid y2
            have cB2 := y1
            clear y0 y1 y2 cF cB hT ID FX2 HL2
            have m1 : ¬ ex ≤ d := by have := H2.out; omega
            have m2 : -1 ≤ d := HRG.out.1
            have m3 : d < 96 := HRG.out.2
            by_cases hx : ex = d + 1
            · subst hx
              obtain ⟨k1, k2⟩ := H3.out rfl
              obtain ⟨g, hg⟩ : ∃ g, kidsOf l i bs t = g := ⟨_, rfl⟩
              rw [hg] at k1 k2 ⊢
              have hgk : g < nk := by rw [HNK.out]; exact (List.getElem?_eq_some_iff.1 k2).1
              obtain ⟨b5, o5, rfl, hk5, hc5⟩ := HKI.out (by rw [← HNK.out]; omega)
              have cK : xd.cell? ⟨b5, o5 + g, none⟩ = some (.int .i64 (x : Int)) := by rw [HY.out.cell (p := ⟨b5, _, none⟩) hk5]; exact hc5 g x k2
              have g1 : decide ((nk : Int) ≤ (g : Int)) = false := decide_eq_false (by omega)
              have g2 : ¬ (nk : Int) ≤ (g : Int) := by omega
              have g3 : (g : Int) < (nk : Int) := by omega
              have g4 : decide (nk ≤ g) = false := decide_eq_false (by omega)
              have HKO := Lib.hid k1
              have HG9 : Hid (g ≤ 96) := Lib.hid (by have := fkids_few l i; have := HNK.out; have := H96.out; have := HN.out; omega)
              clear k1 k2 hk5 hc5 hgk H3 H4 hg
              go_wp2_with fail
              go_quiet (fail)
              go_wp2
              go_roundg (nb - (t + 1))
              case measure => have := HK2.out; have := HLT2.out; omega
              case rel => exact ⟨t + 1, by have := HLT2.out; omega, by rw [HKO.out]; first | go_num | (refine congrArg _ ?_; have := HG9.out; unfold wrap64; omega), by first | go_num | (refine congrArg _ ?_; have := fbelow_few l i; have := HNB.out; have := H96.out; have := HN.out; have := HLT2.out; unfold wrap64; omega), below_draws HY.out _⟩
            · have HKO := Lib.hid (H4.out hx)
              have g1 : (ex == d + 1) = false := beq_eq_false_iff_ne.2 hx
              clear H3 H4 cB2
              go_wp2
              go_roundg (nb - (t + 1))
              case measure => have := HK2.out; have := HLT2.out; omega
              case rel => exact ⟨t + 1, by have := HLT2.out; omega, by rw [HKO.out], by first | go_num | (refine congrArg _ ?_; have := fbelow_few l i; have := HNB.out; have := H96.out; have := HN.out; have := HLT2.out; unfold wrap64; omega), HY.out⟩
          · have hlt3 : ¬ (t : Int) < (nb : Int) := by omega
            have htn : t = nb := by have := HK2.out; omega
            have hk : kidsOf l i bs t = nk := by rw [htn, HNB.out, HNK.out, ← kidsOf_all HBS.out, HBS.out.below, toInts_length]
            rw [hk]
            have HEN := Lib.hid (below_on HX.out HB2.out)
            clear hlt htn hk
            go_wp2
            go_roundg (n - (i + 1))
            case measure => have := HK.out; have := HLT.out; omega
            case rel => exact ⟨i + 1, by have := HLT.out; omega, by first | go_num | (refine congrArg _ ?_; have := H96.out; have := HLT.out; unfold wrap64; omega), HEN.out⟩
    · have hlt2 : ¬ (i : Int) < (n : Int) := by omega
      clear hlt
      go_wp2
      go_ret
      exact ⟨rfl, below_on HO.out HB.out⟩
end Go.Proofs.Ytigljoafmefbnaa
