/-
  The walks of package path's parseStep and Parse. Conditions: the text is shorter than 4294967281 bytes; the library's own number in the first block is there.
-/
import Derived.Test.YtcobcdkpfmifeaaDoorHe
import Derived.Test.YtcobcdkpfmifeaaDoorVa
namespace Go.Proofs.YtcobcdkpfmifeaaDoor
open Go.RowKit

def StepRel (W : World) (s : ByteArray) (k : Nat) (p : Value) (wr : World) : Prop :=
  ∃ i : Nat, k + i = 16 ∧ p = .int .i64 i ∧ (∀ j, j < i → dec j ≠ s.data.toList) ∧ wr = W

theorem step_any (s : ByteArray) (w : World) : Calls Tryd.prog 21 #[.string s] w fun e w' => e = .returned (.tuple #[.int .i64 (((unstep s.data.toList).getD 0 : Nat) : Int), .bool (unstep s.data.toList).isSome]) ∧ w' = w := by
  go_enter Tryd.func21, Tryd.ntmps21
  go_wp2_with fail
  go_loopg [5] 16 (fun k p wr => StepRel w s k p wr)
  case atStart => exact ⟨0, rfl, rfl, fun j h => by omega, rfl⟩
  case round =>
    obtain ⟨i, hk, rfl, hs, rfl⟩ := hrel
    have HK := Lib.hid hk
    have HS := Lib.hid hs
    clear hk hs
    by_cases hlt : i < 16
    · have HLT := Lib.hid hlt
      have hlt2 : (i : Int) < 16 := by omega
      go_wp2_with fail
      refine (Tryd.strconv_Itoa_small i (by omega) _).mono ?_
      rintro e w2 ⟨rfl, rfl⟩
      rw [dec_eq HLT.out]
      by_cases he : dec i = s.data.toList
      · have hq : (dec i == s.toList) = true := by rw [ByteArray.toList_eq, ← he]; simp
        have hu : unstep s.data.toList = some i := by rw [← he]; exact unstep_dec HLT.out
        have HU := Lib.hid hu
        clear he hu
        go_wp2
        go_ret2
        exact ⟨by rw [HU.out]; rfl, rfl⟩
      · have hq : (dec i == s.toList) = false := by rw [ByteArray.toList_eq]; exact beq_eq_false_iff_ne.2 he
        have HE := Lib.hid he
        clear he
        go_wp2
        go_roundg (16 - (i + 1))
        case measure => have := HK.out; have := HLT.out; omega
        case rel =>
          refine ⟨i + 1, by have := HLT.out; omega, by go_num, fun j hj => ?_, rfl⟩
          by_cases e : j = i
          · subst e; exact HE.out
          · exact HS.out j (by omega)
    · go_wp2
      go_ret2
      refine ⟨?_, rfl⟩
      have hu : unstep s.data.toList = none := by
        cases h : unstep s.data.toList with
        | none => rfl
        | some m =>
          obtain ⟨h1, h2⟩ := unstep_some h
          exact absurd h2 (HS.out m (by have := HK.out; omega))
      rw [hu]
      rfl

/-- a number of the library's own lies in the first block -/
def Glo (w : World) : Prop := ∃ m : Int, w.cell? ⟨0, 0, none⟩ = some (.int .i64 m)
theorem Glo.on {w w' : World} (h : Glo w) (hb : Below w.heap.size w w') : Glo w' := by
  obtain ⟨m, hm⟩ := h
  have := World.block_lt_of_cell? w _ hm
  exact ⟨m, by rw [hb.cell (p := ⟨0, 0, none⟩) this]; exact hm⟩

/-- what Parse has made: the box of its result, the pieces, the steps, the box of its way -/
structure Pw (W w : World) (ps : List ByteArray) (n : Nat) (f : Nat → Int) : Prop where
  r : w.cell? ⟨W.heap.size, 0, none⟩ = some (.slice none 0 0)
  rf : w.frozen? ⟨W.heap.size, 0, none⟩ = false
  s : ∀ j x, ps[j]? = some x → w.cell? ⟨W.heap.size + 1, j, none⟩ = some (.string x)
  p : w.cell? ⟨W.heap.size + 1 + 1 + 1, 0, none⟩ = some (.slice (some ⟨W.heap.size + 1 + 1, 0, none⟩) n n)
  at_ : ∀ j, j < n → w.cell? ⟨W.heap.size + 1 + 1, j, none⟩ = some (.int .i64 (f j))
  free : ∀ j, w.frozen? ⟨W.heap.size + 1 + 1, j, none⟩ = false
  old : Below W.heap.size W w
  lt : W.heap.size + 1 + 1 + 1 < w.heap.size
theorem Pw.put {W w : World} {ps : List ByteArray} {n i : Nat} {f : Nat → Int} (h : Pw W w ps n f) (hi : i < n) (x : Int) : Pw W (w.setCell ⟨W.heap.size + 1 + 1, i, none⟩ (.int .i64 x)) ps n (fun j => if j = i then x else f j) := by
  have hlt := h.lt
  refine ⟨?_, ?_, fun j y hy => ?_, ?_, fun j hj => ?_, fun j => ?_, ?_, ?_⟩
  · rw [World.cell?_setCell_other _ _ _ _ (fun q => by injection q with q; omega)]; exact h.r
  · rw [World.frozen?_setCell]; exact h.rf
  · rw [World.cell?_setCell_other _ _ _ _ (fun q => by injection q with q; omega)]; exact h.s j y hy
  · rw [World.cell?_setCell_other _ _ _ _ (fun q => by injection q with q; omega)]; exact h.p
  · by_cases e : j = i
    · subst e
      rw [World.cell?_setCell_same _ _ _ (h.at_ j hj), if_pos rfl]
    · rw [World.cell?_setCell_other _ _ _ _ (fun q => e (by injection q with _ q; exact q.symm)), if_neg e]
      exact h.at_ j hj
  · rw [World.frozen?_setCell]; exact h.free j
  · exact h.old.setCell (by show W.heap.size ≤ W.heap.size + 1 + 1; omega) _
  · simpa [World.setCell] using hlt
theorem Pw.same {W w : World} {ps : List ByteArray} {n : Nat} {f g : Nat → Int} (h : Pw W w ps n f) (e : ∀ j, j < n → f j = g j) : Pw W w ps n g := ⟨h.r, h.rf, h.s, h.p, fun j hj => (e j hj) ▸ h.at_ j hj, h.free, h.old, h.lt⟩
theorem Pw.start (w : World) (ps : List ByteArray) (N n : Nat) : Pw w ((((w.alloc (.cells #[.slice none 0 0] 26)).alloc (.cells (Lib.cellsOf ps N) 9)).alloc (.cells (madeCells #[.int .i64 0] n) 3)).alloc (.cells #[.slice (some ⟨w.heap.size + 1 + 1, 0, none⟩) n n] 26)) ps n (fun _ => 0) := by
  have b1 := below_alloc w (.cells #[.slice none 0 0] 26)
  have h1 := heap_alloc_new w (.cells #[.slice none 0 0] 26)
  have s1 : (w.alloc (.cells #[.slice none 0 0] 26)).heap.size = w.heap.size + 1 := by simp
  generalize w.alloc (.cells #[.slice none 0 0] 26) = w1 at b1 h1 s1 ⊢
  have b2 := below_alloc w1 (.cells (Lib.cellsOf ps N) 9)
  have h2 := heap_alloc_new w1 (.cells (Lib.cellsOf ps N) 9)
  have s2 : (w1.alloc (.cells (Lib.cellsOf ps N) 9)).heap.size = w.heap.size + 1 + 1 := by simp [s1]
  rw [s1] at b2 h2
  generalize w1.alloc (.cells (Lib.cellsOf ps N) 9) = w2 at b2 h2 s2 ⊢
  have b3 := below_alloc w2 (.cells (madeCells #[.int .i64 0] n) 3)
  have h3 := heap_alloc_new w2 (.cells (madeCells #[.int .i64 0] n) 3)
  have s3 : (w2.alloc (.cells (madeCells #[.int .i64 0] n) 3)).heap.size = w.heap.size + 1 + 1 + 1 := by simp [s2]
  rw [s2] at b3 h3
  generalize w2.alloc (.cells (madeCells #[.int .i64 0] n) 3) = w3 at b3 h3 s3 ⊢
  have b4 := below_alloc w3 (.cells #[.slice (some ⟨w.heap.size + 1 + 1, 0, none⟩) n n] 26)
  have h4 := heap_alloc_new w3 (.cells #[.slice (some ⟨w.heap.size + 1 + 1, 0, none⟩) n n] 26)
  have s4 : (w3.alloc (.cells #[.slice (some ⟨w.heap.size + 1 + 1, 0, none⟩) n n] 26)).heap.size = w.heap.size + 1 + 1 + 1 + 1 := by simp [s3]
  rw [s3] at b4 h4
  generalize w3.alloc (.cells #[.slice (some ⟨w.heap.size + 1 + 1, 0, none⟩) n n] 26) = w4 at b4 h4 s4 ⊢
  rw [← b2.block w.heap.size (by omega), ← b3.block w.heap.size (by omega), ← b4.block w.heap.size (by omega)] at h1
  rw [← b3.block (w.heap.size + 1) (by omega), ← b4.block (w.heap.size + 1) (by omega)] at h2
  rw [← b4.block (w.heap.size + 1 + 1) (by omega)] at h3
  refine ⟨?_, ?_, fun j x hx => ?_, ?_, fun j hj => ?_, fun j => ?_, ?_, ?_⟩
  · rw [cell_of_row _ _ 0 _ _ _ h1]; rfl
  · exact frozen_of_row _ _ 0 _ _ h1
  · rw [cell_of_row _ _ j _ _ _ h2, Lib.cellsOf, List.getElem?_toArray, List.getElem?_append_left (by simpa using (List.getElem?_eq_some_iff.1 hx).1), List.getElem?_map, hx]
    rfl
  · rw [cell_of_row _ _ 0 _ _ _ h4]; rfl
  · rw [cell_of_row _ _ j _ _ _ h3]
    unfold madeCells
    simp [hj, Nat.mod_one]
  · exact frozen_of_row _ _ j _ _ h3
  · exact ((b1.trans (b2.mono (by omega))).trans (b3.mono (by omega))).trans (b4.mono (by omega))
  · omega
def ParRel (W : World) (ps : List ByteArray) (n : Nat) (k : Nat) (p : Value) (wr : World) : Prop :=
  ∃ i : Nat, k + i = n ∧ p = .int .i64 i ∧ (∀ j x, j < i → ps[j]? = some x → unstep x.data.toList ≠ none) ∧ Pw W wr ps n (fun j => if j < i then (((unstep ((ps[j]?.getD ByteArray.empty).data.toList)).getD 0 : Nat) : Int) else 0)

theorem parse_any (s : ByteArray) (hs : s.size < 4294967281) (w : World) (hG : Glo w) : Calls Tryd.prog 8 #[.string s] w fun e w' => ∃ A cap, e = .returned (.tuple #[.agg #[.slice A ((pparse s.data.toList).getD []).length cap], .bool (pparse s.data.toList).isSome]) ∧ IntsAt w' w'.heap.size A ((pparse s.data.toList).getD []) ∧ Below w.heap.size w w' := by
  obtain ⟨m, hm⟩ := hG.on (below_alloc w (.cells #[.slice none 0 0] 26))
  have H1 := Lib.hid (Tryd.strings_SplitN s ⟨#[46]⟩ 3 m _ hs hm (by decide) (by decide) (by decide))
  obtain ⟨ps, hps⟩ : ∃ ps, ps = Lib.splitB ⟨#[46]⟩ 0 (min 3 (s.size + 1) - 1) s := ⟨_, rfl⟩
  rw [← hps] at H1
  obtain ⟨n, hn⟩ : ∃ n, n = ps.length := ⟨_, rfl⟩
  rw [← hn] at H1
  have hc : ps.map (·.data.toList) = cuts s.data.toList := hps ▸ pieces s
  have hn3 : n ≤ 3 := by
    have := cuts_few s.data.toList
    rw [← hc, List.length_map, ← hn] at this
    exact this.2
  clear hG hm hs hps
  have HC := Lib.hid hc
  have HN := Lib.hid hn
  have H3 := Lib.hid hn3
  obtain ⟨N, hN⟩ : ∃ N, N = min 3 (s.size + 1) := ⟨_, rfl⟩
  rw [← hN] at H1
  have hmk := make_ints .i64 n (by omega) ((w.alloc (.cells #[.slice none 0 0] 26)).alloc (.cells (Lib.cellsOf ps N) 9))
  have HS := Lib.hid (Pw.start w ps N n)
  clear hc hn hn3 hN
  go_enter Tryd.func8, Tryd.ntmps8
  go_wp2_with fail
  refine H1.out.mono ?_
  rintro e w1 ⟨rfl, rfl⟩
  clear H1
  go_wp2_with fail
  clear hmk
  generalize ((((w.alloc (.cells #[.slice none 0 0] 26)).alloc (.cells (Lib.cellsOf ps N) 9)).alloc (.cells (madeCells #[.int .i64 0] n) 3)).alloc (.cells #[.slice (some ⟨w.heap.size + 1 + 1, 0, none⟩) n n] 26)) = w1 at HS ⊢
  go_loopg [18] n (fun k p wr => ParRel w ps n k p wr)
  case atStart => exact ⟨0, by omega, rfl, fun j x h => by omega, HS.out.same fun j _ => by simp⟩
  case round =>
    obtain ⟨i, hk, rfl, hu, hp⟩ := hrel
    have HK := Lib.hid hk
    have HU := Lib.hid hu
    clear hk HS hu
    by_cases hlt : i < n
    · have HLT := Lib.hid hlt
      have hlt2 : (i : Int) < (n : Int) := by omega
      obtain ⟨x, hx⟩ : ∃ x, ps[i]? = some x := ⟨ps[i]'(by rw [← HN.out]; exact hlt), List.getElem?_eq_getElem _⟩
      have HX := Lib.hid hx
      have c1 := hp.s i x hx
      have HP := Lib.hid hp
      clear hp hx
      go_wp2_with fail
      refine (step_any x wr).mono ?_
      rintro e w2 ⟨rfl, rfl⟩
      rcases hq : unstep x.data.toList with _ | d
      · rw [Option.getD_none, Option.isSome_none]
        have c2 := HP.out.r
        have c3 := HP.out.rf
        have he : pparse s.data.toList = none := parse_no (HC.out ▸ List.mem_map.2 ⟨x, List.mem_of_getElem? HX.out, rfl⟩) hq
        have HE := Lib.hid he
        clear hq he
        go_wp2
        have e0 := World.cell?_setCell_same w2 ⟨w.heap.size, 0, none⟩ (.slice none 0 0) c2
        refine bodyPost_ret (by simp [results, Tryd.results8, go_sem, e0]; rfl) rfl ?_
        rw [HE.out]
        exact ⟨none, 0, rfl, fun h => absurd h (by simp), HP.out.old.setCell (Nat.le_refl _) _⟩
      · rw [Option.getD_some, Option.isSome_some]
        have c2 := HP.out.p
        have c3 := HP.out.at_ i hlt
        have c4 := HP.out.free i
        have HQ := Lib.hid hq
        clear hq
        go_wp2
        go_roundg (n - (i + 1))
        case measure => have := HK.out; have := HLT.out; omega
        case rel =>
          refine ⟨i + 1, by have := HLT.out; omega, (by refine congrArg _ ?_; have := H3.out; have := HLT.out; unfold wrap64; omega), fun j y hj hy => ?_, (HP.out.put HLT.out d).same fun j _ => ?_⟩
          · by_cases e : j = i
            · subst e
              rw [HX.out] at hy
              cases hy
              rw [HQ.out]
              exact Option.some_ne_none _
            · exact HU.out j y (by omega) hy
          · by_cases e : j = i
            · subst e
              rw [if_pos rfl, if_pos (by omega), HX.out, Option.getD_some, HQ.out, Option.getD_some]
            · rw [if_neg e]
              by_cases h : j < i
              · rw [if_pos h, if_pos (by omega)]
              · rw [if_neg h, if_neg (by omega)]
    · have hin : i = n := by have := HK.out; omega
      subst hin
      have he : pparse s.data.toList = some (stepsOf (cuts s.data.toList)) := parse_yes fun p hp => by
        rw [← HC.out] at hp
        obtain ⟨y, hy, rfl⟩ := List.mem_map.1 hp
        obtain ⟨j, hj⟩ := List.getElem?_of_mem hy
        exact HU.out j y (by rw [HN.out]; exact (List.getElem?_eq_some_iff.1 hj).1) hj
      have hl : (stepsOf (cuts s.data.toList)).length = i := by rw [stepsOf, List.length_map, ← HC.out, List.length_map, ← HN.out]
      have hi : IntsAt wr wr.heap.size (some ⟨w.heap.size + 1 + 1, 0, none⟩) (stepsOf (cuts s.data.toList)) := fun _ => by
        refine ⟨_, 0, rfl, by have := hp.lt; omega, fun j z hz => ?_⟩
        have hj : j < i := by
          have := (List.getElem?_eq_some_iff.1 hz).1
          rwa [hl] at this
        have := hp.at_ j hj
        rw [if_pos hj] at this
        rw [Nat.zero_add, this]
        rw [stepsOf, ← HC.out, List.map_map, List.getElem?_map, Option.map_eq_some_iff] at hz
        obtain ⟨y, hy, rfl⟩ := hz
        rw [hy]
        rfl
      have c1 := hp.r
      have c2 := hp.rf
      have c3 := hp.p
      have HP := Lib.hid hp
      have HE := Lib.hid he
      have HL := Lib.hid hl
      have HI := Lib.hid hi
      clear hp hlt he hl hi HU
      go_wp2
      have e0 := World.cell?_setCell_same wr ⟨w.heap.size, 0, none⟩ (.slice (some ⟨w.heap.size + 1 + 1, 0, none⟩) i i) c1
      refine bodyPost_ret (by simp [results, Tryd.results8, go_sem, e0]; rfl) rfl ?_
      rw [HE.out]
      refine ⟨some ⟨w.heap.size + 1 + 1, 0, none⟩, i, ?_, ?_, HP.out.old.setCell (Nat.le_refl _) _⟩
      · rw [Option.getD_some, HL.out]; rfl
      · rw [Option.getD_some]
        intro h0
        obtain ⟨b, o, e, hlt, hcc⟩ := HI.out h0
        refine ⟨b, o, e, by simpa [World.setCell] using hlt, fun j y hy => ?_⟩
        have : b = w.heap.size + 1 + 1 := by injection e with e; injection e with e; exact e.symm
        rw [World.cell?_setCell_other _ _ _ _ (fun q => by injection q with q; omega)]
        exact hcc j y hy
end Go.Proofs.YtcobcdkpfmifeaaDoor
