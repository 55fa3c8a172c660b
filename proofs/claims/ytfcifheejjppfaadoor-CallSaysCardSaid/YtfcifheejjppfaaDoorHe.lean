/-
  The walk of package path's Get. Condition: the number is a word.
-/
import Derived.Test.YtfcifheejjppfaaDoorHd
import Derived.Handy
namespace Go.Proofs.YtfcifheejjppfaaDoor
open Go.RowKit

theorem and15 {x : Nat} (hx : x < 18446744073709551616) : bits .and .u64 (x : Int) 15 = ((x % 16 : Nat) : Int) := by
  have := bits_and_u64_nat x 15 (by omega) (by omega)
  rw [show ((15 : Nat) : Int) = 15 from rfl] at this
  rw [this, show (15 : Nat) = 2 ^ 4 - 1 from rfl, Nat.and_two_pow_sub_one_eq_mod]
theorem part_eq {z i f : Nat} (hz : z < 18446744073709551616) (hf : f = 4 * (i + 1)) : bits .and .u64 ((z : Int) / 2 ^ f) 15 = ((z / 16 / 16 ^ i % 16 : Nat) : Int) := by
  have e : (z : Int) / 2 ^ f = ((z / 2 ^ f : Nat) : Int) := by simp
  have hp : 2 ^ f = 16 * 16 ^ i := by rw [hf, Nat.pow_mul, Nat.pow_succ, Nat.mul_comm]
  rw [e, and15 (Nat.lt_of_le_of_lt (Nat.div_le_self _ _) hz), hp, Nat.div_div_eq_div_mul]
theorem sh_in2 {i : Nat} (hi : i ≤ 15) : wrap64 (4 * wrap64 ((i : Int) + 1)) = ((4 * (i + 1) : Nat) : Int) := by unfold wrap64; omega
theorem i64_in {z : Int} (h1 : -9223372036854775808 ≤ z) (h2 : z ≤ 9223372036854775807) : IntKind.i64.wrap z = z := by
  unfold IntKind.wrap
  simp only [show IntKind.i64.signed = true from rfl, show IntKind.i64.bits = 64 from rfl, Bool.true_and, decide_eq_true_eq]
  split <;> omega

theorem info3_all : (Tryd.prog.info? 3).map (fun i => (i.zero, i.size, i.bytes)) = some (some (.int .i64 0), 1, 8) := by kernel_rfl
theorem info3_parts : ∃ i : TypeInfo, Tryd.prog.info? 3 = some i ∧ i.zero = some (.int .i64 0) ∧ i.size = 1 ∧ i.bytes = 8 := by
  have h := info3_all
  cases hq : Tryd.prog.info? 3 with
  | none => simp [hq] at h
  | some i =>
    simp [hq] at h
    exact ⟨i, rfl, h.1, h.2.1, h.2.2⟩
theorem make_ints (k : IntKind) (n : Nat) (hn : n ≤ 4096) (w : World) : (Instr.makeSlice 23 (.int k (n : Int)) (.int k (n : Int))).run Tryd.prog w = .ok (.slice (some ⟨w.heap.size, 0, none⟩) n n) (w.alloc (.cells (madeCells #[.int .i64 0] n) 3)) := by
  obtain ⟨i, h1, h2, h3, h4⟩ := info3_parts
  have := run_make w 23 3 i (.int .i64 0) Tryd.underlying23 h1 h2 k k n n (by omega) (by omega) (by rw [h4]; omega) (by omega)
  rw [h3] at this
  simpa [Value.cells] using this
theorem made_cell (w : World) (z : Value) (n t k : Nat) (hk : k < n) : (w.alloc (.cells (madeCells #[z] n) t)).cell? ⟨w.heap.size, k, none⟩ = some z := by
  rw [cell_of_row _ _ k _ _ _ (heap_alloc_new w _)]
  unfold madeCells
  simp [hk, Nat.mod_one]

/-- what Get has made: the box of its result, the steps, the box of its way -/
structure Gw (W w : World) (n : Nat) (f : Nat → Int) : Prop where
  r : w.cell? ⟨W.heap.size, 0, none⟩ = some (.slice none 0 0)
  rf : w.frozen? ⟨W.heap.size, 0, none⟩ = false
  p : w.cell? ⟨W.heap.size + 1 + 1, 0, none⟩ = some (.slice (some ⟨W.heap.size + 1, 0, none⟩) n n)
  at_ : ∀ j, j < n → w.cell? ⟨W.heap.size + 1, j, none⟩ = some (.int .i64 (f j))
  free : ∀ j, w.frozen? ⟨W.heap.size + 1, j, none⟩ = false
  old : Below W.heap.size W w
  lt : W.heap.size + 1 + 1 < w.heap.size

theorem Gw.put {W w : World} {n i : Nat} {f : Nat → Int} (h : Gw W w n f) (hi : i < n) (x : Int) : Gw W (w.setCell ⟨W.heap.size + 1, i, none⟩ (.int .i64 x)) n (fun j => if j = i then x else f j) := by
  have hlt := h.lt
  refine ⟨?_, ?_, ?_, fun j hj => ?_, fun j => ?_, ?_, ?_⟩
  · rw [World.cell?_setCell_other _ _ _ _ (fun q => by injection q with q; omega)]; exact h.r
  · rw [World.frozen?_setCell]; exact h.rf
  · rw [World.cell?_setCell_other _ _ _ _ (fun q => by injection q with q; omega)]; exact h.p
  · by_cases e : j = i
    · subst e
      rw [World.cell?_setCell_same _ _ _ (h.at_ j hj), if_pos rfl]
    · rw [World.cell?_setCell_other _ _ _ _ (fun q => e (by injection q with _ q; exact q.symm)), if_neg e]
      exact h.at_ j hj
  · rw [World.frozen?_setCell]; exact h.free j
  · exact h.old.setCell (by show W.heap.size ≤ W.heap.size + 1; omega) _
  · simpa [World.setCell] using hlt
theorem Gw.draws {W w : World} {n : Nat} {f : Nat → Int} (h : Gw W w n f) (k : Nat) : Gw W (w.drewN k) n f := ⟨h.r, h.rf, h.p, h.at_, h.free, below_draws h.old k, h.lt⟩
theorem Gw.same {W w : World} {n : Nat} {f g : Nat → Int} (h : Gw W w n f) (e : ∀ j, j < n → f j = g j) : Gw W w n g := ⟨h.r, h.rf, h.p, fun j hj => (e j hj) ▸ h.at_ j hj, h.free, h.old, h.lt⟩
theorem Gw.start (w : World) (n : Nat) : Gw w (((w.alloc (.cells #[.slice none 0 0] 25)).alloc (.cells (madeCells #[.int .i64 0] n) 3)).alloc (.cells #[.slice (some ⟨w.heap.size + 1, 0, none⟩) n n] 25)) n (fun _ => 0) := by
  have b1 := below_alloc w (.cells #[.slice none 0 0] 25)
  have b2 := below_alloc (w.alloc (.cells #[.slice none 0 0] 25)) (.cells (madeCells #[.int .i64 0] n) 3)
  have b3 := below_alloc ((w.alloc (.cells #[.slice none 0 0] 25)).alloc (.cells (madeCells #[.int .i64 0] n) 3)) (.cells #[.slice (some ⟨w.heap.size + 1, 0, none⟩) n n] 25)
  have s1 : (w.alloc (.cells #[.slice none 0 0] 25)).heap.size = w.heap.size + 1 := by simp
  have s2 : ((w.alloc (.cells #[.slice none 0 0] 25)).alloc (.cells (madeCells #[.int .i64 0] n) 3)).heap.size = w.heap.size + 1 + 1 := by simp
  have h1 := heap_alloc_new w (.cells #[.slice none 0 0] 25)
  have h2 := heap_alloc_new (w.alloc (.cells #[.slice none 0 0] 25)) (.cells (madeCells #[.int .i64 0] n) 3)
  have h3 := heap_alloc_new ((w.alloc (.cells #[.slice none 0 0] 25)).alloc (.cells (madeCells #[.int .i64 0] n) 3)) (.cells #[.slice (some ⟨w.heap.size + 1, 0, none⟩) n n] 25)
  rw [s1] at h2 b2
  rw [s2] at h3 b3
  rw [← b2.block w.heap.size (by omega), ← b3.block w.heap.size (by omega)] at h1
  rw [← b3.block (w.heap.size + 1) (by omega)] at h2
  refine ⟨?_, ?_, ?_, fun j hj => ?_, fun j => ?_, ?_, ?_⟩
  · rw [cell_of_row _ _ 0 _ _ _ h1]; rfl
  · exact frozen_of_row _ _ 0 _ _ h1
  · rw [cell_of_row _ _ 0 _ _ _ h3]; rfl
  · rw [cell_of_row _ _ j _ _ _ h2]
    unfold madeCells
    simp [hj, Nat.mod_one]
  · exact frozen_of_row _ _ j _ _ h2
  · exact (b1.trans (b2.mono (by omega))).trans (b3.mono (by omega))
  · simp
theorem Gw.on {W w w' : World} {n : Nat} {f : Nat → Int} (h : Gw W w n f) (hb : Below w.heap.size w w') : Gw W w' n f := by
  have hlt := h.lt
  refine ⟨?_, ?_, ?_, fun j hj => ?_, fun j => ?_, below_on h.old hb, Nat.lt_of_lt_of_le h.lt hb.size⟩
  · rw [hb.cell (p := ⟨W.heap.size, 0, none⟩) (by show W.heap.size < _; omega)]; exact h.r
  · rw [hb.frozen (p := ⟨W.heap.size, 0, none⟩) (by show W.heap.size < _; omega)]; exact h.rf
  · rw [hb.cell (p := ⟨W.heap.size + 1 + 1, 0, none⟩) h.lt]; exact h.p
  · rw [hb.cell (p := ⟨W.heap.size + 1, j, none⟩) (by show W.heap.size + 1 < _; omega)]; exact h.at_ j hj
  · rw [hb.frozen (p := ⟨W.heap.size + 1, j, none⟩) (by show W.heap.size + 1 < _; omega)]; exact h.free j
theorem Gw.ints {W w : World} {n v : Nat} (h : Gw W w n (fun j => ((v / 16 ^ j % 16 : Nat) : Int))) : IntsAt w w.heap.size (some ⟨W.heap.size + 1, 0, none⟩) (digs n v) := fun _ => by
  refine ⟨_, 0, rfl, by have := h.lt; omega, fun j z hz => ?_⟩
  have hj : j < n := by
    have := (List.getElem?_eq_some_iff.1 hz).1
    rwa [digs_length] at this
  rw [digs_get n v j hj] at hz
  cases hz
  rw [Nat.zero_add]
  exact h.at_ j hj
def PGetRel (W : World) (n z : Nat) (k : Nat) (p : Value) (wr : World) : Prop :=
  ∃ i : Nat, k + i = n ∧ p = .int .i64 i ∧ Gw W wr n (fun j => if j < i then ((z / 16 / 16 ^ j % 16 : Nat) : Int) else 0)

theorem pget_any (z : Nat) (hz : z < 18446744073709551616) (w : World) : Calls Tryd.prog 30 #[.int .u64 (z : Int)] w fun e w' => ∃ A cap, e = .returned (.tuple #[.agg #[.slice A ((pget z).getD []).length cap], .bool (pget z).isSome]) ∧ IntsAt w' w'.heap.size A ((pget z).getD []) ∧ Below w.heap.size w w' ∧ ∀ a, A = some a → w.heap.size ≤ a.block := by
  have ha := and15 hz
  obtain ⟨n, hn⟩ : ∃ n, n = z % 16 := ⟨_, rfl⟩
  rw [← hn] at ha
  have hm := make_ints .u64 n (by omega) (w.alloc (.cells #[.slice none 0 0] 25))
  have HN := Lib.hid hn
  have HZ := Lib.hid hz
  have HS := Lib.hid (Gw.start w n)
  clear hn hz
  go_enter Tryd.func30, Tryd.ntmps30
  go_wp2_with fail
  clear hm ha
  generalize (((w.alloc (.cells #[.slice none 0 0] 25)).alloc (.cells (madeCells #[.int .i64 0] n) 3)).alloc (.cells #[.slice (some ⟨w.heap.size + 1, 0, none⟩) n n] 25)) = w1 at HS ⊢
  go_loopg [15] n (fun k p wr => PGetRel w n z k p wr)
  case atStart => exact ⟨0, by omega, rfl, HS.out.same fun j _ => by simp⟩
  case round =>
    obtain ⟨i, hk, rfl, hg⟩ := hrel
    have HK := Lib.hid hk
    clear hk HS
    by_cases hlt : i < n
    · have HLT := Lib.hid hlt
      have hlt2 : (i : Int) < (n : Int) := by omega
      have c1 := hg.at_ i hlt
      have c2 := hg.p
      have c3 := hg.free i
      have HG := Lib.hid hg
      have hi15 : i ≤ 15 := by have := HN.out; omega
      have hw := sh_in2 hi15
      obtain ⟨f, hf⟩ : ∃ f, f = 4 * (i + 1) := ⟨_, rfl⟩
      obtain ⟨d, hd⟩ : ∃ d, d = z / 16 / 16 ^ i % 16 := ⟨_, rfl⟩
      have hp := part_eq HZ.out hf
      rw [← hd] at hp
      rw [← hf] at hw
      have hf64 : (f : Int) ≤ 64 := by omega
      have hf0 : (0 : Int) ≤ f := by omega
      have hdw : IntKind.i64.wrap (d : Int) = d := i64_in (by omega) (by omega)
      have HD := Lib.hid hd
      clear hg hi15 hf hd
      go_wp2_with fail
      go_region
      go_wp2
      go_roundg (n - (i + 1))
      case measure => have := HK.out; have := HLT.out; omega
      case rel =>
        refine ⟨i + 1, by have := HLT.out; omega, (by refine congrArg _ ?_; have := HN.out; have := HLT.out; unfold wrap64; omega), ((HG.out.put HLT.out d).draws 1).same fun j _ => ?_⟩
        by_cases e : j = i
        · subst e
          rw [if_pos rfl, if_pos (by omega), HD.out]
        · rw [if_neg e]
          by_cases h : j < i
          · rw [if_pos h, if_pos (by omega)]
          · rw [if_neg h, if_neg (by omega)]
    · have hin : i = n := by have := HK.out; omega
      subst hin
      have hg2 : Gw w wr i (fun j => ((z / 16 / 16 ^ j % 16 : Nat) : Int)) := hg.same fun j hj => if_pos hj
      have hd := Gw.ints hg2
      have hc := hg2.p
      have HG := Lib.hid hg2
      have HD := Lib.hid hd
      have hlen : i = (digs i (z / 16)).length := (digs_length i _).symm
      have HL := Lib.hid hlen
      clear hg hg2 hd hlt HK hlen
      go_wp2_with fail
      rcases hp : pgood (digs i (z / 16)) with _ | _
      · refine (pword_no HL.out HD.out hp).mono ?_
        rintro e w2 ⟨rfl, hb⟩
        have hg := HG.out.on hb
        have c1 := hg.r
        have c2 := hg.rf
        have e1 : pget z = none := by rw [pget, ← HN.out, hp]; rfl
        have HE := Lib.hid e1
        have HG2 := Lib.hid hg
        clear hg hb HG HL HD hp e1
        go_wp2
        have e0 := World.cell?_setCell_same w2 ⟨w.heap.size, 0, none⟩ (.slice none 0 0) c1
        refine bodyPost_ret (by simp [results, Tryd.results30, go_sem, e0]; rfl) rfl ?_
        rw [HE.out]
        exact ⟨none, 0, rfl, fun h => absurd h (by simp), HG2.out.old.setCell (Nat.le_refl _) _, fun a h => by cases h⟩
      · obtain ⟨p, hpw⟩ : ∃ p, p = pword (digs i (z / 16)) := ⟨_, rfl⟩
        refine (pword_yes HL.out HD.out hp).mono ?_
        rintro e w2 ⟨rfl, hb⟩
        rw [← hpw]
        have hg := HG.out.on hb
        have c1 := hg.r
        have c2 := hg.rf
        have c3 := hg.p
        have HI := Lib.hid (HD.out.on hb)
        have HG2 := Lib.hid hg
        by_cases hpz : p = z
        · have e1 : pget z = some (digs i (z / 16)) := by rw [pget, ← HN.out, if_pos hp, ← hpw, if_pos hpz]
          have HE := Lib.hid e1
          subst hpz
          clear hg hb HG HD hp e1 hpw
          go_wp2
          have e0 := World.cell?_setCell_same w2 ⟨w.heap.size, 0, none⟩ (.slice (some ⟨w.heap.size + 1, 0, none⟩) i i) c1
          refine bodyPost_ret (by simp [results, Tryd.results30, go_sem, e0]; rfl) rfl ?_
          rw [HE.out]
          refine ⟨some ⟨w.heap.size + 1, 0, none⟩, i, ?_, ?_, HG2.out.old.setCell (Nat.le_refl _) _, fun a h => by injection h with h; subst h; exact Nat.le_succ _⟩
          · rw [Option.getD_some, ← HL.out]; rfl
          · rw [Option.getD_some]
            intro h0
            obtain ⟨b, o, e, hlt, hcc⟩ := HI.out h0
            refine ⟨b, o, e, by simpa [World.setCell] using hlt, fun j y hy => ?_⟩
            have : b = w.heap.size + 1 := by injection e with e; injection e with e; exact e.symm
            rw [World.cell?_setCell_other _ _ _ _ (fun q => by injection q with q; omega)]
            exact hcc j y hy
        · have e1 : pget z = none := by rw [pget, ← HN.out, if_pos hp, ← hpw, if_neg hpz]
          have HE := Lib.hid e1
          have hpz2 : ¬ (p : Int) = (z : Int) := by omega
          clear hg hb HG HD hp e1 hpw hpz
          go_wp2
          have e0 := World.cell?_setCell_same w2 ⟨w.heap.size, 0, none⟩ (.slice none 0 0) c1
          refine bodyPost_ret (by simp [results, Tryd.results30, go_sem, e0]; rfl) rfl ?_
          rw [HE.out]
          exact ⟨none, 0, rfl, fun h => absurd h (by simp), HG2.out.old.setCell (Nat.le_refl _) _, fun a h => by cases h⟩
end Go.Proofs.YtfcifheejjppfaaDoor
