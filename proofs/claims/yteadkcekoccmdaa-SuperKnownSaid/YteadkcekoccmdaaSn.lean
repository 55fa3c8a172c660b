/-
  The walk of the law SuperKnown: it answers true. No condition.
-/
import Derived.Test.YteadkcekoccmdaaSm
namespace Go.Proofs.Yteadkcekoccmdaa
open Go.RowKit

/-- the memory with seven in so many words of its first and of its last row -/
def memo (i j : Nat) : Int := if j < i then seven.full.getD j 0 else if 2624 ≤ j ∧ j < 2624 + i then seven.full.getD (j - 2624) 0 else 0
theorem full_get {s : Sp} {j : Nat} (h : j < 8) : s.full[j]? = some (s.full.getD j 0) := by
  rw [List.getD, List.getElem?_eq_getElem (show j < s.full.length from h)]
  rfl
theorem full_wd {s : Sp} (h : s.g.ok = true) (hb : 0 ≤ s.b ∧ s.b < 18446744073709551616) {j : Nat} (hj : j < 8) : Wd (s.full.getD j 0) := full_words h hb _ (List.mem_of_getElem? (full_get hj))
theorem seven_wd {j : Nat} (h : j < 8) : Wd (seven.full.getD j 0) := full_wd seven_ok (by decide) h
theorem memo_wd (i j : Nat) (hi : i ≤ 8) : Wd (memo i j) := by
  unfold memo
  split
  · exact seven_wd (by omega)
  · split
    · exact seven_wd (by omega)
    · exact ⟨by omega, by omega⟩
theorem memo_succ {i : Nat} (hi : i < 8) (j : Nat) : (if j = 2624 + i then seven.full.getD i 0 else if j = i then seven.full.getD i 0 else memo i j) = memo (i + 1) j := by
  unfold memo
  by_cases h1 : j = 2624 + i
  · subst h1
    rw [if_pos rfl, if_neg (by omega), if_pos (by omega)]
    rw [show 2624 + i - 2624 = i by omega]
  · rw [if_neg h1]
    by_cases h2 : j = i
    · subst h2
      rw [if_pos rfl, if_pos (by omega)]
    · rw [if_neg h2]
      by_cases h3 : j < i
      · rw [if_pos h3, if_pos (by omega)]
      · rw [if_neg h3, if_neg (show ¬ j < i + 1 by omega)]
        by_cases h4 : 2624 ≤ j ∧ j < 2624 + i
        · rw [if_pos h4, if_pos (by omega)]
        · rw [if_neg h4, if_neg (by omega)]
theorem memo_zero (j : Nat) : 0 = memo 0 j := by
  unfold memo
  rw [if_neg (by omega), if_neg (by omega)]

theorem ls_head : ls 8 (memo 8) = seven.full := ls_eq rfl fun j hj => by
  rw [full_get hj]
  unfold memo
  rw [if_pos hj]
theorem ls_tail : ls 8 (fun j => memo 8 (2632 - 8 + j)) = seven.full := ls_eq rfl fun j hj => by
  rw [full_get hj]
  unfold memo
  rw [if_neg (by omega), if_pos (by omega), show 2632 - 8 + j - 2624 = j by omega]
theorem seven_rows : seven.g.rows = ((329 : Nat) : Int) := by decide
/-- of the whole memory -/
theorem whole_found : find (ls 2632 (memo 8)) = seven ∧ first (ls 2632 (memo 8)) = true ∧ back (ls 2632 (memo 8)) = true := by
  have h1 : first (ls 2632 (memo 8)) = true := by
    rw [first_ls (r := 329) (by decide) (by decide), ls_head]
    exact fits_full seven_ok seven_rows
  have h2 : back (ls 2632 (memo 8)) = true := by
    rw [back_ls (r := 329) (by decide) (by decide), ls_tail]
    exact fits_full seven_ok seven_rows
  refine ⟨?_, h1, h2⟩
  rw [find_ls (by decide), h1, if_pos rfl, ls_head, get_full seven_ok]
/-- with one word of the first row another -/
def memz (j : Nat) : Int := if j = 3 then 0 else memo 8 j
theorem lsz_head : ls 8 memz = seven.full.set 3 0 := ls_eq rfl fun j hj => by
  unfold memz
  by_cases h : j = 3
  · subst h
    rw [if_pos rfl, List.getElem?_set_self (show 3 < seven.full.length by decide)]
  · rw [if_neg h, List.getElem?_set_ne (fun q => h q.symm), full_get hj]
    unfold memo
    rw [if_pos hj]
theorem lsz_tail : ls 8 (fun j => memz (2632 - 8 + j)) = seven.full := by
  rw [← ls_tail]
  refine ls_same fun j hj => ?_
  unfold memz
  rw [if_neg (by omega)]
theorem apart_small {x y : Int} (hx : 0 ≤ x ∧ x < 65536) (hy : 0 ≤ y ∧ y < 65536) (h : x ≠ y) : Apart x y 0 := by
  refine ⟨h, by omega, fun j hj hj0 => ?_⟩
  rcases (show j = 1 ∨ j = 2 ∨ j = 3 by omega) with rfl | rfl | rfl <;> (unfold pt; simp only; omega)
theorem lsz_not : got (seven.full.set 3 0) = false := turned (x := 16) (i := 0) seven_ok (by decide) rfl ⟨by omega, by omega⟩ (apart_small (by omega) (by omega) (by omega))
theorem bad_not : got (seven.full.set 4 8) = false := turned (x := 7) (i := 0) seven_ok (by decide) rfl ⟨by omega, by omega⟩ (apart_small (by omega) (by omega) (by omega))
theorem turned_found : find (ls 2632 memz) = seven ∧ first (ls 2632 memz) = false ∧ back (ls 2632 memz) = true := by
  have h1 : first (ls 2632 memz) = false := by
    rw [first_ls (r := 329) (by decide) (by decide), lsz_head]
    exact fits_not _ lsz_not
  have h2 : back (ls 2632 memz) = true := by
    rw [back_ls (r := 329) (by decide) (by decide), lsz_tail]
    exact fits_full seven_ok seven_rows
  refine ⟨?_, h1, h2⟩
  rw [find_ls (by decide), h1, h2, if_neg (by decide), if_pos rfl, lsz_tail, get_full seven_ok]
/-- of a row less -/
theorem short_found : find (ls 2624 memz) = zsp ∧ first (ls 2624 memz) = false ∧ back (ls 2624 memz) = false := by
  have h1 : first (ls 2624 memz) = false := by
    rw [first_ls (r := 328) (by decide) (by decide), lsz_head]
    exact fits_not _ lsz_not
  have h2 : back (ls 2624 memz) = false := by
    rw [back_ls (r := 328) (by decide) (by decide), ls_same (g := fun _ => 0) (fun j hj => ?_)]
    · exact fits_not _ got_zeros
    · unfold memz memo
      rw [if_neg (by omega), if_neg (by omega), if_neg (by omega)]
  refine ⟨?_, h1, h2⟩
  rw [find_ls (by decide), h1, h2]
  rfl
theorem memz_wd (j : Nat) : Wd (memz j) := by
  unfold memz
  split
  · exact ⟨by omega, by omega⟩
  · exact memo_wd 8 j (Nat.le_refl _)

theorem seven_take {w : World} {g o cap : Nat} (hcap : 8 ≤ cap) (hlt : g < w.heap.size) (hc : ∀ (j : Nat) (z : Int), seven.full[j]? = some z → w.cell? ⟨g, o + j, none⟩ = some (.int .u64 z)) : Words w (.slice (some ⟨g, o, none⟩) 7 cap) (seven.full.take 7) :=
  ⟨some ⟨g, o, none⟩, cap, rfl, by show 7 ≤ cap; omega, fun _ => ⟨g, o, rfl, hlt, fun j z hz => hc j z (by
    rw [List.getElem?_take] at hz
    by_cases h : j < 7
    · rw [if_pos h] at hz; exact hz
    · rw [if_neg h] at hz; cases hz)⟩⟩
theorem take_not : got (seven.full.take 7) = false := by unfold got; exact decide_eq_false fun q => absurd q.1 (by simp [Sp.full])
theorem get_not {l : List Int} (h : got l = false) : get l = ⟨⟨0, 0, 0⟩, 0⟩ := by unfold get; rw [h]; rfl
theorem seven_words : Wds seven.full := full_words seven_ok (by decide)
theorem bad_words : Wds (seven.full.set 4 8) := fun y hy => by
  rcases List.mem_or_eq_of_mem_set hy with q | q
  · exact seven_words y q
  · rw [q]; exact ⟨by omega, by omega⟩
theorem make_memo (w : World) : (Instr.makeSlice 23 (.int .i64 2632) (.int .i64 2632)).run Try.prog w = .ok (.slice (some ⟨w.heap.size, 0, none⟩) 2632 2632) (w.alloc (.cells (madeCells #[.int .u64 0] 2632) 28)) := make_words 2632 (by decide) w

theorem Bs.set_other {w : World} {b g i : Nat} {x : Sp} {v : Value} (h : Bs w b x) (hn : b ≠ g) : Bs (w.setCell ⟨g, i, none⟩ v) b x := by
  have hc : ∀ j, (w.setCell ⟨g, i, none⟩ v).cell? ⟨b, j, none⟩ = w.cell? ⟨b, j, none⟩ := fun j => World.cell?_setCell_other _ _ _ _ (fun q => hn (by injection q with q; exact q.symm))
  exact ⟨(hc 0).trans h.t, (hc 1).trans h.s, (hc 2).trans h.k, (hc 3).trans h.u, fun j => by rw [World.frozen?_setCell]; exact h.free j, by simpa [World.setCell] using h.lt⟩

def KRel (W : World) (G : Nat) (k : Nat) (p : Value) (wr : World) : Prop := ∃ i : Nat, k + i = 8 ∧ p = .int .i64 i ∧ Mf W G 2632 (memo i) wr

set_option maxRecDepth 100000 in
set_option maxHeartbeats 4000000 in
theorem known_walk (w : World) : Calls Try.prog 3 #[] w fun e w' => e = .returned (.bool true) ∧ Below w.heap.size w w' := by
  go_enter Try.func3, Try.ntmps3
  go_wp2_with fail
  refine (awake_any _).mono ?_
  rintro e w1 ⟨rfl, hb⟩
  have B1 := Lib.hid hb
  clear hb
  go_wp2_with fail
  refine (plain_any _).mono ?_
  rintro e w2 ⟨rfl, hb⟩
  have B2 := Lib.hid (below_on B1.out hb)
  clear hb B1
  go_wp2_with fail
  refine (put_to (l := seven.full) (Sp.put_yes (s := seven) seven_ok) (by decide) _).mono ?_
  rintro e w3 ⟨v, rfl, hv, hb⟩
  have B3 := Lib.hid (below_on B2.out hb)
  obtain ⟨g, o, cap, rfl, hcap, hlt, hc⟩ := hv.eight rfl
  have V3 := Lib.hid hv
  have HC := Lib.hid hc
  have HCAP := Lib.hid hcap
  have HT := Lib.hid (seven_take hcap hlt hc)
  clear hb B2 hv hc hlt
  go_wp2_with fail
  refine (get_to HT.out (fun x hx => seven_words x (List.mem_of_mem_take hx)) (get_not take_not) take_not).mono ?_
  rintro e w4 ⟨rfl, hb⟩
  have V4 := Lib.hid ((V3.out.below hb).below (below_alloc w4 (.cells #[.int .i64 0, .int .i64 0, .int .i64 0, .int .u64 0] 30)))
  have B4 := Lib.hid (below_on (below_on B3.out hb) (below_alloc w4 (.cells #[.int .i64 0, .int .i64 0, .int .i64 0, .int .u64 0] 30)))
  clear hb V3 B3 HC HT
  go_upto_region 7 with fail
  obtain ⟨w5, hw5⟩ : ∃ w5, w5 = w4.alloc (.cells #[.int .i64 0, .int .i64 0, .int .i64 0, .int .u64 0] 30) := ⟨_, rfl⟩
  change Code.wp _ _ _ _ (w4.alloc (.cells #[.int .i64 0, .int .i64 0, .int .i64 0, .int .u64 0] 30))
  rw [← hw5] at V4 B4 ⊢
  clear hw5
  obtain ⟨g0, o0, cap0, hq, -, hlt, hc⟩ := V4.out.eight rfl
  injection hq with hq
  injection hq with hq
  injection hq with hq1 hq2
  subst hq1 hq2
  have HNEW : Hid (∀ (j : Nat) (u : Value), (wcells seven.full)[j]? = some u → (w5.alloc (.cells #[] 28)).cell? ((⟨g, o, none⟩ : Addr).add j) = some u) := Lib.hid fun j u hu => by
    rw [Addr.add_mid]
    have := (below_alloc w5 (.cells #[] 28)).cell (p := ⟨g, o + j, none⟩) hlt
    rw [this]
    unfold wcells at hu
    rw [List.getElem?_map] at hu
    cases hq : seven.full[j]? with
    | none => rw [hq] at hu; cases hu
    | some y =>
      rw [hq] at hu
      injection hu with hu
      rw [← hu]
      exact hc j y hq
  have HSZ : Hid (w5.heap.size ≤ (w5.alloc (.cells #[] 28)).heap.size) := Lib.hid (by simp)
  obtain ⟨i0, hii, hz0, hz1, hz2⟩ := info28_parts
  clear hc hlt
  go_wp2_with (at_builtin; refine wpList_append_own _ rfl _ _ 23 rfl w5.heap.size 28 i0 (.int .u64 0) 1 8 Try.underlying23 hii hz0 hz1 hz2 rfl (by decide) _ 0 [] rfl (owns_new w5 (Nat.le_refl _)) ⟨g, o, none⟩ 8 cap (wcells seven.full) rfl rfl HNEW.out wcells_one (by unfold maxLen; omega) (by omega) HSZ.out ?_)
  intro v' w6 hown hgrow _
  have hbw : Below w5.heap.size w5 w6 := (below_alloc w5 (.cells #[] 28)).grown hgrow (by simp) (fun k hk => by simp [Value.ownBlock] at hk; omega)
  obtain ⟨g', cap', rfl, -, hcap', hmw⟩ := mw_of_owns hbw hown (Nat.succ_pos 7)
  have MW := Lib.hid hmw
  have HCAP' := Lib.hid hcap'
  have c0 : w6.cell? ⟨g', 4, none⟩ = some (.int .u64 7) := hmw.cell 4 7 rfl
  have f0 := hmw.free 4
  clear hown hgrow hmw hcap' hii hz0 hz1 hz2 HNEW HSZ hbw
  go_wp2_with fail
  have hm7 := MW.out.set (i := 4) (show 4 < seven.full.length by decide) 8
  have V7 := Lib.hid (V4.out.below hm7.old)
  have B7 := Lib.hid (below_on B4.out hm7.old)
  have M7 := Lib.hid hm7
  clear hm7 MW V4 B4 c0 f0
  generalize w6.setCell ⟨g', 4, none⟩ (.int .u64 8) = w7 at *
  refine (get_to (M7.out.words (cap := cap') (n := 8) (by decide) HCAP'.out) bad_words (get_not bad_not) bad_not).mono ?_
  rintro e w8 ⟨rfl, hb⟩
  have V8 := Lib.hid ((V7.out.below hb).below (below_alloc w8 (.cells #[.int .i64 0, .int .i64 0, .int .i64 0, .int .u64 0] 30)))
  have B8 := Lib.hid (below_on (below_on B7.out hb) (below_alloc w8 (.cells #[.int .i64 0, .int .i64 0, .int .i64 0, .int .u64 0] 30)))
  clear hb V7 B7 M7
  go_wp2_with fail
  refine (plain_any _).mono ?_
  rintro e w9 ⟨rfl, hb⟩
  have V9 := Lib.hid (V8.out.below hb)
  have B9 := Lib.hid (below_on B8.out hb)
  clear hb V8 B8
  go_wp2_with fail
  refine (rows_to (r := 329) (by decide) _).mono ?_
  rintro e w10 ⟨rfl, hb⟩
  have V10 := Lib.hid ((V9.out.below hb).below (below_alloc w10 (.cells (madeCells #[.int .u64 0] 2632) 28)))
  have B10 := Lib.hid (below_on (below_on B9.out hb) (below_alloc w10 (.cells (madeCells #[.int .u64 0] 2632) 28)))
  have M10 : Hid (Mf w10 w10.heap.size 2632 (memo 0) (w10.alloc (.cells (madeCells #[.int .u64 0] 2632) 28))) := Lib.hid ((Mf.new w10 2632).same fun j _ => memo_zero j)
  have V10' := Lib.hid (V9.out.below hb)
  have B10' := Lib.hid (below_on B9.out hb)
  have hmk := make_memo
  clear hb V9 B9
  go_wp2_with fail
  clear hmk
  go_loopg [9] 8 (fun k p wr => KRel w10 w10.heap.size k p wr)
  case atStart => exact ⟨0, by omega, rfl, M10.out⟩
  case round =>
    obtain ⟨i, hk, rfl, hm⟩ := hrel
    have HK := Lib.hid hk
    have HM := Lib.hid hm
    clear hk hm M10 V10 B10
    by_cases hlt : i < 8
    · have HLT := Lib.hid hlt
      have hlt2 : (i : Int) < 8 := by omega
      obtain ⟨g0, o0, cap0, hq, -, hlt0, hc⟩ := (V10'.out.below HM.out.old).eight rfl
      injection hq with hq
      injection hq with hq
      injection hq with hq1 hq2
      subst hq1 hq2
      have k1 := hc i _ (full_get hlt)
      have k2 := HM.out.cell i (by omega)
      have k3 := HM.out.cell (2624 + i) (by omega)
      have f2 := HM.out.free i
      have f3 := HM.out.free (2624 + i)
      have q1 : IntKind.i64.wrap (2624 + (i : Int)) = ((2624 + i : Nat) : Int) := by rw [wrap_in (by omega) (by omega)]; omega
      clear hc hlt0
      obtain ⟨z, hz⟩ : ∃ z, seven.full.getD i 0 = z := ⟨_, rfl⟩
      have HZ := Lib.hid hz
      rw [hz] at k1
      clear hz
      go_wp2_with fail
      go_region
      have hm2 := ((HM.out.set (i := i) (by omega) z).set (i := 2624 + i) (by omega) z).drewN 1
      have HM2 : Hid (Mf w10 w10.heap.size 2632 (memo (i + 1)) ((wr.setCell ⟨w10.heap.size, i, none⟩ (.int .u64 z)).setCell ⟨w10.heap.size, 2624 + i, none⟩ (.int .u64 z)).drew) := Lib.hid (hm2.same fun j _ => by rw [← memo_succ hlt j, HZ.out])
      clear hm2 k1 k2 k3 f2 f3 q1
      go_wp2_with fail
      go_roundg (8 - (i + 1))
      case measure => have := HK.out; have := HLT.out; omega
      case rel => exact ⟨i + 1, by have := HLT.out; omega, by go_num, HM2.out⟩
    · have hi : i = 8 := by have := HK.out; omega
      have M1 : Hid (Mf w10 w10.heap.size 2632 (memo 8) wr) := Lib.hid (by have := HM.out; rw [hi] at this; exact this)
      have B1 := Lib.hid (below_on B10'.out (HM.out.old))
      obtain ⟨h1, h2, h3⟩ := whole_found
      have hML : (ls 2632 (memo 8)).length ≤ maxLen := by rw [ls_length]; unfold maxLen; omega
      have B10 := Lib.hid B10'.out
      clear hi HM HK V10' B10'
      obtain ⟨G, hG⟩ : ∃ G, G = w10.heap.size := ⟨_, rfl⟩
      rw [← hG] at M1 ⊢
      have HGw : Hid (w.heap.size ≤ G) := Lib.hid (by have := B10.out.size; omega)
      have HGlt : Hid (G < wr.heap.size) := Lib.hid M1.out.lt
      clear hG
      go_wp2_with fail
      refine (find_to (M1.out.words (m := 2632) (cap := 2632) (Nat.le_refl _) (Nat.le_refl _)) hML (ls_words fun j _ => memo_wd 8 j (Nat.le_refl _)) h1 h2 h3).mono ?_
      rintro e x1 ⟨rfl, hb⟩
      have M2 := Lib.hid ((M1.out.on hb).on (below_alloc x1 (.cells #[.int .i64 2, .int .i64 32, .int .i64 16, .int .u64 7] 30)))
      have B2 := Lib.hid (below_on (below_on B1.out hb) (below_alloc x1 (.cells #[.int .i64 2, .int .i64 32, .int .i64 16, .int .u64 7] 30)))
      have S2 : Hid (Bs (x1.alloc (.cells #[.int .i64 2, .int .i64 32, .int .i64 16, .int .u64 7] 30)) x1.heap.size seven) := Lib.hid (Bs.new x1 seven 30)
      have HGx : Hid (G < x1.heap.size) := Lib.hid (Nat.lt_of_lt_of_le HGlt.out hb.size)
      clear hb M1 B1 h1 h2 h3 hML
      go_upto_region 19 with fail
      obtain ⟨x2, hx2⟩ : ∃ x, x = x1.alloc (.cells #[.int .i64 2, .int .i64 32, .int .i64 16, .int .u64 7] 30) := ⟨_, rfl⟩
      change Code.wp _ _ _ _ (x1.alloc (.cells #[.int .i64 2, .int .i64 32, .int .i64 16, .int .u64 7] 30))
      rw [← hx2] at M2 B2 S2 ⊢
      clear hx2
      have k3 : x2.cell? ⟨G, 3, none⟩ = some (.int .u64 (memo 8 3)) := M2.out.cell 3 (by omega)
      have f3 := M2.out.free 3
      have hne : x1.heap.size ≠ G := fun q => by have := HGx.out; omega
      go_upto_region 20 with fail
      change Code.wp _ _ _ _ (x2.setCell ⟨G, 3, none⟩ (.int .u64 0))
      have hm := (M2.out.set (i := 3) (by omega) 0).same (f' := memz) (fun j _ => rfl)
      have M3 := Lib.hid hm
      have B3 : Hid (Below w.heap.size w (x2.setCell ⟨G, 3, none⟩ (.int .u64 0))) := Lib.hid (B2.out.trans ⟨rfl, rfl, rfl, by simp [World.setCell], fun k hk => Below.heap_setCell _ _ _ _ (by have := HGw.out; show k ≠ G; omega)⟩)
      have S3 : Hid (Bs (x2.setCell ⟨G, 3, none⟩ (.int .u64 0)) x1.heap.size seven) := Lib.hid (S2.out.set_other hne)
      clear hm M2 B2 S2 k3 f3 hne
      generalize x2.setCell ⟨G, 3, none⟩ (.int .u64 0) = x3 at *
      obtain ⟨h1, h2, h3⟩ := turned_found
      have hML : (ls 2632 memz).length ≤ maxLen := by rw [ls_length]; unfold maxLen; omega
      go_wp2_with fail
      refine (find_to (M3.out.words (m := 2632) (cap := 2632) (Nat.le_refl _) (Nat.le_refl _)) hML (ls_words fun j _ => memz_wd j) h1 h2 h3).mono ?_
      rintro e x4 ⟨rfl, hb⟩
      have M4 := Lib.hid ((M3.out.on hb).on (below_alloc x4 (.cells #[.int .i64 2, .int .i64 32, .int .i64 16, .int .u64 7] 30)))
      have B4 := Lib.hid (below_on (below_on B3.out hb) (below_alloc x4 (.cells #[.int .i64 2, .int .i64 32, .int .i64 16, .int .u64 7] 30)))
      have S4 := Lib.hid ((S3.out.on hb).on (below_alloc x4 (.cells #[.int .i64 2, .int .i64 32, .int .i64 16, .int .u64 7] 30)))
      have T4 : Hid (Bs (x4.alloc (.cells #[.int .i64 2, .int .i64 32, .int .i64 16, .int .u64 7] 30)) x4.heap.size seven) := Lib.hid (Bs.new x4 seven 30)
      clear hb M3 B3 S3 h1 h2 h3 hML
      obtain ⟨h1, h2, h3⟩ := short_found
      have hML : (ls 2624 memz).length ≤ maxLen := by rw [ls_length]; unfold maxLen; omega
      go_wp2_with fail
      refine (find_to (M4.out.words (m := 2624) (cap := 2632) (by omega) (by omega)) hML (ls_words fun j _ => memz_wd j) h1 h2 h3).mono ?_
      rintro e x5 ⟨rfl, hb⟩
      have B5 := Lib.hid (below_on (below_on B4.out hb) (below_alloc x5 (.cells #[.int .i64 0, .int .i64 0, .int .i64 0, .int .u64 0] 30)))
      have S5 := Lib.hid ((S4.out.on hb).on (below_alloc x5 (.cells #[.int .i64 0, .int .i64 0, .int .i64 0, .int .u64 0] 30)))
      have T5 := Lib.hid ((T4.out.on hb).on (below_alloc x5 (.cells #[.int .i64 0, .int .i64 0, .int .i64 0, .int .u64 0] 30)))
      clear hb M4 B4 S4 T4 h1 h2 h3 hML
      go_wp2_with fail
      refine (find_to (words_none _ 0) (Nat.zero_le _) (fun x hx => by cases hx) (find_no (l := []) (by decide)).1 (find_no (l := []) (by decide)).2.1 (find_no (l := []) (by decide)).2.2).mono ?_
      rintro e x6 ⟨rfl, hb⟩
      have B6 := Lib.hid (below_on (below_on B5.out hb) (below_alloc x6 (.cells #[.int .i64 0, .int .i64 0, .int .i64 0, .int .u64 0] 30)))
      have s6 := (S5.out.on hb).on (below_alloc x6 (.cells #[.int .i64 0, .int .i64 0, .int .i64 0, .int .u64 0] 30))
      have t6 := (T5.out.on hb).on (below_alloc x6 (.cells #[.int .i64 0, .int .i64 0, .int .i64 0, .int .u64 0] 30))
      clear hb B5 S5 T5
      go_upto_region 23 with fail
      obtain ⟨x7, hx7⟩ : ∃ x, x = x6.alloc (.cells #[.int .i64 0, .int .i64 0, .int .i64 0, .int .u64 0] 30) := ⟨_, rfl⟩
      change Code.wp _ _ _ _ (x6.alloc (.cells #[.int .i64 0, .int .i64 0, .int .i64 0, .int .u64 0] 30))
      rw [← hx7] at s6 t6 B6 ⊢
      clear hx7
      have S7 := Lib.hid s6
      have T7 := Lib.hid t6
      clear s6 t6
      go_wp2_with fail
      refine (put_to (l := []) (Sp.put_no (s := zsp) (by decide)) (by decide) _).mono ?_
      rintro e x8 ⟨v, rfl, hv, hb⟩
      obtain ⟨A8, cap8, rfl, -, -⟩ := hv
      rw [List.length_nil]
      have s8 := S7.out.on hb
      have t8 := T7.out.on hb
      have B8 := Lib.hid (below_on B6.out hb)
      have a0 : x8.cell? ⟨x1.heap.size, 0, none⟩ = some (.int .i64 2) := s8.t
      have a1 : x8.cell? ⟨x1.heap.size, 1, none⟩ = some (.int .i64 32) := s8.s
      have a2 : x8.cell? ⟨x1.heap.size, 2, none⟩ = some (.int .i64 16) := s8.k
      have a3 : x8.cell? ⟨x1.heap.size, 3, none⟩ = some (.int .u64 7) := s8.u
      have b0 : x8.cell? ⟨x4.heap.size, 0, none⟩ = some (.int .i64 2) := t8.t
      have b1 : x8.cell? ⟨x4.heap.size, 1, none⟩ = some (.int .i64 32) := t8.s
      have b2 : x8.cell? ⟨x4.heap.size, 2, none⟩ = some (.int .i64 16) := t8.k
      have b3 : x8.cell? ⟨x4.heap.size, 3, none⟩ = some (.int .u64 7) := t8.u
      clear hb s8 t8 S7 T7 B6
      go_wp2
      go_ret
      exact ⟨rfl, B8.out⟩
end Go.Proofs.Yteadkcekoccmdaa
