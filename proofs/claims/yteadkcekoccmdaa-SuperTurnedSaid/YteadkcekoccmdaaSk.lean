/-
  The walk of the law SuperTurned: it answers true. Condition: a boot's number is a word, 'to' is of uint16.
-/
import Derived.Test.YteadkcekoccmdaaSj
namespace Go.Proofs.Yteadkcekoccmdaa
open Go.RowKit

theorem got_set {s : Sp} {a i : Nat} {x z : Int} (h : s.g.ok = true) (hb : 0 ≤ s.b ∧ s.b < 18446744073709551616) (hx : s.full[a]? = some x) (hz : 0 ≤ z ∧ z < 65536) (hi : i < 4) :
    got (s.full.set a (mix x i z)) = decide (s.full = s.full.set a (mix x i z)) ∧ Wds (s.full.set a (mix x i z)) := by
  have hxw := full_words h hb x (List.mem_of_getElem? hx)
  obtain ⟨h1, h2⟩ := mix_is hxw hz hi
  have ha : a < s.full.length := (List.getElem?_eq_some_iff.1 hx).1
  refine ⟨?_, fun y hy => ?_⟩
  · by_cases e : x = mix x i z
    · have hs : s.full.set a (mix x i z) = s.full := by
        rw [← e]
        apply List.ext_getElem?
        intro j
        by_cases q : a = j
        · subst q; rw [List.getElem?_set_self ha, hx]
        · rw [List.getElem?_set_ne q]
      rw [hs, got_full h]
      simp
    · rw [turned h hb hx h1 (h2 e)]
      refine (decide_eq_false fun q => e ?_).symm
      have := congrArg (fun l : List Int => l[a]?) q
      rw [List.getElem?_set_self ha, hx] at this
      injection this
  · rcases List.mem_or_eq_of_mem_set hy with q | q
    · exact full_words h hb y q
    · rw [q]; exact h1

set_option maxRecDepth 100000 in
set_option maxHeartbeats 1000000 in
theorem turned_on0 (t s k b z : Int) (a : Nat) (hb : 0 ≤ b ∧ b < 18446744073709551616) (hz : 0 ≤ z ∧ z < 65536) (hg : Gd.ok ⟨t, s, k⟩ = true) (ha : a < 8) (w : World) :
    Calls Try.prog 5 #[.agg #[.int .i64 t, .int .i64 s, .int .i64 k, .int .u64 b], .int .i64 a, .int .i64 0, .int .u16 z] w fun e w' => e = .returned (.bool true) ∧ Below w.heap.size w w' := by
  obtain ⟨S, hS⟩ : ∃ S : Sp, S = ⟨⟨t, s, k⟩, b⟩ := ⟨_, rfl⟩
  have hSg : S.g.ok = true := by rw [hS]; exact hg
  have hSb : 0 ≤ S.b ∧ S.b < 18446744073709551616 := by rw [hS]; exact hb
  obtain ⟨x, hx⟩ : ∃ x, S.full[a]? = some x := ⟨S.full[a]'ha, List.getElem?_eq_getElem _⟩
  obtain ⟨hm, hw⟩ := got_set hSg hSb hx hz (show 0 < 4 by decide)
  have HX := Lib.hid hx
  have HM := Lib.hid hm
  have HW := Lib.hid hw
  have HG := Lib.hid hg
  have HB := Lib.hid hb
  have HS := Lib.hid hS
  have HSG := Lib.hid hSg
  have B0 := Lib.hid (below_alloc w (.cells #[.int .i64 t, .int .i64 s, .int .i64 k, .int .u64 b] 30))
  have V0 : Hid (Bs (w.alloc (.cells #[.int .i64 t, .int .i64 s, .int .i64 k, .int .u64 b] 30)) w.heap.size ⟨⟨t, s, k⟩, b⟩) := Lib.hid (Bs.new w ⟨⟨t, s, k⟩, b⟩ 30)
  have a1 : decide ((a : Int) < 0) = false := decide_eq_false (by omega)
  have a2 : decide ((7 : Int) < (a : Int)) = false := decide_eq_false (by omega)
  have a3 : (a : Int) < 8 := by omega
  have HA := Lib.hid ha
  obtain ⟨z0, z1⟩ := hz
  clear hx hm hw hg hb hS hSg hSb
  go_enter Try.func5, Try.ntmps5
  go_wp2_with fail
  refine (awake_any _).mono ?_
  rintro e w1 ⟨rfl, hb⟩
  have B1 := Lib.hid (below_on B0.out hb)
  have hv := V0.out.on hb
  have c0 : w1.cell? ⟨w.heap.size, 0, none⟩ = some (.int .i64 t) := hv.t
  have c1 : w1.cell? ⟨w.heap.size, 1, none⟩ = some (.int .i64 s) := hv.s
  have c2 : w1.cell? ⟨w.heap.size, 2, none⟩ = some (.int .i64 k) := hv.k
  have c3 : w1.cell? ⟨w.heap.size, 3, none⟩ = some (.int .u64 b) := hv.u
  clear hb hv B0 V0
  go_wp2_with fail
  refine (put_to (l := S.full) (by rw [HS.out]; exact Sp.put_yes HG.out) HB.out _).mono ?_
  rintro e w2 ⟨v, rfl, hv, hb⟩
  have B2 := Lib.hid (below_on B1.out hb)
  obtain ⟨g, o, cap, rfl, hcap, hlt, hc⟩ := hv.eight rfl
  have HV := Lib.hid hv
  have HC := Lib.hid hc
  have HCAP := Lib.hid hcap
  clear hb B1 c0 c1 c2 c3 hc hcap hv
  obtain ⟨i0, hii, hz0, hz1, hz2⟩ := info28_parts
  have HNEW : Hid (∀ (j : Nat) (u : Value), (wcells S.full)[j]? = some u → (w2.alloc (.cells #[] 28)).cell? ((⟨g, o, none⟩ : Addr).add j) = some u) := Lib.hid fun j u hu => by
    rw [Addr.add_mid]
    have := (below_alloc w2 (.cells #[] 28)).cell (p := ⟨g, o + j, none⟩) hlt
    rw [this]
    unfold wcells at hu
    rw [List.getElem?_map] at hu
    cases hq : S.full[j]? with
    | none => rw [hq] at hu; cases hu
    | some y =>
      rw [hq] at hu
      injection hu with hu
      rw [← hu]
      exact HC.out j y hq
  have HSZ : Hid (w2.heap.size ≤ (w2.alloc (.cells #[] 28)).heap.size) := Lib.hid (by simp)
  go_wp2_with (at_builtin; refine wpList_append_own _ rfl _ _ 23 rfl w2.heap.size 28 i0 (.int .u64 0) 1 8 Try.underlying23 hii hz0 hz1 hz2 rfl (by decide) _ 0 [] rfl (owns_new w2 (Nat.le_refl _)) ⟨g, o, none⟩ 8 cap (wcells S.full) rfl rfl HNEW.out wcells_one (by unfold maxLen; omega) (by omega) HSZ.out ?_)
  intro v' w3 hown hgrow _
  have hbw : Below w2.heap.size w2 w3 := (below_alloc w2 (.cells #[] 28)).grown hgrow (by simp) (fun k hk => by simp [Value.ownBlock] at hk; omega)
  obtain ⟨g', cap', rfl, -, hcap', hmw⟩ := mw_of_owns hbw hown (Nat.succ_pos 7)
  have MW := Lib.hid hmw
  have HCAP' := Lib.hid hcap'
  have c0 := hmw.cell a x HX.out
  have f0 := hmw.free a
  clear hown hgrow hmw hcap' hii hz0 hz1 hz2 HNEW HSZ hlt hbw
  go_wp2_with fail
  rw [show bits .or .u64 (bits .andNot .u64 x 65535) z = mix x 0 z from by unfold mix; simp]
  have hm4 := MW.out.set (i := a) (show a < S.full.length from HA.out) (mix x 0 z)
  have hv4 := HV.out.below hm4.old
  have M4 := Lib.hid hm4
  have V4 := Lib.hid hv4
  have B4 := Lib.hid (below_on B2.out hm4.old)
  clear hm4 hv4 MW HV B2 c0 f0
  generalize w3.setCell ⟨g', a, none⟩ (.int .u64 (mix x 0 z)) = w4 at *
  obtain ⟨r, hr⟩ : ∃ r, got (S.full.set a (mix x 0 z)) = r := ⟨_, rfl⟩
  obtain ⟨y, hy⟩ : ∃ y, get (S.full.set a (mix x 0 z)) = y := ⟨_, rfl⟩
  obtain ⟨⟨t', s', k'⟩, b'⟩ := y
  have hr2 : decide (S.full = S.full.set a (mix x 0 z)) = r := by rw [← HM.out, hr]
  refine (get_to (M4.out.words (cap := cap') (n := 8) (by simp [Sp.full]) HCAP'.out) HW.out hy hr).mono ?_
  rintro e w5 ⟨rfl, hb⟩
  have M5 := Lib.hid ((M4.out.on hb).on (below_alloc w5 (.cells #[.int .i64 t', .int .i64 s', .int .i64 k', .int .u64 b'] 30)))
  have V5 := Lib.hid ((V4.out.below hb).below (below_alloc w5 (.cells #[.int .i64 t', .int .i64 s', .int .i64 k', .int .u64 b'] 30)))
  have B5 := Lib.hid (below_on (below_on B4.out hb) (below_alloc w5 (.cells #[.int .i64 t', .int .i64 s', .int .i64 k', .int .u64 b'] 30)))
  clear hb M4 V4 B4 hr hy
  go_wp2_with fail
  refine (words_at V5.out (M5.out.words (cap := cap') (n := 8) (by simp [Sp.full]) HCAP'.out) (by simp [Sp.full]) hr2).mono ?_
  rintro e w6 ⟨rfl, hb⟩
  have B6 := Lib.hid (below_on B5.out hb)
  clear hb M5 V5 B5
  go_wp2
  go_ret
  exact ⟨rfl, B6.out⟩
set_option maxRecDepth 100000 in
set_option maxHeartbeats 1000000 in
theorem turned_on1 (t s k b z : Int) (a : Nat) (hb : 0 ≤ b ∧ b < 18446744073709551616) (hz : 0 ≤ z ∧ z < 65536) (hg : Gd.ok ⟨t, s, k⟩ = true) (ha : a < 8) (w : World) :
    Calls Try.prog 5 #[.agg #[.int .i64 t, .int .i64 s, .int .i64 k, .int .u64 b], .int .i64 a, .int .i64 1, .int .u16 z] w fun e w' => e = .returned (.bool true) ∧ Below w.heap.size w w' := by
  obtain ⟨S, hS⟩ : ∃ S : Sp, S = ⟨⟨t, s, k⟩, b⟩ := ⟨_, rfl⟩
  have hSg : S.g.ok = true := by rw [hS]; exact hg
  have hSb : 0 ≤ S.b ∧ S.b < 18446744073709551616 := by rw [hS]; exact hb
  obtain ⟨x, hx⟩ : ∃ x, S.full[a]? = some x := ⟨S.full[a]'ha, List.getElem?_eq_getElem _⟩
  obtain ⟨hm, hw⟩ := got_set hSg hSb hx hz (show 1 < 4 by decide)
  have HX := Lib.hid hx
  have HM := Lib.hid hm
  have HW := Lib.hid hw
  have HG := Lib.hid hg
  have HB := Lib.hid hb
  have HS := Lib.hid hS
  have HSG := Lib.hid hSg
  have B0 := Lib.hid (below_alloc w (.cells #[.int .i64 t, .int .i64 s, .int .i64 k, .int .u64 b] 30))
  have V0 : Hid (Bs (w.alloc (.cells #[.int .i64 t, .int .i64 s, .int .i64 k, .int .u64 b] 30)) w.heap.size ⟨⟨t, s, k⟩, b⟩) := Lib.hid (Bs.new w ⟨⟨t, s, k⟩, b⟩ 30)
  have a1 : decide ((a : Int) < 0) = false := decide_eq_false (by omega)
  have a2 : decide ((7 : Int) < (a : Int)) = false := decide_eq_false (by omega)
  have a3 : (a : Int) < 8 := by omega
  have HA := Lib.hid ha
  obtain ⟨z0, z1⟩ := hz
  clear hx hm hw hg hb hS hSg hSb
  go_enter Try.func5, Try.ntmps5
  go_wp2_with fail
  refine (awake_any _).mono ?_
  rintro e w1 ⟨rfl, hb⟩
  have B1 := Lib.hid (below_on B0.out hb)
  have hv := V0.out.on hb
  have c0 : w1.cell? ⟨w.heap.size, 0, none⟩ = some (.int .i64 t) := hv.t
  have c1 : w1.cell? ⟨w.heap.size, 1, none⟩ = some (.int .i64 s) := hv.s
  have c2 : w1.cell? ⟨w.heap.size, 2, none⟩ = some (.int .i64 k) := hv.k
  have c3 : w1.cell? ⟨w.heap.size, 3, none⟩ = some (.int .u64 b) := hv.u
  clear hb hv B0 V0
  go_wp2_with fail
  refine (put_to (l := S.full) (by rw [HS.out]; exact Sp.put_yes HG.out) HB.out _).mono ?_
  rintro e w2 ⟨v, rfl, hv, hb⟩
  have B2 := Lib.hid (below_on B1.out hb)
  obtain ⟨g, o, cap, rfl, hcap, hlt, hc⟩ := hv.eight rfl
  have HV := Lib.hid hv
  have HC := Lib.hid hc
  have HCAP := Lib.hid hcap
  clear hb B1 c0 c1 c2 c3 hc hcap hv
  obtain ⟨i0, hii, hz0, hz1, hz2⟩ := info28_parts
  have HNEW : Hid (∀ (j : Nat) (u : Value), (wcells S.full)[j]? = some u → (w2.alloc (.cells #[] 28)).cell? ((⟨g, o, none⟩ : Addr).add j) = some u) := Lib.hid fun j u hu => by
    rw [Addr.add_mid]
    have := (below_alloc w2 (.cells #[] 28)).cell (p := ⟨g, o + j, none⟩) hlt
    rw [this]
    unfold wcells at hu
    rw [List.getElem?_map] at hu
    cases hq : S.full[j]? with
    | none => rw [hq] at hu; cases hu
    | some y =>
      rw [hq] at hu
      injection hu with hu
      rw [← hu]
      exact HC.out j y hq
  have HSZ : Hid (w2.heap.size ≤ (w2.alloc (.cells #[] 28)).heap.size) := Lib.hid (by simp)
  go_wp2_with (at_builtin; refine wpList_append_own _ rfl _ _ 23 rfl w2.heap.size 28 i0 (.int .u64 0) 1 8 Try.underlying23 hii hz0 hz1 hz2 rfl (by decide) _ 0 [] rfl (owns_new w2 (Nat.le_refl _)) ⟨g, o, none⟩ 8 cap (wcells S.full) rfl rfl HNEW.out wcells_one (by unfold maxLen; omega) (by omega) HSZ.out ?_)
  intro v' w3 hown hgrow _
  have hbw : Below w2.heap.size w2 w3 := (below_alloc w2 (.cells #[] 28)).grown hgrow (by simp) (fun k hk => by simp [Value.ownBlock] at hk; omega)
  obtain ⟨g', cap', rfl, -, hcap', hmw⟩ := mw_of_owns hbw hown (Nat.succ_pos 7)
  have MW := Lib.hid hmw
  have HCAP' := Lib.hid hcap'
  have c0 := hmw.cell a x HX.out
  have f0 := hmw.free a
  clear hown hgrow hmw hcap' hii hz0 hz1 hz2 HNEW HSZ hlt hbw
  go_wp2_with fail
  rw [show bits .or .u64 (bits .andNot .u64 x 4294901760) (z * 65536) = mix x 1 z from rfl]
  have hm4 := MW.out.set (i := a) (show a < S.full.length from HA.out) (mix x 1 z)
  have hv4 := HV.out.below hm4.old
  have M4 := Lib.hid hm4
  have V4 := Lib.hid hv4
  have B4 := Lib.hid (below_on B2.out hm4.old)
  clear hm4 hv4 MW HV B2 c0 f0
  generalize w3.setCell ⟨g', a, none⟩ (.int .u64 (mix x 1 z)) = w4 at *
  obtain ⟨r, hr⟩ : ∃ r, got (S.full.set a (mix x 1 z)) = r := ⟨_, rfl⟩
  obtain ⟨y, hy⟩ : ∃ y, get (S.full.set a (mix x 1 z)) = y := ⟨_, rfl⟩
  obtain ⟨⟨t', s', k'⟩, b'⟩ := y
  have hr2 : decide (S.full = S.full.set a (mix x 1 z)) = r := by rw [← HM.out, hr]
  refine (get_to (M4.out.words (cap := cap') (n := 8) (by simp [Sp.full]) HCAP'.out) HW.out hy hr).mono ?_
  rintro e w5 ⟨rfl, hb⟩
  have M5 := Lib.hid ((M4.out.on hb).on (below_alloc w5 (.cells #[.int .i64 t', .int .i64 s', .int .i64 k', .int .u64 b'] 30)))
  have V5 := Lib.hid ((V4.out.below hb).below (below_alloc w5 (.cells #[.int .i64 t', .int .i64 s', .int .i64 k', .int .u64 b'] 30)))
  have B5 := Lib.hid (below_on (below_on B4.out hb) (below_alloc w5 (.cells #[.int .i64 t', .int .i64 s', .int .i64 k', .int .u64 b'] 30)))
  clear hb M4 V4 B4 hr hy
  go_wp2_with fail
  refine (words_at V5.out (M5.out.words (cap := cap') (n := 8) (by simp [Sp.full]) HCAP'.out) (by simp [Sp.full]) hr2).mono ?_
  rintro e w6 ⟨rfl, hb⟩
  have B6 := Lib.hid (below_on B5.out hb)
  clear hb M5 V5 B5
  go_wp2
  go_ret
  exact ⟨rfl, B6.out⟩
set_option maxRecDepth 100000 in
set_option maxHeartbeats 1000000 in
theorem turned_on2 (t s k b z : Int) (a : Nat) (hb : 0 ≤ b ∧ b < 18446744073709551616) (hz : 0 ≤ z ∧ z < 65536) (hg : Gd.ok ⟨t, s, k⟩ = true) (ha : a < 8) (w : World) :
    Calls Try.prog 5 #[.agg #[.int .i64 t, .int .i64 s, .int .i64 k, .int .u64 b], .int .i64 a, .int .i64 2, .int .u16 z] w fun e w' => e = .returned (.bool true) ∧ Below w.heap.size w w' := by
  obtain ⟨S, hS⟩ : ∃ S : Sp, S = ⟨⟨t, s, k⟩, b⟩ := ⟨_, rfl⟩
  have hSg : S.g.ok = true := by rw [hS]; exact hg
  have hSb : 0 ≤ S.b ∧ S.b < 18446744073709551616 := by rw [hS]; exact hb
  obtain ⟨x, hx⟩ : ∃ x, S.full[a]? = some x := ⟨S.full[a]'ha, List.getElem?_eq_getElem _⟩
  obtain ⟨hm, hw⟩ := got_set hSg hSb hx hz (show 2 < 4 by decide)
  have HX := Lib.hid hx
  have HM := Lib.hid hm
  have HW := Lib.hid hw
  have HG := Lib.hid hg
  have HB := Lib.hid hb
  have HS := Lib.hid hS
  have HSG := Lib.hid hSg
  have B0 := Lib.hid (below_alloc w (.cells #[.int .i64 t, .int .i64 s, .int .i64 k, .int .u64 b] 30))
  have V0 : Hid (Bs (w.alloc (.cells #[.int .i64 t, .int .i64 s, .int .i64 k, .int .u64 b] 30)) w.heap.size ⟨⟨t, s, k⟩, b⟩) := Lib.hid (Bs.new w ⟨⟨t, s, k⟩, b⟩ 30)
  have a1 : decide ((a : Int) < 0) = false := decide_eq_false (by omega)
  have a2 : decide ((7 : Int) < (a : Int)) = false := decide_eq_false (by omega)
  have a3 : (a : Int) < 8 := by omega
  have HA := Lib.hid ha
  obtain ⟨z0, z1⟩ := hz
  clear hx hm hw hg hb hS hSg hSb
  go_enter Try.func5, Try.ntmps5
  go_wp2_with fail
  refine (awake_any _).mono ?_
  rintro e w1 ⟨rfl, hb⟩
  have B1 := Lib.hid (below_on B0.out hb)
  have hv := V0.out.on hb
  have c0 : w1.cell? ⟨w.heap.size, 0, none⟩ = some (.int .i64 t) := hv.t
  have c1 : w1.cell? ⟨w.heap.size, 1, none⟩ = some (.int .i64 s) := hv.s
  have c2 : w1.cell? ⟨w.heap.size, 2, none⟩ = some (.int .i64 k) := hv.k
  have c3 : w1.cell? ⟨w.heap.size, 3, none⟩ = some (.int .u64 b) := hv.u
  clear hb hv B0 V0
  go_wp2_with fail
  refine (put_to (l := S.full) (by rw [HS.out]; exact Sp.put_yes HG.out) HB.out _).mono ?_
  rintro e w2 ⟨v, rfl, hv, hb⟩
  have B2 := Lib.hid (below_on B1.out hb)
  obtain ⟨g, o, cap, rfl, hcap, hlt, hc⟩ := hv.eight rfl
  have HV := Lib.hid hv
  have HC := Lib.hid hc
  have HCAP := Lib.hid hcap
  clear hb B1 c0 c1 c2 c3 hc hcap hv
  obtain ⟨i0, hii, hz0, hz1, hz2⟩ := info28_parts
  have HNEW : Hid (∀ (j : Nat) (u : Value), (wcells S.full)[j]? = some u → (w2.alloc (.cells #[] 28)).cell? ((⟨g, o, none⟩ : Addr).add j) = some u) := Lib.hid fun j u hu => by
    rw [Addr.add_mid]
    have := (below_alloc w2 (.cells #[] 28)).cell (p := ⟨g, o + j, none⟩) hlt
    rw [this]
    unfold wcells at hu
    rw [List.getElem?_map] at hu
    cases hq : S.full[j]? with
    | none => rw [hq] at hu; cases hu
    | some y =>
      rw [hq] at hu
      injection hu with hu
      rw [← hu]
      exact HC.out j y hq
  have HSZ : Hid (w2.heap.size ≤ (w2.alloc (.cells #[] 28)).heap.size) := Lib.hid (by simp)
  go_wp2_with (at_builtin; refine wpList_append_own _ rfl _ _ 23 rfl w2.heap.size 28 i0 (.int .u64 0) 1 8 Try.underlying23 hii hz0 hz1 hz2 rfl (by decide) _ 0 [] rfl (owns_new w2 (Nat.le_refl _)) ⟨g, o, none⟩ 8 cap (wcells S.full) rfl rfl HNEW.out wcells_one (by unfold maxLen; omega) (by omega) HSZ.out ?_)
  intro v' w3 hown hgrow _
  have hbw : Below w2.heap.size w2 w3 := (below_alloc w2 (.cells #[] 28)).grown hgrow (by simp) (fun k hk => by simp [Value.ownBlock] at hk; omega)
  obtain ⟨g', cap', rfl, -, hcap', hmw⟩ := mw_of_owns hbw hown (Nat.succ_pos 7)
  have MW := Lib.hid hmw
  have HCAP' := Lib.hid hcap'
  have c0 := hmw.cell a x HX.out
  have f0 := hmw.free a
  clear hown hgrow hmw hcap' hii hz0 hz1 hz2 HNEW HSZ hlt hbw
  go_wp2_with fail
  rw [show bits .or .u64 (bits .andNot .u64 x 281470681743360) (z * 4294967296) = mix x 2 z from rfl]
  have hm4 := MW.out.set (i := a) (show a < S.full.length from HA.out) (mix x 2 z)
  have hv4 := HV.out.below hm4.old
  have M4 := Lib.hid hm4
  have V4 := Lib.hid hv4
  have B4 := Lib.hid (below_on B2.out hm4.old)
  clear hm4 hv4 MW HV B2 c0 f0
  generalize w3.setCell ⟨g', a, none⟩ (.int .u64 (mix x 2 z)) = w4 at *
  obtain ⟨r, hr⟩ : ∃ r, got (S.full.set a (mix x 2 z)) = r := ⟨_, rfl⟩
  obtain ⟨y, hy⟩ : ∃ y, get (S.full.set a (mix x 2 z)) = y := ⟨_, rfl⟩
  obtain ⟨⟨t', s', k'⟩, b'⟩ := y
  have hr2 : decide (S.full = S.full.set a (mix x 2 z)) = r := by rw [← HM.out, hr]
  refine (get_to (M4.out.words (cap := cap') (n := 8) (by simp [Sp.full]) HCAP'.out) HW.out hy hr).mono ?_
  rintro e w5 ⟨rfl, hb⟩
  have M5 := Lib.hid ((M4.out.on hb).on (below_alloc w5 (.cells #[.int .i64 t', .int .i64 s', .int .i64 k', .int .u64 b'] 30)))
  have V5 := Lib.hid ((V4.out.below hb).below (below_alloc w5 (.cells #[.int .i64 t', .int .i64 s', .int .i64 k', .int .u64 b'] 30)))
  have B5 := Lib.hid (below_on (below_on B4.out hb) (below_alloc w5 (.cells #[.int .i64 t', .int .i64 s', .int .i64 k', .int .u64 b'] 30)))
  clear hb M4 V4 B4 hr hy
  go_wp2_with fail
  refine (words_at V5.out (M5.out.words (cap := cap') (n := 8) (by simp [Sp.full]) HCAP'.out) (by simp [Sp.full]) hr2).mono ?_
  rintro e w6 ⟨rfl, hb⟩
  have B6 := Lib.hid (below_on B5.out hb)
  clear hb M5 V5 B5
  go_wp2
  go_ret
  exact ⟨rfl, B6.out⟩
set_option maxRecDepth 100000 in
set_option maxHeartbeats 1000000 in
theorem turned_on3 (t s k b z : Int) (a : Nat) (hb : 0 ≤ b ∧ b < 18446744073709551616) (hz : 0 ≤ z ∧ z < 65536) (hg : Gd.ok ⟨t, s, k⟩ = true) (ha : a < 8) (w : World) :
    Calls Try.prog 5 #[.agg #[.int .i64 t, .int .i64 s, .int .i64 k, .int .u64 b], .int .i64 a, .int .i64 3, .int .u16 z] w fun e w' => e = .returned (.bool true) ∧ Below w.heap.size w w' := by
  obtain ⟨S, hS⟩ : ∃ S : Sp, S = ⟨⟨t, s, k⟩, b⟩ := ⟨_, rfl⟩
  have hSg : S.g.ok = true := by rw [hS]; exact hg
  have hSb : 0 ≤ S.b ∧ S.b < 18446744073709551616 := by rw [hS]; exact hb
  obtain ⟨x, hx⟩ : ∃ x, S.full[a]? = some x := ⟨S.full[a]'ha, List.getElem?_eq_getElem _⟩
  obtain ⟨hm, hw⟩ := got_set hSg hSb hx hz (show 3 < 4 by decide)
  have HX := Lib.hid hx
  have HM := Lib.hid hm
  have HW := Lib.hid hw
  have HG := Lib.hid hg
  have HB := Lib.hid hb
  have HS := Lib.hid hS
  have HSG := Lib.hid hSg
  have B0 := Lib.hid (below_alloc w (.cells #[.int .i64 t, .int .i64 s, .int .i64 k, .int .u64 b] 30))
  have V0 : Hid (Bs (w.alloc (.cells #[.int .i64 t, .int .i64 s, .int .i64 k, .int .u64 b] 30)) w.heap.size ⟨⟨t, s, k⟩, b⟩) := Lib.hid (Bs.new w ⟨⟨t, s, k⟩, b⟩ 30)
  have a1 : decide ((a : Int) < 0) = false := decide_eq_false (by omega)
  have a2 : decide ((7 : Int) < (a : Int)) = false := decide_eq_false (by omega)
  have a3 : (a : Int) < 8 := by omega
  have HA := Lib.hid ha
  obtain ⟨z0, z1⟩ := hz
  clear hx hm hw hg hb hS hSg hSb
  go_enter Try.func5, Try.ntmps5
  go_wp2_with fail
  refine (awake_any _).mono ?_
  rintro e w1 ⟨rfl, hb⟩
  have B1 := Lib.hid (below_on B0.out hb)
  have hv := V0.out.on hb
  have c0 : w1.cell? ⟨w.heap.size, 0, none⟩ = some (.int .i64 t) := hv.t
  have c1 : w1.cell? ⟨w.heap.size, 1, none⟩ = some (.int .i64 s) := hv.s
  have c2 : w1.cell? ⟨w.heap.size, 2, none⟩ = some (.int .i64 k) := hv.k
  have c3 : w1.cell? ⟨w.heap.size, 3, none⟩ = some (.int .u64 b) := hv.u
  clear hb hv B0 V0
  go_wp2_with fail
  refine (put_to (l := S.full) (by rw [HS.out]; exact Sp.put_yes HG.out) HB.out _).mono ?_
  rintro e w2 ⟨v, rfl, hv, hb⟩
  have B2 := Lib.hid (below_on B1.out hb)
  obtain ⟨g, o, cap, rfl, hcap, hlt, hc⟩ := hv.eight rfl
  have HV := Lib.hid hv
  have HC := Lib.hid hc
  have HCAP := Lib.hid hcap
  clear hb B1 c0 c1 c2 c3 hc hcap hv
  obtain ⟨i0, hii, hz0, hz1, hz2⟩ := info28_parts
  have HNEW : Hid (∀ (j : Nat) (u : Value), (wcells S.full)[j]? = some u → (w2.alloc (.cells #[] 28)).cell? ((⟨g, o, none⟩ : Addr).add j) = some u) := Lib.hid fun j u hu => by
    rw [Addr.add_mid]
    have := (below_alloc w2 (.cells #[] 28)).cell (p := ⟨g, o + j, none⟩) hlt
    rw [this]
    unfold wcells at hu
    rw [List.getElem?_map] at hu
    cases hq : S.full[j]? with
    | none => rw [hq] at hu; cases hu
    | some y =>
      rw [hq] at hu
      injection hu with hu
      rw [← hu]
      exact HC.out j y hq
  have HSZ : Hid (w2.heap.size ≤ (w2.alloc (.cells #[] 28)).heap.size) := Lib.hid (by simp)
  go_wp2_with (at_builtin; refine wpList_append_own _ rfl _ _ 23 rfl w2.heap.size 28 i0 (.int .u64 0) 1 8 Try.underlying23 hii hz0 hz1 hz2 rfl (by decide) _ 0 [] rfl (owns_new w2 (Nat.le_refl _)) ⟨g, o, none⟩ 8 cap (wcells S.full) rfl rfl HNEW.out wcells_one (by unfold maxLen; omega) (by omega) HSZ.out ?_)
  intro v' w3 hown hgrow _
  have hbw : Below w2.heap.size w2 w3 := (below_alloc w2 (.cells #[] 28)).grown hgrow (by simp) (fun k hk => by simp [Value.ownBlock] at hk; omega)
  obtain ⟨g', cap', rfl, -, hcap', hmw⟩ := mw_of_owns hbw hown (Nat.succ_pos 7)
  have MW := Lib.hid hmw
  have HCAP' := Lib.hid hcap'
  have c0 := hmw.cell a x HX.out
  have f0 := hmw.free a
  clear hown hgrow hmw hcap' hii hz0 hz1 hz2 HNEW HSZ hlt hbw
  go_wp2_with fail
  rw [show bits .or .u64 (bits .andNot .u64 x 18446462598732840960) (z * 281474976710656) = mix x 3 z from rfl]
  have hm4 := MW.out.set (i := a) (show a < S.full.length from HA.out) (mix x 3 z)
  have hv4 := HV.out.below hm4.old
  have M4 := Lib.hid hm4
  have V4 := Lib.hid hv4
  have B4 := Lib.hid (below_on B2.out hm4.old)
  clear hm4 hv4 MW HV B2 c0 f0
  generalize w3.setCell ⟨g', a, none⟩ (.int .u64 (mix x 3 z)) = w4 at *
  obtain ⟨r, hr⟩ : ∃ r, got (S.full.set a (mix x 3 z)) = r := ⟨_, rfl⟩
  obtain ⟨y, hy⟩ : ∃ y, get (S.full.set a (mix x 3 z)) = y := ⟨_, rfl⟩
  obtain ⟨⟨t', s', k'⟩, b'⟩ := y
  have hr2 : decide (S.full = S.full.set a (mix x 3 z)) = r := by rw [← HM.out, hr]
  refine (get_to (M4.out.words (cap := cap') (n := 8) (by simp [Sp.full]) HCAP'.out) HW.out hy hr).mono ?_
  rintro e w5 ⟨rfl, hb⟩
  have M5 := Lib.hid ((M4.out.on hb).on (below_alloc w5 (.cells #[.int .i64 t', .int .i64 s', .int .i64 k', .int .u64 b'] 30)))
  have V5 := Lib.hid ((V4.out.below hb).below (below_alloc w5 (.cells #[.int .i64 t', .int .i64 s', .int .i64 k', .int .u64 b'] 30)))
  have B5 := Lib.hid (below_on (below_on B4.out hb) (below_alloc w5 (.cells #[.int .i64 t', .int .i64 s', .int .i64 k', .int .u64 b'] 30)))
  clear hb M4 V4 B4 hr hy
  go_wp2_with fail
  refine (words_at V5.out (M5.out.words (cap := cap') (n := 8) (by simp [Sp.full]) HCAP'.out) (by simp [Sp.full]) hr2).mono ?_
  rintro e w6 ⟨rfl, hb⟩
  have B6 := Lib.hid (below_on B5.out hb)
  clear hb M5 V5 B5
  go_wp2
  go_ret
  exact ⟨rfl, B6.out⟩
theorem turned_walk (s : Sp) (at_ part z : Int) (hb : 0 ≤ s.b ∧ s.b < 18446744073709551616) (hz : 0 ≤ z ∧ z < 65536) (w : World) :
    Calls Try.prog 5 #[.agg #[.int .i64 s.g.t, .int .i64 s.g.s, .int .i64 s.g.k, .int .u64 s.b], .int .i64 at_, .int .i64 part, .int .u16 z] w fun e w' => e = .returned (.bool true) ∧ Below w.heap.size w w' := by
  rcases hg : s.g.ok with _ | _
  · exact turned_off s at_ part z hb (.inl hg) w
  by_cases h : at_ < 0 ∨ (0 ≤ at_ ∧ 7 < at_) ∨ (0 ≤ at_ ∧ at_ ≤ 7 ∧ part < 0) ∨ (0 ≤ at_ ∧ at_ ≤ 7 ∧ 0 ≤ part ∧ 3 < part)
  · exact turned_off s at_ part z hb (.inr ⟨hg, h⟩) w
  obtain ⟨a, rfl⟩ := Int.eq_ofNat_of_zero_le (show 0 ≤ at_ by omega)
  have ha : a < 8 := by omega
  obtain ⟨⟨t, s, k⟩, b⟩ := s
  rcases (show part = 0 ∨ part = 1 ∨ part = 2 ∨ part = 3 by omega) with rfl | rfl | rfl | rfl
  · exact turned_on0 t s k b z a hb hz hg ha w
  · exact turned_on1 t s k b z a hb hz hg ha w
  · exact turned_on2 t s k b z a hb hz hg ha w
  · exact turned_on3 t s k b z a hb hz hg ha w
end Go.Proofs.Yteadkcekoccmdaa
