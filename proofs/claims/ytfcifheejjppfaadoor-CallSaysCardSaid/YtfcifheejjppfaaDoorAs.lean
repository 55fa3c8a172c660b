/-
  The walk of the reference's CallGet. Conditions: the words lie in memory, each is one.
-/
import Derived.Test.YtfcifheejjppfaaDoorAr
import Derived.Test.YtfcifheejjppfaaDoorHm
import Derived.BigRegion
namespace Go.Proofs.YtfcifheejjppfaaDoor
open Go.RowKit

theorem rget_short {v : Value} {l : List Int} {w : World} (h : Words w v l) (hl : l.length ≠ 4) :
    Calls Tryd.prog 15 #[v] w fun e w' => e = .returned (.tuple #[.agg #[.int .i64 0, .slice none 0 0, .slice none 0 0, .int .i64 0, .int .i64 0, .int .u64 0], .bool false]) ∧ Below w.heap.size w w' := by
  obtain ⟨A, cap, rfl, -, -⟩ := h
  generalize l.length = n at *
  have h4 : ¬ n = 4 := hl
  have HB := Lib.hid (below_alloc w (.cells #[.int .i64 0, .slice none 0 0, .slice none 0 0, .int .i64 0, .int .i64 0, .int .u64 0] 39))
  clear hl
  go_enter Tryd.func15, Tryd.ntmps15
  go_wp2
  go_returns
  exact ⟨rfl, HB.out⟩
theorem cget_if (l : List Nat) (l0 l1 l2 l3 : Nat) (h : l = [l0, l1, l2, l3]) : cget l = if cwords (clOf l0 l1 l2 l3) = l then some (clOf l0 l1 l2 l3) else none := by subst h; rfl
theorem cwords_or (c : Cl) : (cwords c).length = 4 ∨ (cwords c).length = 0 := by
  unfold cwords
  split <;> simp
/-- the first i words are alike -/
def GetRel (V : World) (l q : List Nat) (k : Nat) (p : Value) (wr : World) : Prop := ∃ i : Nat, k + i = 4 ∧ p = .int .i64 i ∧ Below V.heap.size V wr ∧ l.take i = q.take i
theorem pget_few (z : Nat) : ((pget z).getD []).length ≤ 1000000 := by
  cases h : pget z with
  | none => simp
  | some l => exact pgood_few (pget_some h).2.1
theorem mod_u {l m t : Nat} (h : l % m = t) : (l : Int) % (m : Int) = (t : Int) ∧ (l : Int).tmod (m : Int) = (t : Int) := by
  have e : (l : Int) % (m : Int) = (t : Int) := by rw [← h]; exact (Int.natCast_emod l m).symm
  exact ⟨e, by rw [Int.tmod_eq_emod_of_nonneg (by omega)]; exact e⟩
theorem div_u {l m t : Nat} (h : l / m = t) : (l : Int) / (m : Int) = (t : Int) ∧ (l : Int).tdiv (m : Int) = (t : Int) := by
  have e : (l : Int) / (m : Int) = (t : Int) := by rw [← h]; exact (Int.natCast_ediv l m).symm
  exact ⟨e, by rw [Int.tdiv_eq_ediv_of_nonneg (by omega)]; exact e⟩
theorem get_parts {l0 t d x e y : Nat} (h0 : l0 < 18446744073709551616) (ht : l0 % 256 = t) (hd : l0 / 256 = d) (hx : d % 65536 = x) (he : d / 65536 = e) (hy : e % 65536 = y) : t < 256 ∧ x < 65536 ∧ y < 65536 ∧ d < 18446744073709551616 ∧ e < 18446744073709551616 ∧ l0 / 256 % 65536 = x ∧ l0 / 16777216 % 65536 = y := by
  refine ⟨by omega, by omega, by omega, by omega, by omega, by omega, ?_⟩
  have : l0 / 16777216 = e := by omega
  omega
set_option maxHeartbeats 16000000 in
theorem rget_four {b o cap l0 l1 l2 l3 t d x ee y : Nat} {w : World} (hcap : 4 ≤ cap) (hb : b < w.heap.size) (hc : ∀ (j : Nat) (z : Int), [(l0 : Int), (l1 : Int), (l2 : Int), (l3 : Int)][j]? = some z → w.cell? ⟨b, o + j, none⟩ = some (.int .u64 z)) (h0 : l0 < 18446744073709551616) (h1 : l1 < 18446744073709551616) (h2 : l2 < 18446744073709551616)
    (ht : l0 % 256 = t) (hd : l0 / 256 = d) (hx : d % 65536 = x) (he : d / 65536 = ee) (hy : ee % 65536 = y) :
    Calls Tryd.prog 15 #[.slice (some ⟨b, o, none⟩) 4 cap] w fun e w' => (∃ v, e = .returned (.tuple #[v, .bool (cget [l0, l1, l2, l3]).isSome]) ∧ ClAt w' v ((cget [l0, l1, l2, l3]).getD Cl.zero)) ∧ Below w.heap.size w w' := by
  obtain ⟨bt, bx, bz, bd, be, ex0, ey0⟩ := get_parts h0 ht hd hx he hy
  have m1 : (l0 : Int) % 256 = (t : Int) := (mod_u ht).1
  have m2 : IntKind.u64.wrap ((l0 : Int) / 256) = (d : Int) := by
    have h := (div_u hd).1
    rw [show (l0 : Int) / 256 = (d : Int) from h]
    exact u64_in (by omega) (by omega)
  have m3 : (d : Int).tmod 65536 = (x : Int) := (mod_u hx).2
  have m4 : IntKind.u64.wrap ((d : Int).tdiv 65536) = (ee : Int) := by
    have h := (div_u he).2
    rw [show (d : Int).tdiv 65536 = (ee : Int) from h]
    exact u64_in (by omega) (by omega)
  have m4' : IntKind.u64.wrap ((d : Int) / 65536) = (ee : Int) := by
    have h := (div_u he).1
    rw [show (d : Int) / 65536 = (ee : Int) from h]
    exact u64_in (by omega) (by omega)
  have m5 : (ee : Int).tmod 65536 = (y : Int) := (mod_u hy).2
  have wx : wrap64 (x : Int) = x := big_in (by omega)
  have wy : wrap64 (y : Int) = y := big_in (by omega)
  obtain ⟨c, hcl⟩ : ∃ c, c = clOf l0 l1 l2 l3 := ⟨_, rfl⟩
  have HCL := Lib.hid (show (⟨(t : Int), (pget l1).getD [], (pget l2).getD [], (x : Int), (y : Int), l3⟩ : Cl) = c by rw [hcl, clOf, ht, ex0, ey0])
  have HGET := Lib.hid (show cget [l0, l1, l2, l3] = if cwords c = [l0, l1, l2, l3] then some c else none by rw [hcl]; rfl)
  clear hcl ht hd hx he hy bt bx bz bd be ex0 ey0
  have HBT := Lib.hid hb
  have HC := Lib.hid hc
  have HCAP := Lib.hid hcap
  have HRR := Lib.hid (Wbs.more (below_self w) [.int .i64 0, .slice none 0 0, .slice none 0 0, .int .i64 0, .int .i64 0, .int .u64 0] 39)
  have H1 := Lib.hid h1
  have H2 := Lib.hid h2
  clear hcap hb hc h0 h1 h2
  go_enter Tryd.func15, Tryd.ntmps15
  go_upto_region 3 with fail
  generalize w.alloc _ = w1 at HRR ⊢
  have c0 : w1.cell? ⟨b, o, none⟩ = some (.int .u64 (l0 : Int)) := by rw [HRR.out.bx.old.cell (p := ⟨b, o, none⟩) HBT.out]; exact HC.out 0 _ rfl
  have c3 : w1.cell? ⟨b, o + 3, none⟩ = some (.int .u64 (l3 : Int)) := by rw [HRR.out.bx.old.cell (p := ⟨b, o + 3, none⟩) HBT.out]; exact HC.out 3 _ rfl
  have hlt : b < w1.heap.size := Nat.lt_of_lt_of_le HBT.out HRR.out.bx.old.size
  go_wp2_with fail
  go_region
  go_upto_region 4 with fail
  clear c0 c3 m1 m2 m3 m4 m4' m5 wx wy
  have K4 := (Wbs.more HRR.out.bx.old [.int .i64 (t : Int), .slice none 0 0, .slice none 0 0, .int .i64 (x : Int), .int .i64 (y : Int), .int .u64 (l3 : Int)] 39).on (below_self _).drew
  have H4 := Lib.hid K4
  have hbr := (below_alloc w1 (.cells #[.int .i64 (t : Int), .slice none 0 0, .slice none 0 0, .int .i64 (x : Int), .int .i64 (y : Int), .int .u64 (l3 : Int)] 39)).drew
  have HGR : Hid (w.heap.size ≠ w1.heap.size) := Lib.hid (by have := HRR.out.bx.lt; omega)
  replace HRR := Lib.hid (HRR.out.on hbr)
  clear K4 hbr hlt
  obtain ⟨r, hrr⟩ : ∃ r, r = w.heap.size := ⟨_, rfl⟩
  obtain ⟨g, hgg⟩ : ∃ g, g = w1.heap.size := ⟨_, rfl⟩
  rw [← hgg] at H4 HGR ⊢
  rw [← hrr] at HRR HGR ⊢
  clear hgg hrr
  generalize (w1.alloc _).drew = w3 at HRR H4 ⊢
  have c1 : w3.cell? ⟨b, o + 1, none⟩ = some (.int .u64 (l1 : Int)) := by rw [HRR.out.bx.old.cell (p := ⟨b, o + 1, none⟩) HBT.out]; exact HC.out 1 _ rfl
  go_wp2_with fail
  refine (rpget_any l1 H1.out w3).mono ?_
  rintro e w4 ⟨A, ca, rfl, hA, hb, han⟩
  have HAN : Hid (∀ a, A = some a → a.block ≠ r) := Lib.hid fun a e q => by have := han a e; have := HRR.out.bx.lt; omega
  clear han
  obtain ⟨na, hna⟩ : ∃ n, n = ((pget l1).getD []).length := ⟨_, rfl⟩
  rw [← hna]
  have HNA := Lib.hid hna
  have HA := Lib.hid hA
  replace H4 := Lib.hid (H4.out.on hb)
  replace HRR := Lib.hid (HRR.out.on hb)
  clear c1 hb hna hA
  have s1 := H4.out.bx.c 1 _ rfl
  have f1 := H4.out.free 1
  go_upto_region 5 with fail
  have hp := H4.out.put 1 (.slice A na ca)
  have hq := HRR.out.beside (i := 1) HGR.out H4.out.bx.base (.slice A na ca)
  have ha := HA.out.by_slice s1 (.slice A na ca)
  rw [← size_set w4 ⟨g, 1, none⟩ (.slice A na ca)] at ha
  simp only [List.set_cons_zero, List.set_cons_succ] at hp
  clear s1 f1
  generalize w4.setCell _ _ = w5 at hp hq ha ⊢
  replace H4 := Lib.hid hp
  replace HRR := Lib.hid hq
  replace HA := Lib.hid ha
  clear hp hq ha
  have c2 : w5.cell? ⟨b, o + 2, none⟩ = some (.int .u64 (l2 : Int)) := by rw [HRR.out.bx.old.cell (p := ⟨b, o + 2, none⟩) HBT.out]; exact HC.out 2 _ rfl
  go_wp2_with fail
  refine (rpget_any l2 H2.out w5).mono ?_
  rintro e w6 ⟨B, cb, rfl, hB, hb, hbn⟩
  have HBN : Hid (∀ a, B = some a → a.block ≠ r) := Lib.hid fun a e q => by have := hbn a e; have := HRR.out.bx.lt; omega
  clear hbn
  obtain ⟨nb, hnb⟩ : ∃ n, n = ((pget l2).getD []).length := ⟨_, rfl⟩
  rw [← hnb]
  have HNB := Lib.hid hnb
  have HB := Lib.hid hB
  replace HA := Lib.hid (HA.out.on hb)
  replace H4 := Lib.hid (H4.out.on hb)
  replace HRR := Lib.hid (HRR.out.on hb)
  clear c2 hb hnb hB
  have s2 := H4.out.bx.c 2 _ rfl
  have f2 := H4.out.free 2
  go_upto_region 6 with fail
  have hp := H4.out.put 2 (.slice B nb cb)
  have hq := HRR.out.beside (i := 2) HGR.out H4.out.bx.base (.slice B nb cb)
  have ha := HA.out.by_slice s2 (.slice B nb cb)
  have hb := HB.out.by_slice s2 (.slice B nb cb)
  rw [← size_set w6 ⟨g, 2, none⟩ (.slice B nb cb)] at ha hb
  simp only [List.set_cons_zero, List.set_cons_succ] at hp
  clear s2 f2
  generalize w6.setCell _ _ = w7 at hp hq ha hb ⊢
  replace H4 := Lib.hid hp
  replace HRR := Lib.hid hq
  replace HA := Lib.hid ha
  replace HB := Lib.hid hb
  clear hp hq ha hb
  have s0 := H4.out.bx.c 0 _ rfl
  have s1 := H4.out.bx.c 1 _ rfl
  have s2 := H4.out.bx.c 2 _ rfl
  have s3 := H4.out.bx.c 3 _ rfl
  have s4 := H4.out.bx.c 4 _ rfl
  have s5 := H4.out.bx.c 5 _ rfl
  have HCV := Lib.hid (show ClAt w7 (.agg #[.int .i64 (t : Int), .slice A na ca, .slice B nb cb, .int .i64 (x : Int), .int .i64 (y : Int), .int .u64 (l3 : Int)]) c from by rw [← HCL.out]; exact ⟨A, ca, B, cb, by rw [← HNA.out, ← HNB.out], HA.out, HB.out⟩)
  have HFEW := Lib.hid (show c.a.length ≤ 1000000 ∧ c.b.length ≤ 1000000 by rw [← HCL.out]; exact ⟨pget_few l1, pget_few l2⟩)
  obtain ⟨q, hq⟩ : ∃ q, cwords c = q := ⟨_, rfl⟩
  have HQ := Lib.hid hq
  have HQO := Lib.hid (hq ▸ cwords_or c)
  clear hq
  go_wp2_with fail
  refine (rcwords_at HCV.out HFEW.out.1 HFEW.out.2 HQ.out).mono ?_
  rintro e w8 ⟨⟨v, rfl, hv, -⟩, hb⟩
  clear s0 s1 s2 s3 s4 s5
  replace HA := Lib.hid (HA.out.on hb)
  replace HB := Lib.hid (HB.out.on hb)
  replace H4 := Lib.hid (H4.out.on hb)
  replace HRR := Lib.hid (HRR.out.on hb)
  clear hb HCV HFEW
  obtain ⟨QA, qc, rfl, -, hqw⟩ := hv
  rw [List.length_map]
  have HQW := Lib.hid hqw
  clear hqw
  have r0 := HRR.out.bx.c 0 _ rfl
  have g0 := HRR.out.free 0
  have r1 := HRR.out.bx.c 1 _ rfl
  have g1 := HRR.out.free 1
  have r2 := HRR.out.bx.c 2 _ rfl
  have g2 := HRR.out.free 2
  have r3 := HRR.out.bx.c 3 _ rfl
  have g3 := HRR.out.free 3
  have r4 := HRR.out.bx.c 4 _ rfl
  have g4 := HRR.out.free 4
  have r5 := HRR.out.bx.c 5 _ rfl
  have g5 := HRR.out.free 5
  by_cases h40 : q.length = 4
  · have h41 : ((q.length : Nat) : Int) = 4 := by omega
    rw [h40]
    match q, h40, HQ, HQW with
    | [q0, q1, q2, q3], _, HQ, HQW =>
    obtain ⟨qb, qo, rfl, hql, hqc⟩ := HQW.out (by simp)
    have HQL := Lib.hid hql
    have HQC := Lib.hid hqc
    clear hql hqc HQW h41 HQO r0 r1 r2 r3 r4 r5 g0 g1 g2 g3 g4 g5
    go_wp2_with fail
    go_loopg [6] 4 (fun k p wr => GetRel w8 [l0, l1, l2, l3] [q0, q1, q2, q3] k p wr)
    case atStart => exact ⟨0, by omega, rfl, below_self w8, rfl⟩
    case round =>
      obtain ⟨i, hk, rfl, hbv, htk⟩ := hrel
      have HK := Lib.hid hk
      have HBV := Lib.hid hbv
      have HTK := Lib.hid htk
      clear hk hbv htk
      by_cases hlt : i < 4
      · have HLT := Lib.hid hlt
        have hlt2 : (i : Int) < 4 := by omega
        obtain ⟨lx, hlx⟩ : ∃ x, [l0, l1, l2, l3][i]? = some x := ⟨[l0, l1, l2, l3][i]'(by simpa using hlt), List.getElem?_eq_getElem _⟩
        obtain ⟨qx, hqx⟩ : ∃ x, [q0, q1, q2, q3][i]? = some x := ⟨[q0, q1, q2, q3][i]'(by simpa using hlt), List.getElem?_eq_getElem _⟩
        have HLX := Lib.hid hlx
        have HQX := Lib.hid hqx
        have c1 : wr.cell? ⟨b, o + i, none⟩ = some (.int .u64 (lx : Int)) := by
          rw [(below_on HRR.out.bx.old HBV.out).cell (p := ⟨b, o + i, none⟩) HBT.out]
          exact HC.out i _ (by have h := congrArg (Option.map fun (n : Nat) => (n : Int)) hlx; rw [← List.getElem?_map] at h; exact h)
        have c2 : wr.cell? ⟨qb, qo + i, none⟩ = some (.int .u64 (qx : Int)) := by
          rw [HBV.out.cell (p := ⟨qb, qo + i, none⟩) HQL.out]
          exact HQC.out i _ (by have h := congrArg (Option.map fun (n : Nat) => (n : Int)) hqx; rw [← List.getElem?_map] at h; exact h)
        clear hlx hqx hlt
        by_cases hxy : qx = lx
        · have hxy2 : (qx : Int) = (lx : Int) := by omega
          have HXY := Lib.hid hxy
          subst hxy
          go_wp2_with fail
          go_quiet (fail)
          go_wp2
          go_roundg (4 - (i + 1))
          case measure => have := HK.out; have := HLT.out; omega
          case rel => exact ⟨i + 1, by have := HLT.out; have := HK.out; omega, by go_num, below_drawz HBV.out, by rw [List.take_add_one, List.take_add_one, HTK.out, HLX.out, HQX.out]⟩
        · have hne : ((qx : Int) != (lx : Int)) = true := by
            have : ¬ (qx : Int) = (lx : Int) := by omega
            simpa using this
          have hn : ¬ cwords c = [l0, l1, l2, l3] := fun e => by
            rw [HQ.out] at e
            rw [e] at HQX
            rw [HLX.out] at HQX
            exact hxy (Option.some.inj HQX.out).symm
          have HN := Lib.hid hn
          clear hn hxy
          have HBZ := Lib.hid fun n => below_drawz (n := n) HBV.out
          go_wp2_with fail
          go_quiet (fail)
          obtain ⟨w9, hw9⟩ : ∃ w9, w9 = wr.drewN nq := ⟨_, rfl⟩
          have HR9 := Lib.hid (HRR.out.on (hw9 ▸ HBZ.out nq))
          rw [← hw9]
          clear hw9 c1 c2
          have r0 := HR9.out.bx.c 0 _ rfl
          have g0 := HR9.out.free 0
          have r1 := HR9.out.bx.c 1 _ rfl
          have g1 := HR9.out.free 1
          have r2 := HR9.out.bx.c 2 _ rfl
          have g2 := HR9.out.free 2
          have r3 := HR9.out.bx.c 3 _ rfl
          have g3 := HR9.out.free 3
          have r4 := HR9.out.bx.c 4 _ rfl
          have g4 := HR9.out.free 4
          have r5 := HR9.out.bx.c 5 _ rfl
          have g5 := HR9.out.free 5
          go_wp2_with fail
          have hp := (((((HR9.out.put 0 (.int .i64 0)).put 1 (.slice none 0 0)).put 2 (.slice none 0 0)).put 3 (.int .i64 0)).put 4 (.int .i64 0)).put 5 (.int .u64 0)
          simp only [List.set_cons_zero, List.set_cons_succ] at hp
          generalize (((((w9.setCell _ _).setCell _ _).setCell _ _).setCell _ _).setCell _ _).setCell _ _ = wz at hp ⊢
          have e0 := hp.bx.c 0 _ rfl
          have e1 := hp.bx.c 1 _ rfl
          have e2 := hp.bx.c 2 _ rfl
          have e3 := hp.bx.c 3 _ rfl
          have e4 := hp.bx.c 4 _ rfl
          have e5 := hp.bx.c 5 _ rfl
          refine bodyPost_ret (by simp [results, Tryd.results15, go_sem, e0, e1, e2, e3, e4, e5]; rfl) rfl ?_
          rw [HGET.out, if_neg HN.out]
          exact ⟨⟨_, rfl, ClAt.zero wz⟩, hp.bx.old⟩
      · have hi : i = 4 := by have := HK.out; omega
        have hlt2 : ¬ (i : Int) < 4 := by omega
        have hn : cwords c = [l0, l1, l2, l3] := by
          rw [HQ.out]
          have := HTK.out
          rw [hi, List.take_of_length_le (by simp), List.take_of_length_le (by simp)] at this
          exact this.symm
        have HN := Lib.hid hn
        replace HRR := Lib.hid (HRR.out.on HBV.out)
        replace H4 := Lib.hid (H4.out.on HBV.out)
        replace HA := Lib.hid (HA.out.on HBV.out)
        replace HB := Lib.hid (HB.out.on HBV.out)
        clear hn hlt hi
        have r0 := HRR.out.bx.c 0 _ rfl
        have g0 := HRR.out.free 0
        have s0 := H4.out.bx.c 0 _ rfl
        have r1 := HRR.out.bx.c 1 _ rfl
        have g1 := HRR.out.free 1
        have s1 := H4.out.bx.c 1 _ rfl
        have r2 := HRR.out.bx.c 2 _ rfl
        have g2 := HRR.out.free 2
        have s2 := H4.out.bx.c 2 _ rfl
        have r3 := HRR.out.bx.c 3 _ rfl
        have g3 := HRR.out.free 3
        have s3 := H4.out.bx.c 3 _ rfl
        have r4 := HRR.out.bx.c 4 _ rfl
        have g4 := HRR.out.free 4
        have s4 := H4.out.bx.c 4 _ rfl
        have r5 := HRR.out.bx.c 5 _ rfl
        have g5 := HRR.out.free 5
        have s5 := H4.out.bx.c 5 _ rfl
        go_wp2_with fail
        have hp := (((((HRR.out.put 0 (.int .i64 (t : Int))).put 1 (.slice A na ca)).put 2 (.slice B nb cb)).put 3 (.int .i64 (x : Int))).put 4 (.int .i64 (y : Int))).put 5 (.int .u64 (l3 : Int))
        simp only [List.set_cons_zero, List.set_cons_succ] at hp
        have ha := ((((((HA.out.away (i := 0) HAN.out (.int .i64 (t : Int))).away (i := 1) HAN.out (.slice A na ca)).away (i := 2) HAN.out (.slice B nb cb)).away (i := 3) HAN.out (.int .i64 (x : Int))).away (i := 4) HAN.out (.int .i64 (y : Int))).away (i := 5) HAN.out (.int .u64 (l3 : Int)))
        have hb := ((((((HB.out.away (i := 0) HBN.out (.int .i64 (t : Int))).away (i := 1) HBN.out (.slice A na ca)).away (i := 2) HBN.out (.slice B nb cb)).away (i := 3) HBN.out (.int .i64 (x : Int))).away (i := 4) HBN.out (.int .i64 (y : Int))).away (i := 5) HBN.out (.int .u64 (l3 : Int)))
        have hsz : wr.heap.size ≤ ((((((wr.setCell ⟨r, 0, none⟩ (.int .i64 (t : Int))).setCell ⟨r, 1, none⟩ (.slice A na ca)).setCell ⟨r, 2, none⟩ (.slice B nb cb)).setCell ⟨r, 3, none⟩ (.int .i64 (x : Int))).setCell ⟨r, 4, none⟩ (.int .i64 (y : Int))).setCell ⟨r, 5, none⟩ (.int .u64 (l3 : Int))).heap.size := by simp
        generalize (((((wr.setCell _ _).setCell _ _).setCell _ _).setCell _ _).setCell _ _).setCell _ _ = wz at hp ha hb hsz ⊢
        have e0 := hp.bx.c 0 _ rfl
        have e1 := hp.bx.c 1 _ rfl
        have e2 := hp.bx.c 2 _ rfl
        have e3 := hp.bx.c 3 _ rfl
        have e4 := hp.bx.c 4 _ rfl
        have e5 := hp.bx.c 5 _ rfl
        refine bodyPost_ret (by simp [results, Tryd.results15, go_sem, e0, e1, e2, e3, e4, e5]; rfl) rfl ?_
        rw [HGET.out, if_pos HN.out]
        rw [← HCL.out]
        refine ⟨⟨_, rfl, A, ca, B, cb, ?_, ha.mono hsz, hb.mono hsz⟩, hp.bx.old⟩
        simp only [Option.getD_some, ← HNA.out, ← HNB.out]
  · have h00 : q.length = 0 := HQO.out.resolve_left h40
    rw [h00]
    have hn : ¬ cwords c = [l0, l1, l2, l3] := fun e => by
      rw [HQ.out] at e
      rw [e] at h00
      simp at h00
    have HN := Lib.hid hn
    clear hn h40 h00
    go_wp2_with fail
    have hp := (((((HRR.out.put 0 (.int .i64 0)).put 1 (.slice none 0 0)).put 2 (.slice none 0 0)).put 3 (.int .i64 0)).put 4 (.int .i64 0)).put 5 (.int .u64 0)
    simp only [List.set_cons_zero, List.set_cons_succ] at hp
    generalize (((((w8.setCell _ _).setCell _ _).setCell _ _).setCell _ _).setCell _ _).setCell _ _ = wz at hp ⊢
    have e0 := hp.bx.c 0 _ rfl
    have e1 := hp.bx.c 1 _ rfl
    have e2 := hp.bx.c 2 _ rfl
    have e3 := hp.bx.c 3 _ rfl
    have e4 := hp.bx.c 4 _ rfl
    have e5 := hp.bx.c 5 _ rfl
    refine bodyPost_ret (by simp [results, Tryd.results15, go_sem, e0, e1, e2, e3, e4, e5]; rfl) rfl ?_
    rw [HGET.out, if_neg HN.out]
    exact ⟨⟨_, rfl, ClAt.zero wz⟩, hp.bx.old⟩
/-- what the reference's Get answers -/
theorem rcget_any {v : Value} {l : List Nat} {w : World} (h : Words w v (l.map fun (n : Nat) => (n : Int))) (hl : ∀ n ∈ l, n < 18446744073709551616) :
    Calls Tryd.prog 15 #[v] w fun e w' => (∃ v', e = .returned (.tuple #[v', .bool (cget l).isSome]) ∧ ClAt w' v' ((cget l).getD Cl.zero)) ∧ Below w.heap.size w w' := by
  by_cases h4 : l.length = 4
  · match l, h4, h, hl with
    | [l0, l1, l2, l3], _, h, hl =>
      obtain ⟨A, cap, rfl, hc, hw⟩ := h
      obtain ⟨b, o, rfl, hb, hcc⟩ := hw (by simp)
      exact rget_four (by simpa using hc) hb hcc (hl _ (by simp)) (hl _ (by simp)) (hl _ (by simp)) rfl rfl rfl rfl rfl
  · have e : cget l = none := by
      unfold cget
      split
      · simp at h4
      · rfl
    rw [e]
    refine (rget_short h (by simpa using h4)).mono ?_
    rintro e w' ⟨rfl, hb⟩
    exact ⟨⟨_, rfl, ClAt.zero w'⟩, hb⟩
end Go.Proofs.YtfcifheejjppfaaDoor
