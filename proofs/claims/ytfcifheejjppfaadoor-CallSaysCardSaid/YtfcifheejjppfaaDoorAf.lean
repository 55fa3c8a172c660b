/-
  The walk of package call's Get. Conditions: the words lie in memory, each is one.
-/
import Derived.Test.YtfcifheejjppfaaDoorAe
import Derived.BigRegion
namespace Go.Proofs.YtfcifheejjppfaaDoor
open Go.RowKit

/-- a call as a value -/
def ClAt (w : World) (v : Value) (c : Cl) : Prop := ∃ A ca B cb, v = .agg #[.int .i64 c.op, .slice A c.a.length ca, .slice B c.b.length cb, .int .i64 c.x, .int .i64 c.y, .int .u64 (c.w : Int)] ∧ IntsAt w w.heap.size A c.a ∧ IntsAt w w.heap.size B c.b
theorem ClAt.on {w w' : World} {v : Value} {c : Cl} (h : ClAt w v c) (hb : Below w.heap.size w w') : ClAt w' v c := by
  obtain ⟨A, ca, B, cb, e, h1, h2⟩ := h
  exact ⟨A, ca, B, cb, e, h1.on hb, h2.on hb⟩
theorem ints_none (w : World) : IntsAt w w.heap.size none [] := fun h => absurd h (by simp)
theorem ClAt.zero (w : World) : ClAt w (.agg #[.int .i64 0, .slice none 0 0, .slice none 0 0, .int .i64 0, .int .i64 0, .int .u64 0]) Cl.zero := ⟨none, 0, none, 0, rfl, ints_none w, ints_none w⟩
theorem Wbs.beside {W w : World} {g b i : Nat} {cs : List Value} (h : Wbs W w b cs) (hne : b ≠ g) (hg : W.heap.size ≤ g) (v : Value) : Wbs W (w.setCell ⟨g, i, none⟩ v) b cs :=
  ⟨h.bx.beside hne hg v, fun j => by rw [World.frozen?_setCell]; exact h.free j⟩
theorem and_255 {x : Nat} (hx : x < 18446744073709551616) : bits .and .u64 (x : Int) 255 = ((x % 256 : Nat) : Int) := by
  have := bits_and_u64_nat x 255 (by omega) (by omega)
  rw [show ((255 : Nat) : Int) = 255 from rfl] at this
  rw [this, show (255 : Nat) = 2 ^ 8 - 1 from rfl, Nat.and_two_pow_sub_one_eq_mod]
theorem and_65535 {x : Nat} (hx : x < 18446744073709551616) : bits .and .u64 (x : Int) 65535 = ((x % 65536 : Nat) : Int) := by
  have := bits_and_u64_nat x 65535 (by omega) (by omega)
  rw [show ((65535 : Nat) : Int) = 65535 from rfl] at this
  rw [this, show (65535 : Nat) = 2 ^ 16 - 1 from rfl, Nat.and_two_pow_sub_one_eq_mod]
theorem get_short {v : Value} {l : List Int} {w : World} (h : Words w v l) (hl : l.length ≠ 4) :
    Calls Tryd.prog 12 #[v] w fun e w' => e = .returned (.tuple #[.agg #[.int .i64 0, .slice none 0 0, .slice none 0 0, .int .i64 0, .int .i64 0, .int .u64 0], .bool false]) ∧ Below w.heap.size w w' := by
  obtain ⟨A, cap, rfl, -, -⟩ := h
  generalize l.length = n at *
  have h4 : ¬ n = 4 := hl
  have HB := Lib.hid (below_alloc w (.cells #[.int .i64 0, .slice none 0 0, .slice none 0 0, .int .i64 0, .int .i64 0, .int .u64 0] 29))
  clear hl
  go_enter Tryd.func12, Tryd.ntmps12
  go_wp2
  go_returns
  exact ⟨rfl, HB.out⟩
theorem IntsAt.by_slice {w : World} {B : Nat} {p : Addr} {A X : Option Addr} {n c : Nat} {l : List Int} (h : IntsAt w B A l) (hp : w.cell? p = some (.slice X n c)) (v : Value) : IntsAt (w.setCell p v) B A l := fun h0 => by
  obtain ⟨b, o, e, hlt, hc⟩ := h h0
  refine ⟨b, o, e, hlt, fun j z hz => ?_⟩
  rw [World.cell?_setCell_other _ _ _ _ (fun q => ?_)]
  · exact hc j z hz
  · have := hc j z hz
    rw [← q, hp] at this
    cases this
theorem IntsAt.away {w : World} {B g i : Nat} {A : Option Addr} {l : List Int} (h : IntsAt w B A l) (ha : ∀ a, A = some a → a.block ≠ g) (v : Value) : IntsAt (w.setCell ⟨g, i, none⟩ v) B A l := fun h0 => by
  obtain ⟨b, o, e, hlt, hc⟩ := h h0
  refine ⟨b, o, e, hlt, fun j z hz => ?_⟩
  rw [World.cell?_setCell_other _ _ _ _ (fun q => ha _ e (by injection q with q; exact q.symm))]
  exact hc j z hz
theorem cast_inj {l m : List Nat} (h : l.map (fun (n : Nat) => (n : Int)) = m.map fun (n : Nat) => (n : Int)) : l = m := (List.map_inj_right (fun a b e => by omega)).1 h
theorem cwords_at {o : Int} {A : Option Addr} {na ca : Nat} {B : Option Addr} {m cb : Nat} {a l : List Int} {x y : Int} {z : Nat} {w : World} {q : List Nat} (hn : na = a.length) (hA : IntsAt w w.heap.size A a) (hm : m = l.length) (hB : IntsAt w w.heap.size B l) (hq : cwords ⟨o, a, l, x, y, z⟩ = q) :
    Calls Tryd.prog 10 #[.agg #[.int .i64 o, .slice A na ca, .slice B m cb, .int .i64 x, .int .i64 y, .int .u64 (z : Int)]] w fun e w' => (∃ v, e = .returned v ∧ Words w' v (q.map fun (n : Nat) => (n : Int))) ∧ Below w.heap.size w w' := by
  subst hn hm hq
  exact cwords_any ⟨o, a, l, x, y, z⟩ hA hB
theorem size_set (w : World) (p : Addr) (v : Value) : (w.setCell p v).heap.size = w.heap.size := by simp [World.setCell]
set_option maxHeartbeats 4000000 in
theorem get_four {b o cap l0 l1 l2 l3 : Nat} {w : World} (hcap : 4 ≤ cap) (hb : b < w.heap.size) (hc : ∀ (j : Nat) (z : Int), [(l0 : Int), (l1 : Int), (l2 : Int), (l3 : Int)][j]? = some z → w.cell? ⟨b, o + j, none⟩ = some (.int .u64 z)) (h0 : l0 < 18446744073709551616) (h1 : l1 < 18446744073709551616) (h2 : l2 < 18446744073709551616)
    {t x y : Nat} (ht : l0 % 256 = t) (hx : l0 / 256 % 65536 = x) (hy : l0 / 16777216 % 65536 = y) :
    Calls Tryd.prog 12 #[.slice (some ⟨b, o, none⟩) 4 cap] w fun e w' => (∃ v, e = .returned (.tuple #[v, .bool (cget [l0, l1, l2, l3]).isSome]) ∧ ClAt w' v ((cget [l0, l1, l2, l3]).getD Cl.zero)) ∧ Below w.heap.size w w' := by
  have et : bits .and .u64 (l0 : Int) 255 = (t : Int) := by rw [and_255 h0, ht]
  have wt : IntKind.i64.wrap (t : Int) = t := i64_in (by omega) (by omega)
  have HRR := Lib.hid (Wbs.more (below_self w) [.int .i64 0, .slice none 0 0, .slice none 0 0, .int .i64 0, .int .i64 0, .int .u64 0] 29)
  have ex1 : bits .and .u64 ((l0 : Int) / 256) 65535 = (x : Int) := by
    have := and_65535 (x := l0 / 256) (by omega)
    rw [hx] at this
    exact this
  have ey1 : bits .and .u64 ((l0 : Int) / 16777216) 65535 = (y : Int) := by
    have := and_65535 (x := l0 / 16777216) (by omega)
    rw [hy] at this
    exact this
  have wx : IntKind.i64.wrap (x : Int) = x := i64_in (by omega) (by omega)
  have wy : IntKind.i64.wrap (y : Int) = y := i64_in (by omega) (by omega)
  obtain ⟨c, hcl⟩ : ∃ c, c = clOf l0 l1 l2 l3 := ⟨_, rfl⟩
  have HCL := Lib.hid (show (⟨(t : Int), (pget l1).getD [], (pget l2).getD [], (x : Int), (y : Int), l3⟩ : Cl) = c by rw [hcl, clOf, ht, hx, hy])
  have HGET := Lib.hid (show cget [l0, l1, l2, l3] = if cwords c = [l0, l1, l2, l3] then some c else none by rw [hcl]; rfl)
  clear hcl ht hx hy
  have HBT := Lib.hid hb
  have HC := Lib.hid hc
  have HCAP := Lib.hid hcap
  clear hcap
  clear hb hc
  go_enter Tryd.func12, Tryd.ntmps12
  go_upto_region 3 with fail
  generalize w.alloc _ = w1 at HRR ⊢
  have c0 : w1.cell? ⟨b, o, none⟩ = some (.int .u64 (l0 : Int)) := by rw [HRR.out.bx.old.cell (p := ⟨b, o, none⟩) HBT.out]; exact HC.out 0 _ rfl
  have c3 : w1.cell? ⟨b, o + 3, none⟩ = some (.int .u64 (l3 : Int)) := by rw [HRR.out.bx.old.cell (p := ⟨b, o + 3, none⟩) HBT.out]; exact HC.out 3 _ rfl
  have hlt : b < w1.heap.size := Nat.lt_of_lt_of_le HBT.out HRR.out.bx.old.size
  go_wp2_with fail
  go_region
  go_upto_region 4 with fail
  have K4 := (Wbs.more HRR.out.bx.old [.int .i64 (t : Int), .slice none 0 0, .slice none 0 0, .int .i64 0, .int .i64 0, .int .u64 (l3 : Int)] 29).on (below_self _).drew
  have H4 := Lib.hid K4
  have hbr := (below_alloc w1 (.cells #[.int .i64 (t : Int), .slice none 0 0, .slice none 0 0, .int .i64 0, .int .i64 0, .int .u64 (l3 : Int)] 29)).drew
  have HGR : Hid (w.heap.size ≠ w1.heap.size) := Lib.hid (by have := HRR.out.bx.lt; omega)
  replace HRR := Lib.hid (HRR.out.on hbr)
  clear K4 hbr c0 c3
  obtain ⟨r, hrr⟩ : ∃ r, r = w.heap.size := ⟨_, rfl⟩
  obtain ⟨g, hgg⟩ : ∃ g, g = w1.heap.size := ⟨_, rfl⟩
  rw [← hgg] at H4 HGR hlt ⊢
  rw [← hrr] at HRR HGR ⊢
  have HRE := Lib.hid hrr
  clear hgg hrr
  generalize (w1.alloc _).drew = w2 at HRR H4 ⊢
  have c0 : w2.cell? ⟨b, o, none⟩ = some (.int .u64 (l0 : Int)) := by rw [HRR.out.bx.old.cell (p := ⟨b, o, none⟩) HBT.out]; exact HC.out 0 _ rfl
  have s3 := H4.out.bx.c 3 _ rfl
  have s4 := H4.out.bx.c 4 _ rfl
  have f3 := H4.out.free 3
  have f4 := H4.out.free 4
  go_wp2_with fail
  go_region
  go_upto_region 5 with fail
  clear c0 s3 s4 f3 f4 et wt ex1 ey1 wx wy hlt
  have hp := ((H4.out.put 3 (.int .i64 (x : Int))).put 4 (.int .i64 (y : Int))).on (below_self _).drew
  have hq := ((HRR.out.beside (i := 3) HGR.out H4.out.bx.base (.int .i64 (x : Int))).beside (i := 4) HGR.out H4.out.bx.base (.int .i64 (y : Int))).on (below_self _).drew
  simp only [List.set_cons_zero, List.set_cons_succ] at hp
  generalize ((w2.setCell _ _).setCell _ _).drew = w3 at hp hq ⊢
  replace H4 := Lib.hid hp
  replace HRR := Lib.hid hq
  clear hp hq
  have c1 : w3.cell? ⟨b, o + 1, none⟩ = some (.int .u64 (l1 : Int)) := by rw [HRR.out.bx.old.cell (p := ⟨b, o + 1, none⟩) HBT.out]; exact HC.out 1 _ rfl
  have H1 := Lib.hid h1
  have H2 := Lib.hid h2
  clear h0 h1 h2
  go_wp2_with fail
  refine (pget_any l1 H1.out w3).mono ?_
  rintro e w4 ⟨A, ca, rfl, hA, hb, han⟩
  have HAN : Hid (∀ a, A = some a → a.block ≠ r) := Lib.hid fun a e q => by have := han a e; have := HRR.out.bx.lt; omega
  clear han
  obtain ⟨na, hna⟩ : ∃ n, n = ((pget l1).getD []).length := ⟨_, rfl⟩
  rw [← hna]
  have HNA := Lib.hid hna
  have HA := Lib.hid hA
  replace H4 := Lib.hid (H4.out.on hb)
  replace HRR := Lib.hid (HRR.out.on hb)
  clear c1 hb hna hA
  have s1 := H4.out.bx.c 1 _ rfl
  have f1 := H4.out.free 1
  go_upto_region 6 with fail
  have hp := H4.out.put 1 (.slice A na ca)
  have hq := HRR.out.beside (i := 1) HGR.out H4.out.bx.base (.slice A na ca)
  have ha := HA.out.by_slice s1 (.slice A na ca)
  rw [← size_set w4 ⟨g, 1, none⟩ (.slice A na ca)] at ha
  simp only [List.set_cons_zero, List.set_cons_succ] at hp
  clear s1 f1
  generalize w4.setCell _ _ = w5 at hp hq ha ⊢
  replace H4 := Lib.hid hp
  replace HRR := Lib.hid hq
  replace HA := Lib.hid ha
  clear hp hq ha
  have c2 : w5.cell? ⟨b, o + 2, none⟩ = some (.int .u64 (l2 : Int)) := by rw [HRR.out.bx.old.cell (p := ⟨b, o + 2, none⟩) HBT.out]; exact HC.out 2 _ rfl
  go_wp2_with fail
  refine (pget_any l2 H2.out w5).mono ?_
  rintro e w6 ⟨B, cb, rfl, hB, hb, hbn⟩
  have HBN : Hid (∀ a, B = some a → a.block ≠ r) := Lib.hid fun a e q => by have := hbn a e; have := HRR.out.bx.lt; omega
  clear hbn
  obtain ⟨nb, hnb⟩ : ∃ n, n = ((pget l2).getD []).length := ⟨_, rfl⟩
  rw [← hnb]
  have HNB := Lib.hid hnb
  have HB := Lib.hid hB
  replace HA := Lib.hid (HA.out.on hb)
  replace H4 := Lib.hid (H4.out.on hb)
  replace HRR := Lib.hid (HRR.out.on hb)
  clear c2 hb hnb hB
  have s2 := H4.out.bx.c 2 _ rfl
  have f2 := H4.out.free 2
  go_upto_region 7 with fail
  have hp := H4.out.put 2 (.slice B nb cb)
  have hq := HRR.out.beside (i := 2) HGR.out H4.out.bx.base (.slice B nb cb)
  have ha := HA.out.by_slice s2 (.slice B nb cb)
  have hb := HB.out.by_slice s2 (.slice B nb cb)
  rw [← size_set w6 ⟨g, 2, none⟩ (.slice B nb cb)] at ha hb
  simp only [List.set_cons_zero, List.set_cons_succ] at hp
  clear s2 f2
  generalize w6.setCell _ _ = w7 at hp hq ha hb ⊢
  replace H4 := Lib.hid hp
  replace HRR := Lib.hid hq
  replace HA := Lib.hid ha
  replace HB := Lib.hid hb
  clear hp hq ha hb
  have s0 := H4.out.bx.c 0 _ rfl
  have s1 := H4.out.bx.c 1 _ rfl
  have s2 := H4.out.bx.c 2 _ rfl
  have s3 := H4.out.bx.c 3 _ rfl
  have s4 := H4.out.bx.c 4 _ rfl
  have s5 := H4.out.bx.c 5 _ rfl
  go_wp2_with fail
  refine (cwords_at (w := w7) (q := cwords c) HNA.out HA.out HNB.out HB.out (congrArg cwords HCL.out)).mono ?_
  rintro e w8 ⟨⟨v, rfl, hv⟩, hb⟩
  clear s0 s1 s2 s3 s4 s5
  replace HA := Lib.hid (HA.out.on hb)
  replace HB := Lib.hid (HB.out.on hb)
  replace H4 := Lib.hid (H4.out.on hb)
  replace HRR := Lib.hid (HRR.out.on hb)
  have hw : Words w8 (.slice (some ⟨b, o, none⟩) 4 cap) ([l0, l1, l2, l3].map fun (n : Nat) => (n : Int)) := ⟨some ⟨b, o, none⟩, cap, rfl, HCAP.out, fun _ => ⟨b, o, rfl, Nat.lt_of_lt_of_le HBT.out HRR.out.bx.old.size, fun j z hz => by rw [HRR.out.bx.old.cell (p := ⟨b, o + j, none⟩) HBT.out]; exact HC.out j z hz⟩⟩
  obtain ⟨z, hz⟩ : ∃ z, decide (([l0, l1, l2, l3].map fun (n : Nat) => (n : Int)) = (cwords c).map fun (n : Nat) => (n : Int)) = z := ⟨_, rfl⟩
  have HW := Lib.hid hw
  have HV := Lib.hid hv
  have HZ := Lib.hid hz
  clear hb hw hv hz
  go_wp2_with fail
  refine (equal_at (w := w8) HW.out HV.out (by simp) HZ.out).mono ?_
  rintro e w9 ⟨rfl, hb⟩
  replace HA := Lib.hid (HA.out.on hb)
  replace HB := Lib.hid (HB.out.on hb)
  replace H4 := Lib.hid (H4.out.on hb)
  replace HRR := Lib.hid (HRR.out.on hb)
  clear hb HW HV
  have s0 := H4.out.bx.c 0 _ rfl
  have s1 := H4.out.bx.c 1 _ rfl
  have s2 := H4.out.bx.c 2 _ rfl
  have s3 := H4.out.bx.c 3 _ rfl
  have s4 := H4.out.bx.c 4 _ rfl
  have s5 := H4.out.bx.c 5 _ rfl
  have r0 := HRR.out.bx.c 0 _ rfl
  have f0 := HRR.out.free 0
  have r1 := HRR.out.bx.c 1 _ rfl
  have f1 := HRR.out.free 1
  have r2 := HRR.out.bx.c 2 _ rfl
  have f2 := HRR.out.free 2
  have r3 := HRR.out.bx.c 3 _ rfl
  have f3 := HRR.out.free 3
  have r4 := HRR.out.bx.c 4 _ rfl
  have f4 := HRR.out.free 4
  have r5 := HRR.out.bx.c 5 _ rfl
  have f5 := HRR.out.free 5
  cases z
  case false =>
    have hn : ¬ cwords c = [l0, l1, l2, l3] := fun e => by
      have := of_decide_eq_false HZ.out
      rw [e] at this
      exact this rfl
    go_wp2_with fail
    have hp := (((((HRR.out.put 0 (.int .i64 0)).put 1 (.slice none 0 0)).put 2 (.slice none 0 0)).put 3 (.int .i64 0)).put 4 (.int .i64 0)).put 5 (.int .u64 0)
    simp only [List.set_cons_zero, List.set_cons_succ] at hp
    generalize (((((w9.setCell _ _).setCell _ _).setCell _ _).setCell _ _).setCell _ _).setCell _ _ = wz at hp ⊢
    have e0 := hp.bx.c 0 _ rfl
    have e1 := hp.bx.c 1 _ rfl
    have e2 := hp.bx.c 2 _ rfl
    have e3 := hp.bx.c 3 _ rfl
    have e4 := hp.bx.c 4 _ rfl
    have e5 := hp.bx.c 5 _ rfl
    refine bodyPost_ret (by simp [results, Tryd.results12, go_sem, e0, e1, e2, e3, e4, e5]; rfl) rfl ?_
    rw [HGET.out, if_neg hn]
    exact ⟨⟨_, rfl, ClAt.zero wz⟩, hp.bx.old⟩
  case true =>
    have hn : cwords c = [l0, l1, l2, l3] := (cast_inj (of_decide_eq_true HZ.out)).symm
    go_wp2_with fail
    have hp := (((((HRR.out.put 0 (.int .i64 (t : Int))).put 1 (.slice A na ca)).put 2 (.slice B nb cb)).put 3 (.int .i64 (x : Int))).put 4 (.int .i64 (y : Int))).put 5 (.int .u64 (l3 : Int))
    simp only [List.set_cons_zero, List.set_cons_succ] at hp
    have ha := ((((((HA.out.away (i := 0) HAN.out (.int .i64 (t : Int))).away (i := 1) HAN.out (.slice A na ca)).away (i := 2) HAN.out (.slice B nb cb)).away (i := 3) HAN.out (.int .i64 (x : Int))).away (i := 4) HAN.out (.int .i64 (y : Int))).away (i := 5) HAN.out (.int .u64 (l3 : Int)))
    have hb := ((((((HB.out.away (i := 0) HBN.out (.int .i64 (t : Int))).away (i := 1) HBN.out (.slice A na ca)).away (i := 2) HBN.out (.slice B nb cb)).away (i := 3) HBN.out (.int .i64 (x : Int))).away (i := 4) HBN.out (.int .i64 (y : Int))).away (i := 5) HBN.out (.int .u64 (l3 : Int)))
    have HSZ : w9.heap.size ≤ ((((((w9.setCell ⟨r, 0, none⟩ (.int .i64 (t : Int))).setCell ⟨r, 1, none⟩ (.slice A na ca)).setCell ⟨r, 2, none⟩ (.slice B nb cb)).setCell ⟨r, 3, none⟩ (.int .i64 (x : Int))).setCell ⟨r, 4, none⟩ (.int .i64 (y : Int))).setCell ⟨r, 5, none⟩ (.int .u64 (l3 : Int))).heap.size := by simp
    generalize (((((w9.setCell _ _).setCell _ _).setCell _ _).setCell _ _).setCell _ _).setCell _ _ = wz at hp ha hb HSZ ⊢
    have e0 := hp.bx.c 0 _ rfl
    have e1 := hp.bx.c 1 _ rfl
    have e2 := hp.bx.c 2 _ rfl
    have e3 := hp.bx.c 3 _ rfl
    have e4 := hp.bx.c 4 _ rfl
    have e5 := hp.bx.c 5 _ rfl
    refine bodyPost_ret (by simp [results, Tryd.results12, go_sem, e0, e1, e2, e3, e4, e5]; rfl) rfl ?_
    have hsz : w9.heap.size ≤ wz.heap.size := HSZ
    rw [HGET.out, if_pos hn]
    rw [← HCL.out]
    refine ⟨⟨_, rfl, A, ca, B, cb, ?_, ha.mono hsz, hb.mono hsz⟩, hp.bx.old⟩
    simp only [Option.getD_some, ← HNA.out, ← HNB.out]
/-- what Get answers -/
theorem cget_any {v : Value} {l : List Nat} {w : World} (h : Words w v (l.map fun (n : Nat) => (n : Int))) (hl : ∀ n ∈ l, n < 18446744073709551616) :
    Calls Tryd.prog 12 #[v] w fun e w' => (∃ v', e = .returned (.tuple #[v', .bool (cget l).isSome]) ∧ ClAt w' v' ((cget l).getD Cl.zero)) ∧ Below w.heap.size w w' := by
  by_cases h4 : l.length = 4
  · match l, h4, h, hl with
    | [l0, l1, l2, l3], _, h, hl =>
      obtain ⟨A, cap, rfl, hc, hw⟩ := h
      obtain ⟨b, o, rfl, hb, hcc⟩ := hw (by simp)
      exact get_four (by simpa using hc) hb hcc (hl _ (by simp)) (hl _ (by simp)) (hl _ (by simp)) rfl rfl rfl
  · have e : cget l = none := by
      unfold cget
      split
      · simp at h4
      · rfl
    rw [e]
    refine (get_short h (by simpa using h4)).mono ?_
    rintro e w' ⟨rfl, hb⟩
    exact ⟨⟨_, rfl, ClAt.zero w'⟩, hb⟩
end Go.Proofs.YtfcifheejjppfaaDoor
